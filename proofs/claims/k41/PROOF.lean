import PyProof.Rows.All
import Wide.All
import OpenK.AllK
import Wide.FinOn
import Lean
import PyProof.EqAt
import PyProof.EqKinds
import PyProof.TupleCall
import PyProof.ZipIter
import PyProof.ListNew
import PyProof.TupleIter
import PyProof.WalksMore
import KE.KIntText
import PyProof.Rows.EqBoolInt
import PyProof.Rows.ZipGen
import PySem.Str
import PyProof.StrLawsTight
import PyProof.StrLawsIdx
import PyProof.StrLawsIn
import PyProof.NeKinds
import PyProof.Rows.SetFrom
import KE.KDictSum
import PyProof.Rows.SortWalk
import PyProof.EnumMake
import PyProof.Rows.EnumRows
import PyProof.ExcInit
import PyProof.InstStoreFacts
import PyProof.ExcArgsOwn
import PyProof.ExcAttrAll.ValueError
import PyProof.ExcBaseAll.ValueError
import KE.KDictList
import KE.KRevIter
import PyProof.ConsumeWalk
import PyProof.AttrMissHeap
import KE.KItemsList
import KE.KEqDict
import PyProof.DictWalks
import PyProof.StationsW
import PyProof.RulesAs
import PyProof.NsDelKeeps
import PySem.Challenge.RW_swapstride_k41_ways_by_rules
set_option Elab.async false
set_option linter.all false
set_option maxRecDepth 100000
set_option maxHeartbeats 4000000
namespace L2
open PySem PySem.Spec PyProof.Rows
abbrev Key := Sum Int Str
def keyIs : Key → Value → Bool
 | .inl k, v => Value.isInt k v
 | .inr x, v => Value.isStrOf x v
def keyH (w : World) : Key → Int
 | .inl k => hashInt k
 | .inr x => hashStr w x
theorem keyIs_shape : ∀ {k : Key} {v : Value}, keyIs k v = true → (∃ i t, k = Sum.inl i ∧ v = Value.int i t) ∨ (∃ x t, k = Sum.inr x ∧ v = Value.str x t)
 | .inl i, v, h => by
  obtain ⟨t, e⟩ := Value.isInt_shape (k := i) (v := v) h
  exact .inl ⟨i, t, rfl, e⟩
 | .inr x, v, h => by
  obtain ⟨t, e⟩ := Value.isStrOf_shape (x := x) (v := v) h
  exact .inr ⟨x, t, rfl, e⟩
theorem keyIs_int (i : Int) (t : Tok) : keyIs (.inl i) (.int i t) = true := by simp [keyIs, Value.isInt]
theorem keyIs_str (x : Str) (t : Tok) : keyIs (.inr x) (.str x t) = true := by simp [keyIs, Value.isStrOf]
theorem key_ll (a b : Int) : decide ((Sum.inl a : Key) = Sum.inl b) = (a == b) := by
 by_cases e : a = b
 ·subst e; simp
 ·have h : ¬ (Sum.inl a : Key) = Sum.inl b := fun q => e (Sum.inl.inj q)
  rw [decide_eq_false h]
  exact (beq_eq_false_iff_ne.mpr e).symm
theorem key_rr (a b : Str) : decide ((Sum.inr a : Key) = Sum.inr b) = decide (a = b) := by
 by_cases e : a = b
 ·subst e; simp
 ·have h : ¬ (Sum.inr a : Key) = Sum.inr b := fun q => e (Sum.inr.inj q)
  rw [decide_eq_false h, decide_eq_false e]
theorem key_lr (a : Int) (b : Str) : decide ((Sum.inl a : Key) = Sum.inr b) = false := decide_eq_false (fun q => nomatch q)
theorem key_rl (a : Str) (b : Int) : decide ((Sum.inr a : Key) = Sum.inl b) = false := decide_eq_false (fun q => nomatch q)
def mixKind (prog : Program) (w : World) : PySem.KeyKind prog w Key where
 is := keyIs
 hash := keyH w
 inj := fun v a b ha hb => by
  rcases keyIs_shape ha with ⟨i, t, rfl, rfl⟩ | ⟨x, t, rfl, rfl⟩
  ·rcases keyIs_shape hb with ⟨j, u, rfl, e⟩ | ⟨y, u, rfl, e⟩
   ·injection e with e1 _; rw [e1]
   ·exact nomatch e
  ·rcases keyIs_shape hb with ⟨j, u, rfl, e⟩ | ⟨y, u, rfl, e⟩
   ·exact nomatch e
   ·injection e with e1 _; rw [e1]
 byValue := fun k v h => by
  rcases keyIs_shape h with ⟨i, t, rfl, rfl⟩ | ⟨x, t, rfl, rfl⟩ <;> rfl
 pyHash := fun hv h => by
  rcases keyIs_shape hv with ⟨i, t, rfl, rfl⟩ | ⟨x, t, rfl, rfl⟩
  ·exact wpAny_pyHash_int h
  ·exact wpAny_pyHash_str h
 eqBool := fun hu hv h => by
  rcases keyIs_shape hu with ⟨i, t, rfl, rfl⟩ | ⟨x, t, rfl, rfl⟩
  ·rcases keyIs_shape hv with ⟨j, u, rfl, rfl⟩ | ⟨y, u, rfl, rfl⟩
   ·rw [key_ll] at h; exact wpAny_eqBool_int h
   ·rw [key_lr] at h; exact SeqAt.EqAt.int_str i t y u _ _ _ _ h
  ·rcases keyIs_shape hv with ⟨j, u, rfl, rfl⟩ | ⟨y, u, rfl, rfl⟩
   ·rw [key_rl] at h; exact SeqAt.EqAt.str_int x t j u _ _ _ _ h
   ·rw [key_rr] at h; exact wpAny_eqBool_str h
 «strs» := fun k x t v h => by
  rcases keyIs_shape h with ⟨i, u, rfl, e⟩ | ⟨y, u, rfl, e⟩
  ·exact nomatch e
  ·injection e with e1 _
   subst e1
   cases v <;> rfl
theorem mixKind_int (prog : Program) (w : World) (i : Int) (t : Tok) : (mixKind prog w).is (.inl i) (.int i t) = true := keyIs_int i t
theorem mixKind_str (prog : Program) (w : World) (x : Str) (t : Tok) : (mixKind prog w).is (.inr x) (.str x t) = true := keyIs_str x t
end L2
namespace L2
open PySem PySem.Spec PyProof.Rows
inductive V where
 | non | bl (b : Bool) | int (i : Int) | str (x : Str) | byt (b : Array UInt8) | flt (b : UInt64) | ref (a : Addr) | ty (n : String)
 deriving DecidableEq
def RelV : V → Value → Prop
 | .non, u => u = Value.none
 | .bl b, u => u = Value.bool b
 | .int i, u => ∃ t, u = Value.int i t
 | .str x, u => ∃ t, u = Value.str x t
 | .byt b, u => ∃ t, u = Value.bytes b t
 | .flt b, u => ∃ t, u = Value.float b t
 | .ref a, u => u = Value.ref a
 | .ty n, u => u = Value.type n
abbrev Vals : List V → List Value → Prop := Paired RelV
theorem Vals.length {xs : List V} {us : List Value} (r : Vals xs us) : xs.length = us.length := Paired.length r
theorem Vals.get : ∀ {xs : List V} {us : List Value} {i : Nat} {x : V}, Vals xs us → xs[i]? = some x → ∃ u, us[i]? = some u ∧ RelV x u
 | _, _, _, _, .nil, e => by simp at e
 | _, _, 0, _, .cons r _, e => by simp at e; subst e; exact ⟨_, rfl, r⟩
 | _, _, i + 1, x, .cons _ t, e => by
  obtain ⟨u, h1, h2⟩ := Vals.get (i := i) (x := x) t (by simpa using e)
  exact ⟨u, by simpa using h1, h2⟩
theorem Vals.set {x : V} {u : Value} (r : RelV x u) : ∀ {xs : List V} {us : List Value} (i : Nat), Vals xs us → Vals (xs.set i x) (us.set i u)
 | _, _, _, .nil => .nil
 | _, _, 0, .cons _ t => .cons r t
 | _, _, i + 1, .cons q t => .cons q (Vals.set r i t)
theorem Vals.append : ∀ {xs ys : List V} {us ws : List Value}, Vals xs us → Vals ys ws → Vals (xs ++ ys) (us ++ ws)
 | _, _, _, _, .nil, s => s
 | _, _, _, _, .cons r t, s => .cons r (Vals.append t s)
theorem Vals.take : ∀ {xs : List V} {us : List Value} (n : Nat), Vals xs us → Vals (xs.take n) (us.take n)
 | _, _, 0, _ => .nil
 | _, _, _ + 1, .nil => .nil
 | _, _, n + 1, .cons r t => .cons r (Vals.take n t)
theorem Vals.drop : ∀ {xs : List V} {us : List Value} (n : Nat), Vals xs us → Vals (xs.drop n) (us.drop n)
 | _, _, 0, r => r
 | _, _, _ + 1, .nil => .nil
 | _, _, n + 1, .cons _ t => Vals.drop n t
def RelO : Option V → Option Value → Prop
 | some v, some u => RelV v u
 | none, none => True
 | _, _ => False
def KV {κ : Type} : List (κ × V) → List (κ × Value) → Prop := Paired fun (p : κ × V) (q : κ × Value) => p.1 = q.1 ∧ RelV p.2 q.2
def kV : Key → V
 | .inl i => .int i
 | .inr x => .str x
inductive HO where
 | lst (xs : List V)
 | tup (xs : List V)
 | dK (kvs : List (Key × V)) | dT (kvs : List (List Key × V))
 | set (S : Int → Bool) (n : Nat)
 | ins (C dx : Addr) (fs : List (Str × V))
 | own (x : Addr)
 | xd (fs : List (Str × V))
 | met (f x : Addr)
 | rng (lo hi : Int)
 | frz (o : Obj) (u : HO)
 | tbl (ps : Array Value)
 | ext (φ : Heap → Prop)
abbrev Hp := Addr → Option HO
def upd (H : Hp) (a : Addr) (o : HO) : Hp := fun b => if b = a then some o else H b
theorem upd_same {H : Hp} {a : Addr} {o : HO} : upd H a o a = some o := by unfold upd; rw [if_pos rfl]
theorem upd_ne {H : Hp} {a b : Addr} {o : HO} (h : b ≠ a) : upd H a o b = H b := by unfold upd; rw [if_neg h]
theorem ne_of {H : Hp} {a b : Addr} {o u : HO} (h : H a = some o) (h' : H b = some u) (d : o ≠ u) : a ≠ b := by
 intro e; subst e; rw [h] at h'; exact d (Option.some.inj h')
theorem ne_of_none {H : Hp} {a b : Addr} {o : HO} (h : H a = some o) (h' : H b = none) : a ≠ b := by
 intro e; subst e; rw [h] at h'; cases h'
section
variable (P : Program) (w : World)
def ObjOk (H : Hp) (h : Heap) (a : Addr) : HO → Prop
 | .lst xs => xs.length ≤ sizeLine ∧ ∃ (its : List Value) (n : Nat), Vals xs its ∧ h.get? a = some { cls := .type "list", data := .seq its.toArray n }
 | .tup xs => xs.length ≤ sizeLine ∧ ∃ its : List Value, Vals xs its ∧ ∃ o, h.get? a = some o ∧ o.cls = .type "tuple" ∧ ∃ n, o.data = .seq its.toArray n ∧ o.dict = none
 | .dK kvs => kvs.length ≤ sizeLine ∧ (a == sysModules) = false ∧ ∃ vs, KV kvs vs ∧ h.DictOf (mixKind P w) a vs
 | .dT kvs => kvs.length ≤ sizeLine ∧ (a == sysModules) = false ∧ ∃ xs : List (List Key × Addr × Value),
   Paired (fun (p : List Key × V) (q : List Key × Addr × Value) => p.1 = q.1 ∧ H q.2.1 = some (.tup (p.1.map kV)) ∧ RelV p.2 q.2.2) kvs xs ∧
   ∃ o es ep, h.get? a = some o ∧ o.ExactDict ∧ o.data = .dict es ep ∧ es.toList = xs.map (entryOfKey (tupleKind (mixKind P w))) ∧ (xs.map (·.1)).Nodup
 | .set S n => h.SetOf (intKind P w) a S n
 | .ins C dx fs => H dx = some (.own a) ∧ fs.length ≤ 1000 ∧ dx ≠ a ∧ h.get? a = some (PySem.W.instObj C dx) ∧
   ∃ mA, h.Ns1 dx mA ∧ (∀ f, RelO (fs.lookup f) (mA f)) ∧ PySem.Within mA (fs.map (·.1))
 | .own _ => ∃ o, h.get? a = some o
 | .xd fs => ∃ mA, h.Ns1 a mA ∧ ∀ f, RelO (fs.lookup f) (mA f)
 | .rng lo hi => ∃ t u v, h.get? a = some { cls := .type "range", data := .fields #[.int lo t, .int hi u, .int 1 v] }
 | .frz o u => h.get? a = some o ∧ ObjOk H h a u
 | .tbl ps => h.get? a = some { cls := .none, data := .fields ps }
 | .met f x => h.get? a = some (PySem.W.methodObj (.ref f) (.ref x))
 | .ext φ => φ h ∧ (∃ o, h.get? a = some o) ∧ ∀ h1 h2 : Heap, φ h1 → (∀ o, h1.get? a = some o → h2.get? a = some o) → φ h2
def HOk (H : Hp) (h : Heap) : Prop := ∀ a o, H a = some o → ObjOk P w H h a o
end
section
variable {P : Program} {w : World} {H H' : Hp} {h h' : Heap} {a : Addr} {o : HO}
theorem ObjOk.lt (x : ObjOk P w H h a o) : a < h.objs.size := by
 cases o with
 | lst xs => obtain ⟨_, _, _, _, e⟩ := x; exact Heap.lt_size e
 | tup xs => obtain ⟨_, _, _, _, e, _⟩ := x; exact Heap.lt_size e
 | dK kvs => obtain ⟨_, _, _, _, o, _, _, e, _⟩ := x; exact Heap.lt_size e
 | dT kvs => obtain ⟨_, _, _, _, o, _, _, e, _⟩ := x; exact Heap.lt_size e
 | set S n => obtain ⟨o, _, _, _, e, _⟩ := x; exact Heap.lt_size e
 | ins C dx fs => obtain ⟨_, _, _, e, _⟩ := x; exact Heap.lt_size e
 | own y => obtain ⟨_, e⟩ := x; exact Heap.lt_size e
 | xd fs => obtain ⟨_, ⟨_, _, _, e, _⟩, _⟩ := x; exact Heap.lt_size e
 | rng lo hi => obtain ⟨_, _, _, e⟩ := x; exact Heap.lt_size e
 | frz ob u => obtain ⟨e, _⟩ := x; exact Heap.lt_size e
 | tbl ps => exact Heap.lt_size (show h.get? a = some _ from x)
 | met f y => exact Heap.lt_size (show h.get? a = some _ from x)
 | ext φ => obtain ⟨_, ⟨_, e⟩, _⟩ := x; exact Heap.lt_size e
theorem Paired.mapP {α β : Type} {F G : α → β → Prop} : ∀ {l₁ : List α} {l₂ : List β}, Paired F l₁ l₂ → (∀ a b, F a b → G a b) → Paired G l₁ l₂
 | _, _, .nil, _ => .nil
 | _, _, .cons r t, f => .cons (f _ _ r) (Paired.mapP t f)
theorem ObjOk.stay (x : ObjOk P w H h a o) (k : ∀ b u, (b = a ∨ H b = some (.own a)) → h.get? b = some u → h'.get? b = some u)
  (ho : ∀ b, H b = some (.own a) → H' b = some (.own a)) (ht : ∀ b xs, H b = some (.tup xs) → H' b = some (.tup xs)) : ObjOk P w H' h' a o := by
 induction o with
 | lst xs => obtain ⟨z, its, n, r, e⟩ := x; exact ⟨z, its, n, r, k _ _ (.inl rfl) e⟩
 | tup xs => obtain ⟨z, its, r, ob, e, c⟩ := x; exact ⟨z, its, r, ob, k _ _ (.inl rfl) e, c⟩
 | dK kvs => obtain ⟨z, y, vs, r, ob, es, ep, e, c⟩ := x; exact ⟨z, y, vs, r, ob, es, ep, k _ _ (.inl rfl) e, c⟩
 | dT kvs =>
  obtain ⟨z, y, xs, r, ob, es, ep, e, c⟩ := x
  exact ⟨z, y, xs, Paired.mapP r fun p q z => ⟨z.1, ht _ _ z.2.1, z.2.2⟩, ob, es, ep, k _ _ (.inl rfl) e, c⟩
 | set S n => obtain ⟨ob, es, ep, t, e, c⟩ := x; exact ⟨ob, es, ep, t, k _ _ (.inl rfl) e, c⟩
 | ins C dx fs =>
  obtain ⟨d, z, ne, e, mA, ⟨od, es, ep, e2, c⟩, r⟩ := x
  exact ⟨ho _ d, z, ne, k _ _ (.inl rfl) e, mA, ⟨od, es, ep, k _ _ (.inr d) e2, c⟩, r⟩
 | own y => obtain ⟨ob, e⟩ := x; exact ⟨ob, k _ _ (.inl rfl) e⟩
 | xd fs => obtain ⟨mA, ⟨od, es, ep, e, c⟩, r⟩ := x; exact ⟨mA, ⟨od, es, ep, k _ _ (.inl rfl) e, c⟩, r⟩
 | rng lo hi => obtain ⟨t, u, v, e⟩ := x; exact ⟨t, u, v, k _ _ (.inl rfl) e⟩
 | frz ob u ih => obtain ⟨e, q⟩ := x; exact ⟨k _ _ (.inl rfl) e, ih q⟩
 | tbl ps =>
  have e : h.get? a = some { cls := .none, data := .fields ps } := x
  show h'.get? a = some { cls := .none, data := .fields ps }
  exact k a _ (.inl rfl) e
 | met f y =>
  have e : h.get? a = some (PySem.W.methodObj (.ref f) (.ref y)) := x
  show h'.get? a = some (PySem.W.methodObj (.ref f) (.ref y))
  exact k a _ (.inl rfl) e
 | ext φ => obtain ⟨p, ⟨o, e⟩, st⟩ := x; exact ⟨st _ _ p fun o q => k _ _ (.inl rfl) q, ⟨o, k _ _ (.inl rfl) e⟩, st⟩
theorem HOk.lt (x : HOk P w H h) (e : H a = some o) : a < h.objs.size := (x a o e).lt
theorem HOk.fresh (x : HOk P w H h) (e : h.objs.size ≤ a) : H a = none := by
 cases q : H a with
 | none => rfl
 | some u => exact absurd (Nat.lt_of_lt_of_le (x.lt q) e) (Nat.lt_irrefl _)
theorem HOk.kept (x : HOk P w H h) (k : ∀ b u, h.get? b = some u → h'.get? b = some u) : HOk P w H h' := fun a o e =>
 (x a o e).stay (fun b u _ q => k b u q) (fun _ q => q) fun _ _ q => q
theorem HOk.laid (x : HOk P w H h) (k : ∀ b u, h.get? b = some u → h'.get? b = some u) (hp : h.objs.size ≤ a) (new : ObjOk P w (upd H a o) h' a o) : HOk P w (upd H a o) h' := fun b u e => by
 have hn := x.fresh hp
 by_cases hb : b = a
 ·subst hb; rw [upd_same] at e; cases e; exact new
 ·rw [upd_ne hb] at e
  exact (x b u e).stay (fun c v _ q => k c v q) (fun c q => by rw [upd_ne (ne_of_none q hn)]; exact q) fun c xs q => by rw [upd_ne (ne_of_none q hn)]; exact q
end
def Rd (H : Hp) (a : Addr) (u : HO) : Prop := H a = some u ∨ ∃ o, H a = some (.frz o u)
theorem Rd.ok {P : Program} {w : World} {H : Hp} {h : Heap} {a : Addr} {u : HO} (r : Rd H a u) (x : HOk P w H h) : ObjOk P w H h a u := by
 rcases r with r | ⟨o, r⟩
 ·exact x a u r
 ·obtain ⟨_, q⟩ := x a _ r
  exact q
def Mut : Option HO → Prop
 | some (.lst _) => True
 | some (.dK _) => True
 | some (.dT _) => True
 | some (.set _ _) => True
 | some (.ins _ _ _) => True
 | some (.ext _) => True
 | _ => False
section
variable {P : Program} {w : World} {H : Hp} {h h' : Heap} {x e : Addr} {o' : HO}
theorem HOk.write (ok : HOk P w H h) (mu : Mut (H x)) (he : e = x ∨ H e = some (.own x)) (k : ∀ b u, b ≠ e → h.get? b = some u → h'.get? b = some u) (heo : ∃ u, h'.get? e = some u)
  (new : ObjOk P w (upd H x o') h' x o') : HOk P w (upd H x o') h' := fun b u q => by
 have nown : ∀ c y, H c = some (.own y) → c ≠ x := fun c y r z => by subst z; rw [r] at mu; exact mu
 have ntup : ∀ c xs, H c = some (.tup xs) → c ≠ x := fun c xs r z => by subst z; rw [r] at mu; exact mu
 by_cases hb : b = x
 ·subst hb; rw [upd_same] at q; cases q; exact new
 ·rw [upd_ne hb] at q
  by_cases hbe : b = e
  ·have q' : H b = some (.own x) := by
    rcases he with z | z
    ·exact absurd (hbe.trans z) hb
    ·rw [hbe]; exact z
   rw [q] at q'; cases q'
   obtain ⟨v, hv⟩ := heo
   exact ⟨v, by rw [hbe]; exact hv⟩
  ·refine (ok b u q).stay (fun c v hc r => k c v ?_ r) (fun c r => by rw [upd_ne (nown c b r)]; exact r) fun c xs r => by rw [upd_ne (ntup c xs r)]; exact r
   rcases hc with rfl | hc
   ·exact hbe
   ·rintro rfl
    rcases he with z | z
    ·exact nown c b hc z
    ·rw [hc] at z; cases z; exact hb rfl
end
structure Un (fs ex : List Addr) (H H' : Hp) (h h' : Heap) : Prop where
 keep : ∀ b o, h.get? b = some o → H b = none → b ∉ fs → b ∉ ex → h'.get? b = some o
 slot : ∀ b o, h.get? b = some o → H b = none → b ∈ fs → b ∉ ex → ∃ sl, h'.get? b = some { o with slots := sl }
 free : ∀ b o, h.get? b = some o → H b = none → b ∉ ex → H' b = none
 there : ∀ b o, h.get? b = some o → b ∉ ex → ∃ o', h'.get? b = some o'
 tups : ∀ b xs, H b = some (.tup xs) → H' b = some (.tup xs)
 frzs : ∀ b o u, H b = some (.frz o u) → H' b = some (.frz o u)
 tbls : ∀ b ps, H b = some (.tbl ps) → ∃ more, H' b = some (.tbl (ps ++ more))
section
variable {fs fs' ex ex' : List Addr} {H H1 H2 : Hp} {h h1 h2 h' : Heap} {a x e : Addr} {o : HO}
theorem Un.any (u : Un fs ex H H1 h h1) {b : Addr} {ob : Obj} (q : h.get? b = some ob) (n : H b = none) (hx : b ∉ ex) : ∃ sl, h1.get? b = some { ob with slots := sl } := by
 by_cases hb : b ∈ fs
 ·exact u.slot b ob q n hb hx
 ·exact ⟨ob.slots, u.keep b ob q n hb hx⟩
theorem Un.kept (k : ∀ b u, h.get? b = some u → h'.get? b = some u) : Un fs ex H H h h' :=
 ⟨fun b ob q _ _ _ => k b ob q, fun b ob q _ _ _ => ⟨ob.slots, k b ob q⟩, fun _ _ _ n _ => n, fun b ob q _ => ⟨ob, k b ob q⟩, fun _ _ q => q, fun _ _ _ q => q, fun _ ps q => ⟨#[], by rw [q]; simp⟩⟩
theorem Un.refl : Un fs ex H H h h := Un.kept fun _ _ q => q
theorem Un.laid (k : ∀ b u, h.get? b = some u → h'.get? b = some u) (hp : h.objs.size ≤ a) (hn : H a = none) : Un fs ex H (upd H a o) h h' where
 keep := fun b u q _ _ _ => k b u q
 slot := fun b u q _ _ _ => ⟨u.slots, k b u q⟩
 free := fun b u q n _ => by rw [upd_ne (Nat.ne_of_lt (Nat.lt_of_lt_of_le (Heap.lt_size q) hp))]; exact n
 there := fun b u q _ => ⟨u, k b u q⟩
 tups := fun b xs q => by rw [upd_ne (ne_of_none q hn)]; exact q
 frzs := fun b u xs q => by rw [upd_ne (ne_of_none q hn)]; exact q
 tbls := fun b ps q => ⟨#[], by rw [upd_ne (ne_of_none q hn), q]; simp⟩
theorem Un.write (mu : Mut (H x)) (he : e = x ∨ H e = some (.own x)) (k : ∀ b u, b ≠ e → h.get? b = some u → h'.get? b = some u) (heo : ∃ u, h'.get? e = some u) : Un fs ex H (upd H x o) h h' := by
 have hx : ∀ b, H b = none → b ≠ x := fun b n z => by subst z; rw [n] at mu; exact mu
 have hb : ∀ b, H b = none → b ≠ e := fun b n z => by
  subst z
  rcases he with r | r
  ·exact hx b n r
  ·rw [n] at r; cases r
 have hm : ∀ b u, H b = some u → ¬ Mut (some u) → b ≠ x := fun b u q nm z => by subst z; rw [q] at mu; exact nm mu
 refine ⟨fun b u q n _ _ => k b u (hb b n) q, fun b u q n _ _ => ⟨u.slots, k b u (hb b n) q⟩, fun b u q n _ => by rw [upd_ne (hx b n)]; exact n, fun b u q _ => ?_,
  fun b xs q => by rw [upd_ne (hm b _ q fun z => z)]; exact q, fun b u xs q => by rw [upd_ne (hm b _ q fun z => z)]; exact q, fun b ps q => ⟨#[], by rw [upd_ne (hm b _ q fun z => z), q]; simp⟩⟩
 by_cases hbe : b = e
 ·subst hbe; exact heo
 ·exact ⟨u, k b u hbe q⟩
end
def trk (h : Heap) (H : Hp) : List Addr := (List.range h.objs.size).filter fun a => (H a).isSome
def hidT (h : Heap) (H : Hp) : Heap := PySem.W.hideAll h (trk h H)
theorem hidT_size (h : Heap) (H : Hp) : (hidT h H).objs.size = h.objs.size := PySem.W.hideAll_size _ _
theorem hidT_get {h : Heap} {H : Hp} {b : Addr} {o : Obj} (e : h.get? b = some o) (n : H b = none) : (hidT h H).get? b = some o :=
 PySem.W.hideAll_get _ e fun hm => by
  have q : (H b).isSome = true := (List.mem_filter.mp hm).2
  rw [n] at q; simp at q
theorem of_hidT {h : Heap} {H : Hp} {b : Addr} {o : Obj} (e : (hidT h H).get? b = some o) : h.get? b = some o ∧ H b = none := by
 have e' : h.get? b = some o := PySem.W.of_hideAll (trk h H) e
 refine ⟨e', ?_⟩
 cases q : H b with
 | none => rfl
 | some x =>
  have hm : b ∈ trk h H := List.mem_filter.mpr ⟨List.mem_range.mpr (Heap.lt_size e'), by simp [q]⟩
  have z : (hidT h H).get? b = none := PySem.W.hideAll_none (trk h H) hm
  rw [z] at e; cases e
end L2
namespace L2
open PySem PySem.Spec PyProof.Rows
structure Mod (K : PySem.W.Frag) (mg : Str → Option Value) (base : Heap) : Prop where
 kin : K.In base
 glob : base.Ns mainGlobals mg
 blt : ∃ mb, base.Ns builtinsNs mb ∧ ∀ x : Str, x ≠ "__name__" → mb x = bootBuiltins x
 nolimit : base.NoLimit
structure Cx where
 prog : Program
 w : World
 K : PySem.W.Frag
 mg : Str → Option Value
 base : Heap
 A : Around
 N : List Str
 s₀ : Shared
 H₀ : Hp
 env : Env
 outer : List Env
 stack : List Env
 ex : List Addr
 fn : Str → Bool
 calm : Bool
 pn : List (Addr × Obj)
 xe : Value → Shared → Prop
def frs (l : List Env) : List Addr := l.filterMap (·.frame)
abbrev Cx.fs (X : Cx) : List Addr := frs X.outer
def Vis (sc : Scope) (x : Str) : Prop := sc.names.lookup x = some .local ∨ sc.names.lookup x = some .cell ∨ sc.names.lookup x = some .free
def Loc (sc : Scope) (x : Str) : Prop := sc.names.lookup x = some .local ∨ sc.names.lookup x = some .cell
def Look (env : Env) (h : Heap) (m : Str → Option Value) (x : Str) (u : Value) : Prop :=
 (env.kindOf x = some .local ∧ m x = some u) ∨ ((env.kindOf x = some .cell ∨ env.kindOf x = some .free) ∧ ∃ c, env.cells.lookup x = some c ∧ h.IsCell c (some u))
structure Cx.Ok (X : Cx) : Prop where
 mod : Mod X.K X.mg X.base
 kind : X.env.scope.kind = .function
 glob : X.env.globals = mainGlobals
 blt : X.env.builtins = builtinsNs
 above : X.s₀.heap.objs.size ≤ X.env.locals
 inj : ∀ x y c, X.env.cells.lookup x = some c → X.env.cells.lookup y = some c → x = y
 has : ∀ x, (X.env.kindOf x = some .cell ∨ X.env.kindOf x = some .free) → ∃ c, X.env.cells.lookup x = some c
 cab : ∀ x c, X.fn x = true → X.env.cells.lookup x = some c → X.s₀.heap.objs.size ≤ c
 hd : X.calm = true → X.A.handled = none
 frames : X.A.frames = some X.stack
 stk : X.stack = X.outer ∨ (X.stack = X.env :: X.outer ∧ X.env.frame = some X.env.locals)
 exf : ∀ b ∈ X.ex, b ≠ X.env.locals ∧ ∀ x c, X.env.cells.lookup x = some c → c ≠ b
 bs : ∀ b o, X.base.get? b = some o → X.s₀.heap.get? b = some o ∧ X.H₀ b = none
 bsz : X.base.objs.size ≤ X.s₀.heap.objs.size
 noex : ∀ b o, X.base.get? b = some o → b ∉ X.ex
 exfs : ∀ b ∈ X.ex, b ∉ X.fs
 funs : X.s₀.heap.FunFrames X.base X.outer
 frf : ∀ b ∈ X.fs, X.H₀ b = none
structure Inv (X : Cx) (pins : List (Addr × Obj)) (σ : List (Option V)) (H : Hp) (s : Shared) : Prop where
 ok : X.Ok
 os : s.os = X.s₀.os
 bare : AllBare s.gens
 base : Un X.fs X.ex X.H₀ H X.s₀.heap s.heap
 loc : ∃ m, s.heap.Ns X.env.locals m ∧ ∀ (i : Nat) (x : Str) (v : V), X.N[i]? = some x → σ[i]? = some (some v) → Vis X.env.scope x → ∃ u, RelV v u ∧ Look X.env s.heap m x u
 cell : ∀ x c, X.env.cells.lookup x = some c → ∃ v, s.heap.IsCell c v
 free : H X.env.locals = none
 freeC : ∀ x c, X.env.cells.lookup x = some c → H c = none
 pin : ∀ p ∈ X.pn ++ pins, s.heap.get? p.1 = some p.2 ∧ H p.1 = none ∧ p.1 ≠ X.env.locals ∧ p.1 ∉ X.fs ∧ ∀ v, p.2.data ≠ .cell v
 hok : HOk X.prog X.w H s.heap
 len : σ.length = X.N.length
section
variable {X : Cx} {pins : List (Addr × Obj)} {σ : List (Option V)} {H H' : Hp} {s : Shared} {h' : Heap}
theorem Cx.Ok.nofr (ok : X.Ok) {b : Addr} {o : Obj} (e : X.base.get? b = some o) : b ∉ X.fs := fun hb => by
 have := (ok.funs.mem hb).1
 rw [e] at this; cases this
theorem Inv.bs (I : Inv X pins σ H s) : ∀ b o, X.base.get? b = some o → s.heap.get? b = some o ∧ H b = none := fun b o e =>
 ⟨I.base.keep b o (I.ok.bs b o e).1 (I.ok.bs b o e).2 (I.ok.nofr e) (I.ok.noex b o e), I.base.free b o (I.ok.bs b o e).1 (I.ok.bs b o e).2 (I.ok.noex b o e)⟩
theorem Inv.bk (I : Inv X pins σ H s) : ∀ b o, X.base.get? b = some o → s.heap.get? b = some o := fun b o e => (I.bs b o e).1
theorem Inv.mod (I : Inv X pins σ H s) : Mod X.K X.mg X.base := I.ok.mod
theorem Inv.kIn (I : Inv X pins σ H s) : X.K.In s.heap := I.ok.mod.kin.keeps I.bk
theorem Inv.lt (I : Inv X pins σ H s) : X.env.locals < s.heap.objs.size := let ⟨_, hn, _⟩ := I.loc; hn.lt
theorem Inv.sz (I : Inv X pins σ H s) : X.s₀.heap.objs.size ≤ s.heap.objs.size := Nat.le_trans I.ok.above (Nat.le_of_lt I.lt)
theorem Inv.nofs (I : Inv X pins σ H s) {a : Addr} (h : s.heap.objs.size ≤ a) : a ∉ X.fs := fun hb => by
 obtain ⟨_, o, ho, _⟩ := I.ok.funs.mem hb
 exact absurd (Nat.lt_of_lt_of_le (Heap.lt_size ho) (Nat.le_trans I.sz h)) (Nat.lt_irrefl _)
theorem Inv.cne (I : Inv X pins σ H s) : ∀ x c, X.env.cells.lookup x = some c → c ≠ X.env.locals := fun x c e z => by
 obtain ⟨v, o, ho, hd⟩ := I.cell x c e
 obtain ⟨m, ⟨o', es, ep, ho', hd', _⟩, _⟩ := I.loc
 rw [z, ho'] at ho; cases ho; rw [hd'] at hd; cases hd
theorem Inv.funs (I : Inv X pins σ H s) : s.heap.FunFrames X.base X.outer := by
 have all : ∀ (l : List Env), (∀ b ∈ frs l, b ∈ X.fs) → X.s₀.heap.FunFrames X.base l → s.heap.FunFrames X.base l := by
  intro l
  induction l with
  | nil => intro _ _; trivial
  | cons env r ih =>
   intro hs hl
   obtain ⟨hk, ⟨L, o, hf, hn, ho, hd⟩, hr⟩ := hl
   have hL : L ∈ X.fs := hs L (by unfold frs; rw [List.filterMap_cons, hf]; exact List.mem_cons_self)
   obtain ⟨sl, e⟩ := I.base.slot L o ho (I.ok.frf L hL) hL fun z => I.ok.exfs L z hL
   exact ⟨hk, ⟨L, _, hf, hn, e, hd⟩, ih (fun b hb => hs b (by unfold frs; rw [List.filterMap_cons, hf]; exact List.mem_cons_of_mem _ hb)) hr⟩
 exact all X.outer (fun _ hb => hb) I.ok.funs
theorem Inv.stack (I : Inv X pins σ H s) : s.heap.FunFrames X.base X.stack := by
 rcases I.ok.stk with e | ⟨e, hf⟩
 ·rw [e]; exact I.funs
 ·rw [e]
  obtain ⟨m, hn, _⟩ := I.loc
  refine .cons (by rw [I.ok.kind]; decide) hf hn ?_ I.funs
  exact Heap.get?_none_of_le (Nat.le_trans I.ok.bsz I.ok.above)
theorem Inv.stkSub (I : Inv X pins σ H s) : ∀ b ∈ frs X.stack, b ∈ X.env.locals :: X.fs := fun b hb => by
 rcases I.ok.stk with e | ⟨e, hf⟩
 ·rw [e] at hb; exact List.mem_cons_of_mem _ hb
 ·rw [e] at hb
  unfold frs at hb
  rw [List.filterMap_cons, hf] at hb
  exact hb
theorem Inv.stkFree (I : Inv X pins σ H s) : ∀ b ∈ frs X.stack, H b = none := fun b hb => by
 rcases List.mem_cons.mp (I.stkSub b hb) with e | hb
 ·rw [e]; exact I.free
 ·obtain ⟨_, o, ho, _⟩ := I.ok.funs.mem hb
  exact I.base.free b o ho (I.ok.frf b hb) fun z => I.ok.exfs b z hb
theorem Inv.step {g' : Array GenState} {t' : Nat} {d' : Drawn} {ch : List Addr} (I : Inv X pins σ H s)
  (hch : ∀ b ∈ ch, (b ∈ X.ex ∨ X.s₀.heap.objs.size ≤ b) ∧ b ≠ X.env.locals ∧ (∀ x c, X.env.cells.lookup x = some c → c ≠ b) ∧ ∀ p ∈ X.pn ++ pins, p.1 ≠ b)
  (keep : ∀ b o, b ≠ X.env.locals → b ∉ X.fs → b ∉ ch → s.heap.get? b = some o → H b = none → h'.get? b = some o)
  (slot : ∀ b o, b ≠ X.env.locals → b ∈ X.fs → b ∉ ch → s.heap.get? b = some o → H b = none → ∃ sl, h'.get? b = some { o with slots := sl }) (free : ∀ b o, b ∉ ch → s.heap.get? b = some o → H b = none → H' b = none)
  (there : ∀ b o, b ∉ ch → s.heap.get? b = some o → ∃ o', h'.get? b = some o')
  (tups : ∀ b xs, H b = some (.tup xs) → H' b = some (.tup xs)) (frzs : ∀ b o u, H b = some (.frz o u) → H' b = some (.frz o u)) (tbls : ∀ b ps, H b = some (.tbl ps) → ∃ more, H' b = some (.tbl (ps ++ more)))
  (ns : ∀ m, s.heap.Ns X.env.locals m → h'.Ns X.env.locals m) (hok : HOk X.prog X.w H' h') (hg : AllBare g') :
  Inv X pins σ H' { s with heap := h', gens := g', drawn := d', toks := t' } := by
 have neL : ∀ b o, X.s₀.heap.get? b = some o → b ≠ X.env.locals := fun b o e => Nat.ne_of_lt (Nat.lt_of_lt_of_le (Heap.lt_size e) I.ok.above)
 have neC : ∀ b o, X.s₀.heap.get? b = some o → b ∉ X.ex → b ∉ ch := fun b o e hx hb => by
  rcases (hch b hb).1 with z | z
  ·exact hx z
  ·exact absurd (Nat.lt_of_lt_of_le (Heap.lt_size e) z) (Nat.lt_irrefl _)
 have cellK : ∀ x c, X.env.cells.lookup x = some c → ∀ v, s.heap.IsCell c v → h'.IsCell c v := fun x c e v ⟨o, ho, hd⟩ => by
  have nch : c ∉ ch := fun z => (hch c z).2.2.1 x c e rfl
  by_cases hc : c ∈ X.fs
  ·obtain ⟨sl, q⟩ := slot c o (I.cne x c e) hc nch ho (I.freeC x c e)
   exact ⟨_, q, hd⟩
  ·exact ⟨o, keep c o (I.cne x c e) hc nch ho (I.freeC x c e), hd⟩
 refine ⟨I.ok, I.os, hg, ⟨fun b o e n hb hx => ?_, fun b o e n hb hx => ?_, fun b o e n hx => ?_, fun b o e hx => ?_, fun b xs e => tups b xs (I.base.tups b xs e), fun b o xs e => frzs b o xs (I.base.frzs b o xs e), fun b ps e => ?_⟩, ?_, fun x c e => ?_, ?_, fun x c e => ?_, fun p hp => ?_, hok, I.len⟩
 ·exact keep b o (neL b o e) hb (neC b o e hx) (I.base.keep b o e n hb hx) (I.base.free b o e n hx)
 ·obtain ⟨sl, e1⟩ := I.base.slot b o e n hb hx
  obtain ⟨sl', e2⟩ := slot b _ (neL b o e) hb (neC b o e hx) e1 (I.base.free b o e n hx)
  exact ⟨sl', e2⟩
 ·obtain ⟨o', e1⟩ := I.base.there b o e hx
  exact free b o' (neC b o e hx) e1 (I.base.free b o e n hx)
 ·obtain ⟨o', e1⟩ := I.base.there b o e hx
  exact there b o' (neC b o e hx) e1
 ·obtain ⟨m1, e1⟩ := I.base.tbls b ps e
  obtain ⟨m2, e2⟩ := tbls b _ e1
  exact ⟨m1 ++ m2, by rw [e2, Array.append_assoc]⟩
 ·obtain ⟨m, hn, hl⟩ := I.loc
  refine ⟨m, ns m hn, fun i x v e1 e2 e3 => ?_⟩
  obtain ⟨u, r, l⟩ := hl i x v e1 e2 e3
  refine ⟨u, r, ?_⟩
  rcases l with l | ⟨k, c, e, z⟩
  ·exact .inl l
  ·exact .inr ⟨k, c, e, cellK x c e _ z⟩
 ·obtain ⟨v, z⟩ := I.cell x c e
  exact ⟨v, cellK x c e v z⟩
 ·obtain ⟨m, ⟨o, _, _, ho, _⟩, _⟩ := I.loc
  exact free _ o (fun z => (hch _ z).2.1 rfl) ho I.free
 ·obtain ⟨v, o, ho, hd⟩ := I.cell x c e
  exact free c o (fun z => (hch c z).2.2.1 x c e rfl) ho (I.freeC x c e)
 ·obtain ⟨e, n, ne, nf, d⟩ := I.pin p hp
  have nch : p.1 ∉ ch := fun z => (hch p.1 z).2.2.2 p hp rfl
  exact ⟨keep p.1 p.2 ne nf nch e n, free p.1 p.2 nch e n, ne, nf, d⟩
theorem Inv.un {t' : Nat} (I : Inv X pins σ H s) (u : Un X.fs [] H H' s.heap h') (hok : HOk X.prog X.w H' h') : Inv X pins σ H' { s with heap := h', toks := t' } := by
 obtain ⟨m, ⟨o, es, ep, ho, r⟩, _⟩ := id I.loc
 obtain ⟨sl, hL⟩ := u.any ho I.free (by simp)
 exact I.step (g' := s.gens) (d' := s.drawn) (ch := []) (fun _ z => nomatch z) (fun b o _ hb _ e n => u.keep b o e n hb (by simp)) (fun b o _ hb _ e n => u.slot b o e n hb (by simp)) (fun b o _ e n => u.free b o e n (by simp)) (fun b o _ e => u.there b o e (by simp)) u.tups u.frzs u.tbls (fun m' hm => by
  obtain ⟨o', es', ep', ho', r'⟩ := hm
  rw [ho] at ho'; cases ho'
  exact ⟨_, es', ep', hL, r'⟩) hok I.bare
theorem Inv.call {g' : Array GenState} {t' : Nat} {d' : Drawn} {ch : List Addr} (I : Inv X pins σ H s) (u : Un (frs X.stack) ch H H' s.heap h') (hok : HOk X.prog X.w H' h') (hg : AllBare g')
  (hch : ∀ b ∈ ch, (b ∈ X.ex ∨ X.s₀.heap.objs.size ≤ b) ∧ b ≠ X.env.locals ∧ (∀ x c, X.env.cells.lookup x = some c → c ≠ b) ∧ ∀ p ∈ X.pn ++ pins, p.1 ≠ b) :
  Inv X pins σ H' { s with heap := h', gens := g', drawn := d', toks := t' } := by
 obtain ⟨m, ⟨o, es, ep, ho, r⟩, _⟩ := id I.loc
 obtain ⟨sl, hL⟩ := u.any ho I.free fun z => (hch _ z).2.1 rfl
 exact I.step (ch := ch) hch (fun b o hL hb hc e n => u.keep b o e n (fun z => (List.mem_cons.mp (I.stkSub b z)).elim hL hb) hc) (fun b o _ _ hc e n => u.any e n hc) (fun b o hc e n => u.free b o e n hc) (fun b o hc e => u.there b o e hc) u.tups u.frzs u.tbls (fun m' hm => by
  obtain ⟨o', es', ep', ho', r'⟩ := hm
  rw [ho] at ho'; cases ho'
  exact ⟨_, es', ep', hL, r'⟩) hok hg
theorem Inv.turned {t' : Nat} {it : Addr} (I : Inv X pins σ H s) (k : ∀ b o, b ≠ it → s.heap.get? b = some o → h'.get? b = some o) (hn : H it = none) (hL : it ≠ X.env.locals)
  (h1 : it ∈ X.ex ∨ X.s₀.heap.objs.size ≤ it) (h2 : ∀ x c, X.env.cells.lookup x = some c → c ≠ it) (h3 : ∀ p ∈ X.pn ++ pins, p.1 ≠ it) : Inv X pins σ H { s with heap := h', toks := t' } := by
 have nit : ∀ b u, H b = some u → b ≠ it := fun b u e z => by rw [z, hn] at e; cases e
 refine I.step (g' := s.gens) (d' := s.drawn) (ch := [it]) (fun b hb => ?_) (fun b o _ _ hc e _ => k b o (fun z => hc (by simp [z])) e) (fun b o _ _ hc e _ => ⟨o.slots, k b o (fun z => hc (by simp [z])) e⟩) (fun _ _ _ _ n => n)
  (fun b o hc e => ⟨o, k b o (fun z => hc (by simp [z])) e⟩) (fun _ _ e => e) (fun _ _ _ e => e) (fun b ps e => ⟨#[], by rw [e]; simp⟩) (fun m hm => ?_) (fun b u e => ?_) I.bare
 ·have e : b = it := by simpa using hb
  subst e
  exact ⟨h1, hL, h2, h3⟩
 ·obtain ⟨o, es, ep, ho, r⟩ := hm
  exact ⟨o, es, ep, k _ o (Ne.symm hL) ho, r⟩
 ·refine (I.hok b u e).stay (fun c v hc q => k c v ?_ q) (fun _ q => q) fun _ _ q => q
  rcases hc with z | z
  ·rw [z]; exact nit b u e
  ·exact nit c _ z
theorem Inv.tok (I : Inv X pins σ H s) (t : Nat) : Inv X pins σ H { s with toks := t } := I.un (h' := s.heap) (t' := t) Un.refl I.hok
theorem Inv.kept {t' : Nat} (I : Inv X pins σ H s) (k : ∀ b u, s.heap.get? b = some u → h'.get? b = some u) : Inv X pins σ H { s with heap := h', toks := t' } := I.un (Un.kept k) (I.hok.kept k)
theorem Inv.laid {a : Addr} {o : HO} {t' : Nat} (I : Inv X pins σ H s) (k : ∀ b u, s.heap.get? b = some u → h'.get? b = some u) (hp : s.heap.objs.size ≤ a) (new : ObjOk X.prog X.w (upd H a o) h' a o) :
  Inv X pins σ (upd H a o) { s with heap := h', toks := t' } := I.un (Un.laid k hp (I.hok.fresh hp)) (I.hok.laid k hp new)
theorem Inv.write {x e : Addr} {o : HO} {t' : Nat} (I : Inv X pins σ H s) (mu : Mut (H x)) (he : e = x ∨ H e = some (.own x)) (k : ∀ b u, b ≠ e → s.heap.get? b = some u → h'.get? b = some u) (heo : ∃ u, h'.get? e = some u)
  (new : ObjOk X.prog X.w (upd H x o) h' x o) : Inv X pins σ (upd H x o) { s with heap := h', toks := t' } := I.un (Un.write mu he k heo) (I.hok.write mu he k heo new)
theorem Inv.weak {σ' : List (Option V)} (I : Inv X pins σ H s) (hl : σ'.length = σ.length) (w : ∀ (i : Nat) v, σ'[i]? = some (some v) → σ[i]? = some (some v)) : Inv X pins σ' H s :=
 ⟨I.ok, I.os, I.bare, I.base, let ⟨m, hn, hl'⟩ := I.loc; ⟨m, hn, fun i x v e1 e2 e3 => hl' i x v e1 (w i v e2) e3⟩, I.cell, I.free, I.freeC, I.pin, I.hok, hl.trans I.len⟩
theorem Inv.pins_of {pins' : List (Addr × Obj)} (I : Inv X pins σ H s) (h : ∀ p ∈ pins', s.heap.get? p.1 = some p.2 ∧ H p.1 = none ∧ p.1 ≠ X.env.locals ∧ p.1 ∉ X.fs ∧ ∀ v, p.2.data ≠ .cell v) : Inv X pins' σ H s :=
 ⟨I.ok, I.os, I.bare, I.base, I.loc, I.cell, I.free, I.freeC, fun p hp => (List.mem_append.mp hp).elim (fun z => I.pin p (List.mem_append_left _ z)) (h p), I.hok, I.len⟩
theorem nodup_ix {N : List Str} (hN : N.Nodup) {i j : Nat} {x : Str} (a : N[i]? = some x) (b : N[j]? = some x) : i = j := by
 obtain ⟨h1, e1⟩ := List.getElem?_eq_some_iff.mp a
 obtain ⟨h2, e2⟩ := List.getElem?_eq_some_iff.mp b
 exact (List.getElem_inj hN).mp (e1.trans e2.symm)
theorem store_ok2 {M : Model} {A : Around} {E : Value → Shared → Prop} {i : Nat} {x : Str} {v : V} {u : Value} {Q : Unit → Shared → Prop} (I : Inv X pins σ H s) (hN : X.N.Nodup) (hi : X.N[i]? = some x) (hx : Loc X.env.scope x) (r : RelV v u)
  (h : ∀ s', Inv X pins (σ.set i (some v)) H s' → (∃ a, Heap.SameBut a s.heap s'.heap ∧ (a = X.env.locals ∨ X.env.cells.lookup x = some a)) → Q () s') (hf : X.fn x = true ∨ X.env.scope.names.lookup x = some .local := by first | exact .inl rfl | exact .inr rfl | assumption) : wpAny M A (storeName X.env x u) Q E s := by
 obtain ⟨m, hn, hl⟩ := id I.loc
 have hcls : (X.env.scope.kind == .class || (X.env.scope.kind == .module && X.env.locals != X.env.globals)) = false := by rw [I.ok.kind]; rfl
 have hiσ : i < σ.length := by rw [I.len]; exact (List.getElem?_eq_some_iff.mp hi).1
 have cne := I.cne
 have tracked : ∀ {a : Addr} {h' : Heap}, (∃ o, s.heap.get? a = some o ∧ H a = none) → Heap.SameBut a s.heap h' → HOk X.prog X.w H h' := fun {a h'} ha hs b ob e => by
  obtain ⟨_, _, hfree⟩ := ha
  refine (I.hok b ob e).stay (fun c w' hc q => (hs.2 c ?_).trans q) (fun _ q => q) fun _ _ q => q
  rintro rfl
  rcases hc with rfl | hc
  ·rw [hfree] at e; cases e
  ·rw [hfree] at hc; cases hc
 rcases hx with hk | hk
 ·refine wpAny_storeName_local hk hn (fun h' hn' hs => ?_) hcls
  obtain ⟨oL, _, _, hoL, _⟩ := id hn
  refine h _ ⟨I.ok, I.os, I.bare, ⟨fun b o e n hb hx => ?_, fun b o e n hb hx => ?_, I.base.free, fun b o e hx => ?_, I.base.tups, I.base.frzs, I.base.tbls⟩, ⟨_, hn', fun j y v' e1 e2 e3 => ?_⟩, fun y c e => ?_, I.free, I.freeC, fun p hp => ?_, tracked ⟨oL, hoL, I.free⟩ hs, by simpa using I.len⟩ ⟨_, hs, .inl rfl⟩
  ·exact (hs.2 b (Nat.ne_of_lt (Nat.lt_of_lt_of_le (Heap.lt_size e) I.ok.above))).trans (I.base.keep b o e n hb hx)
  ·obtain ⟨sl, e1⟩ := I.base.slot b o e n hb hx
   exact ⟨sl, (hs.2 b (Nat.ne_of_lt (Nat.lt_of_lt_of_le (Heap.lt_size e) I.ok.above))).trans e1⟩
  ·obtain ⟨o', e1⟩ := I.base.there b o e hx
   exact ⟨o', (hs.2 b (Nat.ne_of_lt (Nat.lt_of_lt_of_le (Heap.lt_size e) I.ok.above))).trans e1⟩
  ·by_cases hj : j = i
   ·subst hj
    rw [hi] at e1; cases e1
    rw [List.getElem?_set_self hiσ] at e2
    cases e2
    exact ⟨u, r, .inl ⟨hk, by simp⟩⟩
   ·rw [List.getElem?_set_ne (Ne.symm hj)] at e2
    obtain ⟨u', r', q⟩ := hl j y v' e1 e2 e3
    refine ⟨u', r', ?_⟩
    rcases q with ⟨k, e⟩ | ⟨k, c, e, z⟩
    ·refine .inl ⟨k, ?_⟩
     have : y ≠ x := fun e => hj (nodup_ix hN e1 (e ▸ hi))
     simp [this, e]
    ·exact .inr ⟨k, c, e, z.sameBut hs (cne y c e)⟩
  ·obtain ⟨w', z⟩ := I.cell y c e
   exact ⟨w', z.sameBut hs (cne y c e)⟩
  ·obtain ⟨e, n, ne, nf, d⟩ := I.pin p hp
   exact ⟨(hs.2 p.1 ne).trans e, n, ne, nf, d⟩
 ·have hfn : X.fn x = true := by
   rcases hf with z | z
   ·exact z
   ·rw [z] at hk; cases hk
  obtain ⟨c, hc⟩ := I.ok.has x (.inl hk)
  obtain ⟨w', z⟩ := I.cell x c hc
  refine wpAny_storeName_cell I.ok.kind hk hc z (fun h' hc' hs => ?_)
  obtain ⟨oc, hoc, hocd⟩ := id z
  refine h { s with heap := h' } ⟨I.ok, I.os, I.bare, ⟨fun b o e n hb hx => ?_, fun b o e n hb hx => ?_, I.base.free, fun b o e hx => ?_, I.base.tups, I.base.frzs, I.base.tbls⟩, ⟨m, hn.sameBut hs (Ne.symm (cne x c hc)), fun j y v' e1 e2 e3 => ?_⟩, fun y c' e => ?_, I.free, I.freeC, fun p hp => ?_, tracked ⟨oc, hoc, I.freeC x c hc⟩ hs, by simpa using I.len⟩ ⟨c, hs, .inr hc⟩
  ·exact (hs.2 b (Nat.ne_of_lt (Nat.lt_of_lt_of_le (Heap.lt_size e) (I.ok.cab x c hfn hc)))).trans (I.base.keep b o e n hb hx)
  ·obtain ⟨sl, e1⟩ := I.base.slot b o e n hb hx
   exact ⟨sl, (hs.2 b (Nat.ne_of_lt (Nat.lt_of_lt_of_le (Heap.lt_size e) (I.ok.cab x c hfn hc)))).trans e1⟩
  ·obtain ⟨o', e1⟩ := I.base.there b o e hx
   exact ⟨o', (hs.2 b (Nat.ne_of_lt (Nat.lt_of_lt_of_le (Heap.lt_size e) (I.ok.cab x c hfn hc)))).trans e1⟩
  ·by_cases hj : j = i
   ·subst hj
    rw [hi] at e1; cases e1
    rw [List.getElem?_set_self hiσ] at e2
    cases e2
    exact ⟨u, r, .inr ⟨.inl hk, c, hc, hc'⟩⟩
   ·rw [List.getElem?_set_ne (Ne.symm hj)] at e2
    obtain ⟨u', r', q⟩ := hl j y v' e1 e2 e3
    refine ⟨u', r', ?_⟩
    rcases q with q | ⟨k, c', e, z'⟩
    ·exact .inl q
    ·refine .inr ⟨k, c', e, z'.sameBut hs ?_⟩
     rintro rfl
     exact hj (nodup_ix hN e1 (I.ok.inj _ _ _ e hc ▸ hi))
  ·by_cases hcc : c' = c
   ·subst hcc; exact ⟨_, hc'⟩
   ·obtain ⟨w2, z2⟩ := I.cell y c' e
    exact ⟨w2, z2.sameBut hs hcc⟩
  ·obtain ⟨e, n, ne, nf, d⟩ := I.pin p hp
   refine ⟨(hs.2 p.1 ?_).trans e, n, ne, nf, d⟩
   intro q
   rw [q, hoc] at e
   have q' : oc = p.2 := Option.some.inj e
   exact d w' (by rw [← q']; exact hocd)
theorem store_ok {M : Model} {A : Around} {E : Value → Shared → Prop} {i : Nat} {x : Str} {v : V} {u : Value} {Q : Unit → Shared → Prop} (I : Inv X pins σ H s) (hN : X.N.Nodup) (hi : X.N[i]? = some x) (hx : Loc X.env.scope x) (r : RelV v u)
  (h : ∀ s', Inv X pins (σ.set i (some v)) H s' → Q () s') (hf : X.fn x = true ∨ X.env.scope.names.lookup x = some .local := by first | exact .inl rfl | exact .inr rfl | assumption) : wpAny M A (storeName X.env x u) Q E s :=
 store_ok2 I hN hi hx r (fun s' I' _ => h s' I') hf
theorem Inv.call' {s' : Shared} {ch : List Addr} (I : Inv X pins σ H s) (ho : s'.os = s.os) (u : Un (frs X.stack) ch H H' s.heap s'.heap) (hok : HOk X.prog X.w H' s'.heap) (hg : AllBare s'.gens)
  (hch : ∀ b ∈ ch, (b ∈ X.ex ∨ X.s₀.heap.objs.size ≤ b) ∧ b ≠ X.env.locals ∧ (∀ x c, X.env.cells.lookup x = some c → c ≠ b) ∧ ∀ p ∈ X.pn ++ pins, p.1 ≠ b) : Inv X pins σ H' s' := by
 obtain ⟨h', g', d', t', o'⟩ := s'
 have e : o' = s.os := ho
 subst e
 exact I.call (g' := g') (t' := t') (d' := d') u hok hg hch
end
abbrev XK := Value → Option Addr → Hp → Prop
abbrev St := List (Option V)
abbrev VK := V → Hp → Prop
abbrev TE := St → Hp → VK → Prop
abbrev TT := St → Hp → (Bool → Hp → Prop) → Prop
abbrev TA := St → Hp → (List V → Hp → Prop) → Prop
structure Ends where
 nx : St → Hp → Prop
 rt : VK
 bk : St → Hp → Prop := fun _ _ => False
 ct : St → Hp → Prop := fun _ _ => False
abbrev TS := Ends → St → Hp → Prop
def EP (X : Cx) (pins : List (Addr × Obj)) (σ : St) (Q : VK) (u : Value) (s' : Shared) : Prop := ∃ v H', Inv X pins σ H' s' ∧ RelV v u ∧ Q v H'
def TP (X : Cx) (pins : List (Addr × Obj)) (σ : St) (Q : Bool → Hp → Prop) (b : Bool) (s' : Shared) : Prop := ∃ H', Inv X pins σ H' s' ∧ Q b H'
def AP (X : Cx) (pins : List (Addr × Obj)) (σ : St) (Q : List V → Hp → Prop) (us : List Value) (s' : Shared) : Prop := ∃ vs H', Inv X pins σ H' s' ∧ Vals vs us ∧ Q vs H'
def SP (X : Cx) (pins : List (Addr × Obj)) (D : Ends) (f : Flow) (s' : Shared) : Prop :=
 match f with
 | .next => ∃ σ' H', Inv X pins σ' H' s' ∧ D.nx σ' H'
 | .brk => ∃ σ' H', Inv X pins σ' H' s' ∧ D.bk σ' H'
 | .cont => ∃ σ' H', Inv X pins σ' H' s' ∧ D.ct σ' H'
 | .ret u => ∃ v σ' H', Inv X pins σ' H' s' ∧ RelV v u ∧ D.rt v H'
def PE (X : Cx) (e : Expr) (t : TE) : Prop :=
 ∀ (pins : List (Addr × Obj)) (s : Shared) (σ : St) (H : Hp) (Q : VK), Inv X pins σ H s → t σ H Q → wpAny (model X.prog X.w) X.A (eval e X.env) (EP X pins σ Q) X.xe s
def PT (X : Cx) (e : Expr) (t : TT) : Prop :=
 ∀ (pins : List (Addr × Obj)) (s : Shared) (σ : St) (H : Hp) (Q : Bool → Hp → Prop), Inv X pins σ H s → t σ H Q → wpAny (model X.prog X.w) X.A (isTrue e X.env (eval e X.env)) (TP X pins σ Q) X.xe s
def PW (X : Cx) (e : Expr) (t : TT) : Prop :=
 ∀ (whole : Sem Value) (pins : List (Addr × Obj)) (s : Shared) (σ : St) (H : Hp) (Q : Bool → Hp → Prop), Inv X pins σ H s → t σ H Q → wpAny (model X.prog X.w) X.A (isTrue e X.env whole) (TP X pins σ Q) X.xe s
theorem PW.pt {X : Cx} {e : Expr} {t : TT} (h : PW X e t) : PT X e t := h _
def PA (X : Cx) (es : List Expr) (t : TA) : Prop :=
 ∀ (pos : Pos) (pins : List (Addr × Obj)) (s : Shared) (σ : St) (H : Hp) (Q : List V → Hp → Prop), Inv X pins σ H s → t σ H Q → wpAny (model X.prog X.w) X.A (spliced (backTo pos (starEach es X.env))) (AP X pins σ Q) X.xe s
def PS (X : Cx) (st : Stmt) (t : TS) : Prop :=
 ∀ (pins : List (Addr × Obj)) (s : Shared) (σ : St) (H : Hp) (D : Ends), Inv X pins σ H s → t D σ H → wpAny (model X.prog X.w) X.A (exec st X.env) (SP X pins D) X.xe s
def PSs (X : Cx) (st : List Stmt) (t : TS) : Prop :=
 ∀ (pins : List (Addr × Obj)) (s : Shared) (σ : St) (H : Hp) (D : Ends), Inv X pins σ H s → t D σ H → wpAny (model X.prog X.w) X.A (execs st X.env) (SP X pins D) X.xe s
theorem thn {α : Type} {t : Sem α} {Q Q' : α → Shared → Prop} {M : Model} {A : Around} {E : Value → Shared → Prop} {s : Shared} (h : wpAny M A t Q E s) (hQ : ∀ a s, Q a s → Q' a s) : wpAny M A t Q' E s := wpAny_mono h hQ fun _ _ x => x
end L2
namespace L2
open PySem PySem.Spec PyProof.Rows
section
variable {X : Cx}
def tVar (i : Nat) : TE := fun σ H Q => ∃ v, σ[i]? = some (some v) ∧ Q v H
def tC (v : V) : TE := fun _ H Q => Q v H
theorem pe_var {i : Nat} {x : Str} {pos : Pos} (hN : X.N[i]? = some x) (hv : Vis X.env.scope x) (hd : (x == ("__debug__" : Str)) = false := by decide) (hcd : (x == ("__classdict__" : Str)) = false := by decide) : PE X (.Name x pos) (tVar i) := by
 intro pins s σ H Q I h
 obtain ⟨v, e, h⟩ := h
 obtain ⟨m, hn, hl⟩ := I.loc
 obtain ⟨u, r, l⟩ := hl i x v hN e hv
 have fin : EP X pins σ Q u s := ⟨v, H, I, r, h⟩
 rcases l with ⟨hk, hm⟩ | ⟨hk, c, hc, hcell⟩
 ·exact wpAny_Name (wpAny_loadName_local I.ok.kind hk hn hm fin) hd
 ·rcases hk with hk | hk
  ·exact wpAny_Name (wpAny_loadName_cell I.ok.kind hk hc hcell fin) hd
  ·exact wpAny_Name (wpAny_loadName_free I.ok.kind hk hc hcell fin hcd) hd
theorem pe_int {i j pos} : PE X (.Constant (.int i) j pos) (tC (.int i)) := fun _ _ _ H _ I h => wpAny_Constant_int ⟨.int i, H, I.tok _, ⟨_, rfl⟩, h⟩
theorem pe_bl {b j pos} : PE X (.Constant (.bool b) j pos) (tC (.bl b)) := fun _ _ _ H _ I h => Constant_bool ⟨.bl b, H, I, rfl, h⟩
theorem pe_non {j pos} : PE X (.Constant .none j pos) (tC .non) := fun _ _ _ H _ I h => Constant_none ⟨.non, H, I, rfl, h⟩
theorem pe_str {x j pos} : PE X (.Constant (.str x) j pos) (tC (.str x)) := fun _ _ _ H _ I h => Calls.Constant_str ⟨.str x, H, I.tok _, ⟨_, rfl⟩, h⟩
def Gl (X : Cx) (x : Str) : Prop := X.env.kindOf x = some .globalImplicit
theorem ld_glob {E : Value → Shared → Prop} {pins : List (Addr × Obj)} {s : Shared} {σ : St} {H : Hp} {x : Str} {u : Value} {pos : Pos} {Q : Value → Shared → Prop} (I : Inv X pins σ H s) (hg : Gl X x) (hm : X.mg x = some u) (h : Q u s)
  (hd : (x == ("__debug__" : Str)) = false := by decide) : wpAny (model X.prog X.w) X.A (eval (.Name x pos) X.env) Q E s :=
 Calls.Name_function_global I.ok.kind hg (Calls.loadGlobal_global (by rw [I.ok.glob]; exact I.mod.glob.keeps I.bk) hm h) hd
theorem ld_blt {E : Value → Shared → Prop} {pins : List (Addr × Obj)} {s : Shared} {σ : St} {H : Hp} {x : Str} {u : Value} {pos : Pos} {Q : Value → Shared → Prop} (I : Inv X pins σ H s) (hg : Gl X x) (hm : X.mg x = none) (hv : bootBuiltins x = some u) (h : Q u s)
  (hn : x ≠ "__name__" := by decide) (hd : (x == ("__debug__" : Str)) = false := by decide) : wpAny (model X.prog X.w) X.A (eval (.Name x pos) X.env) Q E s := by
 obtain ⟨mb, h1, h2⟩ := I.mod.blt
 exact Calls.Name_function_global I.ok.kind hg (Calls.loadGlobal_builtin (by rw [I.ok.glob]; exact I.mod.glob.keeps I.bk) hm (by rw [I.ok.blt]; exact h1.keeps I.bk) ((h2 x hn).trans hv) h) hd
theorem pe_bltn {x : Str} {v : V} {u : Value} {pos : Pos} (hg : Gl X x) (hm : X.mg x = none) (hv : bootBuiltins x = some u) (r : RelV v u) (hn : x ≠ "__name__" := by decide) (hd : (x == ("__debug__" : Str)) = false := by decide) : PE X (.Name x pos) (tC v) :=
 fun _ _ _ H _ I h => ld_blt I hg hm hv ⟨v, H, I, r, h⟩ hn hd
variable {a b : Expr} {ta tb : TE} {pos : Pos}
def PC (X : Cx) (op : CmpOp) (a b : Expr) (t : TE) : Prop :=
 ∀ (pins : List (Addr × Obj)) (s : Shared) (σ : St) (H : Hp) (Q : VK), Inv X pins σ H s → t σ H Q →
  wpAny (model X.prog X.w) X.A (eval a X.env) (fun v s₁ => wpAny (model X.prog X.w) X.A (eval b X.env) (fun u s₂ => wpAny (model X.prog X.w) X.A (compareOp op v u) (EP X pins σ Q) X.xe s₂) X.xe s₁) X.xe s
def tB (t : TE) : TT := fun σ H Q => t σ H fun x H1 => ∃ c, x = .bl c ∧ Q c H1
theorem pe_cmp {op : CmpOp} {t : TE} (h : PC X op a b t) (h1 : behindInMarks op b = false := by first | exact nobehind _ (by decide) (by decide) | rfl) : PE X (.Compare a [op] [b] pos) t := fun pins s σ H Q I hw => wpAny_Compare1 (h pins s σ H Q I hw) h1
theorem pt_cmp {op : CmpOp} {t : TE} (h : PC X op a b t) (h1 : behindInMarks op b = false := by first | exact nobehind _ (by decide) (by decide) | rfl) : PT X (.Compare a [op] [b] pos) (tB t) := by
 intro pins s σ H Q I hw
 refine wpAny_isTrue_Compare1 (thn (h pins s σ H _ I hw) fun v s1 h1 => thn h1 fun u s2 h2 => thn h2 fun c s3 ⟨x, H1, I1, r1, q1⟩ => ?_) h1
 obtain ⟨d, rfl, q⟩ := q1
 cases r1
 exact wpAny_truthy_bool ⟨H1, I1, q⟩
theorem pt_val {e : Expr} {t : TE} (h : PE X e t) (he : ∀ whole, isTrue e X.env whole = (do let v ← whole; standAt e.pos; holding [v] (truthy v)) := by intro _; rfl) : PT X e (tB t) := by
 intro pins s σ H Q I hw
 refine isTrue_plain (thn (h pins s σ H _ I hw) fun v s1 ⟨x, H1, I1, r1, q1⟩ => ?_) (he _)
 obtain ⟨d, rfl, q⟩ := q1
 cases r1
 exact wpAny_truthy_bool ⟨H1, I1, q⟩
variable {tA tB' : TT} {rest : List Expr}
def tAnd (t u : TT) : TT := fun σ H Q => t σ H fun c H1 => if c = true then u σ H1 Q else Q false H1
def tOr (t u : TT) : TT := fun σ H Q => t σ H fun c H1 => if c = true then Q true H1 else u σ H1 Q
def tNot (t : TT) : TT := fun σ H Q => t σ H fun c H1 => Q (!c) H1
theorem pw_and1 (ha : PT X a tA) : PW X (.BoolOp .And [a] pos) tA := by
 intro wh pins s σ H Q I h
 refine isTrue_and (thn (ha pins s σ H Q I h) fun c s1 e => ?_)
 cases c with
 | true => exact isTrue_and_nil e
 | false => exact e
theorem pw_or1 (ha : PT X a tA) : PW X (.BoolOp .Or [a] pos) tA := by
 intro wh pins s σ H Q I h
 refine isTrue_or (thn (ha pins s σ H Q I h) fun c s1 e => ?_)
 cases c with
 | false => exact isTrue_or_nil e
 | true => exact e
theorem pw_and (ha : PT X a tA) (hb : PW X (.BoolOp .And (b :: rest) pos) tB') : PW X (.BoolOp .And (a :: b :: rest) pos) (tAnd tA tB') := by
 intro wh pins s σ H Q I h
 refine isTrue_and (thn (ha pins s σ H _ I h) fun c s1 ⟨H1, I1, q1⟩ => ?_)
 cases c with
 | true => exact hb wh pins s1 σ H1 Q I1 q1
 | false => exact ⟨H1, I1, q1⟩
theorem pw_or (ha : PT X a tA) (hb : PW X (.BoolOp .Or (b :: rest) pos) tB') : PW X (.BoolOp .Or (a :: b :: rest) pos) (tOr tA tB') := by
 intro wh pins s σ H Q I h
 refine isTrue_or (thn (ha pins s σ H _ I h) fun c s1 ⟨H1, I1, q1⟩ => ?_)
 cases c with
 | true => exact ⟨H1, I1, q1⟩
 | false => exact hb wh pins s1 σ H1 Q I1 q1
theorem pt_not (ha : PT X a tA) : PT X (.UnaryOp .Not a pos) (tNot tA) := by
 intro pins s σ H Q I h
 exact isTrue_not (ha pins s σ H (fun c H1 => Q (!c) H1) I h)
def tAndV (ta tb : TE) : TE := fun σ H Q => ta σ H fun x H1 => ∃ c, x = .bl c ∧ if c = true then tb σ H1 Q else Q (.bl false) H1
theorem pe_one {op} {t : TE} (h : PE X a t) : PE X (.BoolOp op [a] pos) t := fun pins s σ H Q I hw => BoolOp_one (h pins s σ H Q I hw)
theorem pe_and (ha : PE X a ta) (hb : PE X (.BoolOp .And (b :: rest) pos) tb) : PE X (.BoolOp .And (a :: b :: rest) pos) (tAndV ta tb) := by
 intro pins s σ H Q I h
 refine BoolOp_and (thn (ha pins s σ H _ I h) fun v s1 ⟨x, H1, I1, r1, q1⟩ => ?_)
 obtain ⟨c, rfl, q1⟩ := q1
 cases r1
 refine wpAny_truthy_bool ?_
 cases c with
 | true => exact hb pins s1 σ H1 Q I1 q1
 | false => exact ⟨.bl false, H1, I1, rfl, q1⟩
end
end L2
namespace L2
open PySem PySem.Spec PyProof.Rows
def SqL (K : PySem.W.Frag) (H : Hp) (a : Addr) (xs : List V) : Prop :=
 Rd H a (.lst xs) ∨
  ∃ (o : Obj) (its : Array Value) (n : Nat), K.lookup a = some o ∧ o.cls = .type "list" ∧ o.dict = none ∧ o.data = .seq its n ∧ its.size ≤ sizeLine ∧ Vals xs its.toList
def SqT (K : PySem.W.Frag) (H : Hp) (a : Addr) (xs : List V) : Prop :=
 Rd H a (.tup xs) ∨
  ∃ (o : Obj) (its : Array Value) (n : Nat), K.lookup a = some o ∧ o.cls = .type "tuple" ∧ o.data = .seq its n ∧ its.size ≤ sizeLine ∧ Vals xs its.toList
def absV : Value → Option V
 | .none => some .non
 | .bool b => some (.bl b)
 | .int i _ => some (.int i)
 | .str x _ => some (.str x)
 | .bytes b _ => some (.byt b)
 | .float b _ => some (.flt b)
 | .ref a => some (.ref a)
 | .type n => some (.ty n)
 | _ => none
theorem RelV.abs {x : V} {u : Value} (r : RelV x u) : absV u = some x := by
 cases x with
 | non => cases r; rfl
 | bl _ => cases r; rfl
 | int _ => obtain ⟨t, rfl⟩ := r; rfl
 | str _ => obtain ⟨t, rfl⟩ := r; rfl
 | byt _ => obtain ⟨t, rfl⟩ := r; rfl
 | flt _ => obtain ⟨t, rfl⟩ := r; rfl
 | ref _ => cases r; rfl
 | ty _ => cases r; rfl
theorem RelV.inj {x y : V} {u : Value} (r : RelV x u) (q : RelV y u) : x = y := Option.some.inj (r.abs.symm.trans q.abs)
theorem Vals.inj : ∀ {xs ys : List V} {us : List Value}, Vals xs us → Vals ys us → xs = ys
 | _, _, _, .nil, .nil => rfl
 | _, _, _, .cons r t, .cons r' t' => by rw [r.inj r', Vals.inj t t']
section
variable {X : Cx} {pins : List (Addr × Obj)} {σ : St} {H : Hp} {s : Shared} {a : Addr} {xs ys : List V}
theorem SqL.of {K : PySem.W.Frag} (h : H a = some (.lst xs)) : SqL K H a xs := .inl (.inl h)
theorem SqT.of {K : PySem.W.Frag} (h : H a = some (.tup xs)) : SqT K H a xs := .inl (.inl h)
theorem Inv.list (I : Inv X pins σ H s) (h : SqL X.K H a xs) : ∃ its : List Value, Vals xs its ∧ PlainL s.heap a its.toArray ∧ xs.length ≤ sizeLine := by
 rcases h with h | ⟨o, its, n, hk, hc, hd, hs, hz, r⟩
 ·obtain ⟨z, its, n, r, e⟩ := h.ok I.hok
  exact ⟨its, r, ⟨_, n, e, rfl, rfl, rfl⟩, z⟩
 ·refine ⟨its.toList, r, ⟨o, n, I.kIn a o hk, hc, hd, by simpa using hs⟩, ?_⟩
  have e := r.length
  simp only [Array.length_toList] at e
  omega
theorem Inv.tuple (I : Inv X pins σ H s) (h : SqT X.K H a xs) : ∃ its : List Value, Vals xs its ∧ IsTup s.heap a its.toArray ∧ xs.length ≤ sizeLine := by
 rcases h with h | ⟨o, its, n, hk, hc, hs, hz, r⟩
 ·obtain ⟨z, its, r, o, e, c, n, d, _⟩ := h.ok I.hok
  exact ⟨its, r, ⟨o, e, c, n, d⟩, z⟩
 ·refine ⟨its.toList, r, ⟨o, I.kIn a o hk, hc, n, by simpa using hs⟩, ?_⟩
  have e := r.length
  simp only [Array.length_toList] at e
  omega
theorem Inv.list_inj (I : Inv X pins σ H s) (h : SqL X.K H a xs) (h' : SqL X.K H a ys) : xs = ys := by
 obtain ⟨its, r, ⟨o, n, e, _, _, d⟩, _⟩ := I.list h
 obtain ⟨its', r', ⟨o', n', e', _, _, d'⟩, _⟩ := I.list h'
 rw [e] at e'; cases e'
 rw [d] at d'
 injection d' with d1 _
 have : its = its' := by simpa using congrArg Array.toList d1
 subst this
 exact r.inj r'
theorem Inv.tuple_inj (I : Inv X pins σ H s) (h : SqT X.K H a xs) (h' : SqT X.K H a ys) : xs = ys := by
 obtain ⟨its, r, ⟨o, e, _, n, d⟩, _⟩ := I.tuple h
 obtain ⟨its', r', ⟨o', e', _, n', d'⟩, _⟩ := I.tuple h'
 rw [e] at e'; cases e'
 rw [d] at d'
 injection d' with d1 _
 have : its = its' := by simpa using congrArg Array.toList d1
 subst this
 exact r.inj r'
end
abbrev Cx.wish (X : Cx) (E : Value → Shared → Prop) : Cx := { X with xe := E }
abbrev Cx.nox (X : Cx) : Cx := X.wish fun _ _ => False
theorem Cx.Ok.wish {X : Cx} (ok : X.Ok) (E : Value → Shared → Prop) : (X.wish E).Ok :=
 ⟨ok.mod, ok.kind, ok.glob, ok.blt, ok.above, ok.inj, ok.has, ok.cab, ok.hd, ok.frames, ok.stk, ok.exf, ok.bs, ok.bsz, ok.noex, ok.exfs, ok.funs, ok.frf⟩
theorem Cx.Ok.unwish {X : Cx} {E : Value → Shared → Prop} (ok : (X.wish E).Ok) : X.Ok :=
 ⟨ok.mod, ok.kind, ok.glob, ok.blt, ok.above, ok.inj, ok.has, ok.cab, ok.hd, ok.frames, ok.stk, ok.exf, ok.bs, ok.bsz, ok.noex, ok.exfs, ok.funs, ok.frf⟩
section
variable {X : Cx} {pins : List (Addr × Obj)} {σ : St} {H : Hp} {s : Shared} {E : Value → Shared → Prop}
theorem Inv.wish (I : Inv X pins σ H s) (E : Value → Shared → Prop) : Inv (X.wish E) pins σ H s := ⟨I.ok.wish E, I.os, I.bare, I.base, I.loc, I.cell, I.free, I.freeC, I.pin, I.hok, I.len⟩
theorem Inv.unwish (I : Inv (X.wish E) pins σ H s) : Inv X pins σ H s := ⟨I.ok.unwish, I.os, I.bare, I.base, I.loc, I.cell, I.free, I.freeC, I.pin, I.hok, I.len⟩
theorem SP.unwish {D : Ends} {f : Flow} {s' : Shared} (h : SP (X.wish E) pins D f s') : SP X pins D f s' := by
 cases f with
 | next => obtain ⟨σ', H', I, q⟩ := h; exact ⟨σ', H', I.unwish, q⟩
 | brk => obtain ⟨σ', H', I, q⟩ := h; exact ⟨σ', H', I.unwish, q⟩
 | cont => obtain ⟨σ', H', I, q⟩ := h; exact ⟨σ', H', I.unwish, q⟩
 | ret u => obtain ⟨v, σ', H', I, r, q⟩ := h; exact ⟨v, σ', H', I.unwish, r, q⟩
theorem PSs.nox {st : List Stmt} {t : TS} (h : PSs X.nox st t) : PSs X st t := fun pins s σ H D I hw =>
 wpAny_mono (h pins s σ H D (I.wish _) hw) (fun _ _ q => q.unwish) fun _ _ z => False.elim z
end
section
variable {X : Cx} {st : Stmt} {rest : List Stmt} {t u : TS} {e : Expr} {te : TE} {pos : Pos}
def tNext : TS := fun D σ H => D.nx σ H
def tSeq (t u : TS) : TS := fun D σ H => t { D with nx := u D } σ H
theorem pss_nil : PSs X [] tNext := fun _ _ σ H _ I h => wpAny_execs_nil ⟨σ, H, I, h⟩
theorem pss_cons (h1 : PS X st t) (h2 : PSs X rest u) : PSs X (st :: rest) (tSeq t u) := by
 intro pins s σ H D I h
 refine wpAny_execs_cons (thn (h1 pins s σ H { D with nx := u D } I h) fun f s1 q => ?_)
 cases f with
 | next =>
  obtain ⟨σ', H', I', q⟩ := q
  exact h2 pins s1 σ' H' D I' q
 | ret v => exact q
 | brk => exact q
 | cont => exact q
theorem pss_one (h1 : PS X st t) : PSs X [st] t := by
 intro pins s σ H D I h
 refine wpAny_execs_cons (thn (h1 pins s σ H D I h) fun f s1 q => ?_)
 cases f with
 | next => exact wpAny_execs_nil q
 | ret v => exact q
 | brk => exact q
 | cont => exact q
theorem Inv.quiet {pins : List (Addr × Obj)} {σ : St} {H : Hp} {s : Shared} (I : Inv X pins σ H s) : interactive X.env = false := by simp [interactive, I.ok.kind]
def tDrop (te : TE) : TS := fun D σ H => te σ H fun _ H1 => D.nx σ H1
theorem ps_expr (he : PE X e te) (hs : swapsWith e none pos.line X.env = pure false := by rfl) : PS X (.Expr e pos) (tDrop te) := by
 intro pins s σ H D I h
 exact wpAny_Expr_any (thn (he pins s σ H _ I h) fun v s1 ⟨x, H1, I1, r1, q1⟩ => ⟨σ, H1, I1, q1⟩) I.quiet hs
def tRet (te : TE) : TS := fun D σ H => te σ H D.rt
theorem ps_ret (he : PE X e te) : PS X (.Return (some e) pos) (tRet te) := by
 intro pins s σ H D I h
 exact wpAny_Return_some (thn (he pins s σ H _ I h) fun v s1 ⟨x, H1, I1, r1, q1⟩ => ⟨x, σ, H1, I1, r1, q1⟩)
def tIfS (c : TT) (t u : TS) : TS := fun D σ H => c σ H fun b H1 => if b = true then t D σ H1 else u D σ H1
theorem ps_if {c : Expr} {a b : List Stmt} {tc : TT} (hc : PT X c tc) (ha : PSs X a t) (hb : PSs X b u) : PS X (.If c a b pos) (tIfS tc t u) := by
 intro pins s σ H D I h
 refine wpAny_If (thn (hc pins s σ H _ I h) fun d s1 ⟨H1, I1, q1⟩ => ?_)
 cases d with
 | true => exact ha pins s1 σ H1 D I1 q1
 | false => exact hb pins s1 σ H1 D I1 q1
end
abbrev TG := V → St → Hp → (St → Hp → Prop) → Prop
abbrev TGs := List V → St → Hp → (St → Hp → Prop) → Prop
def PG (X : Cx) (target : Expr) (t : TG) : Prop :=
 ∀ (pins : List (Addr × Obj)) (s : Shared) (σ : St) (H : Hp) (v : V) (u : Value) (Q : St → Hp → Prop), Inv X pins σ H s → RelV v u → t v σ H Q →
  wpAny (model X.prog X.w) X.A (assign target X.env u) (fun _ s' => ∃ σ' H', Inv X pins σ' H' s' ∧ Q σ' H') X.xe s
def PGs (X : Cx) (ts : List Expr) (t : TGs) : Prop :=
 ∀ (pins : List (Addr × Obj)) (s : Shared) (σ : St) (H : Hp) (vs : List V) (us : List Value) (Q : St → Hp → Prop), Inv X pins σ H s → Vals vs us → t vs σ H Q →
  wpAny (model X.prog X.w) X.A (assignInOrder ((assignEach ts X.env).map (·.2)) us) (fun _ s' => ∃ σ' H', Inv X pins σ' H' s' ∧ Q σ' H') X.xe s
abbrev TSet := V → V → V → Hp → (Hp → Prop) → Prop
def PSet (X : Cx) (t : TSet) : Prop :=
 ∀ (pins : List (Addr × Obj)) (s : Shared) (σ : St) (H : Hp) (o i v : V) (ov iv u : Value) (Q : Hp → Prop), Inv X pins σ H s → RelV o ov → RelV i iv → RelV v u → t o i v H Q →
  wpAny (model X.prog X.w) X.A (setItem ov iv u) (fun _ s' => ∃ H', Inv X pins σ H' s' ∧ Q H') X.xe s
section
variable {X : Cx} {pos : Pos}
def gName (i : Nat) : TG := fun v σ H Q => Q (σ.set i (some v)) H
theorem pg_name {i : Nat} {x : Str} (hN : X.N.Nodup) (hi : X.N[i]? = some x) (hx : Loc X.env.scope x) (hf : X.fn x = true ∨ X.env.scope.names.lookup x = some .local := by first | exact .inl rfl | exact .inr rfl | assumption) : PG X (.Name x pos) (gName i) := by
 intro pins s σ H v u Q I r h
 exact wpAny_assign_Name (store_ok I hN hi hx r (fun s' I' => ⟨_, H, I', h⟩) hf)
def gNil : TGs := fun vs σ H Q => vs = [] ∧ Q σ H
def gCons (t : TG) (u : TGs) : TGs := fun vs σ H Q => ∃ v r, vs = v :: r ∧ t v σ H fun σ' H' => u r σ' H' Q
theorem pgs_nil : PGs X [] gNil := by
 intro pins s σ H vs us Q I r h
 obtain ⟨e, h⟩ := h
 subst e
 cases r
 exact assignInOrder_nil ⟨σ, H, I, h⟩
theorem pgs_cons {e : Expr} {es : List Expr} {t : TG} {u : TGs} (h1 : PG X e t) (h2 : PGs X es u)
  (hs : (assignEach (e :: es) X.env).map (·.2) = assign e X.env :: (assignEach es X.env).map (·.2) := by rfl) : PGs X (e :: es) (gCons t u) := by
 intro pins s σ H vs us Q I r h
 obtain ⟨v, vr, e1, h⟩ := h
 subst e1
 cases r with
 | cons r rr =>
  rw [hs]
  refine assignInOrder_cons (thn (h1 pins s σ H _ _ _ I r h) fun _ s1 ⟨σ1, H1, I1, q1⟩ => ?_)
  exact h2 pins s1 σ1 H1 _ _ Q I1 rr q1
def gTup (K : PySem.W.Frag) (n : Nat) (t : TGs) : TG := fun v σ H Q => ∃ a xs, v = .ref a ∧ SqT K H a xs ∧ xs.length = n ∧ t xs σ H Q
theorem pg_tup {es : List Expr} {k : Nat} {t : TGs} {n : Nat} (hc : X.calm = true) (h : PGs X es t)
  (hn : (assignEach es X.env).length = n := by rfl) (hst : (assignEach es X.env).findIdx? (·.1) = none := by rfl) : PG X (.Tuple es k pos) (gTup X.K n t) := by
 intro pins s σ H v u Q I r hw
 obtain ⟨a, xs, e1, hq, hl, hw⟩ := hw
 subst e1
 cases r
 obtain ⟨its, rv, ht, hz⟩ := I.tuple hq
 refine assign_Tuple_tuple (I.ok.hd hc) ht (by simp [hn, ← hl, rv.length]) hst fun h' hx => ?_
 have I1 : Inv X pins σ H { s with heap := h' } := I.kept (t' := s.toks) fun b o e => hx b o (Nat.ne_of_lt (Heap.lt_size e)) e
 exact h pins _ σ H xs _ Q I1 (by simpa using rv) hw
def gSub (to ti : TE) (t : TSet) : TG := fun v σ H Q => to σ H fun o H1 => ti σ H1 fun i H2 => t o i v H2 fun H3 => Q σ H3
theorem pg_sub {o i : Expr} {to ti : TE} {t : TSet} (ho : PE X o to) (hi : PE X i ti) (hs : PSet X t)
  (ha : ∀ v, assign (.Subscript o i pos) X.env v = (do
   let ov ← holding [v] (eval o X.env)
   let iv ← holding [v, ov] (eval i X.env)
   standAt pos
   holding [v, ov, iv] (setItem ov iv v)
   release [v, ov, iv] []) := by intro _; rfl) : PG X (.Subscript o i pos) (gSub to ti t) := by
 intro pins s σ H v u Q I r h
 rw [ha]
 refine wpAny_bind (wpAny_holding (thn (ho pins s σ H _ I h) fun ov s1 ⟨x, H1, I1, r1, q1⟩ => ?_))
 refine wpAny_bind (wpAny_holding (thn (hi pins s1 σ H1 _ I1 q1) fun iv s2 ⟨y, H2, I2, r2, q2⟩ => ?_))
 refine wpAny_bind (wpAny_standAt (wpAny_bind (wpAny_holding (thn (hs pins s2 σ H2 x y v ov iv u _ I2 r1 r2 r q2) fun _ s3 ⟨H3, I3, q3⟩ => ?_))))
 exact wpAny_release ⟨σ, H3, I3, q3⟩
def tAsg (te : TE) (g : TG) : TS := fun D σ H => te σ H fun x H1 => g x σ H1 D.nx
theorem ps_asg {tg e : Expr} {te : TE} {g : TG} (he : PE X e te) (hg : PG X tg g) (hs : swapsWithSole [tg] e pos.line X.env = pure false := by rfl) (hw : swappedStores [tg] e X.env = pure none := by rfl)
  (h1 : (assignEach [tg] X.env).map (·.2) = [assign tg X.env] := by rfl) : PS X (.Assign [tg] e pos) (tAsg te g) := by
 intro pins s σ H D I h
 refine wpAny_Assign_stores (thn (he pins s σ H _ I h) fun v s1 ⟨x, H1, I1, r1, q1⟩ => ?_) hs hw
 rw [h1]
 exact thn (hg pins s1 σ H1 x v _ I1 r1 q1) fun _ s2 q => q
theorem ps_set {i : Nat} {x : Str} {e : Expr} {te : TE} {pos' : Pos} (hN : X.N.Nodup) (hi : X.N[i]? = some x) (hx : Loc X.env.scope x) (he : PE X e te) (hs : swapsWith e (some (.Name x pos')) pos.line X.env = pure false := by rfl) (hf : X.fn x = true ∨ X.env.scope.names.lookup x = some .local := by first | exact .inl rfl | exact .inr rfl | assumption) :
  PS X (.Assign [.Name x pos'] e pos) (tAsg te (gName i)) := by
 intro pins s σ H D I h
 refine wpAny_Assign_Name (thn (he pins s σ H _ I h) fun v s1 ⟨y, H1, I1, r1, q1⟩ => ?_) hs
 exact store_ok I1 hN hi hx r1 (fun s2 I2 => ⟨_, H1, I2, q1⟩) hf
end
section
variable {X : Cx} {pos : Pos}
end
structure It where
 go : Nat → Hp → Prop
 yld : Nat → Hp → V → Hp → Prop
 stop : Nat → Hp → Prop
def FpOk (X : Cx) (pins : List (Addr × Obj)) (H : Hp) (b : Addr) : Prop :=
 H b = none ∧ b ≠ X.env.locals ∧ b ∉ X.fs ∧ (b ∈ X.ex ∨ X.s₀.heap.objs.size ≤ b) ∧ (∀ x c, X.env.cells.lookup x = some c → c ≠ b) ∧ ∀ p ∈ X.pn ++ pins, p.1 ≠ b
theorem Inv.fpOk {X : Cx} {pins : List (Addr × Obj)} {σ : St} {H H' : Hp} {s : Shared} {b : Addr} (I : Inv X pins σ H s) (hb : s.heap.objs.size ≤ b) (hn : H' b = none) : FpOk X pins H' b := by
 refine ⟨hn, Nat.ne_of_gt (Nat.lt_of_lt_of_le I.lt hb), I.nofs hb, .inr (Nat.le_trans I.sz hb), fun x c e z => ?_, fun p hp z => ?_⟩
 ·obtain ⟨v, q⟩ := I.cell x c e
  exact absurd (Nat.lt_of_lt_of_le q.lt (by rw [z]; exact hb)) (Nat.lt_irrefl _)
 ·exact absurd (Nat.lt_of_lt_of_le (Heap.lt_size (I.pin p hp).1) (by rw [z]; exact hb)) (Nat.lt_irrefl _)
structure Turn (P : Program) (w : World) (K : PySem.W.Frag) (tg : Expr) (J : It) (fp : List Addr) (it : Addr) (tn : Nat → Heap → Prop) : Prop where
 mem : it ∈ fp
 obj : ∀ i h, tn i h → ∀ b ∈ fp, ∃ o, h.get? b = some o ∧ ∀ v, o.data ≠ .cell v
 keep : ∀ i h h', tn i h → (∀ b ∈ fp, ∀ o, h.get? b = some o → h'.get? b = some o) → tn i h'
 item : ∀ (X : Cx), X.prog = P → X.w = w → X.K = K → X.calm = true → ∀ (i : Nat) (pins : List (Addr × Obj)) (s : Shared) (σ : St) (H : Hp) (E : Value → Shared → Prop), Inv X pins σ H s → (∀ b ∈ fp, FpOk X pins H b) → tn i s.heap → J.go i H →
  wpAny (model P w) X.A (pyNext (.ref it)) (fun r s1 => ∃ u, r = some u ∧
   wpAny (model P w) X.A (letOwnedTupleGo tg (.ref it) u) (fun _ s2 => ∃ x H', Inv X pins σ H' s2 ∧ RelV x u ∧ J.yld i H x H' ∧ tn (i + 1) s2.heap ∧ ∀ b ∈ fp, H' b = none) E s1) E s
 done : ∀ (X : Cx), X.prog = P → X.w = w → X.K = K → X.calm = true → ∀ (i : Nat) (pins : List (Addr × Obj)) (s : Shared) (σ : St) (H : Hp) (E : Value → Shared → Prop), Inv X pins σ H s → (∀ b ∈ fp, FpOk X pins H b) → tn i s.heap → J.stop i H →
  wpAny (model P w) X.A (pyNext (.ref it)) (fun r s1 => r = none ∧ Inv X pins σ H s1) E s
 self : ∀ (A : Around) (i : Nat) (s : Shared) (Q : Value → Shared → Prop) (E : Value → Shared → Prop), tn i s.heap → Q (.ref it) s → wpAny (model P w) A (pyIter (.ref it)) Q E s
abbrev TI := St → Hp → (It → Hp → Prop) → Prop
def PIE (X : Cx) (pins : List (Addr × Obj)) (σ : St) (tg : Expr) (R : It → Hp → Prop) (itv : Value) (s2 : Shared) : Prop :=
 ∃ (it : Addr) (fp : List Addr) (tn : Nat → Heap → Prop) (J : It) (H' : Hp), itv = .ref it ∧ Inv X pins σ H' s2 ∧ Turn X.prog X.w X.K tg J fp it tn ∧ tn 0 s2.heap ∧ (∀ b ∈ fp, FpOk X pins H' b) ∧ R J H'
def PI (X : Cx) (tg iter : Expr) (wi : TI) : Prop :=
 ∀ (pins : List (Addr × Obj)) (s : Shared) (σ : St) (H : Hp) (R : It → Hp → Prop), Inv X pins σ H s → wi σ H R →
  wpAny (model X.prog X.w) X.A (eval iter X.env) (fun v s1 => wpAny (model X.prog X.w) X.A (pyIter v) (PIE X pins σ tg R) X.xe s1) X.xe s
theorem go_of {M : Model} {A : Around} {E : Value → Shared → Prop} {s : Shared} {tg : Expr} {it : Addr} {u : Value} {o : Obj} {n : String} {vs : Array Value} {Q : Unit → Shared → Prop} (ho : s.heap.get? it = some o) (hc : o.cls = .type n) (hd : o.data = .fields vs)
    (hn : ["enumerate", "zip", "dict_itemiterator", "dict_reverseitemiterator", "odict_iterator", "itertools.zip_longest", "itertools.pairwise"].contains n = false) (hQ : Q () s) : wpAny M A (letOwnedTupleGo tg (.ref it) u) Q E s := by
  unfold letOwnedTupleGo
  cases tg <;> first
    | exact wpAny_pure hQ
    | (cases u <;> first
        | exact wpAny_pure hQ
        | (refine wpAny_bind (wpAny_load ho ?_)
           rw [hc, hd]
           show wpAny M A (if (["enumerate", "zip", "dict_itemiterator", "dict_reverseitemiterator", "odict_iterator", "itertools.zip_longest", "itertools.pairwise"].contains n && vs[0]? == some (rawInt _)) = true then _ else _) Q E s
           rw [if_neg (by intro h; rw [hn, Bool.false_and] at h; cases h)]
           exact wpAny_pure hQ))
def Itl (K : PySem.W.Frag) (a : Addr) : It :=
 ⟨fun i H => ∃ xs x, SqL K H a xs ∧ xs[i]? = some x, fun i H x H' => H' = H ∧ ∀ xs, SqL K H a xs → xs[i]? = some x, fun i H => ∃ xs, SqL K H a xs ∧ xs.length ≤ i⟩
def Itt (K : PySem.W.Frag) (a : Addr) : It :=
 ⟨fun i H => ∃ xs x, SqT K H a xs ∧ xs[i]? = some x, fun i H x H' => H' = H ∧ ∀ xs, SqT K H a xs → xs[i]? = some x, fun i H => ∃ xs, SqT K H a xs ∧ xs.length ≤ i⟩
def Itr (lo : Int) (n : Nat) : It := ⟨fun i _ => i < n, fun i H x H' => H' = H ∧ x = .int (lo + i), fun i _ => n ≤ i⟩
theorem turn_list {P : Program} {w : World} {K : PySem.W.Frag} {tg : Expr} (a it : Addr) : Turn P w K tg (Itl K a) [it] it (fun i h => h.IsListIter it a i) where
 mem := by simp
 obj := fun i h st b hb => by
  have e : b = it := by simpa using hb
  subst e
  obtain ⟨o, e, c, d⟩ := st
  exact ⟨o, e, fun v z => by rw [d] at z; cases z⟩
 keep := fun i h h' st k => st.at fun o e => k it (by simp) o e
 item := by
  intro X hP hw hK hc i pins s σ H E I hf st hg
  subst hP hw hK
  obtain ⟨xs, x, hq, hx⟩ := hg
  obtain ⟨its, rv, p, hz⟩ := I.list hq
  obtain ⟨u, hu, ru⟩ := rv.get hx
  obtain ⟨f0, f1, f2, f3, f4, f5⟩ := hf it (by simp)
  refine wpAny_pyNext_list_item st p.isList (x := u) (by simpa using hu) fun h' st' sb => ?_
  have I1 : Inv X pins σ H { s with heap := h' } := I.turned (t' := s.toks) (fun b o hb e => (sb.2 b hb).trans e) f0 f1 f3 f4 f5
  obtain ⟨o, e, c, d⟩ := id st'
  exact ⟨u, rfl, go_of (s := { s with heap := h' }) e c d (by decide) ⟨x, H, I1, ru, ⟨rfl, fun ys hy => by rw [I.list_inj hy hq]; exact hx⟩, st', fun b hb => (hf b hb).1⟩⟩
 done := by
  intro X hP hw hK hc i pins s σ H E I hf st hg
  subst hP hw hK
  obtain ⟨xs, hq, hx⟩ := hg
  obtain ⟨its, rv, p, hz⟩ := I.list hq
  obtain ⟨f0, f1, f2, f3, f4, f5⟩ := hf it (by simp)
  have hl := rv.length
  exact wpAny_pyNext_list_end (I.ok.hd hc) st p.isList (by simp; omega) fun h' eb => ⟨rfl, I.turned (t' := s.toks) (fun b o hb e => eb b o hb e) f0 f1 f3 f4 f5⟩
 self := fun _ _ _ _ _ st h => wpAny_pyIter_listiter st h
theorem turn_tuple {P : Program} {w : World} {K : PySem.W.Frag} {tg : Expr} (a it : Addr) : Turn P w K tg (Itt K a) [it] it (fun i h => h.IsTupleIter it a i) where
 mem := by simp
 obj := fun i h st b hb => by
  have e : b = it := by simpa using hb
  subst e
  obtain ⟨o, e, c, d⟩ := st
  exact ⟨o, e, fun v z => by rw [d] at z; cases z⟩
 keep := fun i h h' st k => st.at fun o e => k it (by simp) o e
 item := by
  intro X hP hw hK hc i pins s σ H E I hf st hg
  subst hP hw hK
  obtain ⟨xs, x, hq, hx⟩ := hg
  obtain ⟨its, rv, p, hz⟩ := I.tuple hq
  obtain ⟨u, hu, ru⟩ := rv.get hx
  obtain ⟨f0, f1, f2, f3, f4, f5⟩ := hf it (by simp)
  refine wpAny_pyNext_tuple_item st (show s.heap.IsTuple a its.toArray from p) (x := u) (by simpa using hu) fun h' st' sb => ?_
  have I1 : Inv X pins σ H { s with heap := h' } := I.turned (t' := s.toks) (fun b o hb e => (sb.2 b hb).trans e) f0 f1 f3 f4 f5
  obtain ⟨o, e, c, d⟩ := id st'
  exact ⟨u, rfl, go_of (s := { s with heap := h' }) e c d (by decide) ⟨x, H, I1, ru, ⟨rfl, fun ys hy => by rw [I.tuple_inj hy hq]; exact hx⟩, st', fun b hb => (hf b hb).1⟩⟩
 done := by
  intro X hP hw hK hc i pins s σ H E I hf st hg
  subst hP hw hK
  obtain ⟨xs, hq, hx⟩ := hg
  obtain ⟨its, rv, p, hz⟩ := I.tuple hq
  obtain ⟨f0, f1, f2, f3, f4, f5⟩ := hf it (by simp)
  have hl := rv.length
  exact wpAny_pyNext_tuple_end (I.ok.hd hc) st (show s.heap.IsTuple a its.toArray from p) (by simp; omega) fun h' eb => ⟨rfl, I.turned (t' := s.toks) (fun b o hb e => eb b o hb e) f0 f1 f3 f4 f5⟩
 self := fun _ _ _ _ _ st h => wpAny_pyIter_tupleiter st h
theorem turn_range {P : Program} {w : World} {K : PySem.W.Frag} {tg : Expr} (it : Addr) (lo : Int) (n : Nat) : Turn P w K tg (Itr lo n) [it] it (fun i h => IsRangeIter h it (lo + (i : Nat) * 1) ((n : Int) - (i : Nat)) 1) where
 mem := by simp
 obj := fun i h st b hb => by
  have e : b = it := by simpa using hb
  subst e
  exact ⟨_, st, fun v z => by
   have z' : Data.fields _ = Data.cell v := z
   cases z'⟩
 keep := fun i h h' st k => k it (by simp) _ st
 item := by
  intro X hP hw hK hc i pins s σ H E I hf st hg
  subst hP hw hK
  obtain ⟨f0, f1, f2, f3, f4, f5⟩ := hf it (by simp)
  have W := Walks.range (prog := X.prog) (w := X.w) (I.ok.hd hc) it lo 1 n
  refine W.item i s _ _ hg st fun v h' tk hv st' kk => ?_
  obtain ⟨t, rfl⟩ := hv
  have I1 : Inv X pins σ H { s with heap := h', toks := tk } := I.turned (fun b o hb e => kk b o (by simpa using hb) e) f0 f1 f3 f4 f5
  refine ⟨_, rfl, go_of (s := { s with heap := h', toks := tk }) (n := "range_iterator") st' rfl rfl (by decide) ⟨.int (lo + i), H, I1, ⟨t, ?_⟩, ⟨rfl, rfl⟩, st', fun b hb => (hf b hb).1⟩⟩
  rw [Int.mul_one]
 done := by
  intro X hP hw hK hc i pins s σ H E I hf st hg
  subst hP hw hK
  obtain ⟨f0, f1, f2, f3, f4, f5⟩ := hf it (by simp)
  exact wpAny_pyNext_range_end (I.ok.hd hc) st (by have : n ≤ i := hg; omega) fun h' eb => ⟨rfl, I.turned (t' := s.toks) (fun b o hb e => eb b o hb e) f0 f1 f3 f4 f5⟩
 self := fun _ _ _ _ _ st h => wpAny_pyIter_rangeiter st h
end L2
namespace L2
open PySem PySem.Spec PyProof.Rows
section
variable {X : Cx} {tg : Expr}
def iList (K : PySem.W.Frag) (tl : TE) : TI := fun σ H R => tl σ H fun x H1 => ∃ a, x = .ref a ∧ (∃ xs, SqL K H1 a xs) ∧ R (Itl K a) H1
def iTup (K : PySem.W.Frag) (tl : TE) : TI := fun σ H R => tl σ H fun x H1 => ∃ a, x = .ref a ∧ (∃ xs, SqT K H1 a xs) ∧ R (Itt K a) H1
theorem pi_list {l : Expr} {tl : TE} (hl : PE X l tl) : PI X tg l (iList X.K tl) := by
 intro pins s σ H R I h
 refine thn (hl pins s σ H _ I h) fun v s1 ⟨x, H1, I1, r1, q1⟩ => ?_
 obtain ⟨a, e, ⟨xs, hq⟩, q⟩ := q1
 subst e
 cases r1
 obtain ⟨its, rv, p, hz⟩ := I1.list hq
 refine wpAny_pyIter_list p.isList ?_
 refine ⟨s1.heap.objs.size, [s1.heap.objs.size], _, _, H1, rfl, I1.kept (t' := s1.toks) fun b o e => Heap.get?_push_of_some _ e, turn_list a _, ⟨_, Heap.get?_push_size _ rfl, rfl, rfl⟩, fun b hb => ?_, q⟩
 have e : b = s1.heap.objs.size := by simpa using hb
 subst e
 exact I1.fpOk (Nat.le_refl _) (I1.hok.fresh (Nat.le_refl _))
theorem pi_tup {l : Expr} {tl : TE} (hl : PE X l tl) : PI X tg l (iTup X.K tl) := by
 intro pins s σ H R I h
 refine thn (hl pins s σ H _ I h) fun v s1 ⟨x, H1, I1, r1, q1⟩ => ?_
 obtain ⟨a, e, ⟨xs, hq⟩, q⟩ := q1
 subst e
 cases r1
 obtain ⟨its, rv, p, hz⟩ := I1.tuple hq
 refine wpAny_pyIter_tuple (show s1.heap.IsTuple a its.toArray from p) ?_
 refine ⟨s1.heap.objs.size, [s1.heap.objs.size], _, _, H1, rfl, I1.kept (t' := s1.toks) fun b o e => Heap.get?_push_of_some _ e, turn_tuple a _, ⟨_, Heap.get?_push_size _ rfl, rfl, rfl⟩, fun b hb => ?_, q⟩
 have e : b = s1.heap.objs.size := by simpa using hb
 subst e
 exact I1.fpOk (Nat.le_refl _) (I1.hok.fresh (Nat.le_refl _))
theorem range_it {pins : List (Addr × Obj)} {σ : St} {H : Hp} {s : Shared} {R : It → Hp → Prop} {E : Value → Shared → Prop} {lo hi : Int} {t u v : Tok} {tk : Nat} (I : Inv X pins σ H s) (h1 : -(2 ^ 62) ≤ lo) (h2 : lo < 2 ^ 62) (h3 : -(2 ^ 62) ≤ hi) (h4 : hi < 2 ^ 62)
  (q : R (Itr lo (hi - lo).toNat) H) : wpAny (model X.prog X.w) X.A (pyIter (.ref s.heap.objs.size)) (PIE X pins σ tg R) E { s with heap := s.heap.push { cls := .type "range", data := .fields #[.int lo t, .int hi u, .int 1 v] }, toks := tk } := by
 refine wpAny_pyIter_range (IsRange.new ..) (small_one h1 h2 h3 h4) ?_
 have I1 : Inv X pins σ H { s with heap := s.heap.push { cls := .type "range", data := .fields #[.int lo t, .int hi u, .int 1 v] }, toks := tk } := I.kept fun b o e => Heap.get?_push_of_some _ e
 refine ⟨(s.heap.push { cls := .type "range", data := .fields #[.int lo t, .int hi u, .int 1 v] }).objs.size, [(s.heap.push { cls := .type "range", data := .fields #[.int lo t, .int hi u, .int 1 v] }).objs.size], _, _, H, rfl,
  I1.kept (t' := tk) fun b o e => Heap.get?_push_of_some _ e, turn_range _ lo (hi - lo).toNat, ?_, fun b hb => ?_, q⟩
 ·have e1 : lo + ((0 : Nat) : Int) * 1 = lo := by simp
  have e2 : (((hi - lo).toNat : Nat) : Int) - ((0 : Nat) : Int) = Builtin.Range.rangeSize lo hi 1 := by rw [rangeSize_one]; split <;> omega
  show IsRangeIter _ _ (lo + ((0 : Nat) : Int) * 1) ((((hi - lo).toNat : Nat) : Int) - ((0 : Nat) : Int)) 1
  rw [e1, e2]
  exact Heap.get?_push_size _ rfl
 ·have e : b = (s.heap.push { cls := .type "range", data := .fields #[.int lo t, .int hi u, .int 1 v] }).objs.size := by simpa using hb
  subst e
  exact I1.fpOk (Nat.le_refl _) (I1.hok.fresh (Nat.le_refl _))
def iRng1 (ta : TA) : TI := fun σ H R => ta σ H fun vs H1 => ∃ j : Int, vs = [.int j] ∧ -(2 ^ 62) ≤ j ∧ j < 2 ^ 62 ∧ R (Itr 0 j.toNat) H1
theorem pi_range1 {a : Expr} {ta : TA} {p pos : Pos} (hg : Gl X "range") (hm : X.mg "range" = none) (ha : PA X [a] ta) (hs : starEach [a] X.env = [(false, eval a X.env)] := by rfl) : PI X tg (.Call (.Name "range" p) [a] [] pos) (iRng1 ta) := by
 intro pins s σ H R I h
 refine Call_ (ld_blt I hg hm boot_range (PyProof.Rows.callWith_type1 (thn (ha pos pins s σ H _ I h) fun us s1 ⟨vs, H1, I1, r1, q1⟩ => ?_) hs rfl))
 obtain ⟨j, e, q1, q2, q⟩ := q1
 subst e
 cases r1 with
 | cons r rr =>
  cases rr
  obtain ⟨t, rfl⟩ := r
  exact call_range_1 (range_it I1 (by omega) (by omega) q1 q2 (by simpa using q))
def tFor (wi : TI) (g : TG) (tb : TS) : TS := fun D σ H => wi σ H fun J H1 => ∃ W : Nat → Nat → St → Hp → Prop, (∃ m, W 0 m σ H1) ∧ ∀ i m σ H, W i m σ H →
 (J.stop i H ∧ D.nx σ H) ∨ (J.go i H ∧ ∃ N : St → Hp → Prop, (∀ σ' H', N σ' H' → ∃ m', m' < m ∧ W (i + 1) m' σ' H') ∧ ∀ x H', J.yld i H x H' → g x σ H' fun σ2 H2 => tb { D with nx := N, ct := N, bk := D.nx } σ2 H2)
def pinsAt (fp : List Addr) (h : Heap) : List (Addr × Obj) := fp.filterMap fun b => (h.get? b).map fun o => (b, o)
theorem mem_pinsAt {fp : List Addr} {h : Heap} {b : Addr} {o : Obj} (hb : b ∈ fp) (e : h.get? b = some o) : (b, o) ∈ pinsAt fp h := List.mem_filterMap.mpr ⟨b, hb, by rw [e]; rfl⟩
theorem of_pinsAt {fp : List Addr} {h : Heap} {p : Addr × Obj} (hp : p ∈ pinsAt fp h) : p.1 ∈ fp ∧ h.get? p.1 = some p.2 := by
 obtain ⟨b, hb, e⟩ := List.mem_filterMap.mp hp
 cases q : h.get? b with
 | none => rw [q] at e; cases e
 | some o =>
  rw [q] at e
  have e' : (b, o) = p := Option.some.inj e
  subst e'
  exact ⟨hb, q⟩
theorem Inv.pinned {pins : List (Addr × Obj)} {σ : St} {H : Hp} {s : Shared} {fp : List Addr} (I : Inv X pins σ H s) (hf : ∀ b ∈ fp, FpOk X pins H b) (ho : ∀ b ∈ fp, ∃ o, s.heap.get? b = some o ∧ ∀ v, o.data ≠ .cell v) : Inv X (pins ++ pinsAt fp s.heap) σ H s :=
 I.pins_of fun p hp => (List.mem_append.mp hp).elim (fun z => I.pin p (List.mem_append_right _ z)) fun z => by
  obtain ⟨hb, e⟩ := of_pinsAt z
  obtain ⟨f0, f1, f2, _⟩ := hf p.1 hb
  obtain ⟨o, e', d⟩ := ho p.1 hb
  rw [e] at e'; cases e'
  exact ⟨e, f0, f1, f2, d⟩
theorem Inv.unpinned {pins pl : List (Addr × Obj)} {σ : St} {H : Hp} {s : Shared} (I : Inv X (pins ++ pl) σ H s) : Inv X pins σ H s := I.pins_of fun p hp => I.pin p (List.mem_append_right _ (List.mem_append_left _ hp))
theorem ps_for {iter : Expr} {body : List Stmt} {wi : TI} {g : TG} {tb : TS} {pos : Pos} (hp : PassesOwn (model X.prog X.w) X.A X.env X.xe) (hc : X.calm = true) (hi : PI X tg iter wi) (hg : PG X tg g) (hb : PSs X body tb)
  (hs : ∀ x, foldedSetIterable iter X.env x = pure x := by intro _; rfl) : PS X (.For tg iter body [] pos) (tFor wi g tb) := by
 intro pins s σ H D I h
 refine wpAny_For (thn (hi pins s σ H _ I h) fun v s1 h1 => thn h1 fun itv s2 h2 => ?_) hs
 obtain ⟨it, fp, tn, J, H2, e, I2, T, st2, f2, W, ⟨m0, w0⟩, turn⟩ := h2
 subst e
 have stat : ∀ {H' : Hp}, (∀ b ∈ fp, H' b = none) → ∀ b ∈ fp, FpOk X pins H' b := fun hn b hb => ⟨hn b hb, (f2 b hb).2⟩
 refine codeAny_forLoop_any (fun n s' => ∃ i σ' H', Inv X pins σ' H' s' ∧ tn i s'.heap ∧ (∀ b ∈ fp, H' b = none) ∧ W i n σ' H') ?_ m0 ⟨0, σ, H2, I2, st2, fun b hb => (f2 b hb).1, w0⟩
 rintro n s3 ⟨i, σ3, H3, I3, st3, fr3, w3⟩
 rcases turn i n σ3 H3 w3 with ⟨stop, qn⟩ | ⟨go, N, hN, step⟩
 ·refine wpAny_passesOwn hp (thn (T.done X rfl rfl rfl hc i pins s3 σ3 H3 X.xe I3 (stat fr3) st3 stop) fun r s4 ⟨hr, I4⟩ => ?_)
  subst hr
  exact wpAny_execs_nil ⟨σ3, H3, I4, qn⟩
 ·refine wpAny_passesOwn hp (thn (T.item X rfl rfl rfl hc i pins s3 σ3 H3 X.xe I3 (stat fr3) st3 go) fun r s4 ⟨u, hr, h4⟩ => ?_)
  subst hr
  refine wpAny_passesOwn hp (thn h4 fun _ s5 ⟨x, H5, I5, r5, y5, st5, fr5⟩ => ?_)
  have I5' := I5.pinned (stat fr5) (T.obj _ _ st5)
  refine wpAny_passesOwn hp (thn (hg _ s5 σ3 H5 x u _ I5' r5 (step x H5 y5)) fun _ s6 ⟨σ6, H6, I6, q6⟩ => ?_)
  refine wpAny_passesOwn hp (thn (hb _ s6 σ6 H6 _ I6 q6) fun f s7 q7 => ?_)
  have again : ∀ {σ7 : St} {H7 : Hp}, Inv X (pins ++ pinsAt fp s5.heap) σ7 H7 s7 → N σ7 H7 → ∃ m, m < n ∧ ∃ i σ' H', Inv X pins σ' H' s7 ∧ tn i s7.heap ∧ (∀ b ∈ fp, H' b = none) ∧ W i m σ' H' := fun {σ7 H7} I7 n7 => by
   obtain ⟨m', hm, w7⟩ := hN σ7 H7 n7
   refine ⟨m', hm, i + 1, σ7, H7, I7.unpinned, T.keep _ _ _ st5 fun b hb o e => (I7.pin (b, o) (List.mem_append_right _ (List.mem_append_right _ (mem_pinsAt hb e)))).1, fun b hb => ?_, w7⟩
   obtain ⟨o, e, d⟩ := T.obj _ _ st5 b hb
   exact (I7.pin (b, o) (List.mem_append_right _ (List.mem_append_right _ (mem_pinsAt hb e)))).2.1
  cases f with
  | next => obtain ⟨σ7, H7, I7, n7⟩ := q7; exact again I7 n7
  | cont => obtain ⟨σ7, H7, I7, n7⟩ := q7; exact again I7 n7
  | brk => obtain ⟨σ7, H7, I7, q7⟩ := q7; exact ⟨σ7, H7, I7.unpinned, q7⟩
  | ret v => obtain ⟨x7, σ7, H7, I7, r7, q7⟩ := q7; exact ⟨x7, σ7, H7, I7.unpinned, r7, q7⟩
end
theorem for_list {K : PySem.W.Frag} {a : Addr} {xs : List V} {g : TG} {tb : TS} {D : Ends} {σ : St} {H : Hp} (Pv : Nat → St → Hp → Prop) (h0 : Pv 0 σ H) (hl : ∀ i σ H, i ≤ xs.length → Pv i σ H → SqL K H a xs)
  (hs : ∀ i x σ H, xs[i]? = some x → Pv i σ H → g x σ H fun σ2 H2 => tb { D with nx := Pv (i + 1), ct := Pv (i + 1), bk := D.nx } σ2 H2) (hd : ∀ σ H, Pv xs.length σ H → D.nx σ H) :
  ∃ W : Nat → Nat → St → Hp → Prop, (∃ m, W 0 m σ H) ∧ ∀ i m σ H, W i m σ H →
   ((Itl K a).stop i H ∧ D.nx σ H) ∨ ((Itl K a).go i H ∧ ∃ N : St → Hp → Prop, (∀ σ' H', N σ' H' → ∃ m', m' < m ∧ W (i + 1) m' σ' H') ∧ ∀ x H', (Itl K a).yld i H x H' → g x σ H' fun σ2 H2 => tb { D with nx := N, ct := N, bk := D.nx } σ2 H2) := by
 refine ⟨fun i m σ H => m = xs.length - i ∧ i ≤ xs.length ∧ Pv i σ H, ⟨xs.length, by simp, Nat.zero_le _, h0⟩, ?_⟩
 rintro i m σ H ⟨rfl, hi, p⟩
 have q := hl i σ H hi p
 by_cases hlt : i < xs.length
 ·refine .inr ⟨⟨xs, xs[i], q, by simp [hlt]⟩, Pv (i + 1), fun σ' H' p' => ⟨xs.length - (i + 1), by omega, rfl, hlt, p'⟩, fun x H' y => ?_⟩
  obtain ⟨e, y⟩ := y
  subst e
  exact hs i x σ _ (y xs q) p
 ·have e : i = xs.length := by omega
  subst e
  exact .inl ⟨⟨xs, q, Nat.le_refl _⟩, hd σ H p⟩
theorem for_tup {K : PySem.W.Frag} {a : Addr} {xs : List V} {g : TG} {tb : TS} {D : Ends} {σ : St} {H : Hp} (Pv : Nat → St → Hp → Prop) (h0 : Pv 0 σ H) (hl : ∀ i σ H, i ≤ xs.length → Pv i σ H → SqT K H a xs)
  (hs : ∀ i x σ H, xs[i]? = some x → Pv i σ H → g x σ H fun σ2 H2 => tb { D with nx := Pv (i + 1), ct := Pv (i + 1), bk := D.nx } σ2 H2) (hd : ∀ σ H, Pv xs.length σ H → D.nx σ H) :
  ∃ W : Nat → Nat → St → Hp → Prop, (∃ m, W 0 m σ H) ∧ ∀ i m σ H, W i m σ H →
   ((Itt K a).stop i H ∧ D.nx σ H) ∨ ((Itt K a).go i H ∧ ∃ N : St → Hp → Prop, (∀ σ' H', N σ' H' → ∃ m', m' < m ∧ W (i + 1) m' σ' H') ∧ ∀ x H', (Itt K a).yld i H x H' → g x σ H' fun σ2 H2 => tb { D with nx := N, ct := N, bk := D.nx } σ2 H2) := by
 refine ⟨fun i m σ H => m = xs.length - i ∧ i ≤ xs.length ∧ Pv i σ H, ⟨xs.length, by simp, Nat.zero_le _, h0⟩, ?_⟩
 rintro i m σ H ⟨rfl, hi, p⟩
 have q := hl i σ H hi p
 by_cases hlt : i < xs.length
 ·refine .inr ⟨⟨xs, xs[i], q, by simp [hlt]⟩, Pv (i + 1), fun σ' H' p' => ⟨xs.length - (i + 1), by omega, rfl, hlt, p'⟩, fun x H' y => ?_⟩
  obtain ⟨e, y⟩ := y
  subst e
  exact hs i x σ _ (y xs q) p
 ·have e : i = xs.length := by omega
  subst e
  exact .inl ⟨⟨xs, q, Nat.le_refl _⟩, hd σ H p⟩
theorem for_range {lo : Int} {n : Nat} {g : TG} {tb : TS} {D : Ends} {σ : St} {H : Hp} (Pv : Nat → St → Hp → Prop) (h0 : Pv 0 σ H)
  (hs : ∀ i σ H, i < n → Pv i σ H → g (.int (lo + i)) σ H fun σ2 H2 => tb { D with nx := Pv (i + 1), ct := Pv (i + 1), bk := D.nx } σ2 H2) (hd : ∀ σ H, Pv n σ H → D.nx σ H) :
  ∃ W : Nat → Nat → St → Hp → Prop, (∃ m, W 0 m σ H) ∧ ∀ i m σ H, W i m σ H →
   ((Itr lo n).stop i H ∧ D.nx σ H) ∨ ((Itr lo n).go i H ∧ ∃ N : St → Hp → Prop, (∀ σ' H', N σ' H' → ∃ m', m' < m ∧ W (i + 1) m' σ' H') ∧ ∀ x H', (Itr lo n).yld i H x H' → g x σ H' fun σ2 H2 => tb { D with nx := N, ct := N, bk := D.nx } σ2 H2) := by
 refine ⟨fun i m σ H => m = n - i ∧ i ≤ n ∧ Pv i σ H, ⟨n, by simp, Nat.zero_le _, h0⟩, ?_⟩
 rintro i m σ H ⟨rfl, hi, p⟩
 by_cases hlt : i < n
 ·refine .inr ⟨hlt, Pv (i + 1), fun σ' H' p' => ⟨n - (i + 1), by omega, rfl, hlt, p'⟩, fun x H' y => ?_⟩
  obtain ⟨e, y⟩ := y
  subst e y
  exact hs i σ _ hlt p
 ·have e : i = n := by omega
  subst e
  exact .inl ⟨Nat.le_refl _, hd σ H p⟩
end L2
namespace L2
open PySem PySem.Spec PyProof.Rows
abbrev R2 := V → V → Hp → VK → Prop
def OpR (X : Cx) (f : Value → Value → Sem Value) (r : R2) : Prop :=
 ∀ (pins : List (Addr × Obj)) (s : Shared) (σ : St) (H : Hp) (x y : V) (v u : Value) (Q : VK), Inv X pins σ H s → RelV x v → RelV y u → r x y H Q →
  wpAny (model X.prog X.w) X.A (f v u) (EP X pins σ Q) X.xe s
def CallR (X : Cx) (f : Value) (r : List V → Hp → VK → Prop) : Prop :=
 ∀ (pins : List (Addr × Obj)) (s : Shared) (σ : St) (H : Hp) (xs : List V) (us : List Value) (Q : VK), Inv X pins σ H s → Vals xs us → r xs H Q →
  wpAny (model X.prog X.w) X.A (call f us) (EP X pins σ Q) X.xe s
def tOp (r : R2) (ta tb : TE) : TE := fun σ H Q => ta σ H fun x H1 => tb σ H1 fun y H2 => r x y H2 Q
def rI (C : Int → Int → Prop) (g : Int → Int → V) : R2 := fun x y H Q => ∃ i j, x = .int i ∧ y = .int j ∧ C i j ∧ Q (g i j) H
def rI0 (g : Int → Int → V) : R2 := fun x y H Q => ∃ i j, x = .int i ∧ y = .int j ∧ Q (g i j) H
section
variable {X : Cx} {a b c : Expr} {ta tb tc : TE} {pos : Pos}
theorem binT (ha : PE X a ta) (hb : PE X b tb) {pins : List (Addr × Obj)} {s : Shared} {σ : St} {H : Hp} {R : V → V → Hp → Prop} (I : Inv X pins σ H s)
  (h : ta σ H fun x H1 => tb σ H1 fun y H2 => R x y H2) {Q : Value → Shared → Prop} {f : Value → Value → Sem Value}
  (hf : ∀ v u s2 x y H2, Inv X pins σ H2 s2 → RelV x v → RelV y u → R x y H2 → wpAny (model X.prog X.w) X.A (f v u) Q X.xe s2) :
  wpAny (model X.prog X.w) X.A (eval a X.env) (fun v s₁ => wpAny (model X.prog X.w) X.A (eval b X.env) (fun u s₂ => wpAny (model X.prog X.w) X.A (f v u) Q X.xe s₂) X.xe s₁) X.xe s := by
 refine thn (ha pins s σ H _ I h) fun v s1 ⟨x, H1, I1, r1, q1⟩ => ?_
 refine thn (hb pins s1 σ H1 _ I1 q1) fun u s2 ⟨y, H2, I2, r2, q2⟩ => ?_
 exact hf v u s2 x y H2 I2 r1 r2 q2
theorem pe_op {op : Operator} {r : R2} (ho : OpR X (binaryOp op) r) (ha : PE X a ta) (hb : PE X b tb) : PE X (.BinOp a op b pos) (tOp r ta tb) := by
 intro pins s σ H Q I h
 exact wpAny_BinOp (binT ha hb I h fun v u s2 x y H2 I2 rx ry q => ho pins s2 σ H2 x y v u Q I2 rx ry q)
theorem opI {f : Value → Value → Sem Value} {C : Int → Int → Prop} {g : Int → Int → Int}
  (rule : ∀ (i j : Int) (t u : Tok) (s : Shared) (Q : Value → Shared → Prop) (E : Value → Shared → Prop), C i j → Q (.int (g i j) s.toks) { s with toks := s.toks + 1 } → wpAny (model X.prog X.w) X.A (f (.int i t) (.int j u)) Q E s) :
  OpR X f (rI C fun i j => .int (g i j)) := by
 intro pins s σ H x y v u Q I rx ry h
 obtain ⟨i, j, rfl, rfl, hc, q⟩ := h
 obtain ⟨t, rfl⟩ := rx
 obtain ⟨t', rfl⟩ := ry
 exact rule i j t t' s _ _ hc ⟨.int (g i j), H, I.tok _, ⟨_, rfl⟩, q⟩
theorem opI0 {f : Value → Value → Sem Value} {g : Int → Int → Int}
  (rule : ∀ (i j : Int) (t u : Tok) (s : Shared) (Q : Value → Shared → Prop) (E : Value → Shared → Prop), Q (.int (g i j) s.toks) { s with toks := s.toks + 1 } → wpAny (model X.prog X.w) X.A (f (.int i t) (.int j u)) Q E s) :
  OpR X f (rI0 fun i j => .int (g i j)) := by
 intro pins s σ H x y v u Q I rx ry h
 obtain ⟨i, j, rfl, rfl, q⟩ := h
 obtain ⟨t, rfl⟩ := rx
 obtain ⟨t', rfl⟩ := ry
 exact rule i j t t' s _ _ ⟨.int (g i j), H, I.tok _, ⟨_, rfl⟩, q⟩
theorem opB0 {f : Value → Value → Sem Value} {g : Int → Int → Bool}
  (rule : ∀ (i j : Int) (t u : Tok) (s : Shared) (Q : Value → Shared → Prop) (E : Value → Shared → Prop), Q (.bool (g i j)) s → wpAny (model X.prog X.w) X.A (f (.int i t) (.int j u)) Q E s) :
  OpR X f (rI0 fun i j => .bl (g i j)) := by
 intro pins s σ H x y v u Q I rx ry h
 obtain ⟨i, j, rfl, rfl, q⟩ := h
 obtain ⟨t, rfl⟩ := rx
 obtain ⟨t', rfl⟩ := ry
 exact rule i j t t' s _ _ ⟨.bl (g i j), H, I, rfl, q⟩
def CPow (i j : Int) : Prop := 0 ≤ j ∧ j ≤ 1000000 ∧ i.natAbs < 2 ^ 64
def CMul (i j : Int) : Prop := (-(2 ^ 64) < i ∧ i < 2 ^ 64) ∨ (-(2 ^ 64) < j ∧ j < 2 ^ 64)
theorem CMul.ok {i j : Int} (h : CMul i j) : IntMulOk i j := by
 rcases h with ⟨h1, h2⟩ | ⟨h1, h2⟩
 ·exact .of_left (intBits_le_64 h1 h2)
 ·exact .of_right (intBits_le_64 h1 h2)
theorem op_add : OpR X (binaryOp .Add) (rI0 fun i j => .int (i + j)) := opI0 fun _ _ _ _ _ _ _ q => add_int q
theorem op_sub : OpR X (binaryOp .Sub) (rI0 fun i j => .int (i - j)) := opI0 fun _ _ _ _ _ _ _ q => sub_int q
theorem op_mul : OpR X (binaryOp .Mult) (rI CMul fun i j => .int (i * j)) := opI fun _ _ _ _ _ _ _ hc q => mul_int q hc.ok
theorem op_mod : OpR X (binaryOp .Mod) (rI (fun _ j => 0 < j) fun i j => .int (i % j)) := opI fun i j _ _ _ _ _ hc q => by
 have h1 : (0 : Int) < j := hc
 exact mod_int' (by omega) (by rw [Int.fmod_eq_emod_of_nonneg i (by omega)]; exact q)
theorem op_pow : OpR X (binaryOp .Pow) (rI CPow fun i j => .int (i ^ j.toNat)) := opI fun _ _ _ _ _ _ _ hc q => pow_int_small hc.1 hc.2.1 hc.2.2 q
end
def scal : V → V → Bool
 | .non, .non => true | .non, .int _ => true | .int _, .non => true | .non, .bl _ => true | .bl _, .non => true | .non, .str _ => true | .str _, .non => true
 | .int _, .int _ => true | .bl _, .bl _ => true | .str _, .str _ => true | .byt _, .byt _ => true
 | .int _, .str _ => true | .str _, .int _ => true | .bl _, .str _ => true | .str _, .bl _ => true
 | _, _ => false
def rEq : R2 := fun x y H Q => scal x y = true ∧ Q (.bl (decide (x = y))) H
def rNe : R2 := fun x y H Q => scal x y = true ∧ Q (.bl (!decide (x = y))) H
theorem dec_int {i j : Int} : decide (V.int i = V.int j) = (i == j) := by
 rw [Bool.eq_iff_iff]
 simp
theorem dec_bl {i j : Bool} : decide (V.bl i = V.bl j) = (i == j) := by
 rw [Bool.eq_iff_iff]
 simp
theorem dec_str {i j : Str} : decide (V.str i = V.str j) = (i == j) := by
 rw [Bool.eq_iff_iff]
 simp
theorem dec_byt {i j : Array UInt8} : decide (V.byt i = V.byt j) = (i.toList == j.toList) := by
 rw [Bool.eq_iff_iff]
 cases i
 cases j
 simp
section
variable {X : Cx} {a b c : Expr} {ta tb tc : TE} {pos : Pos}
theorem fin_bl {pins : List (Addr × Obj)} {σ : St} {H : Hp} {s : Shared} {Q : VK} {k k' : Bool} (I : Inv X pins σ H s) (q : Q (.bl k) H) (e : k = k') : EP X pins σ Q (.bool k') s := by
 subst e
 exact ⟨.bl k, H, I, rfl, q⟩
theorem op_eq : OpR X (compareOp .Eq) rEq := by
 intro pins s σ H x y v u Q I rx ry h
 obtain ⟨hs, q⟩ := h
 cases x with
 | non =>
  cases rx
  cases y with
  | non => cases ry; exact PySem.EqNone.eq_none_none (fin_bl I q (by simp))
  | bl j => cases ry; exact PySem.EqNone.eq_none_bool (fin_bl I q (by simp))
  | int j => obtain ⟨t', rfl⟩ := ry; exact PySem.EqNone.eq_none_int (fin_bl I q (by simp))
  | str j => obtain ⟨t', rfl⟩ := ry; exact PySem.EqNone.eq_none_str (fin_bl I q (by simp))
  | _ => exact absurd (show false = true from hs) Bool.false_ne_true
 | bl i =>
  cases rx
  cases y with
  | non => cases ry; exact PySem.EqNone.eq_bool_none (fin_bl I q (by simp))
  | bl j => cases ry; exact eq_bool (fin_bl I q dec_bl)
  | str j => obtain ⟨t', rfl⟩ := ry; exact PySem.EqMixed.eq_bool_str (fin_bl I q (by simp))
  | _ => exact absurd (show false = true from hs) Bool.false_ne_true
 | int i =>
  obtain ⟨t, rfl⟩ := rx
  cases y with
  | non => cases ry; exact PySem.EqNone.eq_int_none (fin_bl I q (by simp))
  | int j => obtain ⟨t', rfl⟩ := ry; exact eq_int (fin_bl I q dec_int)
  | str j => obtain ⟨t', rfl⟩ := ry; exact PySem.EqMixed.eq_int_str (fin_bl I q (by simp))
  | _ => exact absurd (show false = true from hs) Bool.false_ne_true
 | str i =>
  obtain ⟨t, rfl⟩ := rx
  cases y with
  | non => cases ry; exact PySem.EqNone.eq_str_none (fin_bl I q (by simp))
  | bl j => cases ry; exact PySem.EqMixed.eq_str_bool (fin_bl I q (by simp))
  | int j => obtain ⟨t', rfl⟩ := ry; exact PySem.EqMixed.eq_str_int (fin_bl I q (by simp))
  | str j => obtain ⟨t', rfl⟩ := ry; exact eq_str (fin_bl I q dec_str)
  | _ => exact absurd (show false = true from hs) Bool.false_ne_true
 | byt i =>
  obtain ⟨t, rfl⟩ := rx
  cases y with
  | byt j => obtain ⟨t', rfl⟩ := ry; exact PySem.W.eq_bytes (fin_bl I q dec_byt)
  | _ => exact absurd (show false = true from hs) Bool.false_ne_true
 | _ => cases y <;> exact absurd (show false = true from hs) Bool.false_ne_true
theorem op_ne : OpR X (compareOp .NotEq) rNe := by
 intro pins s σ H x y v u Q I rx ry h
 obtain ⟨hs, q⟩ := h
 cases x with
 | non =>
  cases rx
  cases y with
  | non => cases ry; exact PySem.EqNone.ne_none_none (fin_bl I q (by simp))
  | bl j => cases ry; exact PySem.EqNone.ne_none_bool (fin_bl I q (by simp))
  | int j => obtain ⟨t', rfl⟩ := ry; exact PySem.EqNone.ne_none_int (fin_bl I q (by simp))
  | str j => obtain ⟨t', rfl⟩ := ry; exact PySem.EqNone.ne_none_str (fin_bl I q (by simp))
  | _ => exact absurd (show false = true from hs) Bool.false_ne_true
 | bl i =>
  cases rx
  cases y with
  | non => cases ry; exact PySem.EqNone.ne_bool_none (fin_bl I q (by simp))
  | bl j => cases ry; exact ne_bool (fin_bl I q (congrArg not dec_bl))
  | str j => obtain ⟨t', rfl⟩ := ry; exact PySem.EqMixed.ne_bool_str (fin_bl I q (by simp))
  | _ => exact absurd (show false = true from hs) Bool.false_ne_true
 | int i =>
  obtain ⟨t, rfl⟩ := rx
  cases y with
  | non => cases ry; exact PySem.EqNone.ne_int_none (fin_bl I q (by simp))
  | int j => obtain ⟨t', rfl⟩ := ry; exact ne_int (fin_bl I q (congrArg not dec_int))
  | str j => obtain ⟨t', rfl⟩ := ry; exact PySem.EqMixed.ne_int_str (fin_bl I q (by simp))
  | _ => exact absurd (show false = true from hs) Bool.false_ne_true
 | str i =>
  obtain ⟨t, rfl⟩ := rx
  cases y with
  | non => cases ry; exact PySem.EqNone.ne_str_none (fin_bl I q (by simp))
  | bl j => cases ry; exact PySem.EqMixed.ne_str_bool (fin_bl I q (by simp))
  | int j => obtain ⟨t', rfl⟩ := ry; exact PySem.EqMixed.ne_str_int (fin_bl I q (by simp))
  | str j => obtain ⟨t', rfl⟩ := ry; exact ne_str (fin_bl I q (congrArg not dec_str))
  | _ => exact absurd (show false = true from hs) Bool.false_ne_true
 | byt i =>
  obtain ⟨t, rfl⟩ := rx
  cases y with
  | byt j => obtain ⟨t', rfl⟩ := ry; exact PySem.W.ne_bytes (fin_bl I q (congrArg not dec_byt))
  | _ => exact absurd (show false = true from hs) Bool.false_ne_true
 | _ => cases y <;> exact absurd (show false = true from hs) Bool.false_ne_true
theorem op_lt : OpR X (compareOp .Lt) (rI0 fun i j => .bl (decide (i < j))) := opB0 fun _ _ _ _ _ _ _ q => lt_int q
theorem op_gt : OpR X (compareOp .Gt) (rI0 fun i j => .bl (decide (j < i))) := opB0 fun _ _ _ _ _ _ _ q => gt_int q
theorem op_ge : OpR X (compareOp .GtE) (rI0 fun i j => .bl (decide (j ≤ i))) := opB0 fun _ _ _ _ _ _ _ q => ge_int q
theorem op_isN : OpR X (compareOp .Is) (fun x y H Q => y = .non ∧ Q (.bl (decide (x = .non))) H) := by
 intro pins s σ H x y v u Q I rx ry h
 obtain ⟨rfl, q⟩ := h
 cases ry
 refine is_none_gen (fin_bl I q ?_)
 cases x <;> first
  | (cases rx; rfl)
  | (obtain ⟨t, rfl⟩ := rx; rfl)
theorem op_notN : OpR X (compareOp .IsNot) (fun x y H Q => y = .non ∧ Q (.bl (!decide (x = .non))) H) := by
 intro pins s σ H x y v u Q I rx ry h
 obtain ⟨rfl, q⟩ := h
 cases ry
 refine isnot_none_gen (fin_bl I q ?_)
 cases x <;> first
  | (cases rx; rfl)
  | (obtain ⟨t, rfl⟩ := rx; rfl)
theorem nomark (b : Expr) {op : CmpOp} (h : op ≠ .In := by decide) (h2 : op ≠ .NotIn := by decide) : behindInMarks op b = false := by
 have e1 : (op == CmpOp.In) = false := by cases op <;> first | rfl | exact absurd rfl h
 have e2 : (op == CmpOp.NotIn) = false := by cases op <;> first | rfl | exact absurd rfl h2
 cases b <;> simp [behindInMarks, e1, e2]
theorem pe_cmpR {op : CmpOp} {r : R2} (ho : OpR X (compareOp op) r) (ha : PE X a ta) (hb : PE X b tb) (hm : behindInMarks op b = false) : PE X (.Compare a [op] [b] pos) (tOp r ta tb) := by
 intro pins s σ H Q I h
 exact wpAny_Compare1 (binT ha hb I h fun v u s2 x y H2 I2 rx ry q => ho pins s2 σ H2 x y v u Q I2 rx ry q) hm
def tTest (t : TE) : TT := fun σ H Q => t σ H fun x H' => ∃ k, x = .bl k ∧ Q k H'
theorem pt_cmpR {op : CmpOp} {r : R2} (ho : OpR X (compareOp op) r) (ha : PE X a ta) (hb : PE X b tb) (hm : behindInMarks op b = false) : PT X (.Compare a [op] [b] pos) (tTest (tOp r ta tb)) := by
 intro pins s σ H Q I h
 refine wpAny_isTrue_Compare1 (thn (ha pins s σ H _ I h) fun v s1 ⟨x, H1, I1, r1, q1⟩ => thn (hb pins s1 σ H1 _ I1 q1) fun u s2 ⟨y, H2, I2, r2, q2⟩ =>
  thn (ho pins s2 σ H2 x y v u _ I2 r1 r2 q2) fun c s3 ⟨z, H3, I3, r3, k, e, q3⟩ => ?_) hm
 subst e
 cases r3
 exact wpAny_truthy_bool ⟨H3, I3, q3⟩
theorem line63 : (sizeLine : Nat) < 2 ^ 63 := by rw [sizeLine_eq]; decide
theorem op_add_str : OpR X (binaryOp .Add) (fun x y H Q => ∃ i j, x = .str i ∧ y = .str j ∧ i.length + j.length ≤ sizeLine ∧ Q (.str (i ++ j)) H) := by
 intro pins s σ H x y v u Q I rx ry h
 obtain ⟨i, j, rfl, rfl, hz, q⟩ := h
 obtain ⟨t, rfl⟩ := rx
 obtain ⟨t', rfl⟩ := ry
 exact add_str (fun t' tk => ⟨.str (i ++ j), H, I.tok _, ⟨_, rfl⟩, q⟩) hz
theorem vals1 {x : V} {us : List Value} (r : Vals [x] us) : ∃ u, us = [u] ∧ RelV x u := by
 cases r with
 | cons r1 r2 => cases r2; exact ⟨_, rfl, r1⟩
theorem call_int1 : CallR X (.type "int") (fun xs H Q => (∃ i, xs = [.int i] ∧ Q (.int i) H) ∨ ∃ k, xs = [.bl k] ∧ Q (.int (if k then 1 else 0)) H) := by
 intro pins s σ H xs us Q I r h
 rcases h with ⟨i, rfl, q⟩ | ⟨k, rfl, q⟩
 ·obtain ⟨u, rfl, t, rfl⟩ := vals1 r
  exact call_int_int ⟨.int i, H, I, ⟨_, rfl⟩, q⟩
 ·obtain ⟨u, rfl, r1⟩ := vals1 r
  cases r1
  exact call_int_bool ⟨.int (if k then 1 else 0), H, I.tok _, ⟨_, rfl⟩, q⟩
end
end L2
namespace L2
open PySem PySem.Spec PyProof.Rows
structure ObjM (h : Heap) (x dx C : Addr) (mA : Str → Option Value) : Prop where
 obj : h.get? x = some (PySem.W.instObj C dx)
 ns : h.Ns1 dx mA
 ne : dx ≠ x
theorem lookIn_ns {h : Heap} {dx : Addr} {mA : Str → Option Value} (n : h.Ns1 dx mA) : ∃ od, h.get? dx = some od ∧ ∀ name, PySem.W.lookIn name od = some (mA name) := by
 obtain ⟨o, es, ep, ho, hd, hk, _, hm⟩ := n
 refine ⟨o, ho, fun name => ?_⟩
 have e := hm name
 unfold nsFind findBy at e
 rw [← Array.find?_toList] at e
 unfold PySem.W.lookIn
 rw [hd]
 dsimp only
 split
 ·rename_i y q
  rw [q] at e
  exact congrArg some e
 ·rename_i q
  rw [q] at e
  have a : es.toList.any (·.refKey) = false := by
   rw [List.any_eq_false]
   intro y hy
   obtain ⟨z, t, hkey⟩ := hk y (Array.mem_toList_iff.mp hy)
   simp [DictEntry.refKey, hkey]
  have a' : ¬ es.toList.any (·.refKey) = true := by rw [a]; exact Bool.false_ne_true
  rw [if_neg a']
  exact congrArg some e
theorem ObjM.look {h : Heap} {x dx C : Addr} {mA : Str → Option Value} (I : ObjM h x dx C mA) : ∃ od, PySem.W.InstAt h x (PySem.W.instObj C dx) C (some od) ∧ ∀ name, PySem.W.lookIn name od = some (mA name) :=
 let ⟨od, ho, hl⟩ := lookIn_ns I.ns
 ⟨od, ⟨I.obj, rfl, rfl, ho⟩, hl⟩
section
variable {prog : Program} {w : World} {A : Around} {E : Value → Shared → Prop} {s : Shared} {K : PySem.W.Frag} {x dx C f : Addr} {mA : Str → Option Value} {name : Str} {v : Value}
end
theorem RelO.some_of {v : V} {o : Option Value} (r : RelO (some v) o) : ∃ u, o = some u ∧ RelV v u := by
 cases o with
 | none => exact (show False from r).elim
 | some u => exact ⟨u, rfl, r⟩
section
variable {P : Program} {w : World} {H H' : Hp} {h h' : Heap} {a C dx : Addr} {fs fs' : List (Str × V)}
theorem ins_get (hok : HOk P w H h) (e : H a = some (.ins C dx fs)) : ∃ mA, ObjM h a dx C mA ∧ (∀ f, RelO (fs.lookup f) (mA f)) ∧ PySem.Within mA (fs.map (·.1)) ∧ fs.length ≤ 1000 ∧ H dx = some (.own a) := by
 obtain ⟨d, z, ne, ob, mA, n, r, q⟩ := (show ObjOk P w H h a (.ins C dx fs) from hok a _ e)
 exact ⟨mA, ⟨ob, n, ne⟩, r, q, z, d⟩
end
structure Cls (K : PySem.W.Frag) (C : Addr) : Prop where
 pg : PySem.W.plainGet K C Str.empty = true
 hd : PySem.W.hasDictIn K C = true
 po : PySem.W.plainOver K C = true
 sa : PySem.W.findIn K (.ref C) "__setattr__" = some (some (.builtin "object.__setattr__"))
theorem Cls.get {K : PySem.W.Frag} {C : Addr} (c : Cls K C) (f : Str) : PySem.W.plainGet K C f = true := c.pg
section
variable {X : Cx} {pins : List (Addr × Obj)} {σ : St} {H : Hp} {s : Shared} {a C dx : Addr} {fs : List (Str × V)} {f : Str} {v : V} {A : Around} {E : Value → Shared → Prop}
end
section
variable {X : Cx} {o e value : Expr} {f : Str} {pos pos' tpos : Pos} {ta tv : TE}
end
section
variable {X : Cx} {pins : List (Addr × Obj)} {σ : St} {H : Hp} {s : Shared} {A : Around} {E : Value → Shared → Prop} {Q : Value → Shared → Prop} {c : Value} {b : Bool}
inductive TyOf (K : PySem.W.Frag) (H : Hp) : V → Value → Prop where
 | non : TyOf K H .non (.type "NoneType")
 | bl (x : Bool) : TyOf K H (.bl x) (.type "bool")
 | int (i : Int) : TyOf K H (.int i) (.type "int")
 | str (x : Str) : TyOf K H (.str x) (.type "str")
 | flt (x : UInt64) : TyOf K H (.flt x) (.type "float")
 | lst {a : Addr} {xs : List V} (e : H a = some (.lst xs)) : TyOf K H (.ref a) (.type "list")
 | frz {a : Addr} {o : Obj} {xs : List V} (e : H a = some (.frz o (.lst xs))) : TyOf K H (.ref a) (.type "list")
 | tup {a : Addr} {xs : List V} (e : H a = some (.tup xs)) : TyOf K H (.ref a) (.type "tuple")
 | dK {a : Addr} {kvs : List (Key × V)} (e : H a = some (.dK kvs)) : TyOf K H (.ref a) (.type "dict")
 | dT {a : Addr} {kvs : List (List Key × V)} (e : H a = some (.dT kvs)) : TyOf K H (.ref a) (.type "dict")
 | ins {a C dx : Addr} {fs : List (Str × V)} (e : H a = some (.ins C dx fs)) (cl : Cls K C) (ha : PySem.W.findIn K (.ref C) "__class__" = some (some (.builtin "object.__class__")))
   (hn : PySem.W.specialIn K (.builtin "object.__class__") "__get__" = some (some (.builtin "getset_descriptor.__get__"))) (htk : PySem.W.takesIn K (.builtin "object.__class__") = some true)
   (hm : PySem.W.mroIn K C (.type "object") = some true) : TyOf K H (.ref a) (.ref C)
theorem isinst_ok {x : V} {u t : Value} (I : Inv X pins σ H s) (rx : RelV x u) (ty : TyOf X.K H x t) (e : PySem.W.kitOne X.K t c = some b) (h : ∀ tk, Q (.bool b) { s with toks := tk }) :
  wpAny (model X.prog X.w) A (call (.builtin "isinstance") [u, c]) Q E s := by
 cases ty with
 | non => cases (show u = Value.none from rx); exact PySem.W.kia_one PySem.W.kitx_none I.kIn True.intro e (fun z => nomatch z) h
 | bl y => cases (show u = Value.bool y from rx); exact PySem.W.kia_one PySem.W.kitx_bool I.kIn True.intro e (fun z => nomatch z) h
 | int i => obtain ⟨t, q⟩ := (show ∃ t, u = Value.int i t from rx); cases q; exact PySem.W.kia_one PySem.W.kitx_int I.kIn True.intro e (fun z => nomatch z) h
 | str y => obtain ⟨t, q⟩ := (show ∃ t, u = Value.str y t from rx); cases q; exact PySem.W.kia_one PySem.W.kitx_str I.kIn True.intro e (fun z => nomatch z) h
 | flt y => obtain ⟨t, q⟩ := (show ∃ t, u = Value.float y t from rx); cases q; exact PySem.W.kia_one PySem.W.kitx_float I.kIn True.intro e (fun z => nomatch z) h
 | @lst a xs ea =>
  cases (show u = Value.ref a from rx)
  obtain ⟨_, _, n, _, h1⟩ := (show ObjOk X.prog X.w H s.heap a (.lst xs) from I.hok a _ ea)
  exact PySem.W.kia_one PySem.W.kitx_list I.kIn ⟨_, h1, rfl⟩ e (fun z => nomatch z) h
 | @frz a ob xs ea =>
  cases (show u = Value.ref a from rx)
  obtain ⟨_, _, _, n, _, h1⟩ := (show ObjOk X.prog X.w H s.heap a (.frz ob (.lst xs)) from I.hok a _ ea)
  exact PySem.W.kia_one PySem.W.kitx_list I.kIn ⟨_, h1, rfl⟩ e (fun z => nomatch z) h
 | @tup a xs ea =>
  cases (show u = Value.ref a from rx)
  obtain ⟨_, _, _, p⟩ := (show ObjOk X.prog X.w H s.heap a (.tup xs) from I.hok a _ ea)
  obtain ⟨o, h1, h2, _⟩ := p
  exact PySem.W.kia_one PySem.W.kitx_tuple I.kIn ⟨o, h1, h2⟩ e (fun z => nomatch z) h
 | @dK a kvs ea =>
  cases (show u = Value.ref a from rx)
  obtain ⟨_, _, vs, _, p⟩ := (show ObjOk X.prog X.w H s.heap a (.dK kvs) from I.hok a _ ea)
  obtain ⟨o, es, ep, h1, h2, _⟩ := p
  exact PySem.W.kia_one PySem.W.kitx_dict I.kIn ⟨o, h1, h2.1⟩ e (fun z => nomatch z) h
 | @dT a kvs ea =>
  cases (show u = Value.ref a from rx)
  obtain ⟨_, _, xs, _, o, es, ep, h1, h2, _⟩ := (show ObjOk X.prog X.w H s.heap a (.dT kvs) from I.hok a _ ea)
  exact PySem.W.kia_one PySem.W.kitx_dict I.kIn ⟨o, h1, h2.1⟩ e (fun z => nomatch z) h
 | @ins a C dx fs ea cl ha hn htk hm =>
  cases (show u = Value.ref a from rx)
  obtain ⟨mA, O, _⟩ := ins_get I.hok ea
  obtain ⟨od, J, _⟩ := O.look
  exact PySem.W.kia_one (PySem.W.kitx_own (cl.get _) cl.hd ha hn htk hm) I.kIn J e (fun z => nomatch z) h
end
end L2
namespace L2
open PySem PySem.Spec PyProof.Rows
structure Room (k : Nat) (A : Around) : Prop where
 hd : A.handled = none
 dp : A.depth + 3 * k + 5 < recursionLimit
 un : A.units + 16 * k + 200 < cLine
theorem Room.mono {j k : Nat} {A : Around} (r : Room k A) (h : j ≤ k) : Room j A := ⟨r.hd, by have := r.dp; omega, by have := r.un; omega⟩
theorem Room.deeper {k : Nat} {A : Around} (r : Room (k + 1) A) (env : Env) : Room k (A.deeper env) :=
 ⟨r.hd, by have := r.dp; show A.depth + 1 + 3 * k + 5 < _; omega, by have := r.un; show A.units + 3 + 16 * k + 200 < _; omega⟩
theorem Room.depth {k : Nat} {A : Around} (r : Room k A) : A.depth < recursionLimit := by have := r.dp; omega
theorem Room.units {k : Nat} {A : Around} (r : Room k A) : A.units + 64 < cLine := by have := r.un; omega
def tNil : TA := fun _ H Q => Q [] H
def tCons (ta : TE) (tr : TA) : TA := fun σ H Q => ta σ H fun x H1 => tr σ H1 fun xs H2 => Q (x :: xs) H2
section
variable {X : Cx} {e : Expr} {es : List Expr} {te : TE} {t : TA} {pos : Pos}
theorem pa_nil : PA X [] tNil := fun _ _ _ _ H Q I h => Calls.spliced_nil ⟨[], H, I, .nil, h⟩
theorem pa_cons (ha : PE X e te) (hr : PA X es t) (hs : starEach (e :: es) X.env = (false, eval e X.env) :: starEach es X.env := by rfl) : PA X (e :: es) (tCons te t) := by
 intro pos pins s σ H Q I h
 rw [hs]
 show wpAny _ _ (spliced ((false, eval e X.env) :: backTo pos (starEach es X.env))) _ _ s
 refine Calls.spliced_cons (thn (ha pins s σ H _ I h) fun u s1 ⟨x, H1, I1, r1, q1⟩ => ?_)
 exact thn (hr pos pins s1 σ H1 _ I1 q1) fun us s2 ⟨xs, H2, I2, r2, q2⟩ => ⟨x :: xs, H2, I2, .cons r1 r2, q2⟩
def tTup (t : TA) : TE := fun σ H Q => t σ H fun xs H1 => xs.length ≤ sizeLine ∧ ∀ p, H1 p = none → Q (.ref p) (upd H1 p (.tup xs))
def tLst (t : TA) : TE := fun σ H Q => t σ H fun xs H1 => xs.length ≤ sizeLine ∧ ∀ p, H1 p = none → Q (.ref p) (upd H1 p (.lst xs))
theorem pe_tup {x1} (h : PA X es t) : PE X (.Tuple es x1 pos) (tTup t) := by
 intro pins s σ H Q I hq
 refine wpAny_Tuple_spliced (thn (h pos pins s σ H _ I hq) fun us s1 ⟨xs, H1, I1, r, z, q⟩ => ⟨by rw [← r.length]; exact z, ?_⟩)
 have hf : H1 s1.heap.objs.size = none := I1.hok.fresh (Nat.le_refl _)
 refine ⟨.ref s1.heap.objs.size, upd H1 s1.heap.objs.size (.tup xs), I1.laid (t' := s1.toks) (fun b u e => Heap.get?_push_of_some _ e) (Nat.le_refl _) ?_, rfl, q _ hf⟩
 exact ⟨z, us, r, ⟨_, Heap.get?_push_size _ rfl, rfl, _, rfl, rfl⟩⟩
theorem pe_lst (h : PA X es t) : PE X (.List es pos) (tLst t) := by
 intro pins s σ H Q I hq
 refine wpAny_List_spliced (thn (h pos pins s σ H _ I hq) fun us s1 ⟨xs, H1, I1, r, z, q⟩ => ⟨by rw [← r.length]; exact z, ?_⟩)
 have hf : H1 s1.heap.objs.size = none := I1.hok.fresh (Nat.le_refl _)
 refine ⟨.ref s1.heap.objs.size, upd H1 s1.heap.objs.size (.lst xs), I1.laid (t' := s1.toks) (fun b u e => Heap.get?_push_of_some _ e) (Nat.le_refl _) ?_, rfl, q _ hf⟩
 exact ⟨z, us, 0, r, Heap.get?_push_size _ rfl⟩
end
abbrev Sp := List V → Hp → VK → XK → Prop
abbrev CXT := List Env → Hp → Shared → XK → Value → Shared → Prop
structure Env0 (P : Program) (w : World) (K : PySem.W.Frag) (mg : Str → Option Value) (base : Heap) (A : Around) (outer : List Env) (s : Shared) (H : Hp) : Prop where
 frames : A.frames = some outer
 mod : Mod K mg base
 bs : ∀ b o, base.get? b = some o → s.heap.get? b = some o ∧ H b = none
 bsz : base.objs.size ≤ s.heap.objs.size
 funs : s.heap.FunFrames base outer
 frf : ∀ b ∈ frs outer, H b = none
 hok : HOk P w H s.heap
 bare : AllBare s.gens
def CE (outer : List Env) (P : Program) (w : World) (H : Hp) (s : Shared) (Q : VK) (u : Value) (s' : Shared) : Prop :=
 ∃ v H', s'.os = s.os ∧ AllBare s'.gens ∧ Un (frs outer) [] H H' s.heap s'.heap ∧ HOk P w H' s'.heap ∧ RelV v u ∧ Q v H'
def CR (CX : CXT) (outer : List Env) (P : Program) (w : World) (H : Hp) (s : Shared) (Q : VK) (E : XK) (r : Result) (s' : Shared) : Prop :=
 match r with
 | .ok (.ret u) => CE outer P w H s Q u s'
 | .ok _ => False
 | .error e => CX outer H s E e s'
structure FnOk (P : Program) (w : World) (K : PySem.W.Frag) (mg : Str → Option Value) (base : Heap) (CX : CXT) (k : Nat) (f : Addr) (fd : FuncData) (ps : List Str) (sp : Sp) : Prop where
 len : ∀ vs H Q E, sp vs H Q E → vs.length = ps.length
 run : ∀ (A : Around) (outer : List Env) (s : Shared) (H : Hp) (args : Args) (us : List Value) (vs : List V) (Q : VK) (E : XK), Room k A → Env0 P w K mg base A outer s H → BindsTo s fd args (ps.zip us) → Vals vs us → sp vs H Q E →
  codeAny (model P w) A (.call (.ref f) args) (CR CX outer P w H s Q E) s
theorem FnOk.mono {P : Program} {w : World} {K : PySem.W.Frag} {mg : Str → Option Value} {base : Heap} {CX : CXT} {j k : Nat} {f : Addr} {fd : FuncData} {ps : List Str} {sp : Sp} (F : FnOk P w K mg base CX j f fd ps sp) (h : j ≤ k) :
  FnOk P w K mg base CX k f fd ps sp := ⟨F.len, fun A outer s H args us vs Q E hr => F.run A outer s H args us vs Q E (hr.mono h)⟩
section
variable {X : Cx} {pins : List (Addr × Obj)} {σ : St} {H : Hp} {s s' : Shared}
theorem Inv.env0 (I : Inv X pins σ H s) : Env0 X.prog X.w X.K X.mg X.base X.A X.stack s H :=
 ⟨I.ok.frames, I.ok.mod, I.bs, Nat.le_trans I.ok.bsz I.sz, I.stack, I.stkFree, I.hok, I.bare⟩
theorem Inv.after {Q : VK} {u : Value} (I : Inv X pins σ H s) (h : CE X.stack X.prog X.w H s Q u s') : EP X pins σ Q u s' := by
 obtain ⟨v, H', os, bare, un, hok, r, q⟩ := h
 obtain ⟨hh, g, d, t, os'⟩ := s'
 obtain rfl : os' = s.os := os
 exact ⟨v, H', I.call (h' := hh) (g' := g) (d' := d) (t' := t) (ch := []) un hok bare (fun b z => absurd z (by simp)), r, q⟩
end
def tCall (sp : Sp) (dvs : List V) (E : XK) (t : TA) : TE := fun σ H Q => t σ H fun vs H1 => sp (vs ++ dvs) H1 Q E
def Binds (K : PySem.W.Frag) (fd : FuncData) (ps : List Str) (ds : List Value) : Prop :=
 ∀ (s : Shared) (us : List Value), K.In s.heap → (us ++ ds).length = ps.length → BindsTo s fd ⟨us, []⟩ (ps.zip (us ++ ds))
theorem Binds.all {K : PySem.W.Frag} {fd : FuncData} {ps : List Str} (h : ∀ us : List Value, us.length = ps.length → bindArgs fd ⟨us, []⟩ = pure (ps.zip us)) : Binds K fd ps [] := fun s us _ hl => by
 rw [List.append_nil] at hl ⊢
 exact .of_eq (h us hl)
def Passes (CX : CXT) (X : Cx) (E : XK) : Prop := ∀ (pins : List (Addr × Obj)) (σ : St) (H : Hp) (s : Shared) (e : Value) (s' : Shared), Inv X pins σ H s → CX X.stack H s E e s' → X.xe e s'
section
variable {X : Cx} {CX : CXT} {k : Nat} {f C : Addr} {fd : FuncData} {ps : List Str} {sp : Sp} {dvs : List V} {ds : List Value} {E : XK} {x m : Str} {p pos apos : Pos} {e o : Expr} {es : List Expr} {ta : TE} {t : TA}
theorem run_fn {pins : List (Addr × Obj)} {σ : St} {H : Hp} {s : Shared} {Q : VK} {us : List Value} {vs : List V} (F : FnOk X.prog X.w X.K X.mg X.base CX k f fd ps sp) (hr : Room k X.A) (hb : Binds X.K fd ps ds) (hd : Vals dvs ds) (hx : Passes CX X E)
  (I : Inv X pins σ H s) (r : Vals vs us) (h : sp (vs ++ dvs) H Q E) : wpAny (model X.prog X.w) X.A (call (.ref f) us) (EP X pins σ Q) X.xe s := by
 have r2 : Vals (vs ++ dvs) (us ++ ds) := r.append hd
 have hl : (us ++ ds).length = ps.length := by rw [← r2.length]; exact F.len _ _ _ _ h
 refine wpAny_call (codeAny_mono (F.run X.A X.stack s H ⟨us, []⟩ (us ++ ds) (vs ++ dvs) Q E hr I.env0 (hb s us I.kIn hl) r2 h) fun r s' hq => ?_)
 cases r with
 | error e => exact hx pins σ H s e s' I hq
 | ok fl =>
  cases fl with
  | ret u => exact I.after hq
  | next => exact False.elim hq
  | brk => exact False.elim hq
  | cont => exact False.elim hq
theorem pe_call (F : FnOk X.prog X.w X.K X.mg X.base CX k f fd ps sp) (hr : Room k X.A) (hg : Gl X x) (hm : X.mg x = some (.ref f)) (hk : PySem.W.keepIn X.K (.ref f) = true) (hb : Binds X.K fd ps ds) (hd : Vals dvs ds) (hx : Passes CX X E)
  (ha : PA X (e :: es) t) (hdb : (x == ("__debug__" : Str)) = false := by decide) (he : starEach (e :: es) X.env = (false, eval e X.env) :: starEach es X.env := by rfl) (hpl : (backTo pos (starEach es X.env)).any (·.1) = false := by rfl) :
  PE X (.Call (.Name x p) (e :: es) [] pos) (tCall sp dvs E t) := by
 intro pins s σ H Q I h
 refine wpAny_Call_Name_kw (ld_glob I hg hm ?_ hdb)
 refine PySem.W.callWith_K (h₀ := X.base) I.ok.mod.kin hk (thn (ha pos pins s σ H _ I h) fun us s1 ⟨vs, H1, I1, r, q⟩ => ⟨I1.kIn, ?_⟩) he hpl
 exact run_fn F hr hb hd hx I1 r q
end
section
variable {X : Cx} {CX : CXT} {k : Nat} {f C : Addr} {fd : FuncData} {ps ks : List Str} {sp : Sp} {E : XK} {x m : Str} {p pos apos kpos : Pos} {e o : Expr} {es : List Expr} {kws : List Keyword} {te ta : TE} {t tk : TA} {nm : Option Str}
variable {g : List Value → List Value → List Value} {gV : List V → List V → List V}
end
structure FnScope (N P : List Str) (sc : Scope) : Prop where
 kind : sc.kind = .function
 co : sc.isCoroutine = false
 gen : sc.isGenerator = false
 nd : N.Nodup
 pre : N.take P.length = P
 par : ∀ x ∈ P, sc.names.lookup x = some .local ∨ sc.names.lookup x = some .cell
 nofree : ∀ y ∈ sc.names, y.2 ≠ .free
theorem bindL_out {kindOf : Str → Option NameKind} {x : Str} : ∀ {binds : List (Str × Value)} {m : Str → Option Value}, (∀ v, (x, v) ∉ binds) → bindL kindOf binds m x = m x
 | [], _, _ => rfl
 | (n, v) :: r, m, h => by
  unfold bindL
  rw [bindL_out fun w hw => h w (List.mem_cons_of_mem _ hw)]
  split
  ·have : x ≠ n := by rintro rfl; exact h v List.mem_cons_self
   simp [this]
  ·rfl
theorem bindC_out {kindOf : Str → Option NameKind} {x : Str} : ∀ {binds : List (Str × Value)} {m : Str → Option Value}, (∀ v, (x, v) ∉ binds) → bindC kindOf binds m x = m x
 | [], _, _ => rfl
 | (n, v) :: r, m, h => by
  unfold bindC
  rw [bindC_out fun w hw => h w (List.mem_cons_of_mem _ hw)]
  split
  ·rfl
  ·have : x ≠ n := by rintro rfl; exact h v List.mem_cons_self
   simp [this]
theorem bindL_get {kindOf : Str → Option NameKind} {x : Str} {v : Value} : ∀ {P : List Str} {vs : List Value} {i : Nat} {m : Str → Option Value}, P.Nodup → P[i]? = some x → vs[i]? = some v → kindOf x = some .local →
  bindL kindOf (P.zip vs) m x = some v
 | [], _, _, _, _, h, _, _ => by simp at h
 | _ :: _, [], _, _, _, _, h, _ => by simp at h
 | p :: P, w :: vs, 0, m, nd, h1, h2, hk => by
  simp at h1 h2; subst h1; subst h2
  show bindL kindOf ((p, w) :: P.zip vs) m p = _
  unfold bindL
  rw [bindL_out fun v hv => (List.nodup_cons.mp nd).1 (List.of_mem_zip hv).1, if_pos hk]
  simp
 | p :: P, w :: vs, i + 1, m, nd, h1, h2, hk => by
  show bindL kindOf ((p, w) :: P.zip vs) m x = _
  unfold bindL
  exact bindL_get (i := i) (List.nodup_cons.mp nd).2 (by simpa using h1) (by simpa using h2) hk
theorem bindC_get {kindOf : Str → Option NameKind} {x : Str} {v : Value} : ∀ {P : List Str} {vs : List Value} {i : Nat} {m : Str → Option Value}, P.Nodup → P[i]? = some x → vs[i]? = some v → kindOf x ≠ some .local →
  bindC kindOf (P.zip vs) m x = some v
 | [], _, _, _, _, h, _, _ => by simp at h
 | _ :: _, [], _, _, _, _, h, _ => by simp at h
 | p :: P, w :: vs, 0, m, nd, h1, h2, hk => by
  simp at h1 h2; subst h1; subst h2
  show bindC kindOf ((p, w) :: P.zip vs) m p = _
  unfold bindC
  rw [bindC_out fun v hv => (List.nodup_cons.mp nd).1 (List.of_mem_zip hv).1, if_neg hk]
  simp
 | p :: P, w :: vs, i + 1, m, nd, h1, h2, hk => by
  show bindC kindOf ((p, w) :: P.zip vs) m x = _
  unfold bindC
  exact bindC_get (i := i) (List.nodup_cons.mp nd).2 (by simpa using h1) (by simpa using h2) hk
def start (N : List Str) (vs : List V) : St := vs.map some ++ List.replicate (N.length - vs.length) none
def cxOf (CX : CXT) (P : Program) (w : World) (K : PySem.W.Frag) (mg : Str → Option Value) (base : Heap) (N : List Str) (qual : Str) (scope : Scope) (f : Addr) (cd : Value) (A : Around) (outer : List Env) (s : Shared) (H : Hp) (E : XK) : Cx where
 prog := P
 w := w
 K := K
 mg := mg
 base := base
 A := A.deeper (envOfC qual scope s.heap.objs.size f cd)
 N := N
 s₀ := s
 H₀ := H
 env := envOfC qual scope s.heap.objs.size f cd
 outer := outer
 stack := envOfC qual scope s.heap.objs.size f cd :: outer
 ex := []
 calm := true
 fn := fun _ => true
 pn := []
 xe := fun e s' => wpAny (model P w) (A.deeper (envOfC qual scope s.heap.objs.size f cd)) (leaving (envOfC qual scope s.heap.objs.size f cd) e) (fun _ s'' => CX outer H s E e s'') (fun e' s'' => CX outer H s E e' s'') s'
theorem cell_has {sc : Scope} {n : Nat} {x : Str} (h : sc.names.lookup x = some .cell) : ∃ c, (cellsFrom n sc.names []).lookup x = some c := by
 have q := PySem.W.cellsFrom_some sc.names n [] (.inl h)
 exact Option.isSome_iff_exists.mp q
theorem inv_start {CX : CXT} {P : Program} {w : World} {K : PySem.W.Frag} {mg : Str → Option Value} {base : Heap} {N ps : List Str} {qual : Str} {scope : Scope} {f : Addr} {cd : Value} {A : Around} {outer : List Env} {s s1 : Shared} {H : Hp} {E : XK} {us : List Value} {vs : List V}
  (S : FnScope N ps scope) (hd : A.handled = none) (e0 : Env0 P w K mg base A outer s H) (hl : vs.length = ps.length) (r : Vals vs us)
  (x : InCallC s s.heap.objs.size (bindL (envOfC qual scope s.heap.objs.size f cd).kindOf (ps.zip us) fun _ => none) (cellsFrom (s.heap.objs.size + 1) scope.names []) (bindC (envOfC qual scope s.heap.objs.size f cd).kindOf (ps.zip us) fun _ => none) s1) :
  Inv (cxOf CX P w K mg base N qual scope f cd A outer s H E) [] (start N vs) H s1 := by
 have hpl : ps.length ≤ N.length := by have := congrArg List.length S.pre; rw [List.length_take] at this; omega
 obtain ⟨h1, tk, rfl, hk⟩ := x.done
 have noA : ∀ b : Addr, b ∉ (cxOf CX P w K mg base N qual scope f cd A outer s H E).ex := fun b z => absurd (show b ∈ ([] : List Addr) from z) (by simp)
 refine ⟨⟨e0.mod, S.kind, rfl, rfl, Nat.le_refl _, fun y z c h1 h2 => ?_, fun y hy => ?_, fun y c _ h => ?_, fun _ => hd, Around.frames_deeper e0.frames, .inr ⟨rfl, rfl⟩, fun b z => absurd z (noA b), e0.bs, e0.bsz, fun b _ _ => noA b, fun b z => absurd z (noA b), e0.funs, e0.frf⟩,
  rfl, e0.bare, Un.kept hk, ⟨_, x.toInCall.ns, fun i y v h1 h2 h3 => ?_⟩, fun y c h => ⟨_, x.cell y c h⟩, e0.hok.fresh (Nat.le_refl _), fun y c h => ?_, fun p hp => absurd (show p ∈ ([] : List (Addr × Obj)) from hp) (by simp), e0.hok.kept hk, ?_⟩
 ·exact name_of_addr x.apart (PySem.mem_of_lookup h1) (PySem.mem_of_lookup h2)
 ·have hy : scope.names.lookup y = some .cell ∨ scope.names.lookup y = some .free := hy
  rcases hy with hy | hy
  ·exact cell_has hy
  ·exact absurd rfl (S.nofree _ (PySem.mem_of_lookup hy))
 ·exact Nat.le_of_lt (x.above y c (PySem.mem_of_lookup h))
 ·have hi : i < vs.length := by
   unfold start at h2
   by_cases hi : i < vs.length
   ·exact hi
   ·rw [List.getElem?_append_right (by simpa using hi)] at h2
    rw [List.getElem?_replicate] at h2
    split at h2 <;> cases h2
  have ha : vs[i]? = some v := by
   unfold start at h2
   rw [List.getElem?_append_left (by simpa using hi), List.getElem?_map] at h2
   cases e : vs[i]? with
   | none => rw [e] at h2; cases h2
   | some a => rw [e] at h2; cases h2; rfl
  obtain ⟨u, hu, rv⟩ := r.get ha
  have hp : ps[i]? = some y := by
   rw [← S.pre, List.getElem?_take_of_lt (by omega)]; exact h1
  have ndP : ps.Nodup := by rw [← S.pre]; exact S.nd.sublist (List.take_sublist _ _)
  refine ⟨u, rv, ?_⟩
  rcases S.par y (List.mem_of_getElem? hp) with k | k
  ·exact .inl ⟨k, bindL_get ndP hp hu k⟩
  ·obtain ⟨c, e⟩ := cell_has (n := s.heap.objs.size + 1) k
   refine .inr ⟨.inl k, c, e, ?_⟩
   have q := x.cell y c e
   rw [bindC_get ndP hp hu (by show scope.names.lookup y ≠ _; rw [k]; decide)] at q
   exact q
 ·exact e0.hok.fresh (Nat.le_of_lt (x.above y c (PySem.mem_of_lookup h)))
 ·unfold start
  show _ = N.length
  rw [List.length_append, List.length_map, List.length_replicate]
  omega
theorem fn_of {CX : CXT} {P : Program} {w : World} {K : PySem.W.Frag} {mg : Str → Option Value} {base : Heap} {k : Nat} {f : Addr} {name qual : Str} {params : Arguments} {body : List Stmt} {scope : Scope} {dV kV doc pm cdv ct oc : Value} {an od : Option Addr}
  {osl : Array (Option Value)} {N ps : List Str} {sp : Sp} (lk : K.lookup f = some ⟨oc, od, .func (PySem.W.fnOf name qual params body scope dV kV doc pm an cdv ct), osl⟩) (hcd : PySem.W.codeIn K cdv qual = true) (S : FnScope N ps scope)
  (len : ∀ vs H Q E, sp vs H Q E → vs.length = ps.length)
  (hbody : ∀ (A : Around) (outer : List Env) (s : Shared) (H : Hp) (vs : List V) (Q : VK) (E : XK), Room k (A.deeper (envOfC qual scope s.heap.objs.size f cdv)) → sp vs H Q E →
   ∃ t, PSs (cxOf CX P w K mg base N qual scope f cdv A outer s H E) body t ∧ t { nx := fun _ H' => Q .non H', rt := Q } (start N vs) H) :
  FnOk P w K mg base CX (k + 1) f (PySem.W.fnOf name qual params body scope dV kV doc pm an cdv ct) ps sp := by
 refine ⟨len, fun A outer s H args us vs Q E hr e0 hb r hsp => ?_⟩
 have hl := len _ _ _ _ hsp
 have KX : K.In s.heap := e0.mod.kin.keeps fun b o e => (e0.bs b o e).1
 have lim : s.heap.NoLimit := e0.mod.nolimit.keeps fun b o e => (e0.bs b o e).1
 have hkind : ∀ y ∈ ps.zip us, scope.names.lookup y.1 = some .local ∨ (scope.names.lookup y.1 = some .cell ∧ ((cellsFrom (s.heap.objs.size + 1) scope.names []).lookup y.1).isSome = true) := fun ⟨n, v⟩ hy => by
  rcases S.par n (List.of_mem_zip hy).1 with q | q
  ·exact .inl q
  ·exact .inr ⟨q, PySem.W.cellsFrom_some _ _ _ (.inl q)⟩
 refine codeAny_call_function hr.depth (KX _ _ lk) rfl S.co S.gen rfl (PySem.W.codeRec_of KX hcd) (hb _ _ _ _ ?_)
 refine wpAny_newFunctionEnv_cells S.kind hkind fun env he s1 x => ?_
 subst he
 refine ⟨lim.keeps x.toInCall.keep, codeAny_func ?_⟩
 obtain ⟨t, ht, hq⟩ := hbody A outer s H vs Q E (hr.deeper _) hsp
 have I : Inv (cxOf CX P w K mg base N qual scope f cdv A outer s H E) [] (start N vs) H s1 := inv_start S hr.hd e0 hl r x
 refine wpAny_mono (ht [] s1 (start N vs) H _ I hq) (fun fl s' hs => ?_) fun e s' hs => hs
 have fin : ∀ {σ' : St} {H' : Hp} {v : V} {u : Value}, Inv (cxOf CX P w K mg base N qual scope f cdv A outer s H E) [] σ' H' s' → RelV v u → Q v H' → CE outer P w H s Q u s' :=
  fun {σ' H' v u} J rv q => ⟨v, H', J.os, J.bare, J.base, J.hok, rv, q⟩
 cases fl with
 | ret u =>
  obtain ⟨v, σ', H', J, rv, q⟩ := hs
  exact fin J rv q
 | next =>
  obtain ⟨σ', H', J, q⟩ := hs
  exact fin (v := V.non) (u := Value.none) J rfl q
 | brk =>
  obtain ⟨_, _, _, q⟩ := hs
  exact False.elim q
 | cont =>
  obtain ⟨_, _, _, q⟩ := hs
  exact False.elim q
end L2
namespace L2
open PySem PySem.Spec PyProof.Rows
section
variable {X : Cx} {x : Str} {p pos : Pos} {e : Expr} {es : List Expr} {t : TA} {id T : String} {r : List V → Hp → VK → Prop}
def tCB (r : List V → Hp → VK → Prop) (t : TA) : TE := fun σ H Q => t σ H fun vs H1 => r vs H1 Q
theorem pe_callB (hc : CallR X (.builtin id) r) (hg : Gl X x) (hm : X.mg x = none) (hv : bootBuiltins x = some (.builtin id)) (ha : PA X (e :: es) t) (hn : x ≠ "__name__" := by decide) (hdb : (x == ("__debug__" : Str)) = false := by decide)
  (he : starEach (e :: es) X.env = (false, eval e X.env) :: starEach es X.env := by rfl) (hpl : (backTo pos (starEach es X.env)).any (·.1) = false := by rfl) : PE X (.Call (.Name x p) (e :: es) [] pos) (tCB r t) := by
 intro pins s σ H Q I h
 refine wpAny_Call_Name_kw (ld_blt I hg hm hv ?_ hn hdb)
 exact PyProof.Rows.callWith_builtin1 (thn (ha pos pins s σ H _ I h) fun us s1 ⟨vs, H1, I1, r1, q1⟩ => hc pins s1 σ H1 vs us Q I1 r1 q1) he hpl
theorem pe_callTy (hc : CallR X (.type T) r) (hg : Gl X x) (hm : X.mg x = none) (hv : bootBuiltins x = some (.type T)) (ha : PA X (e :: es) t) (hn : x ≠ "__name__" := by decide) (hdb : (x == ("__debug__" : Str)) = false := by decide)
  (he : starEach (e :: es) X.env = (false, eval e X.env) :: starEach es X.env := by rfl) (hpl : (backTo pos (starEach es X.env)).any (·.1) = false := by rfl) : PE X (.Call (.Name x p) (e :: es) [] pos) (tCB r t) := by
 intro pins s σ H Q I h
 refine wpAny_Call_Name_kw (ld_blt I hg hm hv ?_ hn hdb)
 exact PyProof.Rows.callWith_type1 (thn (ha pos pins s σ H _ I h) fun us s1 ⟨vs, H1, I1, r1, q1⟩ => hc pins s1 σ H1 vs us Q I1 r1 q1) he hpl
end
end L2
namespace HT
open PySem PyProof.Rows
section
open PySem.SeqAt
open PySem.AutoSeq1 (wpAny_loadPart')
open PySem.MeetsSeq PySem.MeetsSeq2 PySem.MeetsSeq3
end
section
variable {prog : Program} {w : World} {A : Around} {E : Value → Shared → Prop} {s : Shared}
def sIx (n d : Nat) : Option Int → Nat
 | none => d
 | some v => if v < 0 then (v + (n : Int)).toNat else min v.toNat n
theorem sIx_none (n d : Nat) : sIx n d none = d := rfl
theorem sIx_nat (n d k : Nat) : sIx n d (some (k : Int)) = min k n := by
 show (if (k : Int) < 0 then ((k : Int) + (n : Int)).toNat else min (k : Int).toNat n) = min k n
 rw [if_neg (by omega), Int.toNat_natCast]
end
end HT
namespace L2
open PySem PySem.Spec PyProof.Rows
abbrev TO := St → Hp → (Option Int → Hp → Prop) → Prop
def PO (X : Cx) (e : Option Expr) (t : TO) : Prop :=
 ∀ (pins : List (Addr × Obj)) (s : Shared) (σ : St) (H : Hp) (Q : Option Int → Hp → Prop), Inv X pins σ H s → t σ H Q →
  wpAny (model X.prog X.w) X.A (evalPart e X.env) (fun u s' => ∃ o H', Inv X pins σ H' s' ∧ IsPart u o ∧ Q o H') X.xe s
def tNoPart : TO := fun _ H Q => Q none H
def tPart (t : TE) : TO := fun σ H Q => t σ H fun x H1 => ∃ i, x = .int i ∧ Q (some i) H1
theorem intsAre_of {ns : List Int} : ∀ {us : List Value}, Vals (ns.map V.int) us → IntsAre us ns := by
 induction ns with
 | nil => intro us r; rw [List.map_nil] at r; cases r; exact .nil
 | cons n ns ih =>
  intro us r
  rw [List.map_cons] at r
  cases r with
  | cons r1 r2 =>
   obtain ⟨t, e⟩ := r1
   subst e
   exact .cons n t (ih r2)
section
variable {X : Cx} {e : Expr} {te : TE} {lo hi : Option Expr} {tl th : TO} {pos p2 : Pos}
theorem po_none : PO X none tNoPart := by
 intro pins s σ H Q I h
 rw [evalPart_none]
 exact wpAny_pure ⟨none, H, I, .none, h⟩
theorem po_some (h : PE X e te) : PO X (some e) (tPart te) := by
 intro pins s σ H Q I hw
 rw [evalPart_some]
 refine thn (h pins s σ H _ I hw) fun u s1 ⟨x, H1, I1, r1, q1⟩ => ?_
 obtain ⟨i, rfl, q⟩ := q1
 obtain ⟨t, rfl⟩ := r1
 exact ⟨some i, H1, I1, .int i t, q⟩
def SlR (X : Cx) (r : V → Option Int → Option Int → Hp → VK → Prop) : Prop :=
 ∀ (pins : List (Addr × Obj)) (s : Shared) (σ : St) (H : Hp) (x : V) (v vl vu : Value) (lo hi : Option Int) (sl : Addr) (Q : VK), Inv X pins σ H s → RelV x v → s.heap.IsSliceOf sl vl vu .none → IsPart vl lo → IsPart vu hi → r x lo hi H Q →
  ∃ T id, typeLookup (.type T) "__getitem__" = pure (some (.builtin id)) ∧ s.TypeIs v T ∧ wpAny (model X.prog X.w) X.A (getItem v (.ref sl)) (EP X pins σ Q) X.xe s
def tSl (r : V → Option Int → Option Int → Hp → VK → Prop) (te : TE) (tl th : TO) : TE := fun σ H Q => te σ H fun x H1 => tl σ H1 fun l H2 => th σ H2 fun u H3 => r x l u H3 Q
theorem pe_slice {r : V → Option Int → Option Int → Hp → VK → Prop} (hr : SlR X r) (he : PE X e te) (hl : PO X lo tl) (hu : PO X hi th) : PE X (.Subscript e (.Slice lo hi none p2) pos) (tSl r te tl th) := by
 intro pins s σ H Q I h
 refine Subscript_ (thn (he pins s σ H _ I h) fun v s1 ⟨x, H1, I1, r1, q1⟩ => ?_)
 refine wpAny_Slice (thn (hl pins s1 σ H1 _ I1 q1) fun vl s2 ⟨l, H2, I2, pl, q2⟩ => thn (hu pins s2 σ H2 _ I2 q2) fun vu s3 ⟨u, H3, I3, pu, q3⟩ => ?_)
 rw [evalPart_none]
 refine wpAny_pure ?_
 have I4 : Inv X pins σ H3 { s3 with heap := s3.heap.push { cls := .type "slice", data := .fields #[vl, vu, .none] } } := I3.kept (t' := s3.toks) fun b ob q => Heap.get?_push_of_some _ q
 obtain ⟨T, id, hT, ht, hg⟩ := hr pins { s3 with heap := s3.heap.push { cls := .type "slice", data := .fields #[vl, vu, .none] } } σ H3 x v vl vu l u s3.heap.objs.size Q I4 r1 (Heap.IsSliceOf.new ..) pl pu q3
 show wpAny (model X.prog X.w) X.A (subscriptTail e (.Slice lo hi none p2) v (.ref s3.heap.objs.size)) (EP X pins σ Q) X.xe { s3 with heap := s3.heap.push { cls := .type "slice", data := .fields #[vl, vu, .none] } }
 exact tail_any (ops := [.ref s3.heap.objs.size, v]) ht hT hg (by with_unfolding_all rfl)
def cutV (xs : List V) (lo hi : Option Int) : List V := (xs.drop (HT.sIx xs.length 0 lo)).take (HT.sIx xs.length xs.length hi - HT.sIx xs.length 0 lo)
theorem cutV_length (xs : List V) (lo hi : Option Int) : (cutV xs lo hi).length ≤ xs.length := by
 unfold cutV
 rw [List.length_take, List.length_drop]
 omega
end
end L2
namespace L2
open PySem PySem.Spec PyProof.Rows
def ixN (n : Nat) (i : Int) : Option Nat := if 0 ≤ i then (if i < n then some i.toNat else none) else if -(n : Int) ≤ i then some (i + n).toNat else none
def atI {α : Type} (xs : List α) (i : Int) : Option α := (ixN xs.length i).bind fun j => xs[j]?
theorem ixN_seq {n : Nat} {i : Int} {j : Nat} (h : ixN n i = some j) : seqIndex? i n = some j ∧ j < n ∧ -(n : Int) ≤ i ∧ i < n := by
 unfold ixN at h
 by_cases h0 : 0 ≤ i
 ·rw [if_pos h0] at h
  by_cases h1 : i < n
  ·rw [if_pos h1] at h
   have e : i.toNat = j := Option.some.inj h
   exact ⟨by rw [seqIndex_of h0 h1, e], by omega, by omega, h1⟩
  ·rw [if_neg h1] at h; cases h
 ·rw [if_neg h0] at h
  by_cases h1 : -(n : Int) ≤ i
  ·rw [if_pos h1] at h
   have e : (i + n).toNat = j := Option.some.inj h
   exact ⟨by rw [seqIndex_neg (by omega) h1, e], by omega, h1, by omega⟩
  ·rw [if_neg h1] at h; cases h
theorem atI_get {α : Type} {xs : List α} {i : Int} {v : α} (h : atI xs i = some v) : ∃ j, seqIndex? i xs.length = some j ∧ xs[j]? = some v ∧ j < xs.length ∧ -(xs.length : Int) ≤ i ∧ i < xs.length := by
 unfold atI at h
 cases e : ixN xs.length i with
 | none => rw [e] at h; cases h
 | some j =>
  rw [e] at h
  obtain ⟨h1, h2, h3, h4⟩ := ixN_seq e
  exact ⟨j, h1, h, h2, h3, h4⟩
theorem atI_nat {α : Type} {xs : List α} {j : Nat} {v : α} (h : xs[j]? = some v) : atI xs (j : Int) = some v := by
 have hj : j < xs.length := (List.getElem?_eq_some_iff.mp h).1
 have e : ixN xs.length (j : Int) = some j := by
  unfold ixN
  rw [if_pos (by omega), if_pos (by omega)]; simp
 unfold atI; rw [e]; exact h
def PlainIx (b : Expr) : Prop := ∀ o i, subscripted b false o i = operate [o, i] (getItem o i)
def IxR (X : Cx) (r : R2) : Prop :=
 ∀ (value slice : Expr) (pins : List (Addr × Obj)) (s : Shared) (σ : St) (H : Hp) (x y : V) (v u : Value) (Q : VK), Inv X pins σ H s → RelV x v → RelV y u → r x y H Q →
  subscripted slice false v u = operate [v, u] (getItem v u) → wpAny (model X.prog X.w) X.A (subscriptTail value slice v u) (EP X pins σ Q) X.xe s
def MtR (X : Cx) (id : String) (r : V → List V → Hp → VK → Prop) : Prop :=
 ∀ (pins : List (Addr × Obj)) (s : Shared) (σ : St) (H : Hp) (x : V) (xs : List V) (v : Value) (us : List Value) (Q : VK), Inv X pins σ H s → RelV x v → Vals xs us → r x xs H Q →
  wpAny (model X.prog X.w) X.A (call (.builtin id) (v :: us)) (EP X pins σ Q) X.xe s
section
variable {X : Cx} {a b : Expr} {ta tb : TE} {pos : Pos}
theorem pe_ix {r : R2} (hr : IxR X r) (ha : PE X a ta) (hb : PE X b tb) (hs : PlainIx b) : PE X (.Subscript a b pos) (tOp r ta tb) := by
 intro pins s σ H Q I h
 exact Subscript_ (binT ha hb I h fun v u s2 x y H2 I2 rx ry q => hr a b pins s2 σ H2 x y v u Q I2 rx ry q (hs _ _))
def rIxL (K : PySem.W.Frag) : R2 := fun x y H Q => ∃ p xs i v, x = .ref p ∧ y = .int i ∧ SqL K H p xs ∧ atI xs i = some v ∧ Q v H
def rIxT (K : PySem.W.Frag) : R2 := fun x y H Q => ∃ p xs i v, x = .ref p ∧ y = .int i ∧ SqT K H p xs ∧ atI xs i = some v ∧ Q v H
def rIxS : R2 := fun x y H Q => ∃ z i c, x = .str z ∧ y = .int i ∧ z.length ≤ sizeLine ∧ atI z.cps.toList i = some c ∧ Q (.str ⟨#[c]⟩) H
theorem ix_list : IxR X (rIxL X.K) := by
 intro value slice pins s σ H x y v u Q I rx ry h hs
 obtain ⟨p, xs, i, z, rfl, rfl, hq, he, q⟩ := h
 cases rx
 obtain ⟨t, rfl⟩ := ry
 obtain ⟨its, r, pl, hz⟩ := I.list hq
 obtain ⟨j, h1, h2, h3, h4, h5⟩ := atI_get he
 obtain ⟨w, ew, rw'⟩ := r.get h2
 have hl := r.length
 have hn := line63
 have fin : EP X pins σ Q w s := ⟨z, H, I, rw', q⟩
 by_cases h0 : 0 ≤ i
 ·have hj : i.toNat = j := by
   rw [seqIndex_of h0 h5] at h1
   exact Option.some.inj h1
  exact item_listR pl.isList h0 (by omega) (by rw [hj]; simpa using ew) fin hs
 ·have hj : (i + (its.toArray.size : Int)).toNat = j := by
   rw [seqIndex_neg (by omega) h4] at h1
   rw [List.size_toArray, ← hl]
   exact Option.some.inj h1
  exact subscriptTail_builtinR (x := w) pl.isList.typeIs slot_list_getitem.lookup
   (wpAny_getItem_list_neg (Q := fun r s' => r = w ∧ EP X pins σ Q r s') pl.isList (by omega) (by rw [List.size_toArray] <;> omega) (by omega) (by rw [hj]; simpa using ew) ⟨rfl, fin⟩) hs
theorem ix_tup : IxR X (rIxT X.K) := by
 intro value slice pins s σ H x y v u Q I rx ry h hs
 obtain ⟨p, xs, i, z, rfl, rfl, hq, he, q⟩ := h
 cases rx
 obtain ⟨t, rfl⟩ := ry
 obtain ⟨its, r, pl, hz⟩ := I.tuple hq
 obtain ⟨j, h1, h2, h3, h4, h5⟩ := atI_get he
 obtain ⟨w, ew, rw'⟩ := r.get h2
 have hl := r.length
 have hn := line63
 have fin : EP X pins σ Q w s := ⟨z, H, I, rw', q⟩
 exact subscriptTail_builtinR (x := w) pl.typeIs slot_tuple_getitem.lookup
  (getItem_tuple (j := j) (Q := fun r s' => r = w ∧ EP X pins σ Q r s') pl (by omega) (by omega) (by rw [List.size_toArray, ← hl]; exact h1) (by simpa using ew) ⟨rfl, fin⟩) hs
theorem ix_str : IxR X rIxS := by
 intro value slice pins s σ H x y v u Q I rx ry h hs
 obtain ⟨z, i, c, rfl, rfl, hz, he, q⟩ := h
 obtain ⟨t, rfl⟩ := rx
 obtain ⟨t', rfl⟩ := ry
 obtain ⟨j, h1, h2, h3, h4, h5⟩ := atI_get he
 have hl : z.cps.toList.length = z.length := by simp [Str.length]
 rw [hl] at h1 h4 h5
 have hn := line63
 exact tail_any (typeIs_str s z t) slot_str_getitem.lookup (getItem_str (c := c) (by
  have e1 : decide (i < -(2 ^ 63 : Int)) = false := decide_eq_false (by omega)
  have e2 : decide (i ≥ 2 ^ 63) = false := decide_eq_false (by omega)
  rw [e1, e2, Bool.or_false]) (by rw [h1]; simpa using h2) ⟨.str ⟨#[c]⟩, H, I.tok _, ⟨_, rfl⟩, q⟩) hs
theorem mapSeq_set (its : List Value) (n j : Nat) (u : Value) : Obj.mapSeq (·.setIfInBounds j u) { cls := .type "list", data := .seq its.toArray n } = { cls := .type "list", data := .seq (its.set j u).toArray n } := by
 simp [Obj.mapSeq]
theorem Inv.lst {pins : List (Addr × Obj)} {σ : St} {H : Hp} {s : Shared} {p : Addr} {xs : List V} (I : Inv X pins σ H s) (h : H p = some (.lst xs)) :
  ∃ (its : List Value) (n : Nat), Vals xs its ∧ s.heap.get? p = some { cls := .type "list", data := .seq its.toArray n } ∧ xs.length ≤ sizeLine := by
 obtain ⟨z, its, n, r, e⟩ := I.hok p _ h
 exact ⟨its, n, r, e, z⟩
theorem Inv.lstUpd {pins : List (Addr × Obj)} {σ : St} {H : Hp} {s : Shared} {p : Addr} {xs ys : List V} {its its' : List Value} {n n' : Nat} {f : Obj → Obj} (I : Inv X pins σ H s) (h : H p = some (.lst xs))
  (ho : s.heap.get? p = some { cls := .type "list", data := .seq its.toArray n }) (hf : f { cls := .type "list", data := .seq its.toArray n } = { cls := .type "list", data := .seq its'.toArray n' }) (r : Vals ys its') (hz : ys.length ≤ sizeLine) (t : Nat) :
  Inv X pins σ (upd H p (.lst ys)) { s with heap := s.heap.update p f, toks := t } := by
 have e : (s.heap.update p f).get? p = some { cls := .type "list", data := .seq its'.toArray n' } := by
  rw [Heap.get?_update_self f ho (by rw [hf] <;> rfl), hf]
 refine I.write (x := p) (e := p) (by rw [h]; trivial) (.inl rfl) (fun b u hb q => (Heap.get?_update_other _ _ (Ne.symm hb)).trans q) ⟨_, e⟩ ?_
 exact ⟨hz, its', n', r, e⟩
def rSetL : V → V → V → Hp → (Hp → Prop) → Prop := fun o i v H Q => ∃ p xs k j, o = .ref p ∧ i = .int k ∧ H p = some (.lst xs) ∧ ixN xs.length k = some j ∧ Q (upd H p (.lst (xs.set j v)))
theorem set_list : PSet X rSetL := by
 intro pins s σ H o i v ov iv u Q I ro ri rv h
 obtain ⟨p, xs, k, j, rfl, rfl, hp, hj, q⟩ := h
 cases ro
 obtain ⟨t, rfl⟩ := ri
 obtain ⟨its, n, r, ho, hz⟩ := I.lst hp
 obtain ⟨h1, h2, h3, h4⟩ := ixN_seq hj
 have hl := r.length
 have hn := line63
 have I' : Inv X pins σ (upd H p (.lst (xs.set j v))) { s with heap := s.heap.update p (Obj.mapSeq (·.setIfInBounds j u)) } :=
  I.lstUpd hp ho (mapSeq_set its n j u) (r.set rv j) (by rw [List.length_set]; exact hz) s.toks
 by_cases h0 : 0 ≤ k
 ·have hk : k.toNat = j := by
   rw [seqIndex_of h0 h4] at h1
   exact Option.some.inj h1
  exact PySem.W.ki_setAt ho h0 (by omega) (by rw [List.size_toArray, ← hl]; exact h4) (by rw [hk]; exact ⟨_, I', q⟩)
 ·have hk : (k + (its.toArray.size : Int)).toNat = j := by
   rw [seqIndex_neg (by omega) h3] at h1
   rw [List.size_toArray, ← hl]
   exact Option.some.inj h1
  exact PySem.W.ki_setBack ho (by omega) (by rw [List.size_toArray, ← hl]; exact h3) (by omega) (by rw [hk]; exact ⟨_, I', q⟩)
theorem slice_bounds (lo hi : Option Int) (n : Nat) : (sliceBounds lo hi none n).1 = ((HT.sIx n 0 lo : Nat) : Int) ∧ (sliceBounds lo hi none n).2.1 = ((HT.sIx n n hi : Nat) : Int) ∧ (sliceBounds lo hi none n).2.2 = 1 := by
 refine ⟨?_, ?_, rfl⟩
 ·cases lo with
  | none => simp [sliceBounds, HT.sIx]
  | some i =>
   simp only [sliceBounds, HT.sIx, Option.getD_none, show (1 : Int) > 0 by decide, if_true]
   by_cases h : i < 0
   ·simp only [h, if_true] <;> omega
   ·simp only [h, if_false] <;> omega
 ·cases hi with
  | none => simp [sliceBounds, HT.sIx]
  | some i =>
   simp only [sliceBounds, HT.sIx, Option.getD_none, show (1 : Int) > 0 by decide, if_true]
   by_cases h : i < 0
   ·simp only [h, if_true] <;> omega
   ·simp only [h, if_false] <;> omega
theorem slicePick_cut (its : List Value) (lo hi : Option Int) : slicePick its.toArray lo hi none = ((its.drop (HT.sIx its.length 0 lo)).take (HT.sIx its.length its.length hi - HT.sIx its.length 0 lo)).toArray := by
 obtain ⟨h1, h2, h3⟩ := slice_bounds lo hi its.toArray.size
 unfold slicePick
 rw [h1, h2, h3]
 simp only [sliceRange_one, pick_run, List.size_toArray] <;> rfl
def rSlL (K : PySem.W.Frag) : V → Option Int → Option Int → Hp → VK → Prop := fun x lo hi H Q => ∃ a xs, x = .ref a ∧ SqL K H a xs ∧ ∀ p, H p = none → Q (.ref p) (upd H p (.lst (cutV xs lo hi)))
theorem sl_list : SlR X (rSlL X.K) := by
 intro pins s σ H x v vl vu lo hi sl Q I rx hs pl pu h
 obtain ⟨a, xs, rfl, hx, q⟩ := h
 cases rx
 obtain ⟨its, r, ht, hz⟩ := I.list hx
 have hlen := r.length
 refine ⟨"list", _, slot_list_getitem.lookup, ht.isList.typeIs, ?_⟩
 refine wpAny_getItem_list_slice ht.isList hs pl pu .none (by simp) ?_ (by rw [List.size_toArray] <;> omega)
 rw [slicePick_cut, ← hlen]
 refine ⟨.ref s.heap.objs.size, _, I.laid (t' := s.toks) (o := .lst (cutV xs lo hi)) (fun b ob q => Heap.get?_push_of_some _ q) (Nat.le_refl _) ?_, rfl, q _ (I.hok.fresh (Nat.le_refl _))⟩
 exact ⟨Nat.le_trans (cutV_length xs lo hi) hz, _, 0, (r.drop (HT.sIx xs.length 0 lo)).take (HT.sIx xs.length xs.length hi - HT.sIx xs.length 0 lo), Heap.get?_push_size _ rfl⟩
def flatV : V → Bool
 | .non => true
 | .bl _ => true
 | .int _ => true
 | .str _ => true
 | _ => false
def eqV : V → V → Bool
 | .non, .non => true
 | .bl a, .bl b => a == b
 | .bl a, .int b => (if a then 1 else 0) == b
 | .int a, .bl b => a == (if b then 1 else 0)
 | .int a, .int b => a == b
 | .str a, .str b => a == b
 | _, _ => false
theorem eqAt_V {A : Around} {s : Shared} {y x : V} {u v : Value} (ry : RelV y u) (rx : RelV x v) (fy : flatV y = true) (fx : flatV x = true) : SeqAt.EqAt A s u v (eqV y x) := by
 cases y with
 | non =>
  cases ry
  cases x with
  | non => cases rx; exact SeqAt.EqAt.same _
  | bl b => cases rx; exact SeqAt.EqAt.none_bool b
  | int b => obtain ⟨t, rfl⟩ := rx; exact SeqAt.EqAt.none_int b t
  | str b => obtain ⟨t, rfl⟩ := rx; exact SeqAt.EqAt.none_str b t
  | _ => exact absurd (show false = true from fx) Bool.false_ne_true
 | bl a =>
  cases ry
  cases x with
  | non => cases rx; exact SeqAt.EqAt.bool_none a
  | bl b => cases rx; exact SeqAt.EqAt.bool_bool a b
  | int b => obtain ⟨t, rfl⟩ := rx; exact SeqAt.EqAt.bool_int a b t
  | str b => obtain ⟨t, rfl⟩ := rx; exact SeqAt.EqAt.bool_str a b t
  | _ => exact absurd (show false = true from fx) Bool.false_ne_true
 | int a =>
  obtain ⟨t', rfl⟩ := ry
  cases x with
  | non => cases rx; exact SeqAt.EqAt.int_none a t'
  | bl b => cases rx; exact SeqAt.EqAt.int_bool a t' b
  | int b => obtain ⟨t, rfl⟩ := rx; exact SeqAt.EqAt.int_int a t' b t
  | str b => obtain ⟨t, rfl⟩ := rx; exact SeqAt.EqAt.int_str a t' b t
  | _ => exact absurd (show false = true from fx) Bool.false_ne_true
 | str a =>
  obtain ⟨t', rfl⟩ := ry
  cases x with
  | non => cases rx; exact SeqAt.EqAt.str_none a t'
  | bl b => cases rx; exact SeqAt.EqAt.str_bool a t' b
  | int b => obtain ⟨t, rfl⟩ := rx; exact SeqAt.EqAt.str_int a t' b t
  | str b => obtain ⟨t, rfl⟩ := rx; exact SeqAt.EqAt.str_str a t' b t
  | _ => exact absurd (show false = true from fx) Bool.false_ne_true
 | _ => exact absurd (show false = true from fy) Bool.false_ne_true
def eqU (x : V) (u : Value) : Bool := match u with
 | .none => eqV .non x
 | .bool b => eqV (.bl b) x
 | .int i _ => eqV (.int i) x
 | .str z _ => eqV (.str z) x
 | _ => false
theorem eqU_of {x y : V} {u : Value} (r : RelV y u) (f : flatV y = true) : eqU x u = eqV y x := by
 cases y with
 | non => cases r; rfl
 | bl b => cases r; rfl
 | int i => obtain ⟨t, rfl⟩ := r; rfl
 | str z => obtain ⟨t, rfl⟩ := r; rfl
 | _ => exact absurd (show false = true from f) Bool.false_ne_true
theorem any_eqU {x : V} : ∀ {xs : List V} {us : List Value}, Vals xs us → xs.all flatV = true → us.any (eqU x) = xs.any fun y => eqV y x
 | _, _, .nil, _ => rfl
 | y :: xs, u :: us, .cons r t, f => by
  rw [List.all_cons, Bool.and_eq_true] at f
  rw [List.any_cons, List.any_cons, eqU_of r f.1, any_eqU t f.2]
theorem mem_eqAt {A : Around} {s : Shared} {x : V} {v : Value} (rx : RelV x v) (fx : flatV x = true) : ∀ {xs : List V} {us : List Value}, Vals xs us → xs.all flatV = true → ∀ u ∈ us, SeqAt.EqAt A s u v (eqU x u)
 | _, _, .nil, _ => fun u hu => by cases hu
 | y :: xs, u :: us, .cons r t, f => fun u' hu => by
  rw [List.all_cons, Bool.and_eq_true] at f
  rcases List.mem_cons.mp hu with rfl | hu
  ·rw [eqU_of r f.1]; exact eqAt_V r rx f.1 fx
  ·exact mem_eqAt rx fx t f.2 u' hu
def inV (x : V) (xs : List V) : Bool := xs.any fun y => eqV y x
def rIn (K : PySem.W.Frag) (neg : Bool) : R2 := fun x y H Q => ∃ p xs, y = .ref p ∧ (SqL K H p xs ∨ SqT K H p xs) ∧ flatV x = true ∧ xs.all flatV = true ∧ Q (.bl (if neg then !inV x xs else inV x xs)) H
theorem op_in_seq : OpR X (compareOp .In) (rIn X.K false) := by
 intro pins s σ H x y v u Q I rx ry h
 obtain ⟨p, xs, rfl, hq, fx, fs, q⟩ := h
 cases ry
 rcases hq with hq | hq
 ·obtain ⟨its, r, pl, hz⟩ := I.list hq
  refine SeqAt.in_listAt (eqU x) pl.isList (fun w hw => mem_eqAt rx fx r fs w (by simpa using hw)) ⟨.bl _, H, I, rfl, ?_⟩
  rw [show its.toArray.any (eqU x) = its.any (eqU x) by simp, any_eqU r fs]
  exact q
 ·obtain ⟨its, r, pl, hz⟩ := I.tuple hq
  refine SeqAt.in_tupleAt (eqU x) pl (fun w hw => mem_eqAt rx fx r fs w (by simpa using hw)) ⟨.bl _, H, I, rfl, ?_⟩
  rw [show its.toArray.any (eqU x) = its.any (eqU x) by simp, any_eqU r fs]
  exact q
theorem call_len_seq : CallR X (.builtin "len") (fun xs H Q => ∃ p ys, xs = [.ref p] ∧ (SqL X.K H p ys ∨ SqT X.K H p ys) ∧ Q (.int ys.length) H) := by
 intro pins s σ H xs us Q I r h
 obtain ⟨p, ys, rfl, hq, q⟩ := h
 obtain ⟨u, rfl, rx⟩ := vals1 r
 cases rx
 have hn := line63
 rcases hq with hq | hq
 ·obtain ⟨its, r', pl, hz⟩ := I.list hq
  have hlen := r'.length
  exact Calls.call_len_list pl.isList (by simp only [List.size_toArray] <;> omega) ⟨.int ys.length, H, I.tok _, ⟨s.toks + 1, by rw [List.size_toArray, hlen]⟩, q⟩
 ·obtain ⟨its, r', pl, hz⟩ := I.tuple hq
  have hlen := r'.length
  exact len_tuple pl (by simp only [List.size_toArray] <;> omega) ⟨.int ys.length, H, I.tok _, ⟨s.toks + 1, by rw [List.size_toArray, hlen]⟩, q⟩
theorem call_tuple_of : CallR X (.type "tuple") (fun xs H Q => ∃ p ys, xs = [.ref p] ∧ ((SqL X.K H p ys ∧ ∀ l, H l = none → Q (.ref l) (upd H l (.tup ys))) ∨ (SqT X.K H p ys ∧ Q (.ref p) H))) := by
 intro pins s σ H xs us Q I r h
 obtain ⟨p, ys, rfl, h⟩ := h
 obtain ⟨u, rfl, rx⟩ := vals1 r
 cases rx
 rcases h with ⟨hq, q⟩ | ⟨hq, q⟩
 ·obtain ⟨its, r', pl, hz⟩ := I.list hq
  have hlen := r'.length
  refine call_tuple_list pl.isList (fun h' kp => ?_) (by simp only [List.size_toArray] <;> omega)
  have I1 : Inv X pins σ H { s with heap := h' } := I.kept (t' := s.toks) kp
  have I2 : Inv X pins σ (upd H h'.objs.size (.tup ys)) { s with heap := h'.push { cls := .type "tuple", data := .seq its.toArray } } :=
   I1.laid (t' := s.toks) (fun b o e => Heap.get?_push_of_some _ e) (Nat.le_refl _) (show ObjOk X.prog X.w _ _ _ (.tup ys) from ⟨hz, its, r', _, Heap.get?_push_size _ rfl, rfl, _, rfl, rfl⟩)
  exact ⟨.ref h'.objs.size, _, I2, rfl, q _ (I1.hok.fresh (Nat.le_refl _))⟩
 ·obtain ⟨its, r', pl, hz⟩ := I.tuple hq
  exact call_tuple_same pl ⟨.ref p, H, I, rfl, q⟩
def tyV (K : PySem.W.Frag) (T : String) (x : V) (H : Hp) : Prop := match x with
 | .str _ => T = "str"
 | .int _ => T = "int"
 | .ref p => (T = "list" ∧ ∃ xs, SqL K H p xs) ∨ (T = "tuple" ∧ ∃ o, K.lookup p = some o ∧ o.cls = .type "tuple" ∧ o.dict = none) ∨
   (T = "dict" ∧ ((∃ kvs, H p = some (.dK kvs)) ∨ ∃ kvs, H p = some (.dT kvs))) ∨ (T = "set" ∧ ∃ S n, H p = some (.set S n))
 | _ => False
theorem tyV_is {pins : List (Addr × Obj)} {σ : St} {H : Hp} {s : Shared} {T : String} {x : V} {v : Value} (I : Inv X pins σ H s) (r : RelV x v) (ty : tyV X.K T x H) :
  s.TypeIs v T ∧ ∀ a, v = .ref a → ∃ ob, s.heap.get? a = some ob ∧ ob.dict = none := by
 cases x with
 | str z =>
  obtain ⟨t, rfl⟩ := r
  cases (show T = "str" from ty)
  exact ⟨typeIs_str s z t, fun _ e => nomatch e⟩
 | int i =>
  obtain ⟨t, rfl⟩ := r
  cases (show T = "int" from ty)
  exact ⟨typeIs_int s i t, fun _ e => nomatch e⟩
 | ref p =>
  cases r
  rcases ty with ⟨rfl, xs, hq⟩ | ⟨rfl, o, hk, hc, hd⟩ | ⟨rfl, hk⟩ | ⟨rfl, S, n, hk⟩
  ·obtain ⟨its, _, pl, _⟩ := I.list hq
   refine ⟨pl.isList.typeIs, fun a e => ?_⟩
   cases e
   obtain ⟨o, n, e, c, hd, _⟩ := pl
   exact ⟨o, e, hd⟩
  ·refine ⟨⟨o, I.kIn p o hk, hc⟩, fun a e => ?_⟩
   cases e
   exact ⟨o, I.kIn _ o hk, hd⟩
  ·have z : ∃ o, s.heap.get? p = some o ∧ o.ExactDict := by
    rcases hk with ⟨kvs, hk⟩ | ⟨kvs, hk⟩
    ·obtain ⟨_, _, _, _, o, _, _, e, ex, _⟩ := I.hok p _ hk
     exact ⟨o, e, ex⟩
    ·obtain ⟨_, _, _, _, o, _, _, e, ex, _⟩ := I.hok p _ hk
     exact ⟨o, e, ex⟩
   obtain ⟨o, e, ex⟩ := z
   refine ⟨⟨o, e, ex.1⟩, fun a e2 => ?_⟩
   cases e2
   exact ⟨o, e, ex.2.1⟩
  ·obtain ⟨o, _, _, _, e, ex, _⟩ := I.hok p _ hk
   refine ⟨⟨o, e, ex.1⟩, fun a e2 => ?_⟩
   cases e2
   exact ⟨o, e, ex.2.1⟩
 | _ => exact False.elim ty
def tBM0 (K : PySem.W.Frag) (T : String) (r : V → List V → Hp → VK → Prop) (to : TE) : TE := fun σ H Q => to σ H fun x H1 => tyV K T x H1 ∧ r x [] H1 Q
def tBM (K : PySem.W.Frag) (T : String) (r : V → List V → Hp → VK → Prop) (to : TE) (t : TA) : TE := fun σ H Q => to σ H fun x H1 => tyV K T x H1 ∧ t σ H1 fun xs H2 => r x xs H2 Q
variable {o e : Expr} {es : List Expr} {to : TE} {t : TA} {name : Str} {apos cpos : Pos} {T id : String} {r : V → List V → Hp → VK → Prop}
theorem pe_bm0 (pa : PlainAttrs T) (slot : Slot T name id) (hty : typeOf (.builtin id) = pure (.type "method_descriptor")) (hm : MtR X id r) (ho : PE X o to)
  (hbase : attributeBase o name X.env (eval o X.env) = eval o X.env := by rfl) (hline : (apos.endLine == cpos.line) = true := by rfl) : PE X (.Call (.Attribute o name apos) [] [] cpos) (tBM0 X.K T r to) := by
 intro pins s σ H Q I h
 refine wpAny_Call_method0_late hbase hline (thn (ho pins s σ H _ I h) fun v s1 ⟨x, H1, I1, r1, ty, q1⟩ => ?_)
 obtain ⟨h1, h2⟩ := tyV_is I1 r1 ty
 exact ⟨T, id, pa, slot, hty, h1, h2, Calls.callWith_builtin rfl (PySem.evalArgs_none (hm pins s1 σ H1 x [] v [] Q I1 r1 .nil q1))⟩
theorem pe_bm (pa : PlainAttrs T) (slot : Slot T name id) (hty : typeOf (.builtin id) = pure (.type "method_descriptor")) (hm : MtR X id r) (ho : PE X o to) (ha : PA X (e :: es) t)
  (hbase : attributeBase o name X.env (eval o X.env) = eval o X.env := by rfl)
  (hfew : ((backTo cpos (starEach (e :: es) X.env)).all (fun x => !x.1) && (backToKw cpos (keywordEach [] X.env)).all (fun x => x.1.isSome)
   && decide ((e :: es).length + ([] : List Keyword).length + (if ([] : List Keyword).isEmpty then 0 else 1) < 30)) = true := by rfl)
  (hline : (apos.endLine == cpos.line) = true := by rfl) (hs : starEach (e :: es) X.env = (false, eval e X.env) :: starEach es X.env := by rfl) (hplain : (backTo cpos (starEach es X.env)).any (·.1) = false := by rfl) :
  PE X (.Call (.Attribute o name apos) (e :: es) [] cpos) (tBM X.K T r to t) := by
 intro pins s σ H Q I h
 refine wpAny_Call_method_late hbase hfew hline rfl (thn (ho pins s σ H _ I h) fun v s1 ⟨x, H1, I1, r1, ty, q1⟩ => ?_)
 obtain ⟨h1, h2⟩ := tyV_is I1 r1 ty
 refine ⟨T, id, pa, slot, hty, h1, h2, ?_⟩
 have hA := ha cpos pins s1 σ H1 _ I1 q1
 rw [hs] at hA ⊢
 refine Calls.callWith_builtin (by show (false || (backTo cpos (starEach es X.env)).any (·.1)) = false; rw [hplain] <;> rfl) (Calls.evalArgs_plain ?_)
 exact thn hA fun us s2 ⟨vs, H2, I2, r2, q2⟩ => hm pins s2 σ H2 x vs v us Q I2 r1 r2 q2
end
end L2
namespace L2
open PySem PySem.Spec PyProof.Rows
def MtM (X : Cx) (id : String) (r : V → List V → Hp → VK → Prop) : Prop :=
 ∀ (pins : List (Addr × Obj)) (s : Shared) (σ : St) (H : Hp) (x : V) (xs : List V) (v : Value) (us : List Value) (Q : VK), Inv X pins σ H s → RelV x v → Vals xs us → r x xs H Q →
  wpAny (model X.prog X.w) X.A (call (.builtin id) (v :: us)) (EP X pins σ Q) X.xe s
theorem Vals.one : ∀ {x : V} {us : List Value}, Vals [x] us → ∃ u, us = [u] ∧ RelV x u
 | _, _, .cons r .nil => ⟨_, rfl, r⟩
theorem Vals.two : ∀ {x y : V} {us : List Value}, Vals [x, y] us → ∃ u v, us = [u, v] ∧ RelV x u ∧ RelV y v
 | _, _, _, .cons r (.cons q .nil) => ⟨_, _, rfl, r, q⟩
theorem Vals.zero : ∀ {us : List Value}, Vals [] us → us = []
 | _, .nil => rfl
theorem Vals.eraseIdx : ∀ {xs : List V} {us : List Value} (i : Nat), Vals xs us → Vals (xs.eraseIdx i) (us.eraseIdx i)
 | _, _, _, .nil => .nil
 | _, _, 0, .cons _ t => t
 | _, _, i + 1, .cons r t => .cons r (Vals.eraseIdx i t)
theorem Vals.reverse {xs : List V} {us : List Value} (h : Vals xs us) : Vals xs.reverse us.reverse := by
 induction h with
 | nil => exact .nil
 | cons r t ih => rw [List.reverse_cons, List.reverse_cons]; exact Vals.append ih (.cons r .nil)
theorem len_erase {α : Type} : ∀ (l : List α) (i : Nat), (l.eraseIdx i).length ≤ l.length
 | [], _ => Nat.le_refl _
 | _ :: _, 0 => Nat.le_succ _
 | _ :: r, i + 1 => Nat.succ_le_succ (len_erase r i)
section
variable {X : Cx} {pins : List (Addr × Obj)} {σ : St} {H : Hp} {s : Shared} {l b : Addr} {xs ys zs : List V}
theorem Inv.lset {its its' : List Value} {n : Nat} {f : Array Value → Array Value} {t' : Nat} (I : Inv X pins σ H s) (hH : H l = some (.lst xs))
  (e : s.heap.get? l = some { cls := .type "list", data := .seq its.toArray n }) (hf : f its.toArray = its'.toArray) (hv : Vals ys its') (hz : ys.length ≤ sizeLine) :
  Inv X pins σ (upd H l (.lst ys)) { s with heap := s.heap.update l (Obj.mapSeq f), toks := t' } := by
 have q := PySem.IsL.update e f
 rw [hf] at q
 refine I.write (x := l) (e := l) (by rw [hH]; exact trivial) (.inl rfl) (fun b' u hb hu => (Heap.get?_update_other s.heap (Obj.mapSeq f) (Ne.symm hb)).trans hu) ⟨_, q⟩ ?_
 exact ⟨hz, its', _, hv, q⟩
theorem Inv.lnew {its : List Value} {t' : Nat} (I : Inv X pins σ H s) (hv : Vals ys its) (hz : ys.length ≤ sizeLine) :
  Inv X pins σ (upd H s.heap.objs.size (.lst ys)) { s with heap := s.heap.push { cls := .type "list", data := .seq its.toArray }, toks := t' } :=
 I.laid (fun _ _ q => Heap.get?_push_of_some _ q) (Nat.le_refl _) ⟨hz, its, 0, hv, Heap.get?_push_size _ rfl⟩
theorem Inv.fresh (I : Inv X pins σ H s) : H s.heap.objs.size = none := I.hok.fresh (Nat.le_refl _)
theorem Inv.lstM (I : Inv X pins σ H s) (hH : H l = some (.lst xs)) : xs.length ≤ sizeLine ∧ ∃ (its : List Value) (n : Nat), Vals xs its ∧ xs.length = its.length ∧ s.heap.get? l = some { cls := .type "list", data := .seq its.toArray n } := by
 obtain ⟨z, its, n, r, e⟩ := I.hok l _ hH
 exact ⟨z, its, n, r, r.length, e⟩
end
section
variable {X : Cx}
def rAppend : V → List V → Hp → VK → Prop := fun x vs H Q => ∃ l xs y, x = .ref l ∧ vs = [y] ∧ H l = some (.lst xs) ∧ xs.length < sizeLine ∧ Q .non (upd H l (.lst (xs ++ [y])))
theorem mt_append : MtM X "list.append" rAppend := by
 intro pins s σ H x vs v us Q I rx rv h
 obtain ⟨l, xs, y, rfl, rfl, hH, hz, q⟩ := h
 cases rx
 obtain ⟨u, rfl, ru⟩ := rv.one
 obtain ⟨z, its, n, r, hl, e⟩ := I.lstM hH
 refine call_meets F.slot_list_append ⟨_, e, rfl⟩ F.entry_list_append (F.args_list_append_2 _ _) (PySem.list_append l its.toArray n u (by rw [List.size_toArray]; omega)) ⟨e, ?_⟩
 refine ⟨.non, _, I.lset (its' := its ++ [u]) hH e (by simp) (r.append (.cons ru .nil)) ?_, rfl, q⟩
 rw [List.length_append, List.length_singleton]
 omega
def rPopAt : V → List V → Hp → VK → Prop := fun x vs H Q => ∃ l xs i k y, x = .ref l ∧ vs = [.int i] ∧ H l = some (.lst xs) ∧ -(2 ^ 63) ≤ i ∧ i < 2 ^ 63 ∧ seqIndex? i xs.length = some k ∧ xs[k]? = some y ∧ Q y (upd H l (.lst (xs.eraseIdx k)))
theorem mt_popAt : MtM X "list.pop" rPopAt := by
 intro pins s σ H x vs v us Q I rx rv h
 obtain ⟨l, xs, i, k, y, rfl, rfl, hH, h1, h2, hk, hy, q⟩ := h
 cases rx
 obtain ⟨u, rfl, ru⟩ := rv.one
 obtain ⟨t, rfl⟩ := ru
 obtain ⟨z, its, n, r, hl, e⟩ := I.lstM hH
 obtain ⟨w, hw, rw'⟩ := r.get hy
 refine call_meets F.slot_list_pop ⟨_, e, rfl⟩ F.entry_list_pop (F.args_list_pop_2 _ _)
  (MeetsSeq.list_pop_at l its.toArray n i t k w (fitsIndex_both h1 h2) (by rw [List.size_toArray, ← hl]; exact hk) (by rw [← Array.getElem?_toList]; exact hw) (by rw [List.size_toArray]; omega)) ⟨e, ?_⟩
 refine ⟨y, _, I.lset (its' := its.eraseIdx k) hH e ?_ (r.eraseIdx k) ?_, rw', q⟩
 ·show its.toArray.eraseIdxIfInBounds k = (its.eraseIdx k).toArray
  rw [List.eraseIdxIfInBounds_toArray]
 ·have := len_erase xs k
  omega
def rReverse : V → List V → Hp → VK → Prop := fun x vs H Q => ∃ l xs, x = .ref l ∧ vs = [] ∧ H l = some (.lst xs) ∧ Q .non (upd H l (.lst xs.reverse))
theorem mt_reverse : MtM X "list.reverse" rReverse := by
 intro pins s σ H x vs v us Q I rx rv h
 obtain ⟨l, xs, rfl, rfl, hH, q⟩ := h
 cases rx
 have hus := rv.zero
 subst hus
 obtain ⟨z, its, n, r, hl, e⟩ := I.lstM hH
 refine call_meets F.slot_list_reverse ⟨_, e, rfl⟩ F.entry_list_reverse (F.args_list_reverse_1 _) (AutoSeq1.list_reverse_list_0 l its.toArray n (by rw [List.size_toArray]; omega)) ⟨e, ?_⟩
 refine ⟨.non, _, I.lset (its' := its.reverse) hH e (by simp) r.reverse ?_, rfl, q⟩
 rw [List.length_reverse]
 omega
def rCat : R2 := fun x y H Q => ∃ l b xs zs, x = .ref l ∧ y = .ref b ∧ H l = some (.lst xs) ∧ H b = some (.lst zs) ∧ xs.length + zs.length ≤ sizeLine ∧ ∀ p, H p = none → Q (.ref p) (upd H p (.lst (xs ++ zs)))
theorem op_cat : OpR X (binaryOp .Add) rCat := by
 intro pins s σ H x y v u Q I rx ry h
 obtain ⟨l, b, xs, zs, rfl, rfl, hH, hB, hz, q⟩ := h
 cases rx
 cases ry
 obtain ⟨z, its, n, r, hl, e⟩ := I.lstM hH
 obtain ⟨z2, its2, n2, r2, hl2, e2⟩ := I.lstM hB
 refine PySem.P.add_list e e2 ?_ (by rw [List.size_toArray, List.size_toArray]; omega)
 have ea : its.toArray ++ its2.toArray = (its ++ its2).toArray := by simp
 rw [ea]
 exact ⟨.ref _, _, I.lnew (t' := s.toks) (r.append r2) (by rw [List.length_append]; omega), rfl, q _ I.fresh⟩
end
section
variable {prog : Program} {w : World} {A : Around} {E : Value → Shared → Prop} {s : Shared}
end
section
variable {X : Cx}
end
end L2
namespace Att
open PySem PySem.W PySem.Calls PyProof.Rows
theorem ints_of_wellAll {P : Params} {h : Heap} : ∀ (ns : List Int) (vs : List Value), WellAll P h vs (ns.map WData.int) → IntsAre vs ns := by
 intro ns
 induction ns with
 | nil =>
  intro vs w
  rw [List.map_nil] at w
  cases w
  exact .nil
 | cons n ns ih =>
  intro vs w
  rw [List.map_cons] at w
  cases w with
  | cons a b =>
   cases a
   exact .cons _ _ (ih _ b)
theorem script_of {l : OpenLaw} {n : Nat} (hn : l.most = some n) {P : Params} {h : Heap} {args : List WData} {vals : List Value}
  (hpre : l.row.toRowW.claim.pre args = true) (hwl : WellAll P h vals args) :
  ∃ a vs ns, vals = [Value.ref a] ∧ args = [WData.list (ns.map WData.int)] ∧ h.get? a = some { cls := .type "list", data := .seq vs.toArray } ∧ IntsAre vs ns ∧ ns.length ≤ n := by
 have hsh : WShape.hasAll [] args [.list .int] = true := (pre_splitW hpre).1
 have hc : l.pre.holds [] { args := args } = true := (pre_splitW hpre).2
 obtain ⟨d, r, rfl, h1, h2⟩ := hasAllW_cons hsh
 obtain rfl := hasAllW_nil h2
 obtain ⟨xs, rfl, h3⟩ := hasW_list h1
 obtain ⟨ns, rfl⟩ := items_int h3
 have hlen : ns.length ≤ n := by
  unfold OpenLaw.pre at hc
  have h4 : (WTm.not (.lt (.lit (.int (n : Int))) (.len (.arg 0)))).holds [] { args := [.list (ns.map .int)] } = true := by
   have h4 := (holds_andW hc).1
   rw [hn] at h4
   exact h4
  have h5 := condW_of h4 (w_not (w_lt w_lit (w_len_list (w_arg rfl))))
  rw [List.length_map] at h5
  refine Nat.le_of_not_lt fun q => ?_
  have q' : (n : Int) < ((ns.length : Nat) : Int) := by omega
  first
   | (rw [decide_eq_true q'] at h5; exact absurd h5 (by decide))
   | (simp at h5; omega)
 cases hwl with
 | cons w1 w2 =>
  cases w2
  cases w1 with
  | list ho hall => exact ⟨_, _, ns, rfl, rfl, ho, ints_of_wellAll ns _ hall, hlen⟩
theorem post_true (l : OpenLaw) (args : List WData) : l.row.toRowW.claim.post args (.bool true) args = true :=
 postW_of (r := l.row.toRowW) (X := (true == true))
  (show WShape.has [] (.bool true) .bool = true by first | rfl | decide | simp [WShape.has, WShape.arms, WShape.armsAll])
  (show (WTm.eq .res (.lit (.bool true))).value [] { args := args, res := some (.bool true), after := args } = some (.bool (true == true)) from w_eq_bool (w_res rfl) w_lit) rfl
theorem attach_call {l : OpenLaw} {n : Nat} {q : Program} {loose : List Str} {XP : (Str → Option Value) → Heap → Prop} {YP : World → Heap → Prop} {d : DefRec}
  (hn : l.most = some n) (hdf : d.params.defaults = [])
  (call : ∀ (w : World) (s₀ s₁ : Shared) (mg mb : Str → Option Value) (fa : Addr) (o : Obj) (pm cd doc : Value) (a : Addr) (vs : List Value) (ns : List Int),
   Ground q loose [] XP w s₀ mg mb s₁.heap → YP w s₁.heap →
   s₁.heap.get? fa = some o → o.data = .func (docDef d.name d.params d.body d.scope pm cd doc) → s₁.heap.CodeRec cd d.name → mg d.name = some (.ref fa) →
   s₁.heap.get? a = some { cls := .type "list", data := .seq vs.toArray } → IntsAre vs ns → ns.length ≤ n → s₁.gens = #[] →
   codeAny (model l.prog w) callerA (.call (.ref fa) ⟨[.ref a], []⟩) (fun r s' => r = .ok (.ret (.bool true)) ∧ OldK s₁.heap s'.heap ∧ s'.os = s₁.os ∧ AllBare s'.gens) s₁) :
  WalkO q loose XP YP l.row.toRowW d [] (fun f vs => PySem.call f vs) := by
 intro w s₀ s₁ mg mb G Y fa o pm cd doc dV kV ho hd hcd hD hmg hg args vals as hpre hlay hrd hwl hlo
 obtain rfl : dV = .none := Dflts.none hD hdf
 obtain rfl : kV = .none := Dflts.noKw hD
 obtain ⟨a, vs, ns, rfl, rfl, hobj, hints, hlen⟩ := script_of hn hpre hwl
 refine enter_call (codeAny_mono (call w s₀ s₁ mg mb fa o pm cd doc a vs ns G Y ho (fd_plain hd) hcd hmg hobj hints hlen hg) fun r s' hq => ?_)
 obtain ⟨rfl, h2, h3, h4⟩ := hq
 exact ⟨.inl ⟨.bool true, .bool true, [], rfl, fun _ => rfl, .bool true, post_true l _, fun _ => ⟨List.Pairwise.nil, fun _ hm => (nomatch hm)⟩⟩, h2, h3, h4⟩
section
variable {prog : Program} {w : World} {A : Around} {E : Value → Shared → Prop} {s : Shared} {K : Frag}
end
end Att
namespace L2
open PySem PySem.Spec PyProof.Rows
theorem vals_ints : ∀ {vs : List Value} {ns : List Int}, IntsAre vs ns → Vals (ns.map V.int) vs
 | _, _, .nil => .nil
 | _, _, .cons n t h => .cons ⟨t, rfl⟩ (vals_ints h)
def Only (H : Hp) : Prop := ∀ b, H b = none ∨ ∃ o xs, H b = some (.frz o (.lst xs))
theorem law_call {P : Program} {w : World} {K : PySem.W.Frag} {mg mb : Str → Option Value} {CX : CXT} {k : Nat} {fa a : Addr} {fd : FuncData} {x : Str} {sp : Sp} {s₁ : Shared} {vs : List Value} {ns : List Int}
  (KX : K.In s₁.heap) (hns : s₁.heap.Ns mainGlobals mg) (hb : s₁.heap.Ns builtinsNs mb) (hbb : ∀ x : Str, x ≠ "__name__" → mb x = bootBuiltins x) (hlim : s₁.heap.NoLimit) (hg : s₁.gens = #[])
  (ha : s₁.heap.get? a = some { cls := .type "list", data := .seq vs.toArray }) (hi : IntsAre vs ns) (hl : ns.length ≤ sizeLine) (hr : Room k callerA)
  (F : ∀ base : Heap, K.In base → base.Ns mainGlobals mg → FnOk P w K mg base CX k fa fd [x] sp) (hbind : ∀ (s : Shared) (u : Value), BindsTo s fd ⟨[u], []⟩ [(x, u)])
  (hsp : ∀ H : Hp, Only H → SqL K H a (ns.map V.int) → sp [.ref a] H (fun v _ => v = .bl true) fun _ _ _ => False)
  (hCX : ∀ H e s', CX [] H s₁ (fun _ _ _ => False) e s' → False) :
  codeAny (model P w) callerA (.call (.ref fa) ⟨[.ref a], []⟩) (fun r s' => r = .ok (.ret (.bool true)) ∧ OldK s₁.heap s'.heap ∧ s'.os = s₁.os ∧ AllBare s'.gens) s₁ := by
 have rv := vals_ints hi
 have lenV := hi.length
 have core : ∀ H : Hp, Only H → SqL K H a (ns.map V.int) → HOk P w H s₁.heap → (∀ b, H b ≠ none → b = a) → (H a ≠ none → K.lookup a = none) →
   codeAny (model P w) callerA (.call (.ref fa) ⟨[.ref a], []⟩) (fun r s' => r = .ok (.ret (.bool true)) ∧ OldK s₁.heap s'.heap ∧ s'.os = s₁.os ∧ AllBare s'.gens) s₁ := by
  intro H hO hS hok hA hK
  have base_of : ∀ {b : Addr} {o : Obj}, s₁.heap.get? b = some o → H b = none → (hidT s₁.heap H).get? b = some o := fun e n => hidT_get e n
  have noA : ∀ {b : Addr} {o : Obj} {es : Array DictEntry} {ep : Nat}, s₁.heap.get? b = some o → o.data = .dict es ep → H b = none := fun {b o es ep} e d => by
   cases q : H b with
   | none => rfl
   | some u =>
    have e' : b = a := hA b (by rw [q]; simp)
    subst e'
    rw [ha] at e; cases e
    have d' : Data.seq vs.toArray _ = Data.dict es ep := d
    cases d'
  have nsK : ∀ {b : Addr} {m : Str → Option Value}, s₁.heap.Ns b m → (hidT s₁.heap H).Ns b m := fun {b m} ⟨o, es, ep, e, d, r⟩ => ⟨o, es, ep, base_of e (noA e d), d, r⟩
  have hKb : K.In (hidT s₁.heap H) := fun b o e => base_of (KX b o e) (by
   cases q : H b with
   | none => rfl
   | some u =>
    have e' : b = a := hA b (by rw [q]; simp)
    subst e'
    rw [hK (by rw [q]; simp)] at e; cases e)
  have hM : Mod K mg (hidT s₁.heap H) := ⟨hKb, nsK hns, ⟨mb, nsK hb, hbb⟩, let ⟨mc, h1, h2⟩ := hlim; ⟨mc, nsK h1, h2⟩⟩
  have e0 : Env0 P w K mg (hidT s₁.heap H) callerA [] s₁ H := ⟨rfl, hM, fun b o e => of_hidT e, Nat.le_of_eq (hidT_size _ _), trivial, fun b hb => absurd (show b ∈ ([] : List Addr) from hb) (by simp), hok, .of_eq hg⟩
  refine codeAny_mono ((F _ hKb (nsK hns)).run callerA [] s₁ H ⟨[.ref a], []⟩ [.ref a] [.ref a] _ _ hr e0 (hbind s₁ (.ref a)) (.cons rfl .nil) (hsp H hO hS)) fun r s' h => ?_
  cases r with
  | error e => exact (hCX H e s' h).elim
  | ok fl =>
   cases fl with
   | next => exact False.elim h
   | brk => exact False.elim h
   | cont => exact False.elim h
   | ret u =>
    obtain ⟨v, H', os, bare, un, hok', r', q⟩ := h
    have q' : v = .bl true := q
    subst q'
    obtain rfl : u = Value.bool true := r'
    refine ⟨rfl, OldK.of_keep fun b o e => ?_, os, bare⟩
    cases q : H b with
    | none => exact un.keep b o e q (by intro z; exact absurd (show b ∈ ([] : List Addr) from z) (by simp)) (by simp)
    | some u =>
     rcases hO b with z | ⟨ob, xs, z⟩
     ·rw [q] at z; cases z
     ·have z2 := un.frzs b ob _ z
      obtain ⟨e1, _⟩ := hok b _ z
      obtain ⟨e2, _⟩ := hok' b _ z2
      rw [e] at e1; cases e1
      exact e2
 cases hk : K.lookup a with
 | some o =>
  have e := KX a o hk
  rw [ha] at e
  cases e
  refine core (fun _ => none) (fun _ => .inl rfl) (.inr ⟨_, vs.toArray, _, hk, rfl, rfl, rfl, by rw [List.size_toArray, lenV]; exact hl, by simpa using rv⟩) (fun b u z => by have z' : (none : Option HO) = some u := z; cases z') (fun b z => absurd rfl z) fun z => absurd rfl z
 | none =>
  refine core (fun b => if b = a then some (.frz { cls := .type "list", data := .seq vs.toArray } (.lst (ns.map V.int))) else none) (fun b => ?_) (.inl (.inr ⟨{ cls := .type "list", data := .seq vs.toArray }, if_pos rfl⟩)) (fun b u z => ?_) (fun b z => ?_) fun _ => hk
  ·by_cases hb : b = a
   ·exact .inr ⟨_, _, if_pos hb⟩
   ·exact .inl (if_neg hb)
  ·by_cases hb : b = a
   ·have z' := (if_pos hb).symm.trans z
    cases z'
    subst hb
    exact ⟨ha, by rw [List.length_map]; exact hl, vs, _, rv, ha⟩
   ·have z' := (if_neg hb).symm.trans z
    cases z'
  ·by_cases hb : b = a
   ·exact hb
   ·exact absurd (if_neg hb) z
end L2
namespace L2
open PySem PySem.Spec PyProof.Rows
abbrev KOf {K : PySem.W.Frag} {h : Heap} (_ : K.In h) : PySem.W.Frag := K
theorem walk_of {l : PySem.W.OpenLaw} {n k : Nat} {q : Program} {loose : List Str} {XP : (Str → Option Value) → Heap → Prop} {YP : World → Heap → Prop} {d : DefRec} {K : Params → PySem.W.Frag} {CX : World → CXT} {sp : World → Sp} {x : Str}
  (hn : l.most = some n) (hn2 : n ≤ sizeLine) (hdf : d.params.defaults = []) (hr : Room k callerA)
  (hY : ∀ (w : World) (h : Heap), YP w h → (K w.params).In h)
  (F : ∀ (w : World) (mg : Str → Option Value) (fa : Addr) (h : Heap), (K w.params).In h → h.Ns mainGlobals mg → mg d.name = some (.ref fa) →
   ∃ fd : FuncData, (∀ (s : Shared) (u : Value), BindsTo s fd ⟨[u], []⟩ [(x, u)]) ∧
    ∀ base : Heap, (K w.params).In base → base.Ns mainGlobals mg → FnOk l.prog w (K w.params) mg base (CX w) k fa fd [x] (sp w))
  (hsp : ∀ (w : World) (H : Hp) (a : Addr) (ns : List Int), ns.length ≤ n → Only H → SqL (K w.params) H a (ns.map V.int) → sp w [.ref a] H (fun v _ => v = .bl true) fun _ _ _ => False)
  (hCX : ∀ (w : World) (H : Hp) (s : Shared) (e : Value) (s' : Shared), CX w [] H s (fun _ _ _ => False) e s' → False) :
  PySem.W.WalkO q loose XP YP l.row.toRowW d [] (fun f vs => PySem.call f vs) := by
 refine Att.attach_call hn hdf fun w s₀ s₁ mg mb fa o pm cd doc a vs ns G Y ho hd hcd hmg hobj hints hlen hg => ?_
 have KX := hY w _ Y
 obtain ⟨fd, hb, hF⟩ := F w mg fa _ KX G.T.g hmg
 exact law_call KX G.T.g G.T.b G.T.builtins G.T.nolimit hg hobj hints (Nat.le_trans hlen hn2) hr hF hb (fun H hO hS => hsp w H a ns hlen hO hS) fun H e s' => hCX w H s₁ e s'
end L2
namespace L2
open PySem PySem.Spec PyProof.Rows
def defArgs (s : Stmt) : Arguments := match s with
 | .FunctionDef _ a _ _ _ _ _ _ _ _ => a
 | _ => { posonlyargs := [], args := [], vararg := none, kwonlyargs := [], kw_defaults := [], kwarg := none, defaults := [] }
def defBody (s : Stmt) : List Stmt := match s with
 | .FunctionDef _ _ b _ _ _ _ _ _ _ => b
 | _ => []
def defScope (s : Stmt) : Scope := match s with
 | .FunctionDef _ _ _ _ _ _ sc _ _ _ => sc
 | _ => { kind := .function, names := [], isGenerator := false, isCoroutine := false }
abbrev CX0 : CXT := fun _ _ _ _ _ _ => False
abbrev E0 : XK := fun _ _ _ => False
theorem pass0 {X : Cx} : Passes CX0 X E0 := fun _ _ _ _ _ _ _ h => h.elim
structure Fun (K : PySem.W.Frag) (x qual : Str) (st : Stmt) (f : Addr) (fd : FuncData) : Prop where
 ex : ∃ (oc : Value) (od : Option Addr) (kV doc pm : Value) (an : Option Addr) (cdv ct : Value) (osl : Array (Option Value)),
  fd = PySem.W.fnOf x qual (defArgs st) (defBody st) (defScope st) .none kV doc pm an cdv ct ∧ K.lookup f = some ⟨oc, od, .func fd, osl⟩ ∧ PySem.W.codeIn K cdv qual = true
 kp : PySem.W.keepIn K (.ref f) = true
section
variable {P : Program} {w : World} {K : PySem.W.Frag} {mg : Str → Option Value} {base : Heap}
theorem Fun.ok {x qual : Str} {st : Stmt} {f : Addr} {fd : FuncData} {N ps : List Str} {k : Nat} {sp : Sp} (F : Fun K x qual st f fd) (S : FnScope N ps (defScope st)) (len : ∀ vs H Q E, sp vs H Q E → vs.length = ps.length)
  (hbody : ∀ (cdv : Value) (A : Around) (outer : List Env) (s : Shared) (H : Hp) (vs : List V) (Q : VK) (E : XK), Room k (A.deeper (envOfC qual (defScope st) s.heap.objs.size f cdv)) → sp vs H Q E →
   ∃ t, PSs (cxOf CX0 P w K mg base N qual (defScope st) f cdv A outer s H E).nox (defBody st) t ∧ t { nx := fun _ H' => Q .non H', rt := Q } (start N vs) H) : FnOk P w K mg base CX0 (k + 1) f fd ps sp := by
 obtain ⟨oc, od, kV, doc, pm, an, cdv, ct, osl, rfl, lk, hcd⟩ := F.ex
 refine fn_of lk hcd S len fun A outer s H vs Q E hr hsp => ?_
 obtain ⟨t, h, q⟩ := hbody cdv A outer s H vs Q E hr hsp
 exact ⟨t, h.nox, q⟩
theorem fun_mk {x qual : Str} {st : Stmt} {f : Addr} {oc : Value} {od an : Option Addr} {osl : Array (Option Value)} {kV doc pm cdv ct : Value} (l : K.lookup f = some ⟨oc, od, .func (PySem.W.fnOf x qual (defArgs st) (defBody st) (defScope st) .none kV doc pm an cdv ct), osl⟩)
  (c : PySem.W.codeIn K cdv qual = true) (k : PySem.W.keepIn K (.ref f) = true) : Fun K x qual st f (PySem.W.fnOf x qual (defArgs st) (defBody st) (defScope st) .none kV doc pm an cdv ct) := ⟨⟨oc, od, kV, doc, pm, an, cdv, ct, osl, rfl, l, c⟩, k⟩
end
theorem hu_of {A : Around} {k : Nat} (hr : Room k A) : A.units + 1 < cLine := Nat.lt_of_le_of_lt (Nat.add_le_add_left (by decide : 1 ≤ 64) _) hr.units
section
variable {X : Cx}
theorem pv (i : Nat) {x : Str} {pos : Pos} (hN : X.N[i]? = some x := by rfl) (hv : Vis X.env.scope x := by first | exact Or.inl rfl | exact Or.inr (Or.inl rfl) | exact Or.inr (Or.inr rfl)) (hd : (x == ("__debug__" : Str)) = false := by decide)
  (hcd : (x == ("__classdict__" : Str)) = false := by decide) : PE X (.Name x pos) (tVar i) := pe_var hN hv hd hcd
end
theorem iteF {A B : Prop} (h : B) : if false = true then A else B := by
 rw [if_neg Bool.false_ne_true]
 exact h
theorem iteT {A B : Prop} (h : A) : if true = true then A else B := by
 rw [if_pos rfl]
 exact h
theorem ite2 {c A B : Prop} [Decidable c] (h1 : c → A) (h2 : ¬ c → B) : if c then A else B := by
 by_cases h : c
 ·rw [if_pos h]
  exact h1 h
 ·rw [if_neg h]
  exact h2 h
def Same (H H' : Hp) : Prop := ∀ b o, H b = some o → H' b = some o
theorem Same.refl (H : Hp) : Same H H := fun _ _ h => h
theorem Same.trans {H H1 H2 : Hp} (a : Same H H1) (b : Same H1 H2) : Same H H2 := fun c o h => b c o (a c o h)
theorem Same.seq {K : PySem.W.Frag} {H H' : Hp} {a : Addr} {xs : List V} (e : Same H H') (h : SqL K H a xs) : SqL K H' a xs := by
 rcases h with (h | ⟨o, h⟩) | h
 ·exact .inl (.inl (e _ _ h))
 ·exact .inl (.inr ⟨o, e _ _ h⟩)
 ·exact .inr h
end L2
section
namespace L2
open PySem PySem.Spec PyProof.Rows
section
variable {X : Cx}
end
def clOf (env : Env) : List (Str × NameKind) → List (Str × Addr) → List (Str × Addr)
 | [], cs => cs
 | (n, k) :: r, cs => clOf env r (if k == .free then match env.cells.lookup n with | some a => (n, a) :: cs | none => cs else cs)
theorem clOf_from {env : Env} {x : Str} {c : Addr} : ∀ {ns : List (Str × NameKind)} {cs : List (Str × Addr)}, (∀ p ∈ cs, env.cells.lookup p.1 = some p.2) → (clOf env ns cs).lookup x = some c → env.cells.lookup x = some c
 | [], cs, h, e => by
  unfold clOf at e
  exact h (x, c) (PySem.mem_of_lookup e)
 | (n, k) :: r, cs, h, e => by
  unfold clOf at e
  refine clOf_from (ns := r) ?_ e
  intro p hp
  split at hp
  ·split at hp
   ·rename_i a ea
    rcases List.mem_cons.mp hp with rfl | hp
    ·exact ea
    ·exact h p hp
   ·exact h p hp
  ·exact h p hp
theorem lookup_ne_none {x : Str} : ∀ {cs : List (Str × Addr)}, (∃ c, (x, c) ∈ cs) → ∃ c, cs.lookup x = some c
 | [], ⟨_, h⟩ => nomatch h
 | (n, a) :: r, ⟨c, h⟩ => by
  rw [List.lookup_cons]
  cases e : x == n with
  | true => exact ⟨a, rfl⟩
  | false =>
   rcases List.mem_cons.mp h with h | h
   ·cases h
    rw [beq_self_eq_true] at e; cases e
   ·exact lookup_ne_none ⟨c, h⟩
theorem clOf_has {env : Env} {x : Str} : ∀ {ns : List (Str × NameKind)} {cs : List (Str × Addr)}, ((∃ c, (x, c) ∈ cs) ∨ ((x, NameKind.free) ∈ ns ∧ ∃ c, env.cells.lookup x = some c)) → ∃ c, (x, c) ∈ clOf env ns cs
 | [], cs, h => by
  unfold clOf
  rcases h with h | ⟨h, _⟩
  ·exact h
  ·cases h
 | (n, k) :: r, cs, h => by
  unfold clOf
  refine clOf_has (ns := r) ?_
  rcases h with ⟨c, h⟩ | ⟨h, c, hc⟩
  ·refine .inl ⟨c, ?_⟩
   split
   ·split
    ·exact List.mem_cons_of_mem _ h
    ·exact h
   ·exact h
  ·rcases List.mem_cons.mp h with h | h
   ·cases h
    refine .inl ⟨c, ?_⟩
    rw [if_pos (by decide), hc]
    exact List.mem_cons_self
   ·exact .inr ⟨h, c, hc⟩
theorem closureFor_eq {sc : Scope} {env : Env} (h : ∀ p ∈ sc.names, p.2 = NameKind.free → ∃ c, env.cells.lookup p.1 = some c) : closureFor sc env = pure (clOf env sc.names []) := by
 have go : ∀ (ns : List (Str × NameKind)) (cs : List (Str × Addr)), (∀ p ∈ ns, p.2 = NameKind.free → ∃ c, env.cells.lookup p.1 = some c) →
   (forIn ns cs fun (x : Str × NameKind) (r : List (Str × Addr)) => (if (x.2 == NameKind.free) = true then do
     let y ← cellOf env x.1
     pure (ForInStep.yield ((x.1, y) :: r)) else pure (ForInStep.yield r) : Sem (ForInStep (List (Str × Addr))))) = (pure (clOf env ns cs) : Sem (List (Str × Addr))) := by
  intro ns
  induction ns with
  | nil => intro cs _; rfl
  | cons p r ih =>
   intro cs hp
   obtain ⟨n, k⟩ := p
   rw [List.forIn_cons]
   unfold clOf
   by_cases hk : k = NameKind.free
   ·subst hk
    obtain ⟨c, hc⟩ := hp (n, .free) List.mem_cons_self rfl
    have e1 : cellOf env n = pure c := by unfold cellOf; rw [hc]
    simp only [beq_self_eq_true, if_true, e1, hc, pure_bind]
    exact ih _ fun q hq => hp q (List.mem_cons_of_mem _ hq)
   ·have hb : (k == NameKind.free) = false := by simpa using hk
    simp only [hb, Bool.false_eq_true, if_false, pure_bind]
    exact ih _ fun q hq => hp q (List.mem_cons_of_mem _ hq)
 unfold closureFor
 have := go sc.names [] h
 simp only [bind_pure_comp, id_map'] at this ⊢
 rw [this]
 rfl
end L2
end
section
namespace L2
open PySem PySem.Spec PyProof.Rows
theorem relabel_lookup {env : Env} {x : Str} {k' : NameKind} : ∀ {ns : List (Str × NameKind)},
  (ns.map fun (n, k) => if (k == NameKind.free && env.scope.kind == .function && env.kindOf n == some .cell) then (n, NameKind.cell) else (n, k)).lookup x = some k' →
  ∃ k, ns.lookup x = some k ∧ (k' = k ∨ (k = .free ∧ k' = .cell))
 | [], h => by simp at h
 | (n, k) :: r, h => by
  have h' : List.lookup x ((if (k == NameKind.free && env.scope.kind == .function && env.kindOf n == some .cell) = true then (n, NameKind.cell) else (n, k)) :: (r.map fun (n, k) => if (k == NameKind.free && env.scope.kind == .function && env.kindOf n == some .cell) then (n, NameKind.cell) else (n, k))) = some k' := h
  rw [List.lookup_cons]
  by_cases hc : (k == NameKind.free && env.scope.kind == .function && env.kindOf n == some .cell) = true
  ·rw [if_pos hc, List.lookup_cons] at h'
   cases e : x == n with
   | true =>
    rw [e] at h'
    cases h'
    refine ⟨k, rfl, .inr ⟨?_, rfl⟩⟩
    rw [Bool.and_eq_true, Bool.and_eq_true] at hc
    exact eq_of_beq hc.1.1
   | false =>
    rw [e] at h'
    exact relabel_lookup h'
  ·rw [if_neg hc, List.lookup_cons] at h'
   cases e : x == n with
   | true =>
    rw [e] at h'
    cases h'
    exact ⟨_, rfl, .inl rfl⟩
   | false =>
    rw [e] at h'
    exact relabel_lookup h'
theorem relabel_has {env : Env} {x : Str} {k : NameKind} : ∀ {ns : List (Str × NameKind)}, ns.lookup x = some k →
  ∃ k', (ns.map fun (n, k) => if (k == NameKind.free && env.scope.kind == .function && env.kindOf n == some .cell) then (n, NameKind.cell) else (n, k)).lookup x = some k' ∧ (k' = k ∨ (k = .free ∧ k' = .cell))
 | [], h => by simp at h
 | (n, k0) :: r, h => by
  show ∃ k', List.lookup x ((if (k0 == NameKind.free && env.scope.kind == .function && env.kindOf n == some .cell) = true then (n, NameKind.cell) else (n, k0)) :: (r.map fun (n, k) => if (k == NameKind.free && env.scope.kind == .function && env.kindOf n == some .cell) then (n, NameKind.cell) else (n, k))) = some k' ∧ _
  rw [List.lookup_cons] at h
  by_cases hc : (k0 == NameKind.free && env.scope.kind == .function && env.kindOf n == some .cell) = true
  ·rw [if_pos hc, List.lookup_cons]
   cases e : x == n with
   | true =>
    rw [e] at h
    cases h
    refine ⟨_, rfl, .inr ⟨?_, rfl⟩⟩
    rw [Bool.and_eq_true, Bool.and_eq_true] at hc
    exact eq_of_beq hc.1.1
   | false =>
    rw [e] at h
    exact relabel_has h
  ·rw [if_neg hc, List.lookup_cons]
   cases e : x == n with
   | true =>
    rw [e] at h
    cases h
    exact ⟨_, rfl, .inl rfl⟩
   | false =>
    rw [e] at h
    exact relabel_has h
abbrev Cap := List (Option Nat)
def capt (ix : Cap) (σ : St) : St := ix.map fun o => (o.bind fun j => σ[j]?).join
def capOk (N N' : List Str) (sc sc' : Scope) (ix : Cap) : Bool :=
 (ix.length == N'.length) && (sc'.kind == .function) &&
 (sc'.names.all fun p => p.2 != .cell && (p.2 != .local || sc'.names.lookup p.1 == some .local) && (p.2 != .free || (sc.names.lookup p.1 == some .cell || sc.names.lookup p.1 == some .free))) &&
 (List.range ix.length).all fun k => match ix[k]? with
  | some (some j) => match N'[k]? with
   | some x => N[j]? == some x && sc'.names.lookup x == some .free
   | none => false
  | _ => true
structure CapOk (N N' : List Str) (sc sc' : Scope) (ix : Cap) : Prop where
 len : ix.length = N'.length
 kind : sc'.kind = .function
 nocell : ∀ p ∈ sc'.names, p.2 ≠ .cell
 loc : ∀ p ∈ sc'.names, p.2 = .local → sc'.names.lookup p.1 = some .local
 fre : ∀ p ∈ sc'.names, p.2 = .free → sc.names.lookup p.1 = some .cell ∨ sc.names.lookup p.1 = some .free
 cap : ∀ (k j : Nat), ix[k]? = some (some j) → ∃ x, N'[k]? = some x ∧ N[j]? = some x ∧ sc'.names.lookup x = some .free
theorem capOk_of {N N' : List Str} {sc sc' : Scope} {ix : Cap} (h : capOk N N' sc sc' ix = true) : CapOk N N' sc sc' ix := by
 unfold capOk at h
 simp only [Bool.and_eq_true, List.all_eq_true, beq_iff_eq] at h
 obtain ⟨⟨⟨h1, h2⟩, h3⟩, h4⟩ := h
 refine ⟨h1, h2, fun p hp => ?_, fun p hp hl => ?_, fun p hp hf => ?_, fun k j hk => ?_⟩
 ·have := (h3 p hp).1.1
  simpa using this
 ·have := (h3 p hp).1.2
  rw [hl] at this
  simpa using this
 ·have := (h3 p hp).2
  rw [hf] at this
  simpa using this
 ·have hlt : k < ix.length := (List.getElem?_eq_some_iff.mp hk).1
  have := h4 k (List.mem_range.mpr hlt)
  rw [hk] at this
  simp only at this
  cases e : N'[k]? with
  | none => rw [e] at this; simp at this
  | some x =>
   rw [e] at this
   simp only [Bool.and_eq_true, beq_iff_eq] at this
   exact ⟨x, rfl, this.1, this.2⟩
abbrev Cx.comp (X : Cx) (sc : Scope) (N' : List Str) (C : Addr) (s₀ : Shared) (H₀ : Hp) (ex : List Addr) : Cx :=
 { X with N := N', s₀ := s₀, H₀ := H₀, env := compEnvC sc (clOf X.env sc.names []) C X.env, outer := X.stack, stack := X.stack, ex := ex, fn := fun _ => false, pn := [], xe := fun _ _ => False }
def Ext (σ σ' : St) : Prop := σ.length = σ'.length ∧ ∀ (i : Nat) v, σ[i]? = some (some v) → σ'[i]? = some (some v)
theorem ext_set {σ : St} {i : Nat} {v : Option V} (h : σ[i]? = some none) : Ext σ (σ.set i v) := by
 refine ⟨by simp, fun j w e => ?_⟩
 by_cases hj : i = j
 ·subst hj; rw [h] at e; cases e
 ·rw [List.getElem?_set_ne hj]; exact e
def PTs (X : Cx) (ifs : List Expr) (t : TT) : Prop :=
 ∀ (pins : List (Addr × Obj)) (s : Shared) (σ : St) (H : Hp) (Q : Bool → Hp → Prop), Inv X pins σ H s → t σ H Q →
  wpAny (model X.prog X.w) X.A (forIn ifs true fun c r => if r = true then do let ok ← isTrue c X.env (eval c X.env); pure (ForInStep.yield ok) else pure (ForInStep.yield r)) (TP X pins σ Q) X.xe s
def tYes : TT := fun _ H Q => Q true H
theorem pts_nil {X : Cx} : PTs X [] tYes := fun _ _ _ H _ I h => wpAny_tests_nil ⟨H, I, h⟩
theorem pts_one {X : Cx} {c : Expr} {t : TT} (h : PT X c t) : PTs X [c] t := fun pins s σ H Q I hw => wpAny_tests_one (h pins s σ H Q I hw)
def CompGo (J : It) (ix : Cap) (g : TG) (tt : TT) (te : TE) (σ : St) (H1 : Hp) (Q : VK) : Prop := ∃ W : Nat → Nat → List V → Hp → Prop, (∃ m, W 0 m [] H1) ∧ ∀ i m ys H, W i m ys H →
 (J.stop i H ∧ ∀ D, H D = none → Q (.ref D) (upd H D (.lst ys))) ∨
 (J.go i H ∧ ys.length < sizeLine ∧ ∀ x H', J.yld i H x H' → g x (capt ix σ) H' fun σ2 H2 => Ext (capt ix σ) σ2 ∧ tt σ2 H2 fun b H3 =>
  if b = true then te σ2 H3 fun y H4 => ∃ m', m' < m ∧ W (i + 1) m' (ys ++ [y]) H4 else ∃ m', m' < m ∧ W (i + 1) m' ys H3)
def tComp (ix : Cap) (wi : TI) (g : TG) (tt : TT) (te : TE) : TE := fun σ H Q => wi σ H fun J H1 => CompGo J ix g tt te σ H1 Q
theorem HOk.track {P : Program} {w : World} {H : Hp} {h : Heap} {a : Addr} {o : HO} (x : HOk P w H h) (hn : H a = none) (new : ObjOk P w (upd H a o) h a o) : HOk P w (upd H a o) h := fun b u e => by
 by_cases hb : b = a
 ·subst hb; rw [upd_same] at e; cases e; exact new
 ·rw [upd_ne hb] at e
  exact (x b u e).stay (fun c v _ q => q) (fun c q => by rw [upd_ne (ne_of_none q hn)]; exact q) fun c xs q => by rw [upd_ne (ne_of_none q hn)]; exact q
theorem codeAny_compLoop_own {prog : Program} {w : World} {A : Around} {R : Result → Shared → Prop} {s : Shared} {elt target iter : Expr} {ifs : List Expr} {scope : Scope} {pos : Pos} {it acc : Value} {env : Env} (I : Nat → Shared → Prop)
  (turn : ∀ n s, I n s → wpAny (model prog w) A (pyNext it) (fun r s₁ => match r with
   | none => R (.ok .next) s₁
   | some v => wpAny (model prog w) A (letOwnedTupleGo target it v) (fun _ s₁' => wpAny (model prog w) A (assign target env v) (fun _ s₂ =>
     wpAny (model prog w) A (forIn ifs true fun c r => if r = true then do let ok ← isTrue c env (eval c env); pure (ForInStep.yield ok) else pure (ForInStep.yield r)) (fun ok s₃ =>
      if ok = true then wpAny (model prog w) A (eval elt env) (fun x s₄ =>
       wpAny (model prog w) A (call (.builtin "list.append") [acc, x]) (fun _ s₅ => ∃ m, m < n ∧ I m s₅) (notedBy (model prog w) A env fun e s' => R (.error e) s') s₄) (notedBy (model prog w) A env fun e s' => R (.error e) s') s₃
      else ∃ m, m < n ∧ I m s₃) (notedBy (model prog w) A env fun e s' => R (.error e) s') s₂) (notedBy (model prog w) A env fun e s' => R (.error e) s') s₁') (notedBy (model prog w) A env fun e s' => R (.error e) s') s₁) (notedBy (model prog w) A env fun e s' => R (.error e) s') s)
  (n : Nat) (h : I n s) :
  codeAny (model prog w) A (.compLoop (.ListComp elt [⟨target, iter, ifs, 0⟩] scope pos) 0 it acc env) R s := by
 refine codeAny_loop rfl I (fun n s hI => ?_) n h
 show wpAny _ A ((compTurn (.ListComp elt [⟨target, iter, ifs, 0⟩] scope pos) 0 it acc env).onRaise (fun x => do noteFrame x env; theTreesLotGoes x)) _ _ s
 refine wpAny_noted ?_
 rw [compTurn_list]
 refine wpAny_bind (wpAny_standAt (wpAny_bind (wpAny_mono (turn n s hI) (fun r s₁ h₁ => ?_) fun _ _ h' => h')))
 cases r with
 | none => exact wpAny_pure h₁
 | some v =>
  refine wpAny_bind (wpAny_mono h₁ (fun _ s₁' h₁' => ?_) fun _ _ h' => h')
  refine wpAny_bind (wpAny_mono h₁' (fun _ s₂ h₂ => wpAny_bind (wpAny_mono h₂ (fun ok s₃ h₃ => ?_) fun _ _ h' => h')) fun _ _ h' => h')
  cases ok with
  | false => exact wpAny_pure ⟨rfl, h₃⟩
  | true =>
   exact wpAny_bind (wpAny_bind (wpAny_mono h₃ (fun x s₄ h₄ => wpAny_bind (wpAny_mono h₄ (fun _ s₅ h₅ => wpAny_pure (wpAny_pure ⟨rfl, h₅⟩)) fun _ _ h' => h')) fun _ _ h' => h'))
section
variable {X : Cx}
theorem no_exc {M : Model} {A : Around} {α : Type} {t : Sem α} {Q : α → Shared → Prop} {E : Value → Shared → Prop} {s : Shared} (h : wpAny M A t Q (fun _ _ => False) s) : wpAny M A t Q E s := wpAny_mono h (fun _ _ q => q) fun _ _ z => z.elim
theorem comp_block {elt tg iter : Expr} {ifs : List Expr} {sc : Scope} {pos : Pos} {N' : List Str} {ix : Cap} {g : TG} {tt : TT} {te : TE} {pins : List (Addr × Obj)} {σ : St} {s : Shared} {Q : VK} {RR : Value → Addr → Result → Shared → Prop} {E : Value → Shared → Prop}
  {itv : Value} (hc : X.calm = true) (ok : CapOk X.N N' X.env.scope sc ix)
  (hg : ∀ C s₀ H₀ ex, PG (X.comp sc N' C s₀ H₀ ex) tg g) (ht : ∀ C s₀ H₀ ex, PTs (X.comp sc N' C s₀ H₀ ex) ifs tt) (he : ∀ C s₀ H₀ ex, PE (X.comp sc N' C s₀ H₀ ex) elt te)
  (hi : PIE X pins σ tg (fun J H1 => CompGo J ix g tt te σ H1 Q) itv s)
  (fin : ∀ (D C : Addr) (s' : Shared) (H' : Hp) (m : Str → Option Value), Inv X pins σ H' s' → Q (.ref D) H' → s'.heap.Ns C m → H' C = none → C ≠ X.env.locals → X.s₀.heap.objs.size ≤ C → (∀ x c, X.env.cells.lookup x = some c → c ≠ C) → (∀ p ∈ X.pn ++ pins, p.1 ≠ C) →
   RR (.ref D) C (.ok .next) s') :
  wpAny (model X.prog X.w) X.A (newList []) (fun acc s₃ => wpAny (model X.prog X.w) X.A (newFunctionEnv sc X.env.globals (clOf X.env sc.names []) [] X.env.qual none .none (some X.env)) (fun cenv s₄ =>
   codeAny (model X.prog X.w) X.A (.compStart (.ListComp elt [⟨tg, iter, ifs, 0⟩] sc pos) 0 itv acc { cenv with scope := relabel sc X.env }) (RR acc cenv.locals) s₄) E s₃) E s := by
 obtain ⟨it, fp, tn, J, H2, rfl, I2, T, st2, f2, W, ⟨m0, w0⟩, turn⟩ := hi
 refine wpAny_newObj_type (wpAny_newFunctionEnv ok.nocell (by intro y hy; simp at hy) (fun h₁ hns₁ hsb₁ => ?_) ok.kind)
 dsimp only at hns₁ hsb₁ ⊢
 generalize hHD : s.heap.push { cls := .type "list", dict := none, data := .seq ([] : List Value).toArray } = hD at hns₁ hsb₁ ⊢
 have hCs : hD.objs.size = s.heap.objs.size + 1 := by rw [← hHD, Heap.size_push]
 have upC : s.heap.objs.size < hD.objs.size := by rw [hCs]; exact Nat.lt_succ_self _
 have hDC : s.heap.objs.size ≠ hD.objs.size := by rw [hCs]; exact Nat.ne_of_lt (Nat.lt_succ_self _)
 have below : ∀ b o, s.heap.get? b = some o → b ≠ hD.objs.size ∧ b ≠ s.heap.objs.size := fun b o e => by
  have := Heap.lt_size e
  exact ⟨Nat.ne_of_lt (by rw [hCs]; exact Nat.lt_succ_of_lt this), Nat.ne_of_lt this⟩
 have old : ∀ b o, s.heap.get? b = some o → h₁.get? b = some o := fun b o e => hsb₁.extBut b o (below b o e).1 (Heap.get?_push_of_some _ (hHD ▸ Heap.get?_push_of_some _ e))
 have hacc : h₁.get? s.heap.objs.size = some { cls := .type "list", data := .seq ([] : List Value).toArray 0 } := hsb₁.extBut _ _ hDC (Heap.get?_push_of_some _ (hHD ▸ Heap.get?_push_size _ rfl))
 have fpo : ∀ b ∈ fp, b < s.heap.objs.size := fun b hb => let ⟨o, e, _⟩ := T.obj _ _ st2 b hb; Heap.lt_size e
 have cellX : ∀ x c, (clOf X.env sc.names []).lookup x = some c → X.env.cells.lookup x = some c := fun x c e => clOf_from (fun p hp => absurd hp (by simp)) e
 have cellLt : ∀ x c, X.env.cells.lookup x = some c → c < s.heap.objs.size := fun x c e => let ⟨v, z⟩ := I2.cell x c e; z.lt
 have hasC : ∀ x, (x, NameKind.free) ∈ sc.names → ∃ c, (clOf X.env sc.names []).lookup x = some c := fun x hx => by
  have h1 := I2.ok.has x (ok.fre (x, .free) hx rfl)
  exact lookup_ne_none (clOf_has (.inr ⟨hx, h1⟩))
 have okX : (X.comp sc N' hD.objs.size s H2 fp).Ok := by
  refine ⟨I2.ok.mod, ok.kind, I2.ok.glob, I2.ok.blt, ?_, ?_, ?_, ?_, I2.ok.hd, I2.ok.frames, .inl rfl, ?_, I2.bs, Nat.le_trans I2.ok.bsz I2.sz, ?_, ?_, I2.stack, I2.stkFree⟩
  ·exact Nat.le_of_lt upC
  ·intro x y c h1 h2
   exact I2.ok.inj x y c (cellX x c h1) (cellX y c h2)
  ·intro x hx
   have hx' : (relabel sc X.env).names.lookup x = some .cell ∨ (relabel sc X.env).names.lookup x = some .free := hx
   have : ∃ k, sc.names.lookup x = some k ∧ (k = .free ∨ k = .cell) := by
    rcases hx' with h | h
    ·obtain ⟨k, e, z⟩ := relabel_lookup h
     rcases z with z | ⟨z, _⟩
     ·exact ⟨k, e, .inr z.symm⟩
     ·exact ⟨k, e, .inl z⟩
    ·obtain ⟨k, e, z⟩ := relabel_lookup h
     rcases z with z | ⟨_, z⟩
     ·exact ⟨k, e, .inl z.symm⟩
     ·cases z
   obtain ⟨k, e, z⟩ := this
   rcases z with rfl | rfl
   ·exact hasC x (PySem.mem_of_lookup e)
   ·exact absurd rfl (ok.nocell _ (PySem.mem_of_lookup e))
  ·intro x c h _
   cases h
  ·intro b hb
   refine ⟨?_, fun x c e => (f2 b hb).2.2.2.2.1 x c (cellX x c e)⟩
   exact Nat.ne_of_lt (by rw [hCs]; exact Nat.lt_succ_of_lt (fpo b hb))
  ·intro b o e hb
   rcases (f2 b hb).2.2.2.1 with z | z
   ·exact I2.ok.noex b o e z
   ·exact absurd (Nat.lt_of_lt_of_le (Heap.lt_size (I2.ok.bs b o e).1) z) (Nat.lt_irrefl _)
  ·intro b hb z
   rcases List.mem_cons.mp (I2.stkSub b z) with z | z
   ·exact (f2 b hb).2.1 z
   ·exact (f2 b hb).2.2.1 z
 have hnD : H2 s.heap.objs.size = none := I2.hok.fresh (Nat.le_refl _)
 have hnC : H2 hD.objs.size = none := I2.hok.fresh (Nat.le_of_lt upC)
 have nofsD : ∀ a, s.heap.objs.size ≤ a → a ∉ frs X.stack := fun a ha z => by
  rcases List.mem_cons.mp (I2.stkSub a z) with z | z
  ·exact absurd (Nat.lt_of_lt_of_le I2.lt ha) (by rw [z]; exact Nat.lt_irrefl _)
  ·exact I2.nofs ha z
 have start : Inv (X.comp sc N' hD.objs.size s H2 fp) [(s.heap.objs.size, { cls := .type "list", data := .seq ([] : List Value).toArray 0 })] (capt ix σ) H2 { s with heap := h₁, toks := s.toks + ([] : List (Str × Value)).length } := by
  refine ⟨okX, rfl, I2.bare, Un.kept old, ⟨_, hns₁, ?_⟩, fun x c e => ?_, hnC, fun x c e => I2.freeC x c (cellX x c e), fun p hp => ?_, I2.hok.kept old, ?_⟩
  ·intro i x v hN hv hvis
   have hl : i < ix.length := by rw [ok.len]; exact (List.getElem?_eq_some_iff.mp hN).1
   have hv' : (ix.map fun o => (o.bind fun j => σ[j]?).join)[i]? = some (some v) := hv
   rw [List.getElem?_map, List.getElem?_eq_getElem hl] at hv'
   have hv'' : ((ix[i].bind fun j => σ[j]?).join) = some v := Option.some.inj hv'
   cases ej : ix[i] with
   | none => rw [ej] at hv''; cases hv''
   | some j =>
    rw [ej] at hv''
    have hσ : σ[j]? = some (some v) := by
     have z : (σ[j]?).join = some v := hv''
     cases q : σ[j]? with
     | none => rw [q] at z; cases z
     | some o => rw [q] at z; exact congrArg some z
    obtain ⟨x', e1, e2, e3⟩ := ok.cap i j (by rw [List.getElem?_eq_getElem hl, ej])
    rw [show N'[i]? = some x from hN] at e1
    cases e1
    have hk := ok.fre (x, .free) (PySem.mem_of_lookup e3) rfl
    obtain ⟨m, hm, hl'⟩ := I2.loc
    obtain ⟨u, ru, lk⟩ := hl' j x v e2 hσ (hk.elim (fun z => .inr (.inl z)) fun z => .inr (.inr z))
    refine ⟨u, ru, .inr ⟨?_, ?_⟩⟩
    ·show (relabel sc X.env).names.lookup x = some .cell ∨ (relabel sc X.env).names.lookup x = some .free
     obtain ⟨k', q1, q2⟩ := relabel_has (env := X.env) e3
     rcases q2 with q2 | ⟨_, q2⟩
     ·exact .inr (q1.trans (congrArg some q2))
     ·exact .inl (q1.trans (congrArg some q2))
    ·obtain ⟨c, hc'⟩ := hasC x (PySem.mem_of_lookup e3)
     refine ⟨c, hc', ?_⟩
     rcases lk with ⟨z, _⟩ | ⟨_, c', ec, ⟨o, ho, hd⟩⟩
     ·have z' : X.env.scope.names.lookup x = some .local := z
      rcases hk with hk | hk
      ·rw [z'] at hk; cases hk
      ·rw [z'] at hk; cases hk
     ·rw [cellX x c hc'] at ec
      cases ec
      exact ⟨o, old _ _ ho, hd⟩
  ·obtain ⟨v, o, ho, hd⟩ := I2.cell x c (cellX x c e)
   exact ⟨v, o, old _ _ ho, hd⟩
  ·have e : p = (s.heap.objs.size, { cls := .type "list", data := .seq ([] : List Value).toArray 0 }) := by simpa using hp
   subst e
   exact ⟨hacc, hnD, hDC, nofsD _ (Nat.le_refl _), fun v z => by cases z⟩
  ·show (ix.map _).length = N'.length
   rw [List.length_map]
   exact ok.len
 have st1 : tn 0 h₁ := T.keep _ _ _ st2 fun b hb o e => old b o e
 have loop : ∀ s₃ : Shared, s₃ = { s with heap := h₁, toks := s.toks + ([] : List (Str × Value)).length } →
   codeAny (model X.prog X.w) X.A (.compLoop (.ListComp elt [⟨tg, iter, ifs, 0⟩] sc pos) 0 (.ref it) (.ref s.heap.objs.size) (compEnvC sc (clOf X.env sc.names []) hD.objs.size X.env))
    (RR (.ref s.heap.objs.size) hD.objs.size) s₃ := by
  rintro s₃ rfl
  have fpI : ∀ {H' : Hp} {o : Obj}, (∀ b ∈ fp, H' b = none) → ∀ b ∈ fp, FpOk (X.comp sc N' hD.objs.size s H2 fp) [(s.heap.objs.size, o)] H' b := fun {H' o} hn b hb => by
   have hlt := fpo b hb
   refine ⟨hn b hb, (okX.exf b hb).1, okX.exfs b hb, .inl hb, (okX.exf b hb).2, fun p hp => ?_⟩
   have e : p = (s.heap.objs.size, o) := by simpa using hp
   subst e
   exact Nat.ne_of_gt hlt
  refine codeAny_compLoop_own (fun n s' => ∃ i ys its k H', Inv (X.comp sc N' hD.objs.size s H2 fp) [(s.heap.objs.size, { cls := .type "list", data := .seq its.toArray k })] (capt ix σ) H' s' ∧ Vals ys its ∧ ys.length ≤ sizeLine ∧ tn i s'.heap ∧ (∀ b ∈ fp, H' b = none) ∧ W i n ys H')
   ?_ m0 ⟨0, [], [], 0, H2, start, .nil, Nat.zero_le _, st1, fun b hb => (f2 b hb).1, w0⟩
  rintro n s4 ⟨i, ys, its, k, H4, I4, r4, z4, st4, fr4, w4⟩
  rcases turn i n ys H4 w4 with ⟨stop, q⟩ | ⟨go, hz, step⟩
  ·refine no_exc (thn (T.done (X.comp sc N' hD.objs.size s H2 fp) rfl rfl rfl hc i _ s4 _ H4 (fun _ _ => False) I4 (fpI fr4) st4 stop) fun r s5 ⟨hr, I5⟩ => ?_)
   subst hr
   show RR (.ref s.heap.objs.size) hD.objs.size (.ok .next) s5
   obtain ⟨pD, nD, _, _, _⟩ := I5.pin (s.heap.objs.size, { cls := .type "list", data := .seq its.toArray k }) (by simp)
   obtain ⟨m5, hm5, _⟩ := I5.loc
   have okD : HOk X.prog X.w (upd H4 s.heap.objs.size (.lst ys)) s5.heap := I5.hok.track nD ⟨z4, its, k, r4, pD⟩
   have un : Un (frs X.stack) fp H2 (upd H4 s.heap.objs.size (.lst ys)) s.heap s5.heap := by
    have B : Un (frs X.stack) fp H2 H4 s.heap s5.heap := I5.base
    have ne : ∀ b u, H2 b = some u → b ≠ s.heap.objs.size := fun b u e => ne_of_none e hnD
    refine ⟨B.keep, B.slot, fun b o e n hb => ?_, B.there, fun b xs e => ?_, fun b o u e => ?_, fun b ps e => ?_⟩
    ·rw [upd_ne (below b o e).2]; exact B.free b o e n hb
    ·rw [upd_ne (ne b _ e)]; exact B.tups b xs e
    ·rw [upd_ne (ne b _ e)]; exact B.frzs b o u e
    ·rw [upd_ne (ne b _ e)]; exact B.tbls b ps e
   have IX : Inv X pins σ (upd H4 s.heap.objs.size (.lst ys)) s5 := I2.call' (ch := fp) I5.os un okD I5.bare fun b hb => ⟨(f2 b hb).2.2.2.1, (f2 b hb).2.1, (f2 b hb).2.2.2.2.1, (f2 b hb).2.2.2.2.2⟩
   refine fin _ _ s5 _ m5 IX (q _ nD) hm5 ?_ (Nat.ne_of_gt (Nat.lt_trans I2.lt upC)) (Nat.le_of_lt (Nat.lt_of_le_of_lt I2.sz upC)) (fun x c e => Nat.ne_of_lt (Nat.lt_trans (cellLt x c e) upC)) (fun p hp => Nat.ne_of_lt (Nat.lt_trans (Heap.lt_size (I2.pin p hp).1) upC))
   rw [upd_ne (Ne.symm hDC)]; exact I5.free
  ·refine no_exc (thn (T.item (X.comp sc N' hD.objs.size s H2 fp) rfl rfl rfl hc i _ s4 _ H4 (fun _ _ => False) I4 (fpI fr4) st4 go) fun r s5 ⟨u, hr, h5⟩ => ?_)
   subst hr
   refine no_exc (thn h5 fun _ s6 ⟨x, H6, I6, r6, y6, st6, fr6⟩ => ?_)
   have I6' := I6.pinned (fpI fr6) (T.obj _ _ st6)
   refine no_exc (thn (hg _ _ _ _ _ s6 _ H6 x u _ I6' r6 (step x H6 y6)) fun _ s7 ⟨σ7, H7, I7, x7, q7⟩ => ?_)
   refine no_exc (thn (ht _ _ _ _ _ s7 σ7 H7 _ I7 q7) fun b s8 ⟨H8, I8, q8⟩ => ?_)
   have back : ∀ {s9 : Shared} {H9 : Hp}, Inv (X.comp sc N' hD.objs.size s H2 fp) ([(s.heap.objs.size, { cls := .type "list", data := .seq its.toArray k })] ++ pinsAt fp s6.heap) σ7 H9 s9 →
     Inv (X.comp sc N' hD.objs.size s H2 fp) [(s.heap.objs.size, { cls := .type "list", data := .seq its.toArray k })] (capt ix σ) H9 s9 ∧ tn (i + 1) s9.heap ∧ (∀ b ∈ fp, H9 b = none) := fun {s9 H9} J9 => by
    refine ⟨(J9.unpinned).weak x7.1 x7.2, T.keep _ _ _ st6 fun b hb o e => (J9.pin (b, o) (List.mem_append_right _ (List.mem_append_right _ (mem_pinsAt hb e)))).1, fun b hb => ?_⟩
    obtain ⟨o, e, d⟩ := T.obj _ _ st6 b hb
    exact (J9.pin (b, o) (List.mem_append_right _ (List.mem_append_right _ (mem_pinsAt hb e)))).2.1
   cases b with
   | false =>
    rw [if_neg Bool.false_ne_true] at q8 ⊢
    obtain ⟨m', hm, w8⟩ := q8
    obtain ⟨J8, st8, fr8⟩ := back I8
    exact ⟨m', hm, i + 1, ys, its, k, H8, J8, r4, z4, st8, fr8, w8⟩
   | true =>
    rw [if_pos rfl] at q8 ⊢
    refine no_exc (thn (he _ _ _ _ _ s8 σ7 H8 _ I8 q8) fun y s9 ⟨v9, H9, I9, r9, q9⟩ => ?_)
    obtain ⟨m', hm, w9⟩ := q9
    obtain ⟨J9, st9, fr9⟩ := back I9
    obtain ⟨pD, nD, neC, nf, _⟩ := J9.pin (s.heap.objs.size, { cls := .type "list", data := .seq its.toArray k }) (by simp)
    have hlen := r4.length
    refine call_meets F.slot_list_append ⟨_, pD, rfl⟩ F.entry_list_append (F.args_list_append_2 _ _) (PySem.list_append s.heap.objs.size its.toArray k y (by rw [List.size_toArray]; omega)) ⟨pD, ?_⟩
    have q := PySem.IsL.update pD (·.push y)
    have ep : its.toArray.push y = (its ++ [y]).toArray := by simp
    dsimp only at q
    rw [ep] at q
    obtain ⟨k', q⟩ : ∃ k', (s9.heap.update s.heap.objs.size (Obj.mapSeq (·.push y))).get? s.heap.objs.size = some { cls := .type "list", data := .seq (its ++ [y]).toArray k' } := ⟨_, q⟩
    have J0 : Inv (X.comp sc N' hD.objs.size s H2 fp) [] (capt ix σ) H9 s9 := J9.pins_of fun p hp => absurd hp (by simp)
    have J1 : Inv (X.comp sc N' hD.objs.size s H2 fp) [] (capt ix σ) H9 { s9 with heap := s9.heap.update s.heap.objs.size (Obj.mapSeq (·.push y)) } :=
     J0.turned (it := s.heap.objs.size) (t' := s9.toks) (fun b o hb e => (Heap.get?_update_other _ _ (Ne.symm hb)).trans e) nD neC (.inr (Nat.le_refl _)) (fun x c e => Nat.ne_of_lt (cellLt x c (cellX x c e))) fun p hp => absurd hp (by simp)
    refine ⟨m', hm, i + 1, ys ++ [v9], its ++ [y], k', H9, J1.pins_of fun p hp => ?_, r4.append (.cons r9 .nil), ?_, T.keep _ _ _ st9 fun b hb o e => (Heap.get?_update_other _ _ ?_).trans e, fr9, w9⟩
    ·have e : p = _ := List.mem_singleton.mp hp
     subst e
     exact ⟨q, nD, neC, nf, fun v z => by cases z⟩
    ·rw [List.length_append, List.length_singleton]; omega
    ·exact Nat.ne_of_gt (fpo b hb)
 exact codeAny_compStart_list (loop _ rfl) (T.self _ 0 _ _ _ st1 (loop _ rfl))
theorem Inv.letGo {pins : List (Addr × Obj)} {σ : St} {H : Hp} {s : Shared} {C : Addr} {h' : Heap} (I : Inv X pins σ H s) (hs : Heap.SameBut C s.heap h') (h0 : H C = none) (h1 : C ≠ X.env.locals) (h2 : X.s₀.heap.objs.size ≤ C) (h3 : ∀ x c, X.env.cells.lookup x = some c → c ≠ C)
  (h4 : ∀ p ∈ X.pn ++ pins, p.1 ≠ C) : Inv X pins σ H { s with heap := h' } := I.turned (t' := s.toks) (fun b o hb e => (hs.2 b hb).trans e) h0 h1 (.inr h2) h3 h4
theorem pe_comp {elt tg iter : Expr} {ifs : List Expr} {sc : Scope} {pos : Pos} (N' : List Str) (ix : Cap) {wi : TI} {g : TG} {tt : TT} {te : TE} (hc : X.calm = true) (hok : capOk X.N N' X.env.scope sc ix = true)
  (hi : PI X tg iter wi) (hg : ∀ C s₀ H₀ ex, PG (X.comp sc N' C s₀ H₀ ex) tg g) (ht : ∀ C s₀ H₀ ex, PTs (X.comp sc N' C s₀ H₀ ex) ifs tt) (he : ∀ C s₀ H₀ ex, PE (X.comp sc N' C s₀ H₀ ex) elt te)
  (hs : ∀ x, foldedSetIterable iter X.env x = pure x := by intro _; rfl) : PE X (.ListComp elt [⟨tg, iter, ifs, 0⟩] sc pos) (tComp ix wi g tt te) := by
 intro pins s σ H Q I h
 have ok := capOk_of hok
 rw [eval_ListComp]
 refine wpAny_comprehension_free (use := none) rfl hs (closureFor_eq fun p hp hk => I.ok.has p.1 (ok.fre p hp hk)) ok.kind ok.loc (thn (hi pins s σ H _ I h) fun v s1 h1 => thn h1 fun itv s2 h2 => ?_)
 refine comp_block (RR := fun acc C => compPost (model X.prog X.w) X.A X.xe none (EP X pins σ Q) acc C) hc ok hg ht he h2 ?_
 intro D C s' H' m I' q hm h0 h1 h2 h3 h4
 exact ⟨m, hm, fun h' hsb => ⟨.ref D, H', I'.letGo hsb h0 h1 h2 h3 h4, rfl, q⟩⟩
theorem ps_setComp {elt tg iter : Expr} {ifs : List Expr} {sc : Scope} {pos spos py : Pos} {i : Nat} {y : Str} (N' : List Str) (ix : Cap) {wi : TI} {g : TG} {tt : TT} {te : TE} (hc : X.calm = true) (hok : capOk X.N N' X.env.scope sc ix = true)
  (hN : X.N.Nodup) (hy : X.N[i]? = some y) (hx : Loc X.env.scope y)
  (hi : PI X tg iter wi) (hg : ∀ C s₀ H₀ ex, PG (X.comp sc N' C s₀ H₀ ex) tg g) (ht : ∀ C s₀ H₀ ex, PTs (X.comp sc N' C s₀ H₀ ex) ifs tt) (he : ∀ C s₀ H₀ ex, PE (X.comp sc N' C s₀ H₀ ex) elt te)
  (hs : ∀ x, foldedSetIterable iter X.env x = pure x := by intro _; rfl) (hsw : swapsWith (.ListComp elt [⟨tg, iter, ifs, 0⟩] sc pos) (some (.Name y py)) spos.line X.env = pure true := by rfl)
  (hf : X.fn y = true ∨ X.env.scope.names.lookup y = some .local := by first | exact .inl rfl | exact .inr rfl | assumption) :
  PS X (.Assign [.Name y py] (.ListComp elt [⟨tg, iter, ifs, 0⟩] sc pos) spos) (tAsg (tComp ix wi g tt te) (gName i)) := by
 intro pins s σ H D I h
 have ok := capOk_of hok
 rw [exec_Assign_Name_used _ _ _ _ hsw]
 refine wpAny_bind (wpAny_standAt (wpAny_bind ?_))
 show wpAny _ X.A (do let _ ← comprehension (.ListComp elt [⟨tg, iter, ifs, 0⟩] sc pos) sc X.env _ (newList []) false (eval iter X.env) (some (assign (.Name y py) X.env))) _ _ s
 refine wpAny_bind (wpAny_mono (wpAny_comprehension_free (use := some (assign (.Name y py) X.env)) (Q := fun _ s' => SP X pins D .next s') rfl hs (closureFor_eq fun p hp hk => I.ok.has p.1 (ok.fre p hp hk)) ok.kind ok.loc
  (thn (hi pins s σ H _ I h) fun v s1 h1 => thn h1 fun itv s2 h2 => ?_)) (fun _ s' hq => wpAny_pure (wpAny_pure hq)) fun _ _ e => e)
 refine comp_block (Q := fun x H1 => gName i x σ H1 D.nx) (RR := fun acc C => compPost (model X.prog X.w) X.A X.xe (some (assign (.Name y py) X.env)) (fun _ s' => SP X pins D .next s') acc C) hc ok hg ht he h2 ?_
 intro Dl C s' H' m I' q hm h0 h1 h2 h3 h4
 refine wpAny_assign_Name (store_ok2 I' hN hy hx (v := .ref Dl) rfl (fun s3 I3 sb => ?_) hf)
 obtain ⟨a, hsb, ha⟩ := sb
 have hne : C ≠ a := by
  rcases ha with e | e
  ·rw [e]; exact h1
  ·exact Ne.symm (h3 y a e)
 exact ⟨m, hm.sameBut hsb hne, fun h' hs' => ⟨_, H', I3.letGo hs' h0 h1 h2 h3 h4, q⟩⟩
end
section
variable {ix : Cap} {tt : TT} {te : TE} {g : TG} {σ : St} {H : Hp} {Q : VK}
def Nxt (Pv : Nat → List V → Hp → Prop) (n i : Nat) (ys : List V) : VK := fun y H2 => ∃ m', m' < n - i ∧ m' = n - (i + 1) ∧ i + 1 ≤ n ∧ (ys ++ [y]).length = i + 1 ∧ Pv (i + 1) (ys ++ [y]) H2
theorem nxt {Pv : Nat → List V → Hp → Prop} {n i : Nat} {ys : List V} {y : V} {H2 : Hp} (hi : i < n) (hl : ys.length = i) (h : Pv (i + 1) (ys ++ [y]) H2) : Nxt Pv n i ys y H2 :=
 ⟨n - (i + 1), by omega, rfl, hi, by rw [List.length_append, List.length_singleton, hl], h⟩
theorem comp_range {lo : Int} {n j : Nat} (Pv : Nat → List V → Hp → Prop) (hj : (capt ix σ)[j]? = some none) (h0 : Pv 0 [] H) (hn : n < sizeLine)
  (hs : ∀ i ys H, i < n → ys.length = i → Pv i ys H → te ((capt ix σ).set j (some (.int (lo + i)))) H (Nxt Pv n i ys))
  (hd : ∀ ys H, ys.length = n → Pv n ys H → ∀ D, H D = none → Q (.ref D) (upd H D (.lst ys))) : CompGo (Itr lo n) ix (gName j) tYes te σ H Q := by
 refine ⟨fun i m ys H => m = n - i ∧ i ≤ n ∧ ys.length = i ∧ Pv i ys H, ⟨n, by simp, Nat.zero_le _, rfl, h0⟩, ?_⟩
 rintro i m ys H ⟨rfl, hi, hl, p⟩
 by_cases hlt : i < n
 ·refine .inr ⟨hlt, by omega, fun x H' y => ?_⟩
  obtain ⟨e, y⟩ := y
  subst e y
  refine ⟨ext_set hj, ?_⟩
  unfold tYes
  dsimp only
  rw [if_pos rfl]
  exact hs i ys _ hlt hl p
 ·have e : i = n := by omega
  subst e
  exact .inl ⟨Nat.le_refl _, hd ys H hl p⟩
theorem comp_list {K : PySem.W.Frag} {a : Addr} {xs : List V} {j : Nat} (Pv : Nat → List V → Hp → Prop) (hj : (capt ix σ)[j]? = some none) (h0 : Pv 0 [] H) (hn : xs.length < sizeLine) (hl' : ∀ i ys H, i ≤ xs.length → Pv i ys H → SqL K H a xs)
  (hs : ∀ i x ys H, xs[i]? = some x → ys.length = i → Pv i ys H → te ((capt ix σ).set j (some x)) H (Nxt Pv xs.length i ys))
  (hd : ∀ ys H, ys.length = xs.length → Pv xs.length ys H → ∀ D, H D = none → Q (.ref D) (upd H D (.lst ys))) : CompGo (Itl K a) ix (gName j) tYes te σ H Q := by
 refine ⟨fun i m ys H => m = xs.length - i ∧ i ≤ xs.length ∧ ys.length = i ∧ Pv i ys H, ⟨xs.length, by simp, Nat.zero_le _, rfl, h0⟩, ?_⟩
 rintro i m ys H ⟨rfl, hi, hl, p⟩
 have q := hl' i ys H hi p
 by_cases hlt : i < xs.length
 ·refine .inr ⟨⟨xs, xs[i], q, by simp [hlt]⟩, by omega, fun v H' y => ?_⟩
  obtain ⟨e, y⟩ := y
  subst e
  refine ⟨ext_set hj, ?_⟩
  unfold tYes
  dsimp only
  rw [if_pos rfl]
  exact hs i v ys _ (y xs q) hl p
 ·have e : i = xs.length := by omega
  subst e
  exact .inl ⟨⟨xs, q, Nat.le_refl _⟩, hd ys H hl p⟩
theorem comp_tup {K : PySem.W.Frag} {a : Addr} {xs : List V} {j : Nat} (Pv : Nat → List V → Hp → Prop) (hj : (capt ix σ)[j]? = some none) (h0 : Pv 0 [] H) (hn : xs.length < sizeLine) (hl' : ∀ i ys H, i ≤ xs.length → Pv i ys H → SqT K H a xs)
  (hs : ∀ i x ys H, xs[i]? = some x → ys.length = i → Pv i ys H → te ((capt ix σ).set j (some x)) H (Nxt Pv xs.length i ys))
  (hd : ∀ ys H, ys.length = xs.length → Pv xs.length ys H → ∀ D, H D = none → Q (.ref D) (upd H D (.lst ys))) : CompGo (Itt K a) ix (gName j) tYes te σ H Q := by
 refine ⟨fun i m ys H => m = xs.length - i ∧ i ≤ xs.length ∧ ys.length = i ∧ Pv i ys H, ⟨xs.length, by simp, Nat.zero_le _, rfl, h0⟩, ?_⟩
 rintro i m ys H ⟨rfl, hi, hl, p⟩
 have q := hl' i ys H hi p
 by_cases hlt : i < xs.length
 ·refine .inr ⟨⟨xs, xs[i], q, by simp [hlt]⟩, by omega, fun v H' y => ?_⟩
  obtain ⟨e, y⟩ := y
  subst e
  refine ⟨ext_set hj, ?_⟩
  unfold tYes
  dsimp only
  rw [if_pos rfl]
  exact hs i v ys _ (y xs q) hl p
 ·have e : i = xs.length := by omega
  subst e
  exact .inl ⟨⟨xs, q, Nat.le_refl _⟩, hd ys H hl p⟩
end
end L2
end
section
namespace L2
open PySem PySem.Spec PyProof.Rows
section
variable {X : Cx}
def CDivB (i j : Int) : Prop := 0 < j ∧ j < 2 ^ 64
theorem op_fdivB : OpR X (binaryOp .FloorDiv) (rI CDivB fun i j => .int (i / j)) := opI fun i j _ _ _ _ _ hc q => by
 have h1 : (0 : Int) < j := hc.1
 have h2 : j < 2 ^ 64 := hc.2
 refine floordiv_int (by omega) (by rw [Int.fdiv_eq_ediv_of_nonneg i (by omega)]; exact q) (.inl (PyProof.noPylong_of_log2 ?_))
 have h3 : j.natAbs < 2 ^ 64 := by omega
 have h0 : j.natAbs ≠ 0 := by omega
 have h4 : j.natAbs.log2 < 64 := (Nat.log2_lt h0).mpr h3
 omega
theorem strsAre_of {ys : List Str} : ∀ {us : List Value}, Vals (ys.map V.str) us → StrsAre us ys := by
 induction ys with
 | nil => intro us r; rw [List.map_nil] at r; cases r; exact .nil
 | cons n ns ih =>
  intro us r
  rw [List.map_cons] at r
  cases r with
  | cons r1 r2 =>
   obtain ⟨t, e⟩ := r1
   subst e
   exact .cons n t (ih r2)
def rJoin (K : PySem.W.Frag) : V → List V → Hp → VK → Prop := fun x vs H Q => ∃ (sep : Str) (p : Addr) (ys : List Str), x = .str sep ∧ vs = [.ref p] ∧ SqL K H p (ys.map V.str) ∧ (ys.map (·.length)).sum + ys.length * sep.length ≤ 16777216 ∧ Q (.str (Txt.join sep ys)) H
theorem mt_join : MtR X "str.join" (rJoin X.K) := by
 intro pins s σ H x vs v us Q I rx rv h
 obtain ⟨sep, p, ys, rfl, rfl, hq, hz, q⟩ := h
 obtain ⟨t, rfl⟩ := rx
 obtain ⟨u, rfl, ru⟩ := rv.one
 cases ru
 obtain ⟨its, r, pl, _⟩ := I.list hq
 exact join_list pl.isList (by simpa using strsAre_of r) hz fun t' k => ⟨.str _, H, I.tok k, ⟨t', rfl⟩, q⟩
def rSlS : V → Option Int → Option Int → Hp → VK → Prop := fun x lo hi H Q => ∃ z : Str, x = .str z ∧ z.length ≤ sizeLine ∧ Q (.str (Txt.slice z lo hi)) H
theorem sl_str : SlR X rSlS := by
 intro pins s σ H x v vl vu lo hi sl Q I rx hs pl pu h
 obtain ⟨z, rfl, hz, q⟩ := h
 obtain ⟨t, rfl⟩ := rx
 refine ⟨"str", _, F.slot_str_getitem.lookup, typeIs_str _ _ _, ?_⟩
 have hq : ∀ (o : Str), o = Txt.slice z lo hi → o.length ≤ sizeLine ∧ ∀ t' k, EP X pins σ Q (.str o t') { s with toks := k } := fun o e => by
  subst e
  exact ⟨Nat.le_trans (Txt.slice_le z _ _) hz, fun t' k => ⟨.str _, H, I.tok k, ⟨t', rfl⟩, q⟩⟩
 obtain ⟨os, hos, hcs, hds⟩ := hs
 cases pl with
 | none =>
  cases pu with
  | none => exact wpAny_getItem_str_slice (l := none) (u := none) (st := none) ⟨os, hos, hcs, hds⟩ rfl (post_val_or_str (hq _ rfl))
  | int j uj => exact wpAny_getItem_str_slice (l := none) (u := some (j, uj)) (st := none) ⟨os, hos, hcs, hds⟩ rfl (post_val_or_str (hq _ rfl))
 | int i ui =>
  cases pu with
  | none => exact wpAny_getItem_str_slice (l := some (i, ui)) (u := none) (st := none) ⟨os, hos, hcs, hds⟩ rfl (post_val_or_str (hq _ rfl))
  | int j uj => exact wpAny_getItem_str_slice (l := some (i, ui)) (u := some (j, uj)) (st := none) ⟨os, hos, hcs, hds⟩ rfl (post_val_or_str (hq _ rfl))
theorem call_isinst : CallR X (.builtin "isinstance") (fun xs H Q => ∃ x y c t b, xs = [x, y] ∧ (∀ u, RelV y u → u = c) ∧ TyOf X.K H x t ∧ PySem.W.kitOne X.K t c = some b ∧ Q (.bl b) H) := by
 intro pins s σ H xs us Q I r h
 obtain ⟨x, y, c, t, b, rfl, hy, ty, e, q⟩ := h
 obtain ⟨u, v, rfl, ru, rv⟩ := r.two
 obtain rfl := hy v rv
 exact isinst_ok I ru ty e fun tk => ⟨.bl b, H, I.tok tk, rfl, q⟩
end
def SameBut (a : Addr) (H H' : Hp) : Prop := ∀ b o, H b = some o → b ≠ a → H' b = some o
theorem SameBut.refl (a : Addr) (H : Hp) : SameBut a H H := fun _ _ h _ => h
theorem SameBut.trans {a : Addr} {H H1 H2 : Hp} (h : SameBut a H H1) (k : SameBut a H1 H2) : SameBut a H H2 := fun b o e n => k b o (h b o e n) n
theorem SameBut.upd (a : Addr) (H : Hp) (o : HO) : SameBut a H (upd H a o) := fun b u e n => by rw [upd_ne n]; exact e
theorem Same.but {a : Addr} {H H' : Hp} (h : Same H H') : SameBut a H H' := fun b o e _ => h b o e
theorem Same.new {H : Hp} {p : Addr} (h : H p = none) (o : HO) : Same H (upd H p o) := fun b u q => by rw [upd_ne (ne_of_none q h)]; exact q
theorem none_of_same {H H' : Hp} {p : Addr} (h : Same H H') (n : H' p = none) : H p = none := by
 cases e : H p with
 | none => rfl
 | some o => rw [h p o e] at n; cases n
end L2
end
section
namespace L2
open PySem PySem.Spec PyProof.Rows
structure DefTx (K : PySem.W.Frag) (mg : Str → Option Value) (x : Str) (st : Stmt) (ps : List Str) : Prop where
 ex : ∃ (f : Addr) (fd : FuncData), Fun K x x st f fd ∧ mg x = some (.ref f) ∧ ∀ us : List Value, us.length = ps.length → bindArgs fd ⟨us, []⟩ = pure (ps.zip us)
structure DefIs (P : Program) (w : World) (K : PySem.W.Frag) (mg : Str → Option Value) (base : Heap) (n : Nat) (x : Str) (ps : List Str) (sp : Sp) : Prop where
 ex : ∃ (f : Addr) (fd : FuncData), FnOk P w K mg base CX0 n f fd ps sp ∧ Binds K fd ps [] ∧ PySem.W.keepIn K (.ref f) = true ∧ mg x = some (.ref f) ∧ ∃ oc od osl, K.lookup f = some ⟨oc, od, .func fd, osl⟩
theorem fun_at {K : PySem.W.Frag} {x : Str} {st : Stmt} {f : Addr} {fd : FuncData} (F : Fun K x x st f fd) : ∃ oc od osl, K.lookup f = some ⟨oc, od, .func fd, osl⟩ := by
 obtain ⟨oc, od, kV, doc, pm, an, cdv, ct, osl, _, l, _⟩ := F.ex
 exact ⟨oc, od, osl, l⟩
section
variable {P : Program} {w : World} {K : PySem.W.Frag} {mg : Str → Option Value} {base : Heap} {n m : Nat} {x : Str} {ps N : List Str} {sp : Sp} {st : Stmt}
theorem DefIs.mono (D : DefIs P w K mg base n x ps sp) (h : n ≤ m) : DefIs P w K mg base m x ps sp := by
 obtain ⟨f, fd, F, r⟩ := D.ex
 exact ⟨f, fd, F.mono h, r⟩
theorem DefIs.of (T : DefTx K mg x st ps) (S : FnScope N ps (defScope st)) (len : ∀ vs H Q E, sp vs H Q E → vs.length = ps.length)
  (hbody : ∀ (f : Addr) (cdv : Value) (A : Around) (outer : List Env) (s : Shared) (H : Hp) (vs : List V) (Q : VK) (E : XK), Room n (A.deeper (envOfC x (defScope st) s.heap.objs.size f cdv)) → sp vs H Q E →
   ∃ t, PSs (cxOf CX0 P w K mg base N x (defScope st) f cdv A outer s H E).nox (defBody st) t ∧ t { nx := fun _ H' => Q .non H', rt := Q } (start N vs) H) : DefIs P w K mg base (n + 1) x ps sp := by
 obtain ⟨f, fd, F, m, b⟩ := T.ex
 exact ⟨f, fd, F.ok S len (fun cdv A outer s H vs Q E hr h => hbody f cdv A outer s H vs Q E hr h), Binds.all b, F.kp, m, fun_at F⟩
theorem DefIs.none (T : DefTx K mg x st ps) (no : ∀ vs H Q E, ¬ sp vs H Q E) : DefIs P w K mg base n x ps sp := by
 obtain ⟨f, fd, F, m, b⟩ := T.ex
 exact ⟨f, fd, ⟨fun vs H Q E h => absurd h (no vs H Q E), fun A outer s H args us vs Q E _ _ _ _ h => absurd h (no vs H Q E)⟩, Binds.all b, F.kp, m, fun_at F⟩
end
section
variable {X : Cx} {n : Nat} {x : Str} {ps : List Str} {sp : Sp} {e : Expr} {es : List Expr} {p pos : Pos} {t : TA}
theorem pe_dcall (D : DefIs X.prog X.w X.K X.mg X.base n x ps sp) (hr : Room n X.A) (ha : PA X (e :: es) t) (hg : Gl X x := by rfl) (hdb : (x == ("__debug__" : Str)) = false := by decide)
  (he : starEach (e :: es) X.env = (false, eval e X.env) :: starEach es X.env := by rfl) (hpl : (backTo pos (starEach es X.env)).any (·.1) = false := by rfl) : PE X (.Call (.Name x p) (e :: es) [] pos) (tCall sp [] E0 t) := by
 obtain ⟨f, fd, F, b, k, m, _⟩ := D.ex
 exact pe_call F hr hg m k b .nil pass0 ha hdb he hpl
theorem pe_gty {T : String} (hm : X.mg x = none) (hv : bootBuiltins x = some (.type T)) (hg : Gl X x := by rfl) (hn : x ≠ "__name__" := by decide) (hd : (x == ("__debug__" : Str)) = false := by decide) : PE X (.Name x pos) (tC (.ty T)) := pe_bltn hg hm hv rfl hn hd
end
def Fed (a : Addr) (H H' : Hp) : Prop := SameBut a H H' ∧ ∃ p q : Int, H' a = some (.lst [.int p, .int q])
theorem Fed.trans {a : Addr} {H H1 H2 : Hp} (h : Fed a H H1) (k : Fed a H1 H2) : Fed a H H2 := ⟨h.1.trans k.1, k.2⟩
theorem Fed.of {a : Addr} {H : Hp} {p q : Int} : Fed a H (upd H a (.lst [.int p, .int q])) := ⟨SameBut.upd a H _, p, q, upd_same⟩
theorem Fed.refl {a : Addr} {H : Hp} {p q : Int} (h : H a = some (.lst [.int p, .int q])) : Fed a H H := ⟨SameBut.refl a H, p, q, h⟩
theorem Fed.same {a : Addr} {H H' H'' : Hp} (h : Fed a H H') (s : Same H' H'') : Fed a H H'' := by
 obtain ⟨k, p, q, e⟩ := h
 exact ⟨k.trans s.but, p, q, s _ _ e⟩
theorem Fed.back {a : Addr} {H H0 H' : Hp} (n : H a = none) (s : Same H H0) (h : Fed a H0 H') : Same H H' := fun b o e => h.1 b o (s b o e) (ne_of_none e n)
end L2
namespace L2
open PySem PySem.Spec PyProof.Rows
theorem deftx_mk {K : PySem.W.Frag} {h : Heap} {mg : Str → Option Value} (X : K.In h) (G : h.Ns mainGlobals mg) {x : Str} {st : Stmt} {ps : List Str} {f : Addr} {oc : Value} {od an : Option Addr} {osl : Array (Option Value)} {kV doc pm cdv ct : Value}
  (a : PySem.W.nsIn K mainGlobals x = some (some (.ref f))) (l : K.lookup f = some ⟨oc, od, .func (PySem.W.fnOf x x (defArgs st) (defBody st) (defScope st) .none kV doc pm an cdv ct), osl⟩)
  (c : PySem.W.codeIn K cdv x = true) (k : PySem.W.keepIn K (.ref f) = true)
  (b : ∀ (kV doc pm : Value) (an : Option Addr) (cdv ct : Value) (us : List Value), us.length = ps.length → bindArgs (PySem.W.fnOf x x (defArgs st) (defBody st) (defScope st) .none kV doc pm an cdv ct) ⟨us, []⟩ = pure (ps.zip us)) : DefTx K mg x st ps := by
 have F := fun_mk (st := st) l c k
 exact ⟨f, _, F, PySem.W.mg_of X G a, b kV doc pm an cdv ct⟩
theorem law_top {P : Program} {w : World} {K : PySem.W.Frag} {mg : Str → Option Value} {n : Nat} {x y : Str} {st : Stmt} {sp : Sp} {fa : Addr} (T : DefTx K mg x st [y]) (hmg : mg x = some (.ref fa)) (D : ∀ base, DefIs P w K mg base n x [y] sp) :
  ∃ fd : FuncData, (∀ (s : Shared) (u : Value), BindsTo s fd ⟨[u], []⟩ [(y, u)]) ∧ ∀ base : Heap, K.In base → base.Ns mainGlobals mg → FnOk P w K mg base CX0 n fa fd [y] sp := by
 obtain ⟨f, fd, F, m, b⟩ := T.ex
 rw [hmg] at m
 cases m
 refine ⟨fd, fun s u => .of_eq (b [u] rfl), fun base _ _ => ?_⟩
 obtain ⟨f', fd', G, _, _, m', oc, od, osl, l⟩ := (D base).ex
 rw [hmg] at m'
 cases m'
 obtain ⟨oc2, od2, osl2, l2⟩ := fun_at F
 rw [l] at l2
 cases l2
 exact G
end L2
end
section
namespace Zt
open PySem
section
variable {prog : Program} {w : World} {A : Around} {E : Value → Shared → Prop} {s : Shared}
end
section
variable {prog : Program} {w : World} {A : Around} {R : Result → Shared → Prop} {S z TI TO i1 i2 l1 l2 : Addr} {xs ys : Array Value} {n B : Nat}
end
section
variable {prog : Program} {w : World} {A : Around} {R : Result → Shared → Prop} {s : Shared} {S z TI TO i1 i2 l1 l2 : Addr} {xs ys : Array Value} {n B : Nat}
end
section
variable {prog : Program} {w : World} {A : Around} {E : Value → Shared → Prop} {s : Shared} {z TI TO i1 i2 l1 l2 : Addr} {xs ys : Array Value} {n B : Nat}
end
section
variable {prog : Program} {w : World} {A : Around} {E : Value → Shared → Prop} {s : Shared}
end
end Zt
end
section
namespace L2
open PySem PySem.Spec PyProof.Rows
abbrev TJ := St → Hp → Str → VK → Prop
def PJ (X : Cx) (es : List Expr) (t : TJ) : Prop :=
 ∀ (pins : List (Addr × Obj)) (s : Shared) (σ : St) (H : Hp) (out : Str) (Q : VK), Inv X pins σ H s → t σ H out Q → wpAny (model X.prog X.w) X.A (joinParts out (evalEach es X.env)) (EP X pins σ Q) X.xe s
section
variable {X : Cx} {e e1 e2 : Expr} {es : List Expr} {te : TE} {t : TJ} {pos : Pos}
end
section
variable {X : Cx}
end
section
variable {X : Cx} {a b : Expr} {ta tb : TE} {p1 p2 q1 q2 : Pos}
end
end L2
end
section
namespace L2
open PySem PySem.Spec PyProof.Rows
section
variable {es : List Expr} {env : Env}
theorem star_const {c k p} : starEach (.Constant c k p :: es) env = (false, eval (.Constant c k p) env) :: starEach es env := rfl
theorem star_name {x p} : starEach (.Name x p :: es) env = (false, eval (.Name x p) env) :: starEach es env := rfl
theorem star_call {a b c d} : starEach (.Call a b c d :: es) env = (false, eval (.Call a b c d) env) :: starEach es env := rfl
theorem star_bin {a b c d} : starEach (.BinOp a b c d :: es) env = (false, eval (.BinOp a b c d) env) :: starEach es env := rfl
theorem star_sub {a b c} : starEach (.Subscript a b c :: es) env = (false, eval (.Subscript a b c) env) :: starEach es env := rfl
theorem star_tup {a b c} : starEach (.Tuple a b c :: es) env = (false, eval (.Tuple a b c) env) :: starEach es env := rfl
theorem star_cmp {a b c d} : starEach (.Compare a b c d :: es) env = (false, eval (.Compare a b c d) env) :: starEach es env := rfl
theorem star_bool {a b c} : starEach (.BoolOp a b c :: es) env = (false, eval (.BoolOp a b c) env) :: starEach es env := rfl
theorem star_comp {a b c d} : starEach (.ListComp a b c d :: es) env = (false, eval (.ListComp a b c d) env) :: starEach es env := rfl
end
end L2
namespace L2
open PySem PySem.Spec PyProof.Rows
end L2
end
section
namespace M
open PySem
end M
end
section
namespace M
open PySem
inductive D where
 | int (i : Int)
 | str (x : Str)
 | tup (ds : List D)
inductive All2 {α β : Type} (R : α → β → Prop) : List α → List β → Prop where
 | nil : All2 R [] []
 | cons {a b as bs} (h : R a b) (t : All2 R as bs) : All2 R (a :: as) (b :: bs)
theorem All2.length {α β : Type} {R : α → β → Prop} {as : List α} {bs : List β} (h : All2 R as bs) : as.length = bs.length := by
 induction h with
 | nil => rfl
 | cons _ _ ih => simp [ih]
theorem All2.imp {α β : Type} {R S : α → β → Prop} {as : List α} {bs : List β} (h : All2 R as bs) (f : ∀ a b, R a b → S a b) : All2 S as bs := by
 induction h with
 | nil => exact .nil
 | cons h _ ih => exact .cons (f _ _ h) ih
def S (s : String) : Str := Str.ofString s
def isLetter (c : Nat) : Bool := 97 ≤ c && c ≤ 122
def nameL (x : List Nat) : Bool := 1 ≤ x.length && x.length ≤ 6 && x.all isLetter && x != [110, 117, 109] && x != [105, 116]
def Name (x : Str) : Prop := nameL x.cps.toList = true
end M
end
section
namespace M
open PySem
end M
end
section
namespace M
open PySem
def L (x : Str) : List Nat := x.cps.toList
def ofL (l : List Nat) : Str := ⟨l.toArray⟩
theorem L_ofL (l : List Nat) : L (ofL l) = l := rfl
theorem ofL_L (x : Str) : ofL (L x) = x := by
 cases x
 rfl
theorem L_inj {x y : Str} (h : L x = L y) : x = y := by
 rw [← ofL_L x, ← ofL_L y, h]
theorem L_append (x y : Str) : L (x ++ y) = L x ++ L y := by
 show (x.cps ++ y.cps).toList = _
 simp [L]
theorem L_length (x : Str) : (L x).length = x.length := by
 simp [L, Str.length]
end M
end
section
namespace M
open PySem
end M
end
section
namespace M
open PySem
end M
end
section
namespace M
open PySem L2
mutual
def RelD (H : Hp) : V → D → Prop
 | v, .int i => v = .int i
 | v, .str x => v = .str x
 | v, .tup ds => ∃ a vs, v = .ref a ∧ H a = some (.tup vs) ∧ RelDs H vs ds
def RelDs (H : Hp) : List V → List D → Prop
 | vs, [] => vs = []
 | vs, d :: ds => ∃ v r, vs = v :: r ∧ RelD H v d ∧ RelDs H r ds
end
mutual
theorem RelD.same {H H' : Hp} (s : Same H H') : ∀ {v : V} (d : D), RelD H v d → RelD H' v d
 | v, .int i, h => h
 | v, .str x, h => h
 | v, .tup ds, ⟨a, vs, e, ha, h⟩ => ⟨a, vs, e, s _ _ ha, RelDs.same s ds h⟩
theorem RelDs.same {H H' : Hp} (s : Same H H') : ∀ {vs : List V} (ds : List D), RelDs H vs ds → RelDs H' vs ds
 | vs, [], h => h
 | vs, d :: ds, ⟨v, r, e, h1, h2⟩ => ⟨v, r, e, RelD.same s d h1, RelDs.same s ds h2⟩
end
theorem RelDs.length {H : Hp} : ∀ {vs : List V} {ds : List D}, RelDs H vs ds → vs.length = ds.length
 | vs, [], h => by rw [show vs = [] from h]; rfl
 | vs, d :: ds, ⟨v, r, e, _, h2⟩ => by rw [e, List.length_cons, List.length_cons, RelDs.length h2]
theorem RelDs.append {H : Hp} : ∀ {vs us : List V} {ds es : List D}, RelDs H vs ds → RelDs H us es → RelDs H (vs ++ us) (ds ++ es)
 | vs, us, [], es, h, k => by rw [show vs = [] from h]; exact k
 | vs, us, d :: ds, es, ⟨v, r, e, h1, h2⟩, k => by subst e; exact ⟨v, r ++ us, rfl, h1, RelDs.append h2 k⟩
theorem RelDs.get {H : Hp} : ∀ {vs : List V} {ds : List D} {i : Nat} {v : V}, RelDs H vs ds → vs[i]? = some v → ∃ d, ds[i]? = some d ∧ RelD H v d
 | vs, [], i, v, h, e => by rw [show vs = [] from h] at e; simp at e
 | vs, d :: ds, 0, v, ⟨u, r, e0, h1, _⟩, e => by
  subst e0
  simp at e
  subst e
  exact ⟨d, rfl, h1⟩
 | vs, d :: ds, i + 1, v, ⟨u, r, e0, _, h2⟩, e => by
  subst e0
  obtain ⟨x, hx, hr⟩ := RelDs.get (i := i) (v := v) h2 (by simpa using e)
  exact ⟨x, by simpa using hx, hr⟩
end M
namespace M
open PySem L2
theorem iteKF {c A B : Prop} [Decidable c] (h : decide c = false) (b : B) : if decide c = true then A else B := by
 rw [h]
 exact b
theorem iteKT {c A B : Prop} [Decidable c] (h : decide c = true) (a : A) : if decide c = true then A else B := by
 rw [h]
 exact a
theorem iteBF {c : Bool} {A B : Prop} (h : c = false) (b : B) : if c = true then A else B := by
 rw [h]
 exact b
end M
end
section
namespace M
open PySem L2
end M
end
section
namespace M
open PySem L2
mutual
theorem RelD.tups {H H' : Hp} (s : ∀ b vs, H b = some (.tup vs) → H' b = some (.tup vs)) : ∀ {v : V} (d : D), RelD H v d → RelD H' v d
 | v, .int i, h => h
 | v, .str x, h => h
 | v, .tup ds, ⟨a, vs, e, ha, h⟩ => ⟨a, vs, e, s _ _ ha, RelDs.tups s ds h⟩
theorem RelDs.tups {H H' : Hp} (s : ∀ b vs, H b = some (.tup vs) → H' b = some (.tup vs)) : ∀ {vs : List V} (ds : List D), RelDs H vs ds → RelDs H' vs ds
 | vs, [], h => h
 | vs, d :: ds, ⟨v, r, e, h1, h2⟩ => ⟨v, r, e, RelD.tups s d h1, RelDs.tups s ds h2⟩
end
theorem fed_tups {a : Addr} {H H' : Hp} (hf : ∃ p q : Int, H a = some (.lst [.int p, .int q])) (f : Fed a H H') : ∀ b vs, H b = some (.tup vs) → H' b = some (.tup vs) := fun b vs e => f.1 b _ e fun z => by
 obtain ⟨p, q, h⟩ := hf
 rw [z, h] at e
 cases e
def single (c : Nat) : Str := ⟨#[c]⟩
theorem join_singles : ∀ cs : List Nat, Txt.join (S "") (cs.map single) = ofL cs := by
 have h : ∀ cs : List Nat, L (Str.join (S "") (cs.map single)) = cs := by
  intro cs
  induction cs with
  | nil => rfl
  | cons c r ih =>
   cases r with
   | nil => rfl
   | cons d r =>
    show L (single c ++ S "" ++ Str.join (S "") ((d :: r).map single)) = _
    rw [L_append, L_append, ih]
    have e : L (S "") = [] := by decide +kernel
    rw [e]
    rfl
 intro cs
 apply L_inj
 show L (Builtin.Str.glued (S "") (cs.map single)) = cs
 rw [StrLaws.glued_eq_join, h]
theorem sum_singles (cs : List Nat) : ((cs.map single).map (·.length)).sum = cs.length := by
 induction cs with
 | nil => rfl
 | cons c r ih =>
  show (single c).length + ((r.map single).map (·.length)).sum = r.length + 1
  rw [ih, show (single c).length = 1 from rfl]
  omega
theorem at_codes {α : Type} {cs : List α} {r : Int} (h0 : 0 ≤ r) (h : r < (cs.length : Int)) : ∃ c ∈ cs, atI cs r = some c := by
 have hk : r.toNat < cs.length := by omega
 have ek : r = ((r.toNat : Nat) : Int) := by omega
 refine ⟨cs[r.toNat], List.getElem_mem hk, ?_⟩
 have q : atI cs ((r.toNat : Nat) : Int) = some cs[r.toNat] := atI_nat (List.getElem?_eq_getElem hk)
 rw [← ek] at q
 exact q
end M
end
section
namespace L2
open PySem PySem.Spec PyProof.Rows
section
variable {κ : Type} [DecidableEq κ]
def valV (kvs : List (κ × V)) (k : κ) : Option V := (kvs.find? fun kv => decide (kv.1 = k)).map (·.2)
def putK (kvs : List (κ × V)) (k : κ) (v : V) : List (κ × V) :=
 if (kvs.any fun kv => decide (kv.1 = k)) = true then kvs.map (fun kv => if kv.1 = k then (kv.1, v) else kv) else kvs ++ [(k, v)]
theorem valV_pos {p : κ × V} {r : List (κ × V)} {k : κ} (e : p.1 = k) : valV (p :: r) k = some p.2 := by simp [valV, List.find?_cons, e]
theorem valV_neg {p : κ × V} {r : List (κ × V)} {k : κ} (e : ¬ p.1 = k) : valV (p :: r) k = valV r k := by simp [valV, List.find?_cons, e]
theorem valV_any (k : κ) : ∀ kvs : List (κ × V), (kvs.any fun kv => decide (kv.1 = k)) = (valV kvs k).isSome
 | [] => rfl
 | p :: r => by
  rw [List.any_cons]
  by_cases e : p.1 = k
  ·simp only [valV_pos e, decide_eq_true e, Bool.true_or, Option.isSome_some]
  ·rw [valV_neg e, decide_eq_false e, Bool.false_or]; exact valV_any k r
theorem valV_map (k j : κ) (y : V) : ∀ kvs : List (κ × V), valV (kvs.map fun kv => if kv.1 = k then (kv.1, y) else kv) j = (valV kvs j).map fun x => if j = k then y else x
 | [] => rfl
 | p :: r => by
  have ih := valV_map k j y r
  rw [List.map_cons]
  by_cases h : p.1 = k
  ·rw [if_pos h]
   by_cases e : p.1 = j
   ·rw [valV_pos (p := (p.1, y)) e, valV_pos e, Option.map_some, if_pos (e.symm.trans h)]
   ·rw [valV_neg (p := (p.1, y)) e, valV_neg e, ih]
  ·rw [if_neg h]
   by_cases e : p.1 = j
   ·rw [valV_pos (p := p) e, valV_pos e, Option.map_some, if_neg (fun z => h (e.trans z))]
   ·rw [valV_neg (p := p) e, valV_neg e, ih]
theorem valV_snoc (k j : κ) (y : V) : ∀ kvs : List (κ × V), valV kvs k = none → valV (kvs ++ [(k, y)]) j = if j = k then some y else valV kvs j
 | [], _ => by
  by_cases e : k = j
  ·rw [if_pos e.symm]; exact valV_pos (p := (k, y)) e
  ·rw [if_neg (fun z => e z.symm)]; exact valV_neg (p := (k, y)) e
 | p :: r, hn => by
  rw [List.cons_append]
  have hk : ¬ p.1 = k := fun z => by rw [valV_pos z] at hn; cases hn
  rw [valV_neg hk] at hn
  have ih := valV_snoc k j y r hn
  by_cases e : p.1 = j
  ·rw [valV_pos e, valV_pos e, if_neg (fun z => hk (e.trans z))]
  ·rw [valV_neg e, valV_neg e, ih]
theorem valV_put (kvs : List (κ × V)) (k j : κ) (y : V) : valV (putK kvs k y) j = if j = k then some y else valV kvs j := by
 unfold putK
 by_cases a : (kvs.any fun kv => decide (kv.1 = k)) = true
 ·rw [if_pos a, valV_map]
  rw [valV_any] at a
  by_cases e : j = k
  ·obtain ⟨x, hx⟩ := Option.isSome_iff_exists.mp a
   rw [if_pos e, e, hx, Option.map_some, if_pos rfl]
  ·rw [if_neg e]
   cases valV kvs j with
   | none => rfl
   | some x => rw [Option.map_some, if_neg e]
 ·rw [if_neg a]
  refine valV_snoc k j y kvs ?_
  rw [valV_any] at a
  cases q : valV kvs k with
  | none => rfl
  | some x => rw [q] at a; exact (a rfl).elim
theorem length_putK (kvs : List (κ × V)) (k : κ) (v : V) : (putK kvs k v).length ≤ kvs.length + 1 := by
 unfold putK
 split
 ·rw [List.length_map]; omega
 ·rw [List.length_append, List.length_cons, List.length_nil]; omega
theorem RelO.isSome_eq {o : Option V} {u : Option Value} (r : RelO o u) : o.isSome = u.isSome := by
 cases o with
 | none => cases u with
  | none => rfl
  | some _ => exact (show False from r).elim
 | some _ => cases u with
  | none => exact (show False from r).elim
  | some _ => rfl
theorem RelO.getD {o : Option V} {u : Option Value} {d : V} {d' : Value} (r : RelO o u) (rd : RelV d d') : RelV (o.getD d) (u.getD d') := by
 cases o with
 | none => cases u with
  | none => exact rd
  | some _ => exact (show False from r).elim
 | some _ => cases u with
  | none => exact (show False from r).elim
  | some _ => exact r
theorem KV.val {kvs : List (κ × V)} {vs : List (κ × Value)} (r : KV kvs vs) (k : κ) : RelO (valV kvs k) (valueAt vs k) := by
 unfold KV at r
 induction r with
 | nil => exact True.intro
 | @cons p q ps qs h t ih =>
  obtain ⟨h1, h2⟩ := h
  by_cases e : p.1 = k
  ·have e' : q.1 = k := h1.symm.trans e
   have b : valueAt (q :: qs) k = some q.2 := by simp [valueAt, List.find?_cons, e']
   rw [valV_pos e, b]; exact h2
  ·have e' : ¬ q.1 = k := fun z => e (h1.trans z)
   have b : valueAt (q :: qs) k = valueAt qs k := by simp [valueAt, List.find?_cons, e']
   rw [valV_neg e, b]; exact ih
theorem KV.any {kvs : List (κ × V)} {vs : List (κ × Value)} (r : KV kvs vs) (k : κ) : (kvs.any fun kv => decide (kv.1 = k)) = vs.any fun kv => decide (kv.1 = k) := by
 unfold KV at r
 induction r with
 | nil => rfl
 | cons h t ih => rw [List.any_cons, List.any_cons, ih, h.1]
theorem KV.repl {kvs : List (κ × V)} {vs : List (κ × Value)} (r : KV kvs vs) (k : κ) {y : V} {u : Value} (ry : RelV y u) :
  KV (kvs.map fun kv => if kv.1 = k then (kv.1, y) else kv) (vs.map fun kv => if kv.1 = k then (kv.1, u) else kv) := by
 unfold KV at r ⊢
 induction r with
 | nil => exact .nil
 | @cons p q ps qs h t ih =>
  rw [List.map_cons, List.map_cons]
  refine .cons ?_ ih
  obtain ⟨h1, h2⟩ := h
  by_cases e : p.1 = k
  ·rw [if_pos e, if_pos (h1.symm.trans e)]; exact ⟨h1, ry⟩
  ·rw [if_neg e, if_neg (fun z => e (h1.trans z))]; exact ⟨h1, h2⟩
theorem KV.put {kvs : List (κ × V)} {vs : List (κ × Value)} (r : KV kvs vs) (k : κ) {y : V} {u : Value} (ry : RelV y u) : KV (putK kvs k y) (stored vs k u) := by
 unfold putK stored
 rw [r.any k]
 by_cases e : (vs.any fun kv => decide (kv.1 = k)) = true
 ·rw [if_pos e, if_pos e]; exact r.repl k ry
 ·rw [if_neg e, if_neg e]; exact Paired.snoc r ⟨rfl, ry⟩
theorem KV.length {kvs : List (κ × V)} {vs : List (κ × Value)} (r : KV kvs vs) : kvs.length = vs.length := Paired.length r
end
theorem kV_is {P : Program} {w : World} {k : Key} {u : Value} (r : RelV (kV k) u) : (mixKind P w).is k u = true := by
 cases k with
 | inl i => obtain ⟨t, e⟩ := (show ∃ t, u = Value.int i t from r); subst e; exact mixKind_int P w i t
 | inr x => obtain ⟨t, e⟩ := (show ∃ t, u = Value.str x t from r); subst e; exact mixKind_str P w x t
theorem items_are {P : Program} {w : World} : ∀ {ks : List Key} {us : List Value}, Vals (ks.map kV) us → ItemsAre (mixKind P w) ks us
 | [], _, r => by rw [List.map_nil] at r; cases r; exact .nil
 | k :: ks, _, r => by
  rw [List.map_cons] at r
  cases r with
  | cons h t => exact .cons (kV_is h) (items_are t)
abbrev KT (H : Hp) : List (List Key × V) → List (List Key × Addr × Value) → Prop := Paired fun p q => p.1 = q.1 ∧ H q.2.1 = some (.tup (p.1.map kV)) ∧ RelV p.2 q.2.2
theorem KT.val {H : Hp} {kvs : List (List Key × V)} {xs : List (List Key × Addr × Value)} (r : KT H kvs xs) (k : List Key) : RelO (valV kvs k) ((atKey xs k).map (·.2)) := by
 induction r with
 | nil => exact True.intro
 | @cons p q ps qs h t ih =>
  obtain ⟨h1, _, h2⟩ := h
  by_cases e : p.1 = k
  ·have e' : q.1 = k := h1.symm.trans e
   have b : atKey (q :: qs) k = some q.2 := by simp [atKey, List.find?_cons, e']
   rw [valV_pos e, b]; exact h2
  ·have e' : ¬ q.1 = k := fun z => e (h1.trans z)
   have b : atKey (q :: qs) k = atKey qs k := by simp [atKey, List.find?_cons, e']
   rw [valV_neg e, b]; exact ih
theorem KT.repl {H : Hp} {kvs : List (List Key × V)} {xs : List (List Key × Addr × Value)} (r : KT H kvs xs) (k : List Key) {y : V} {u : Value} (ry : RelV y u) :
  KT H (kvs.map fun kv => if kv.1 = k then (kv.1, y) else kv) (xs.map (putAt k u)) := by
 induction r with
 | nil => exact .nil
 | @cons p q ps qs h t ih =>
  rw [List.map_cons, List.map_cons]
  refine .cons ?_ ih
  obtain ⟨h1, h2, h3⟩ := h
  unfold putAt
  by_cases e : p.1 = k
  ·rw [if_pos e, if_pos (h1.symm.trans e)]; exact ⟨h1, h2, ry⟩
  ·rw [if_neg e, if_neg (fun z => e (h1.trans z))]; exact ⟨h1, h2, h3⟩
theorem KT.put {H : Hp} {kvs : List (List Key × V)} {xs : List (List Key × Addr × Value)} (r : KT H kvs xs) (k : List Key) {b : Addr} {y : V} {u : Value} (hb : H b = some (.tup (k.map kV))) (ry : RelV y u) :
  KT H (putK kvs k y) (storedH xs k b u) := by
 have e : (kvs.any fun kv => decide (kv.1 = k)) = (atKey xs k).isSome := by
  rw [valV_any, (r.val k).isSome_eq, Option.isSome_map]
 unfold putK storedH
 rw [e]
 by_cases q : (atKey xs k).isSome = true
 ·rw [if_pos q, if_pos q]; exact r.repl k ry
 ·rw [if_neg q, if_neg q]; exact Paired.snoc r ⟨rfl, hb, ry⟩
theorem KT.keeps {H H' : Hp} {kvs : List (List Key × V)} {xs : List (List Key × Addr × Value)} (r : KT H kvs xs) (ht : ∀ b ys, H b = some (.tup ys) → H' b = some (.tup ys)) : KT H' kvs xs :=
 Paired.mapP r fun _ _ z => ⟨z.1, ht _ _ z.2.1, z.2.2⟩
section
variable {P : Program} {w : World} {H : Hp} {h : Heap} {a : Addr}
theorem rd_of {u : HO} (ok : HOk P w H h) (e : Rd H a u) : ObjOk P w H h a u := e.ok ok
theorem dk_rd {kvs : List (Key × V)} (ok : HOk P w H h) (e : Rd H a (.dK kvs)) : kvs.length ≤ sizeLine ∧ (a == sysModules) = false ∧ ∃ vs, KV kvs vs ∧ h.DictOf (mixKind P w) a vs :=
 show ObjOk P w H h a (.dK kvs) from rd_of ok e
theorem dk_of {kvs : List (Key × V)} (ok : HOk P w H h) (e : H a = some (.dK kvs)) : kvs.length ≤ sizeLine ∧ (a == sysModules) = false ∧ ∃ vs, KV kvs vs ∧ h.DictOf (mixKind P w) a vs := dk_rd ok (.inl e)
theorem key_of {ks : List Key} (ok : HOk P w H h) (e : H a = some (.tup (ks.map kV))) : (tupleKind (mixKind P w)).is h ks a := by
 obtain ⟨_, its, r, o, h1, h2, n, h3, _⟩ := (show ObjOk P w H h a (.tup (ks.map kV)) from ok a _ e)
 exact ⟨o, its.toArray, n, h1, h2, h3, by simpa using items_are r⟩
theorem dt_rd {kvs : List (List Key × V)} (ok : HOk P w H h) (e : Rd H a (.dT kvs)) : kvs.length ≤ sizeLine ∧ (a == sysModules) = false ∧
  ∃ xs, KT H kvs xs ∧ h.DictOfH (tupleKind (mixKind P w)) a xs := by
 obtain ⟨z, y, xs, r, o, es, ep, h1, h2, h3, h4, h5⟩ := (show ObjOk P w H h a (.dT kvs) from rd_of ok e)
 refine ⟨z, y, xs, r, o, es, ep, h1, h2, h3, h4, fun x hx => ?_, h5⟩
 have all : ∀ {l : List (List Key × V)} {m : List (List Key × Addr × Value)}, KT H l m → ∀ x ∈ m, (tupleKind (mixKind P w)).is h x.1 x.2.1 := by
  intro l m q
  induction q with
  | nil => intro x hx; exact nomatch hx
  | @cons p q ps qs hq t ih =>
   intro x hx
   rcases List.mem_cons.mp hx with e | hx
   ·subst e
    exact key_of ok (by rw [← hq.1]; exact hq.2.1)
   ·exact ih x hx
 exact all r x hx
theorem dt_of {kvs : List (List Key × V)} (ok : HOk P w H h) (e : H a = some (.dT kvs)) : kvs.length ≤ sizeLine ∧ (a == sysModules) = false ∧
  ∃ xs, KT H kvs xs ∧ h.DictOfH (tupleKind (mixKind P w)) a xs := dt_rd ok (.inl e)
end
def DGet (H : Hp) (a : Addr) (y : V) (r : Option V) : Prop :=
 (∃ kvs k, Rd H a (.dK kvs) ∧ y = kV k ∧ r = valV kvs k) ∨ ∃ kvs k b, Rd H a (.dT kvs) ∧ y = .ref b ∧ H b = some (.tup (k.map kV)) ∧ r = valV kvs k
def DPut (H : Hp) (a : Addr) (y v : V) (H' : Hp) : Prop :=
 (∃ kvs k, H a = some (.dK kvs) ∧ y = kV k ∧ kvs.length < sizeLine ∧ H' = upd H a (.dK (putK kvs k v))) ∨
 ∃ kvs k b, H a = some (.dT kvs) ∧ y = .ref b ∧ H b = some (.tup (k.map kV)) ∧ kvs.length < sizeLine ∧ H' = upd H a (.dT (putK kvs k v))
theorem DGet.k {H : Hp} {a : Addr} {kvs : List (Key × V)} {k : Key} (e : H a = some (.dK kvs)) : DGet H a (kV k) (valV kvs k) := .inl ⟨kvs, k, .inl e, rfl, rfl⟩
theorem DPut.k {H : Hp} {a : Addr} {kvs : List (Key × V)} {k : Key} {v : V} (e : H a = some (.dK kvs)) (hl : kvs.length < sizeLine) : DPut H a (kV k) v (upd H a (.dK (putK kvs k v))) := .inl ⟨kvs, k, e, rfl, hl, rfl⟩
section
variable {X : Cx} {pins : List (Addr × Obj)} {σ : St} {H : Hp} {s : Shared} {a : Addr} {y v : V} {u r : Value} {o : Option V} {A : Around} {E : Value → Shared → Prop}
theorem Inv.big (I : Inv X pins σ H s) : sysModules < s.heap.objs.size := by
 have h : mainGlobals < s.heap.objs.size := (I.mod.glob.keeps I.bk).lt
 exact Nat.lt_trans (by decide) h
theorem d_getItem {Q : Value → Shared → Prop} (hu : A.units + 1 < cLine) (I : Inv X pins σ H s) (g : DGet H a y (some v)) (ry : RelV y u) (h : ∀ w' s', Inv X pins σ H s' → RelV v w' → Q w' s') :
  wpAny (model X.prog X.w) A (getItem (.ref a) u) Q E s := by
 rcases g with ⟨kvs, k, e, ey, l⟩ | ⟨kvs, k, b, e, ey, eb, l⟩
 ·subst ey
  obtain ⟨z, hd, vs, rel, dd⟩ := dk_rd I.hok e
  obtain ⟨w', hw, rw'⟩ := RelO.some_of (v := v) (o := valueAt vs k) (by rw [l]; exact rel.val k)
  exact wpAny_getItem_of (kV_is ry) dd.mapOf hw (h w' _ (I.tok _) rw')
 ·subst ey
  cases (show u = Value.ref b from ry)
  obtain ⟨z, hd, xs, rel, dd⟩ := dt_rd I.hok e
  obtain ⟨w', hw, rw'⟩ := RelO.some_of (v := v) (o := (atKey xs k).map (·.2)) (by rw [l]; exact rel.val k)
  obtain ⟨p, hp, hp2⟩ := Option.map_eq_some_iff.mp hw
  refine wpAny_getItem_heap (tupleKind_room_in1 hu) (key_of I.hok eb) dd hp ?_
  rw [hp2]
  exact h w' _ (I.tok _) rw'
theorem d_in {Q : Value → Shared → Prop} (hu : A.units + 1 < cLine) (I : Inv X pins σ H s) (g : DGet H a y o) (ry : RelV y u) (h : ∀ s', Inv X pins σ H s' → Q (.bool o.isSome) s') :
  wpAny (model X.prog X.w) A (compareOp .In u (.ref a)) Q E s := by
 rcases g with ⟨kvs, k, e, ey, l⟩ | ⟨kvs, k, b, e, ey, eb, l⟩
 ·subst ey
  obtain ⟨z, hd, vs, rel, dd⟩ := dk_rd I.hok e
  refine wpAny_in_of (kV_is ry) hd dd.mapOf ?_
  rw [← (rel.val k).isSome_eq, ← l]
  exact h _ (I.tok _)
 ·subst ey
  cases (show u = Value.ref b from ry)
  obtain ⟨z, hd, xs, rel, dd⟩ := dt_rd I.hok e
  refine wpAny_in_heap (tupleKind_room_in1 hu) (key_of I.hok eb) hd dd ?_
  have q := (rel.val k).isSome_eq
  rw [Option.isSome_map] at q
  rw [← q, ← l]
  exact h _ (I.tok _)
theorem d_notIn {Q : Value → Shared → Prop} (hu : A.units + 1 < cLine) (I : Inv X pins σ H s) (g : DGet H a y o) (ry : RelV y u) (h : ∀ s', Inv X pins σ H s' → Q (.bool (!o.isSome)) s') :
  wpAny (model X.prog X.w) A (compareOp .NotIn u (.ref a)) Q E s := by
 rcases g with ⟨kvs, k, e, ey, l⟩ | ⟨kvs, k, b, e, ey, eb, l⟩
 ·subst ey
  obtain ⟨z, hd, vs, rel, dd⟩ := dk_rd I.hok e
  refine wpAny_notIn_of (kV_is ry) hd dd.mapOf ?_
  rw [← (rel.val k).isSome_eq, ← l]
  exact h _ (I.tok _)
 ·subst ey
  cases (show u = Value.ref b from ry)
  obtain ⟨z, hd, xs, rel, dd⟩ := dt_rd I.hok e
  refine wpAny_notIn_heap (tupleKind_room_in1 hu) (key_of I.hok eb) hd dd ?_
  have q := (rel.val k).isSome_eq
  rw [Option.isSome_map] at q
  rw [← q, ← l]
  exact h _ (I.tok _)
theorem d_write {h' : Heap} {t' : Nat} {ob : HO} (I : Inv X pins σ H s) (mu : Mut (H a)) (hs : Heap.SameBut a s.heap h') (he : ∃ q, h'.get? a = some q) (new : ObjOk X.prog X.w (upd H a ob) h' a ob) :
  Inv X pins σ (upd H a ob) { s with heap := h', toks := t' } :=
 I.write (x := a) (e := a) mu (.inl rfl) (fun b q hb z => (hs.2 b hb).trans z) he new
theorem dk_new {P : Program} {w : World} {H' : Hp} {h' : Heap} {kvs : List (Key × V)} {vs : List (Key × Value)} (z : kvs.length ≤ sizeLine) (hd : (a == sysModules) = false) (rel : KV kvs vs) (dd : h'.DictOf (mixKind P w) a vs) :
  ObjOk P w H' h' a (.dK kvs) := ⟨z, hd, vs, rel, dd⟩
theorem d_setItem {H' : Hp} {Q : Unit → Shared → Prop} (hu : A.units + 1 < cLine) (I : Inv X pins σ H s) (g : DPut H a y v H') (ry : RelV y u) (rv : RelV v r) (h : ∀ s', Inv X pins σ H' s' → Q () s') :
  wpAny (model X.prog X.w) A (setItem (.ref a) u r) Q E s := by
 rcases g with ⟨kvs, k, e, ey, l, eH⟩ | ⟨kvs, k, b, e, ey, eb, l, eH⟩
 ·subst ey eH
  obtain ⟨z, hd, vs, rel, dd⟩ := dk_of I.hok e
  have hz : vs.length ≤ sizeLine := by rw [← rel.length]; exact z
  have hl : (putK kvs k v).length ≤ sizeLine := by have := length_putK kvs k v; omega
  refine wpAny_setItem_pairs (hsz := hz) (kV_is ry) dd fun h' dd' hs => h _ ?_
  have he : ∃ q, h'.get? a = some q := let ⟨q, _, _, hq, _⟩ := dd'; ⟨q, hq⟩
  exact d_write I (by rw [e]; exact True.intro) hs he (dk_new hl hd (rel.put k rv) dd')
 ·subst ey eH
  cases (show u = Value.ref b from ry)
  obtain ⟨z, hd, xs, rel, dd⟩ := dt_of I.hok e
  have hz : xs.length ≤ sizeLine := by rw [← Paired.length rel]; exact z
  have hl : (putK kvs k v).length ≤ sizeLine := by have := length_putK kvs k v; omega
  refine wpAny_setItem_heap (hsz := hz) (tupleKind_room_in1 hu) (key_of I.hok eb) dd fun h' dd' hs => h _ ?_
  obtain ⟨q, es, ep, hq, h2, h3, h4, _, h5⟩ := dd'
  refine d_write I (by rw [e]; exact True.intro) hs ⟨q, hq⟩ ⟨hl, hd, _, (rel.put k eb rv).keeps fun c ys ec => ?_, q, es, ep, hq, h2, h3, h4, h5⟩
  rw [upd_ne (ne_of ec e (fun z => nomatch z))]
  exact ec
end
section
variable {X : Cx} {pins : List (Addr × Obj)} {σ : St} {H : Hp} {s : Shared} {a : Addr} {kvs : List (Key × V)} {k : Key} {u : Value} {A : Around} {E : Value → Shared → Prop}
end
def NoSl (i : Expr) : Prop := ∀ ov iv, subscripted i false ov iv = operate [ov, iv] (getItem ov iv)
theorem subD_of {prog : Program} {w : World} {A : Around} {E : Value → Shared → Prop} {s : Shared} {env : Env} {value slice : Expr} {pos : Pos} {T id : String} {Q : Value → Shared → Prop}
  (hl : typeLookup (.type T) "__getitem__" = pure (some (.builtin id))) (hs : NoSl slice)
  (h : wpAny (model prog w) A (eval value env) (fun o s₁ => wpAny (model prog w) A (eval slice env) (fun i s₂ => s₂.TypeIs o T ∧ wpAny (model prog w) A (getItem o i) Q E s₂) E s₁) E s) :
  wpAny (model prog w) A (eval (.Subscript value slice pos) env) Q E s := by
 refine Subscript_ (wpAny_mono h (fun o s₁ h₁ => wpAny_mono h₁ (fun i s₂ h₂ => ?_) fun _ _ x => x) fun _ _ x => x)
 obtain ⟨hT, h₂⟩ := h₂
 unfold subscriptTail
 refine wpAny_bind ?_
 rw [getitemInPython_of_ne hT.not_modules]
 refine wpAny_bind (wpAny_specialOf hT hl ?_)
 have fin : wpAny (model prog w) A (subscripted slice false o i) (fun r s₃ => wpAny (model prog w) A (letTemporaryGo value o r >>= fun _ => pure r) Q E s₃) E s₂ := by
  rw [hs o i]
  exact wpAny_operating (wpAny_mono h₂ (fun r s₃ h₃ => wpAny_bind (wpAny_letTemporaryGo (wpAny_pure h₃))) fun _ _ x => x)
 first
  | exact wpAny_pure (wpAny_bind fin)
  | exact wpAny_bind (wpAny_pure (wpAny_bind fin))
  | exact wpAny_bind fin
theorem dict_typeIs {X : Cx} {pins : List (Addr × Obj)} {σ : St} {H : Hp} {s : Shared} {a : Addr} {y : V} {o : Option V} (I : Inv X pins σ H s) (g : DGet H a y o) : s.TypeIs (.ref a) "dict" := by
 rcases g with ⟨kvs, k, e, _, _⟩ | ⟨kvs, k, b, e, _, _, _⟩
 ·obtain ⟨_, _, vs, _, dd⟩ := dk_rd I.hok e
  exact dd.typeIs
 ·obtain ⟨_, _, xs, _, dd⟩ := dt_rd I.hok e
  exact dd.typeIs
def tDGet (td ty : TE) : TE := fun σ H Q => td σ H fun x H1 => ty σ H1 fun y H2 => ∃ a v, x = .ref a ∧ DGet H2 a y (some v) ∧ Q v H2
def tDIn (ty td : TE) : TE := fun σ H Q => ty σ H fun y H1 => td σ H1 fun x H2 => ∃ a o, x = .ref a ∧ DGet H2 a y o ∧ Q (.bl o.isSome) H2
def tDNotIn (ty td : TE) : TE := fun σ H Q => ty σ H fun y H1 => td σ H1 fun x H2 => ∃ a o, x = .ref a ∧ DGet H2 a y o ∧ Q (.bl (!o.isSome)) H2
def sDPut (td ty tv : TE) : TS := fun D σ H => tv σ H fun v H1 => td σ H1 fun x H2 => ty σ H2 fun y H3 => ∃ a H4, x = .ref a ∧ DPut H3 a y v H4 ∧ D.nx σ H4
section
variable {X : Cx} {o i e value : Expr} {pos pos' tpos : Pos} {td ty tv : TE}
theorem pe_dget (hu : X.A.units + 1 < cLine) (ho : PE X o td) (hi : PE X i ty) (hs : NoSl i) : PE X (.Subscript o i pos) (tDGet td ty) := by
 intro pins s σ H Q I h
 refine subD_of PySem.F.slot_dict_getitem.lookup hs (thn (ho pins s σ H _ I h) fun u s1 ⟨x, H1, I1, rx, q1⟩ => thn (hi pins s1 σ H1 _ I1 q1) fun iv s2 ⟨y, H2, I2, ry, a, v, ex, g, q2⟩ => ?_)
 subst ex
 obtain rfl : u = Value.ref a := rx
 exact ⟨dict_typeIs I2 g, d_getItem hu I2 g ry fun w' s3 I3 rw' => ⟨v, H2, I3, rw', q2⟩⟩
theorem pc_din (hu : X.A.units + 1 < cLine) (hi : PE X i ty) (ho : PE X o td) : PC X .In i o (tDIn ty td) := by
 intro pins s σ H Q I h
 refine thn (hi pins s σ H _ I h) fun iv s1 ⟨y, H1, I1, ry, q1⟩ => thn (ho pins s1 σ H1 _ I1 q1) fun u s2 ⟨x, H2, I2, rx, a, ov, ex, g, q2⟩ => ?_
 subst ex
 obtain rfl : u = Value.ref a := rx
 exact d_in hu I2 g ry fun s3 I3 => ⟨.bl ov.isSome, H2, I3, rfl, q2⟩
theorem pc_dnotin (hu : X.A.units + 1 < cLine) (hi : PE X i ty) (ho : PE X o td) : PC X .NotIn i o (tDNotIn ty td) := by
 intro pins s σ H Q I h
 refine thn (hi pins s σ H _ I h) fun iv s1 ⟨y, H1, I1, ry, q1⟩ => thn (ho pins s1 σ H1 _ I1 q1) fun u s2 ⟨x, H2, I2, rx, a, ov, ex, g, q2⟩ => ?_
 subst ex
 obtain rfl : u = Value.ref a := rx
 exact d_notIn hu I2 g ry fun s3 I3 => ⟨.bl (!ov.isSome), H2, I3, rfl, q2⟩
theorem ps_dput (hu : X.A.units + 1 < cLine) (ho : PE X o td) (hi : PE X i ty) (hv : PE X value tv) (hs : swapsWith value (some (.Subscript o i pos')) pos.line X.env = pure false) :
  PS X (.Assign [.Subscript o i pos'] value pos) (sDPut td ty tv) := by
 intro pins s σ H D I h
 refine wpAny_Assign_Subscript (thn (hv pins s σ H _ I h) fun r s1 ⟨v, H1, I1, rv, q1⟩ => thn (ho pins s1 σ H1 _ I1 q1) fun u s2 ⟨x, H2, I2, rx, q2⟩ => thn (hi pins s2 σ H2 _ I2 q2) fun iv s3 ⟨y, H3, I3, ry, a, H4, ex, g, q3⟩ => ?_) hs
 subst ex
 obtain rfl : u = Value.ref a := rx
 exact d_setItem hu I3 g ry rv fun s4 I4 => ⟨σ, H4, I4, q3⟩
end
theorem dk_empty {P : Program} {w : World} {H : Hp} (h : Heap) (hb : sysModules < h.objs.size) : ObjOk P w H (h.push { cls := .type "dict", data := .dict #[] }) h.objs.size (.dK []) :=
 ⟨Nat.zero_le _, beq_eq_false_iff_ne.mpr (Ne.symm (Nat.ne_of_lt hb)), [], .nil, Heap.DictOf.new h⟩
def tDNewK : TE := fun _ H Q => ∀ p, H p = none → Q (.ref p) (upd H p (.dK []))
section
variable {X : Cx} {pos : Pos}
theorem pe_dnewK : PE X (.Dict [] [] pos) tDNewK := fun pins s σ H Q I h =>
 wpAny_Dict_empty ⟨.ref s.heap.objs.size, _, I.laid (a := s.heap.objs.size) (o := .dK []) (t' := s.toks) (fun _ _ q => Heap.get?_push_of_some _ q) (Nat.le_refl _) (dk_empty s.heap I.big), rfl, h _ (I.hok.fresh (Nat.le_refl _))⟩
end
def mergeK (kvs more : List (Key × V)) : List (Key × V) := more.foldl (fun acc kv => putK acc kv.1 kv.2) kvs
theorem KV.merge : ∀ {more : List (Key × V)} {rs : List (Key × Value)} {kvs : List (Key × V)} {vs : List (Key × Value)}, KV more rs → KV kvs vs → KV (mergeK kvs more) (merged vs rs) := by
 intro more rs kvs vs r
 unfold KV at r
 induction r generalizing kvs vs with
 | nil => intro q; exact q
 | @cons p q ps qs h t ih =>
  intro r0
  have e : KV (putK kvs p.1 p.2) (stored vs q.1 q.2) := by
   have := r0.put p.1 h.2
   rw [← h.1]; exact this
  exact ih e
theorem length_mergeK : ∀ (more kvs : List (Key × V)), (mergeK kvs more).length ≤ kvs.length + more.length
 | [], kvs => by show kvs.length ≤ kvs.length + 0; omega
 | p :: r, kvs => by
  have h1 := length_mergeK r (putK kvs p.1 p.2)
  have h2 := length_putK kvs p.1 p.2
  show (mergeK (putK kvs p.1 p.2) r).length ≤ _
  rw [List.length_cons]; omega
structure M1 (X : Cx) (o : Expr) (m : Str) (apos : Pos) (e : Expr) (cpos : Pos) : Prop where
 base : attributeBase o m X.env (eval o X.env) = eval o X.env
 few : ((backTo cpos (starEach [e] X.env)).all (fun x => !x.1) && (backToKw cpos (keywordEach [] X.env)).all (fun x => x.1.isSome)
  && decide (([e] : List Expr).length + ([] : List Keyword).length + (if ([] : List Keyword).isEmpty then 0 else 1) < 30)) = true
 line : (apos.endLine == cpos.line) = true
 trees : backTo cpos (starEach [e] X.env) = [(false, eval e X.env)]
def IsD (H : Hp) (a : Addr) : Prop := (∃ kvs, Rd H a (.dK kvs)) ∨ ∃ kvs, Rd H a (.dT kvs)
theorem isD_at {X : Cx} {pins : List (Addr × Obj)} {σ : St} {H : Hp} {s : Shared} {a : Addr} (I : Inv X pins σ H s) (d : IsD H a) :
  s.TypeIs (.ref a) "dict" ∧ (∀ b, Value.ref a = .ref b → ∃ ob, s.heap.get? b = some ob ∧ ob.dict = none) ∧ (a == sysModules) = false := by
 rcases d with ⟨kvs, e⟩ | ⟨kvs, e⟩
 ·obtain ⟨_, hd, vs, _, dd⟩ := dk_rd I.hok e
  refine ⟨dd.typeIs, fun b q => ?_, hd⟩
  cases q
  obtain ⟨ob, _, _, h1, h2, _⟩ := dd
  exact ⟨ob, h1, h2.2.1⟩
 ·obtain ⟨_, hd, xs, _, dd⟩ := dt_rd I.hok e
  refine ⟨dd.typeIs, fun b q => ?_, hd⟩
  cases q
  obtain ⟨ob, _, _, h1, h2, _⟩ := dd
  exact ⟨ob, h1, h2.2.1⟩
section
variable {X : Cx} {pins : List (Addr × Obj)} {σ : St} {H : Hp} {s : Shared} {a : Addr} {y d : V} {u r : Value} {o : Option V} {A : Around} {E : Value → Shared → Prop}
theorem d_get1 {Q : Value → Shared → Prop} (hu : A.units + 1 < cLine) (I : Inv X pins σ H s) (g : DGet H a y o) (ry : RelV y u) (h : ∀ w' s', Inv X pins σ H s' → RelV (o.getD .non) w' → Q w' s') :
  wpAny (model X.prog X.w) A (call (.builtin "dict.get") [.ref a, u]) Q E s := by
 rcases g with ⟨kvs, k, e, ey, l⟩ | ⟨kvs, k, b, e, ey, eb, l⟩
 ·subst ey
  obtain ⟨z, hd, vs, rel, dd⟩ := dk_rd I.hok e
  refine call_meetsIn PySem.F.slot_dict_get dd.typeIs PySem.F.entry_dict_get (PySem.F.args_dict_get_2 _ _) (meets_dict_get (mixKind X.prog X.w) a (kV_is ry) hd) ⟨_, dd.mapOf, h _ _ (I.tok _) ?_⟩
  rw [l]
  exact (rel.val k).getD rfl
 ·subst ey
  cases (show u = Value.ref b from ry)
  obtain ⟨z, hd, xs, rel, dd⟩ := dt_rd I.hok e
  refine call_meetsIn PySem.F.slot_dict_get dd.typeIs PySem.F.entry_dict_get (PySem.F.args_dict_get_2 _ _) (meetsH_dict_get (tupleKind (mixKind X.prog X.w)) a b hd) ⟨tupleKind_room_in1 hu, k, xs, key_of I.hok eb, dd, h _ _ (I.tok _) ?_⟩
  rw [l]
  exact (rel.val k).getD rfl
end
def tDGet1 (td ty : TE) : TE := fun σ H Q => td σ H fun x H1 => ∃ a, x = .ref a ∧ IsD H1 a ∧ ty σ H1 fun y H2 => ∃ o, DGet H2 a y o ∧ Q (o.getD .non) H2
section
variable {X : Cx} {o e f : Expr} {apos cpos : Pos} {td ty tx : TE}
theorem pe_dget1 (hu : X.A.units + 1 < cLine) (ho : PE X o td) (he : PE X e ty) (m : M1 X o "get" apos e cpos) : PE X (.Call (.Attribute o "get" apos) [e] [] cpos) (tDGet1 td ty) := by
 intro pins s σ H Q I h
 refine wpAny_Call_method m.base m.few m.line PySem.F.plainAttrs_dict PySem.F.slot_dict_get PySem.F.type_dict_get (thn (ho pins s σ H _ I h) fun u s1 ⟨x, H1, I1, rx, a, ex, d, q1⟩ => ?_)
 subst ex
 obtain rfl : u = Value.ref a := rx
 obtain ⟨t1, t2, _⟩ := isD_at I1 d
 refine ⟨t1, t2, ?_⟩
 rw [m.trees]
 refine Calls.callWith_builtin rfl (Calls.evalArgs_plain (Calls.spliced_cons (thn (he pins s1 σ H1 _ I1 q1) fun iv s2 ⟨y, H2, I2, ry, ov, g, q2⟩ => Calls.spliced_nil ?_)))
 exact d_get1 hu I2 g ry fun w' s3 I3 rw' => ⟨_, H2, I3, rw', q2⟩
end
section
variable {X : Cx} {pins : List (Addr × Obj)} {σ : St} {H : Hp} {s : Shared} {a : Addr} {kvs : List (Key × V)} {A : Around} {E : Value → Shared → Prop}
theorem d_copyOf {Q : Value → Shared → Prop} (I : Inv X pins σ H s) (e : Rd H a (.dK kvs)) (h : ∀ p s', H p = none → Inv X pins σ (upd H p (.dK kvs)) s' → Q (.ref p) s') : wpAny (model X.prog X.w) A (call (.type "dict") [.ref a]) Q E s := by
 obtain ⟨z, hd, vs, rel, dd⟩ := dk_rd I.hok e
 refine kt_call_dict hd dd (by rw [← rel.length]; exact z) fun h' dd' hs => ?_
 refine h _ _ (I.hok.fresh (Nat.le_refl _)) (I.laid (a := s.heap.objs.size) (o := .dK kvs) (t' := s.toks) (fun b q hq => ?_) (Nat.le_refl _) (dk_new z (beq_eq_false_iff_ne.mpr (Ne.symm (Nat.ne_of_lt I.big))) rel dd'))
 exact (hs.2 b (Nat.ne_of_lt (Heap.lt_size hq))).trans (Heap.get?_push_of_some _ hq)
end
section
variable {X : Cx} {pins : List (Addr × Obj)} {σ : St} {H : Hp} {s : Shared} {a : Addr} {y : V} {u : Value} {A : Around} {E : Value → Shared → Prop}
end
end L2
namespace L2
open PySem PySem.Spec PyProof.Rows
section
variable {X : Cx}
end
section
variable {κ : Type} [DecidableEq κ]
theorem nd_snoc : ∀ {l : List κ} {k : κ}, l.Nodup → ¬ k ∈ l → (l ++ [k]).Nodup
 | [], k, _, _ => by simp
 | a :: r, k, h, hk => by
  obtain ⟨h1, h2⟩ := List.nodup_cons.mp h
  show (a :: (r ++ [k])).Nodup
  refine List.nodup_cons.mpr ⟨fun m => ?_, nd_snoc h2 fun m => hk (List.mem_cons.mpr (Or.inr m))⟩
  rcases List.mem_append.mp m with q | q
  ·exact h1 q
  ·exact hk (List.mem_cons.mpr (Or.inl (List.mem_singleton.mp q).symm))
end
end L2
end
section
namespace L2
open PySem PySem.Spec PyProof.Rows
section
variable {es : List Expr} {env : Env}
theorem star_dict {a b c} : starEach (.Dict a b c :: es) env = (false, eval (.Dict a b c) env) :: starEach es env := rfl
end
section
variable {X : Cx}
theorem call_dict1 : CallR X (.type "dict") (fun xs H Q => ∃ a kvs, xs = [V.ref a] ∧ H a = some (.dK kvs) ∧ ∀ p, H p = none → Q (.ref p) (upd H p (.dK kvs))) := by
 intro pins s σ H xs us Q I r h
 obtain ⟨a, kvs, rfl, ha, q⟩ := h
 obtain ⟨u, rfl, ru⟩ := vals1 r
 cases ru
 exact d_copyOf I (.inl ha) fun p s' hp I' => ⟨.ref p, _, I', rfl, q p hp⟩
end
section
variable {ix : Cap} {tt : TT} {te : TE} {g : TG} {σ : St} {H : Hp} {Q : VK}
def NxtG (Pv : Nat → List V → Hp → Prop) (n i : Nat) (ys : List V) : VK := fun y H2 => ∃ m', m' < n - i ∧ m' = n - (i + 1) ∧ i + 1 ≤ n ∧ (ys ++ [y]).length ≤ i + 1 ∧ Pv (i + 1) (ys ++ [y]) H2
def NxtN (Pv : Nat → List V → Hp → Prop) (n i : Nat) (ys : List V) : Hp → Prop := fun H2 => ∃ m', m' < n - i ∧ m' = n - (i + 1) ∧ i + 1 ≤ n ∧ ys.length ≤ i + 1 ∧ Pv (i + 1) ys H2
theorem nxtG {Pv : Nat → List V → Hp → Prop} {n i : Nat} {ys : List V} {y : V} {H2 : Hp} (hi : i < n) (hl : ys.length ≤ i) (h : Pv (i + 1) (ys ++ [y]) H2) : NxtG Pv n i ys y H2 :=
 ⟨n - (i + 1), by omega, rfl, hi, by rw [List.length_append, List.length_singleton]; omega, h⟩
theorem nxtN {Pv : Nat → List V → Hp → Prop} {n i : Nat} {ys : List V} {H2 : Hp} (hi : i < n) (hl : ys.length ≤ i) (h : Pv (i + 1) ys H2) : NxtN Pv n i ys H2 :=
 ⟨n - (i + 1), by omega, rfl, hi, by omega, h⟩
theorem comp_tupG {K : PySem.W.Frag} {a : Addr} {xs : List V} (Pv : Nat → List V → Hp → Prop) (h0 : Pv 0 [] H) (hn : xs.length < sizeLine) (hl' : ∀ i ys H, i ≤ xs.length → Pv i ys H → SqT K H a xs)
  (hs : ∀ i x ys H, xs[i]? = some x → i < xs.length → ys.length ≤ i → Pv i ys H → g x (capt ix σ) H fun σ2 H2 => Ext (capt ix σ) σ2 ∧ tt σ2 H2 fun b H3 => if b = true then te σ2 H3 (NxtG Pv xs.length i ys) else NxtN Pv xs.length i ys H3)
  (hd : ∀ ys H, ys.length ≤ xs.length → Pv xs.length ys H → ∀ D, H D = none → Q (.ref D) (upd H D (.lst ys))) : CompGo (Itt K a) ix g tt te σ H Q := by
 refine ⟨fun i m ys H => m = xs.length - i ∧ i ≤ xs.length ∧ ys.length ≤ i ∧ Pv i ys H, ⟨xs.length, by simp, Nat.zero_le _, Nat.le_refl _, h0⟩, ?_⟩
 rintro i m ys H ⟨rfl, hi, hl, p⟩
 have q := hl' i ys H hi p
 by_cases hlt : i < xs.length
 ·refine .inr ⟨⟨xs, xs[i], q, by simp [hlt]⟩, by omega, fun v H' y => ?_⟩
  obtain ⟨e, y⟩ := y
  subst e
  exact hs i v ys _ (y xs q) hlt hl p
 ·have e : i = xs.length := by omega
  subst e
  exact .inl ⟨⟨xs, q, Nat.le_refl _⟩, hd ys H hl p⟩
theorem comp_listG {K : PySem.W.Frag} {a : Addr} {xs : List V} (Pv : Nat → List V → Hp → Prop) (h0 : Pv 0 [] H) (hn : xs.length < sizeLine) (hl' : ∀ i ys H, i ≤ xs.length → Pv i ys H → SqL K H a xs)
  (hs : ∀ i x ys H, xs[i]? = some x → i < xs.length → ys.length ≤ i → Pv i ys H → g x (capt ix σ) H fun σ2 H2 => Ext (capt ix σ) σ2 ∧ tt σ2 H2 fun b H3 => if b = true then te σ2 H3 (NxtG Pv xs.length i ys) else NxtN Pv xs.length i ys H3)
  (hd : ∀ ys H, ys.length ≤ xs.length → Pv xs.length ys H → ∀ D, H D = none → Q (.ref D) (upd H D (.lst ys))) : CompGo (Itl K a) ix g tt te σ H Q := by
 refine ⟨fun i m ys H => m = xs.length - i ∧ i ≤ xs.length ∧ ys.length ≤ i ∧ Pv i ys H, ⟨xs.length, by simp, Nat.zero_le _, Nat.le_refl _, h0⟩, ?_⟩
 rintro i m ys H ⟨rfl, hi, hl, p⟩
 have q := hl' i ys H hi p
 by_cases hlt : i < xs.length
 ·refine .inr ⟨⟨xs, xs[i], q, by simp [hlt]⟩, by omega, fun v H' y => ?_⟩
  obtain ⟨e, y⟩ := y
  subst e
  exact hs i v ys _ (y xs q) hlt hl p
 ·have e : i = xs.length := by omega
  subst e
  exact .inl ⟨⟨xs, q, Nat.le_refl _⟩, hd ys H hl p⟩
theorem ext2 {σ : St} {i j : Nat} {v w : Option V} (h : σ[i]? = some none) (k : σ[j]? = some none) : Ext σ ((σ.set i v).set j w) := by
 refine ⟨by simp, fun n w' e => ?_⟩
 have h1 : i ≠ n := fun z => by subst z; rw [h] at e; cases e
 have h2 : j ≠ n := fun z => by subst z; rw [k] at e; cases e
 rw [List.getElem?_set_ne h2, List.getElem?_set_ne h1]
 exact e
end
section
variable {X : Cx}
end
end L2
namespace L2
open PySem PySem.Spec PyProof.Rows
theorem sum_bound : ∀ {ns : List Int}, (∀ n ∈ ns, 0 ≤ n ∧ n ≤ 1000000) → 0 ≤ ns.sum ∧ ns.sum ≤ 1000000 * (ns.length : Int)
 | [], _ => by simp
 | n :: ns, h => by
  have h1 := h n (by simp)
  have h2 := sum_bound (ns := ns) fun m hm => h m (List.mem_cons_of_mem _ hm)
  rw [List.sum_cons, List.length_cons]
  push_cast
  omega
section
variable {X : Cx}
theorem call_sumL (hc : X.calm = true) : CallR X (.builtin "sum") (fun xs H Q => ∃ p, ∃ ns : List Int, xs = [.ref p] ∧ SqL X.K H p (ns.map V.int) ∧ (∀ n ∈ ns, 0 ≤ n ∧ n ≤ 1000000) ∧ ns.length ≤ 1000 ∧ Q (.int ns.sum) H) := by
 intro pins s σ H xs us Q I r h
 obtain ⟨p, ns, rfl, hq, hb, hlen, q⟩ := h
 obtain ⟨u, rfl, ru⟩ := vals1 r
 cases ru
 obtain ⟨its, rv, pl, hz⟩ := I.list hq
 have hi := intsAre_of rv
 obtain ⟨xs, e⟩ := hi.allInts.items
 have hns : ns = xs.toList.map (·.1) := by rw [← hi.numsOf, ← nums_intItems, ← e]
 have hl := pl.isList
 rw [e] at hl
 have hsz : xs.size = ns.length := by rw [hns, List.length_map, Array.length_toList]
 refine sum_intList (I.ok.hd hc) hl (fun j hj => ?_) fun h' tk t' k => ⟨.int ns.sum, H, I.kept k, ?_, q⟩
 ·have hm : numAt xs j ∈ ns := by
   rw [hns, numAt_eq]
   exact getD_mem (by rw [List.length_map, Array.length_toList]; exact hj)
  have h1 := hb _ hm
  have h2 := sum_bound (ns := ns.take (j + 1)) fun n hn => hb n (List.mem_of_mem_take hn)
  have h3 : (ns.take (j + 1)).length ≤ 1000 := Nat.le_trans (List.length_take_le _ _) (by omega)
  rw [preSum_eq, ← hns]
  unfold InLong
  omega
 ·refine ⟨t', ?_⟩
  rw [preSum_eq, ← hns, List.take_of_length_le (by omega)]
theorem call_maxL (hc : X.calm = true) : CallR X (.builtin "max") (fun xs H Q => ∃ p, ∃ ns : List Int, xs = [.ref p] ∧ SqL X.K H p (ns.map V.int) ∧ ns ≠ [] ∧ ∀ m, m ∈ ns → (∀ n ∈ ns, n ≤ m) → Q (.int m) H) := by
 intro pins s σ H xs us Q I r h
 obtain ⟨p, ns, rfl, hq, hne, q⟩ := h
 obtain ⟨u, rfl, ru⟩ := vals1 r
 cases ru
 obtain ⟨its, rv, pl, hz⟩ := I.list hq
 have hi := intsAre_of rv
 obtain ⟨xs, e⟩ := hi.allInts.items
 have hns : ns = xs.toList.map (·.1) := by rw [← hi.numsOf, ← nums_intItems, ← e]
 have hl := pl.isList
 rw [e] at hl
 have hsz : xs.size = ns.length := by rw [hns, List.length_map, Array.length_toList]
 have hp : 0 < ns.length := List.length_pos_iff.mpr hne
 refine max_intList (I.ok.hd hc) hl (by omega) fun v h' tk hv k => ?_
 obtain ⟨t, rfl⟩ := intItems_at hv
 obtain ⟨h1, h2⟩ := argBest_gt (numAt xs) (xs.size - 1)
 refine ⟨.int _, H, I.kept k, ⟨t, rfl⟩, q _ ?_ fun a ha => ?_⟩
 ·rw [hns, numAt_eq]
  exact getD_mem (by rw [List.length_map, Array.length_toList]; omega)
 ·rw [hns] at ha
  obtain ⟨j, hj, rfl⟩ := mem_getD ha
  rw [List.length_map, Array.length_toList] at hj
  rw [← numAt_eq]
  exact h2 j (by omega)
end
end L2
namespace L2
open PySem PySem.Spec PyProof.Rows
section
variable {X : Cx} {K : PySem.W.Frag}
theorem ix_tupC (h : X.K = K) : IxR X (rIxT K) := by subst h; exact ix_tup
theorem ix_listC (h : X.K = K) : IxR X (rIxL K) := by subst h; exact ix_list
theorem pg_tupC {es : List Expr} {k : Nat} {t : TGs} {n : Nat} {pos : Pos} (hK : X.K = K) (hc : X.calm = true) (h : PGs X es t)
  (hn : (assignEach es X.env).length = n := by rfl) (hst : (assignEach es X.env).findIdx? (·.1) = none := by rfl) : PG X (.Tuple es k pos) (gTup K n t) := by subst hK; exact pg_tup hc h hn hst
end
end L2
end
section
namespace Zt
open PySem PySem.Spec PyProof.Rows
section
variable {prog : Program} {w : World} {A : Around} {E : Value → Shared → Prop} {s : Shared}
end
end Zt
namespace L2
open PySem PySem.Spec PyProof.Rows
section
variable {X : Cx} {pins : List (Addr × Obj)} {σ : St} {H : Hp} {s : Shared} {h' : Heap}
end
section
variable {X : Cx}
end
section
variable {ix : Cap} {tt : TT} {te : TE} {g : TG} {σ : St} {H : Hp} {Q : VK}
end
end L2
end
section
namespace M
open PySem L2
structure Kn where
 name : Str
 rc : Bool
 parts : List (Str × Str)
def Kn.sort (k : Kn) : Str := if k.rc = true then S "rec" else S "alt"
def dPart (p : Str × Str) : D := .tup [.str p.1, .str p.2]
def dParts (ps : List (Str × Str)) : D := .tup (ps.map dPart)
def Kn.d (k : Kn) : D := .tup [.str k.name, .str k.sort, dParts k.parts]
def dKinds (ks : List Kn) : D := .tup (ks.map Kn.d)
def kAt (ks : List Kn) (x : Str) : Option Kn := ks.find? fun k => decide (k.name = x)
def sortV : Option Kn → V
 | some k => .str k.sort
 | none => .non
def partsD : Option Kn → D
 | some k => dParts k.parts
 | none => .tup []
def KsAt (H : Hp) (v : V) (ks : List Kn) : Prop := RelD H v (dKinds ks) ∧ ks.length ≤ 100 ∧ ∀ k ∈ ks, k.parts.length ≤ 100
abbrev En := Str → Option D
def En.put (e : En) (x : Str) (d : D) : En := fun y => if y = x then some d else e y
def opV (s : Str) (x y : Int) : Int :=
 if s = S "+" then (x + y) % 4294967296 else if s = S "-" then (x - y) % 4294967296 else if s = S "*" then x * y % 4294967296 else if s = S "<" then (if x < y then 1 else 0) else (if x = y then 1 else 0)
def Nm (x : Int) : Prop := 0 ≤ x ∧ x < 4294967296
theorem opV_nm (s : Str) (x y : Int) : Nm (opV s x y) := by
 have h : ∀ z : Int, Nm (z % 4294967296) := fun z => ⟨Int.emod_nonneg _ (by decide), Int.emod_lt_of_pos _ (by decide)⟩
 unfold opV
 split
 ·exact h _
 split
 ·exact h _
 split
 ·exact h _
 split
 ·split <;> exact ⟨by decide, by decide⟩
 ·split <;> exact ⟨by decide, by decide⟩
abbrev tNum (n : Int) : D := .tup [.str (S "num"), .int n]
abbrev tBox (x : Str) : D := .tup [.str (S "box"), .str x]
abbrev tOpD (s : Str) (a b : D) : D := .tup [.str (S "op"), .str s, a, b]
abbrev tRec (k : Str) (es : List D) : D := .tup [.str (S "rec"), .str k, .tup es]
abbrev tGet (a : D) (f : Str) : D := .tup [.str (S "get"), a, .str f]
abbrev tTag (k t : Str) (a : D) : D := .tup [.str (S "tag"), .str k, .str t, a]
abbrev dArm (r : Str × Str × D) : D := .tup [.str r.1, .str r.2.1, r.2.2]
abbrev tCase (a : D) (rs : List (Str × Str × D)) : D := .tup [.str (S "case"), a, .tup (rs.map dArm)]
abbrev tIfD (a b c : D) : D := .tup [.str (S "if"), a, b, c]
def LeafEv (env : En) (d v : D) : Prop := (∃ n, d = tNum n ∧ v = .int n) ∨ ∃ x, env x = some v ∧ d = tBox x
def NodeEv (ks : List Kn) (R : En → D → D → Prop) (env : En) (d v : D) : Prop :=
 (∃ s a b x y, R env a (.int x) ∧ R env b (.int y) ∧ Nm x ∧ Nm y ∧ d = tOpD s a b ∧ v = .int (opV s x y)) ∨
 (∃ k es vs, es.length ≤ 1000 ∧ All2 (R env) es vs ∧ d = tRec k es ∧ v = .tup [.str k, .tup vs]) ∨
 (∃ a k vs f kn i, R env a (.tup [.str k, .tup vs]) ∧ kAt ks k = some kn ∧ (kn.parts.map (·.1)).findIdx? (fun z => decide (z = f)) = some i ∧ vs[i]? = some v ∧ d = tGet a f) ∨
 (∃ k t a x, R env a x ∧ d = tTag k t a ∧ v = .tup [.str k, .str t, x]) ∨
 (∃ a rs k t x y e, rs.length ≤ 1000 ∧ R env a (.tup [.str k, .str t, x]) ∧ rs.find? (fun r => decide (r.1 = t)) = some (t, y, e) ∧ R (env.put y x) e v ∧ d = tCase a rs) ∨
 (∃ a b c x, R env a (.int x) ∧ R env (if x = 0 then c else b) v ∧ d = tIfD a b c)
def LeafKd (env : En) (d : D) (k : Str) : Prop := (∃ n, Nm n ∧ d = tNum n ∧ k = S "num") ∨ ∃ x, env x = some (.str k) ∧ d = tBox x
def partOf (kn : Kn) (f : Str) : Option Str := (kn.parts.find? fun p => decide (p.1 = f)).map (·.2)
abbrev RKn := En → D → Str → Prop
def OpKd (R : RKn) : RKn := fun env d k => ∃ s a b, R env a (S "num") ∧ R env b (S "num") ∧ d = tOpD s a b ∧ k = S "num"
def RecKd (ks : List Kn) (R : RKn) : RKn := fun env d k => ∃ es kn, kAt ks k = some kn ∧ kn.rc = true ∧ All2 (fun e (p : Str × Str) => R env e p.2) es kn.parts ∧ d = tRec k es
def GetKd (ks : List Kn) (R : RKn) : RKn := fun env d k => ∃ a k1 f kn, R env a k1 ∧ kAt ks k1 = some kn ∧ kn.rc = true ∧ partOf kn f = some k ∧ d = tGet a f
def TagKd (ks : List Kn) (R : RKn) : RKn := fun env d k => ∃ t a kn k1, kAt ks k = some kn ∧ kn.rc = false ∧ partOf kn t = some k1 ∧ R env a k1 ∧ d = tTag k t a
def CaseKd (cs : Prop) (ks : List Kn) (R : RKn) : RKn := fun env d k => cs ∧ ∃ a, ∃ rs : List (Str × Str × D), ∃ k1 kn, R env a k1 ∧ kAt ks k1 = some kn ∧ kn.rc = false ∧ rs ≠ [] ∧ rs.length = kn.parts.length ∧ (rs.map (·.1)).Nodup ∧
  (∀ r ∈ rs, env r.2.1 = none ∧ ∃ k2, partOf kn r.1 = some k2 ∧ R (env.put r.2.1 (.str k2)) r.2.2 k) ∧ d = tCase a rs
def IfKd (R : RKn) : RKn := fun env d k => ∃ a b c, R env a (S "num") ∧ R env b k ∧ R env c k ∧ d = tIfD a b c
def NodeKd (cs : Prop) (ks : List Kn) (R : RKn) : RKn := fun env d k => OpKd R env d k ∨ RecKd ks R env d k ∨ GetKd ks R env d k ∨ TagKd ks R env d k ∨ CaseKd cs ks R env d k ∨ IfKd R env d k
def Kd (cs : Prop) (ks : List Kn) : Nat → En → D → Str → Prop
 | 0 => LeafKd
 | n + 1 => fun env d k => LeafKd env d k ∨ NodeKd cs ks (Kd cs ks n) env d k
theorem find_step {α : Type} {p : α → Bool} {xs : List α} {i : Nat} {a : α} (h : (xs.take i).find? p = none) (ha : xs[i]? = some a) : (p a = true → xs.find? p = some a) ∧ (p a = false → (xs.take (i + 1)).find? p = none) := by
 have hi : i < xs.length := (List.getElem?_eq_some_iff.mp ha).1
 have e : xs[i] = a := (List.getElem?_eq_some_iff.mp ha).2
 refine ⟨fun hp => ?_, fun hp => ?_⟩
 ·have e2 : xs = xs.take i ++ a :: xs.drop (i + 1) := by
   rw [← e, ← List.drop_eq_getElem_cons hi, List.take_append_drop]
  rw [e2, List.find?_append, h]
  simp [hp]
 ·rw [List.take_add_one, ha, List.find?_append, h]
  simp [hp]
end M
end
section
namespace K41
open PySem L2 M
seal L2.PE L2.PA L2.PS L2.PSs L2.PT L2.PW L2.PI L2.PG L2.PJ L2.PTs
def top (i : Nat) : Stmt := PySem.Challenge.pw_swapstride_k41_ways_by_rules.main.body.getD i (.Pass ⟨0, 0, 0, 0⟩)
abbrev s_sort_of : Stmt := top 1
theorem sc_sort_of : FnScope ["kinds", "K", "name", "sort", "parts"] ["kinds", "K"] (defScope s_sort_of) := ⟨rfl, rfl, rfl, by decide +kernel, rfl, by decide +kernel, by decide +kernel⟩
abbrev s_parts_of : Stmt := top 2
theorem sc_parts_of : FnScope ["kinds", "K", "name", "sort", "parts"] ["kinds", "K"] (defScope s_parts_of) := ⟨rfl, rfl, rfl, by decide +kernel, rfl, by decide +kernel, by decide +kernel⟩
abbrev s_nought_term : Stmt := top 4
theorem sc_nought_term : FnScope ["kinds", "kind", "parts"] ["kinds", "kind"] (defScope s_nought_term) := ⟨rfl, rfl, rfl, by decide +kernel, rfl, by decide +kernel, by decide +kernel⟩
abbrev s_goes_to : Stmt := top 6
theorem sc_goes_to : FnScope ["ways", "kind"] ["ways", "kind"] (defScope s_goes_to) := ⟨rfl, rfl, rfl, by decide +kernel, rfl, by decide +kernel, by decide +kernel⟩
abbrev s_made_ways : Stmt := top 7
theorem sc_made_ways : FnScope ["first", "second", "told", "ways", "lacking", "kind", "K", "how"] ["first", "second", "told"] (defScope s_made_ways) := ⟨rfl, rfl, rfl, by decide +kernel, rfl, by decide +kernel, by decide +kernel⟩
abbrev s_how_by_rules : Stmt := top 8
theorem sc_how_by_rules : FnScope ["kinds", "ways", "kind", "K", "terms"] ["kinds", "ways", "kind"] (defScope s_how_by_rules) := ⟨rfl, rfl, rfl, by decide +kernel, rfl, by decide +kernel, by decide +kernel⟩
abbrev s_terms_by_rules : Stmt := top 9
theorem sc_terms_by_rules : FnScope ["kinds", "ways", "olds", "news", "own", "terms", "x", "kind"] ["kinds", "ways", "olds", "news"] (defScope s_terms_by_rules) := ⟨rfl, rfl, rfl, by decide +kernel, rfl, by decide +kernel, by decide +kernel⟩
abbrev s_tags_by_rules : Stmt := top 10
theorem sc_tags_by_rules : FnScope ["kinds", "ways", "kind", "K", "theirs", "tag", "inner"] ["kinds", "ways", "kind"] (defScope s_tags_by_rules) := ⟨rfl, rfl, rfl, by decide +kernel, rfl, by decide +kernel, by decide +kernel⟩
abbrev s__law_feed : Stmt := top 12
theorem sc__law_feed : FnScope ["_law_script", "_law_k", "_law_cell"] ["_law_script", "_law_k"] (defScope s__law_feed) := ⟨rfl, rfl, rfl, by decide +kernel, rfl, by decide +kernel, by decide +kernel⟩
abbrev s__law_take : Stmt := top 13
theorem sc__law_take : FnScope ["_law_feed_here", "_law_many", "_law_digit", "_law_one"] ["_law_feed_here", "_law_many"] (defScope s__law_take) := ⟨rfl, rfl, rfl, by decide +kernel, rfl, by decide +kernel, by decide +kernel⟩
abbrev s__law_names : Stmt := top 14
theorem sc__law_names : FnScope ["_law_cell", "_law_many", "_law_letters", "_law_size_here", "_law_at", "_law_common", "_law_found"] ["_law_cell", "_law_many"] (defScope s__law_names) := ⟨rfl, rfl, rfl, by decide +kernel, rfl, by decide +kernel, by decide +kernel⟩
abbrev s__law_number : Stmt := top 15
theorem sc__law_number : FnScope ["_law_feed_here", "_law_form"] ["_law_feed_here"] (defScope s__law_number) := ⟨rfl, rfl, rfl, by decide +kernel, rfl, by decide +kernel, by decide +kernel⟩
abbrev s__law_sort_of : Stmt := top 16
theorem sc__law_sort_of : FnScope ["_law_kinds_here", "_law_kind", "_law_name", "_law_sort", "_law_parts_here"] ["_law_kinds_here", "_law_kind"] (defScope s__law_sort_of) := ⟨rfl, rfl, rfl, by decide +kernel, rfl, by decide +kernel, by decide +kernel⟩
abbrev s__law_size : Stmt := top 17
theorem sc__law_size : FnScope ["_law_kinds_here", "_law_kind", "_law_sort", "_law_parts_here", "_law_sizes"] ["_law_kinds_here", "_law_kind"] (defScope s__law_size) := ⟨rfl, rfl, rfl, by decide +kernel, rfl, by decide +kernel, by decide +kernel⟩
abbrev s__law_small : Stmt := top 18
theorem sc__law_small : FnScope ["_law_kinds_here", "_law_kind", "_law_sort", "_law_parts_here"] ["_law_kinds_here", "_law_kind"] (defScope s__law_small) := ⟨rfl, rfl, rfl, by decide +kernel, rfl, by decide +kernel, by decide +kernel⟩
abbrev s__law_parts : Stmt := top 19
theorem sc__law_parts : FnScope ["_law_feed_here", "_law_kinds_here", "_law_sort", "_law_names_here", "_law_parts_here", "_law_left", "_law_j", "_law_kind"] ["_law_feed_here", "_law_kinds_here", "_law_sort", "_law_names_here"] (defScope s__law_parts) := ⟨rfl, rfl, rfl, by decide +kernel, rfl, by decide +kernel, by decide +kernel⟩
abbrev s__law_kinds : Stmt := top 20
theorem sc__law_kinds : FnScope ["_law_feed_here", "_law_names_here", "_law_kinds_here", "_law_k", "_law_sort"] ["_law_feed_here", "_law_names_here"] (defScope s__law_kinds) := ⟨rfl, rfl, rfl, by decide +kernel, rfl, by decide +kernel, by decide +kernel⟩
abbrev s__law_boxed : Stmt := top 21
theorem sc__law_boxed : FnScope ["_law_feed_here", "_law_some"] ["_law_feed_here", "_law_some"] (defScope s__law_boxed) := ⟨rfl, rfl, rfl, by decide +kernel, rfl, by decide +kernel, by decide +kernel⟩
abbrev s__law_arms : Stmt := top 22
theorem sc__law_arms : FnScope ["_law_feed_here", "_law_kinds_here", "_law_boxes", "_law_parts_here", "_law_kind", "_law_room", "_law_deep", "_law_arms_here", "_law_each", "_law_t", "_law_part", "_law_x"] ["_law_feed_here", "_law_kinds_here", "_law_boxes", "_law_parts_here", "_law_kind", "_law_room", "_law_deep"] (defScope s__law_arms) := ⟨rfl, rfl, rfl, by decide +kernel, rfl, by decide +kernel, by decide +kernel⟩
abbrev s__law_whole_term : Stmt := top 23
theorem sc__law_whole_term : FnScope ["_law_feed_here", "_law_kinds_here", "_law_boxes", "_law_kind", "_law_room", "_law_deep", "_law_sort", "_law_parts_here", "_law_one", "_law_other", "_law_some", "_law_t", "_law_part", "_law_more", "_law_terms", "_law_f"] ["_law_feed_here", "_law_kinds_here", "_law_boxes", "_law_kind", "_law_room", "_law_deep"] (defScope s__law_whole_term) := ⟨rfl, rfl, rfl, by decide +kernel, rfl, by decide +kernel, by decide +kernel⟩
abbrev s__law_term : Stmt := top 24
theorem sc__law_term : FnScope ["_law_feed_here", "_law_kinds_here", "_law_boxes", "_law_kind", "_law_room", "_law_deep", "_law_some", "_law_form", "_law_small_here", "_law_more", "_law_one", "_law_first", "_law_held", "_law_x", "_law_told_here", "_law_sort", "_law_parts_here", "_law_f", "_law_tags"] ["_law_feed_here", "_law_kinds_here", "_law_boxes", "_law_kind", "_law_room", "_law_deep"] (defScope s__law_term) := ⟨rfl, rfl, rfl, by decide +kernel, rfl, by decide +kernel, by decide +kernel⟩
abbrev s__law_new_term : Stmt := top 25
theorem sc__law_new_term : FnScope ["_law_feed_here", "_law_kinds_here", "_law_boxes", "_law_kind"] ["_law_feed_here", "_law_kinds_here", "_law_boxes", "_law_kind"] (defScope s__law_new_term) := ⟨rfl, rfl, rfl, by decide +kernel, rfl, by decide +kernel, by decide +kernel⟩
abbrev s__law_any_kind : Stmt := top 26
theorem sc__law_any_kind : FnScope ["_law_feed_here", "_law_kinds_here"] ["_law_feed_here", "_law_kinds_here"] (defScope s__law_any_kind) := ⟨rfl, rfl, rfl, by decide +kernel, rfl, by decide +kernel, by decide +kernel⟩
abbrev s__law_beside_parts : Stmt := top 27
theorem sc__law_beside_parts : FnScope ["_law_feed_here", "_law_kinds_here", "_law_sort", "_law_parts_here", "_law_names_here", "_law_form", "_law_k"] ["_law_feed_here", "_law_kinds_here", "_law_sort", "_law_parts_here", "_law_names_here"] (defScope s__law_beside_parts) := ⟨rfl, rfl, rfl, by decide +kernel, rfl, by decide +kernel, by decide +kernel⟩
abbrev s__law_beside : Stmt := top 28
theorem sc__law_beside : FnScope ["_law_feed_here", "_law_kinds_here", "_law_names_here", "_law_found", "_law_name", "_law_sort", "_law_parts_here", "_law_form", "_law_more"] ["_law_feed_here", "_law_kinds_here", "_law_names_here"] (defScope s__law_beside) := ⟨rfl, rfl, rfl, by decide +kernel, rfl, by decide +kernel, by decide +kernel⟩
abbrev s__law_way : Stmt := top 29
theorem sc__law_way : FnScope ["_law_feed_here", "_law_first", "_law_kinds_here", "_law_ways", "_law_name", "_law_sort", "_law_parts_here", "_law_goal", "_law_boxes", "_law_arms_here", "_law_t", "_law_part"] ["_law_feed_here", "_law_first", "_law_kinds_here", "_law_ways", "_law_name"] (defScope s__law_way) := ⟨rfl, rfl, rfl, by decide +kernel, rfl, by decide +kernel, by decide +kernel⟩
abbrev s__law_told : Stmt := top 30
theorem sc__law_told : FnScope ["_law_feed_here", "_law_first", "_law_kinds_here", "_law_told_here", "_law_name", "_law_sort", "_law_parts_here", "_law_ways", "_law_lacking"] ["_law_feed_here", "_law_first", "_law_kinds_here"] (defScope s__law_told) := ⟨rfl, rfl, rfl, by decide +kernel, rfl, by decide +kernel, by decide +kernel⟩
abbrev s__law_goes : Stmt := top 31
theorem sc__law_goes : FnScope ["_law_ways", "_law_kind"] ["_law_ways", "_law_kind"] (defScope s__law_goes) := ⟨rfl, rfl, rfl, by decide +kernel, rfl, by decide +kernel, by decide +kernel⟩
abbrev s__law_nought : Stmt := top 32
theorem sc__law_nought : FnScope ["_law_kinds_here", "_law_kind", "_law_sort", "_law_parts_here"] ["_law_kinds_here", "_law_kind"] (defScope s__law_nought) := ⟨rfl, rfl, rfl, by decide +kernel, rfl, by decide +kernel, by decide +kernel⟩
abbrev s__law_rule : Stmt := top 33
theorem sc__law_rule : FnScope ["_law_kinds_here", "_law_row", "_law_ways", "_law_name", "_law_sort", "_law_parts_here", "_law_goal", "_law_goals", "_law_known", "_law_t", "_law_part", "_law_terms", "_law_f"] ["_law_kinds_here", "_law_row", "_law_ways"] (defScope s__law_rule) := ⟨rfl, rfl, rfl, by decide +kernel, rfl, by decide +kernel, by decide +kernel⟩
abbrev s__law_due : Stmt := top 34
theorem sc__law_due : FnScope ["_law_kinds_here", "_law_more", "_law_told_here", "_law_ways", "_law_lacking", "_law_row", "_law_way_here"] ["_law_kinds_here", "_law_more", "_law_told_here"] (defScope s__law_due) := ⟨rfl, rfl, rfl, by decide +kernel, rfl, by decide +kernel, by decide +kernel⟩
abbrev s_law : Stmt := top 35
theorem sc_law : FnScope ["_law_script", "_law_names_here", "_law_kinds_here", "_law_first", "_law_second", "_law_told_here", "_law_given", "_law_handed", "_law_due_here", "_law_found", "_law_kind"] ["_law_script"] (defScope s_law) := ⟨rfl, rfl, rfl, by decide +kernel, rfl, by decide +kernel, by decide +kernel⟩
structure Tx (K : PySem.W.Frag) (mg : Str → Option Value) : Prop where
 d_sort_of : DefTx K mg "sort_of" s_sort_of ["kinds", "K"]
 d_parts_of : DefTx K mg "parts_of" s_parts_of ["kinds", "K"]
 d_nought_term : DefTx K mg "nought_term" s_nought_term ["kinds", "kind"]
 d_goes_to : DefTx K mg "goes_to" s_goes_to ["ways", "kind"]
 d_made_ways : DefTx K mg "made_ways" s_made_ways ["first", "second", "told"]
 d_how_by_rules : DefTx K mg "how_by_rules" s_how_by_rules ["kinds", "ways", "kind"]
 d_terms_by_rules : DefTx K mg "terms_by_rules" s_terms_by_rules ["kinds", "ways", "olds", "news"]
 d_tags_by_rules : DefTx K mg "tags_by_rules" s_tags_by_rules ["kinds", "ways", "kind"]
 d__law_feed : DefTx K mg "_law_feed" s__law_feed ["_law_script", "_law_k"]
 d__law_take : DefTx K mg "_law_take" s__law_take ["_law_feed_here", "_law_many"]
 d__law_names : DefTx K mg "_law_names" s__law_names ["_law_cell", "_law_many"]
 d__law_number : DefTx K mg "_law_number" s__law_number ["_law_feed_here"]
 d__law_sort_of : DefTx K mg "_law_sort_of" s__law_sort_of ["_law_kinds_here", "_law_kind"]
 d__law_size : DefTx K mg "_law_size" s__law_size ["_law_kinds_here", "_law_kind"]
 d__law_small : DefTx K mg "_law_small" s__law_small ["_law_kinds_here", "_law_kind"]
 d__law_parts : DefTx K mg "_law_parts" s__law_parts ["_law_feed_here", "_law_kinds_here", "_law_sort", "_law_names_here"]
 d__law_kinds : DefTx K mg "_law_kinds" s__law_kinds ["_law_feed_here", "_law_names_here"]
 d__law_boxed : DefTx K mg "_law_boxed" s__law_boxed ["_law_feed_here", "_law_some"]
 d__law_arms : DefTx K mg "_law_arms" s__law_arms ["_law_feed_here", "_law_kinds_here", "_law_boxes", "_law_parts_here", "_law_kind", "_law_room", "_law_deep"]
 d__law_whole_term : DefTx K mg "_law_whole_term" s__law_whole_term ["_law_feed_here", "_law_kinds_here", "_law_boxes", "_law_kind", "_law_room", "_law_deep"]
 d__law_term : DefTx K mg "_law_term" s__law_term ["_law_feed_here", "_law_kinds_here", "_law_boxes", "_law_kind", "_law_room", "_law_deep"]
 d__law_new_term : DefTx K mg "_law_new_term" s__law_new_term ["_law_feed_here", "_law_kinds_here", "_law_boxes", "_law_kind"]
 d__law_any_kind : DefTx K mg "_law_any_kind" s__law_any_kind ["_law_feed_here", "_law_kinds_here"]
 d__law_beside_parts : DefTx K mg "_law_beside_parts" s__law_beside_parts ["_law_feed_here", "_law_kinds_here", "_law_sort", "_law_parts_here", "_law_names_here"]
 d__law_beside : DefTx K mg "_law_beside" s__law_beside ["_law_feed_here", "_law_kinds_here", "_law_names_here"]
 d__law_way : DefTx K mg "_law_way" s__law_way ["_law_feed_here", "_law_first", "_law_kinds_here", "_law_ways", "_law_name"]
 d__law_told : DefTx K mg "_law_told" s__law_told ["_law_feed_here", "_law_first", "_law_kinds_here"]
 d__law_goes : DefTx K mg "_law_goes" s__law_goes ["_law_ways", "_law_kind"]
 d__law_nought : DefTx K mg "_law_nought" s__law_nought ["_law_kinds_here", "_law_kind"]
 d__law_rule : DefTx K mg "_law_rule" s__law_rule ["_law_kinds_here", "_law_row", "_law_ways"]
 d__law_due : DefTx K mg "_law_due" s__law_due ["_law_kinds_here", "_law_more", "_law_told_here"]
 d_law : DefTx K mg "law" s_law ["_law_script"]
 z_dict : mg "dict" = none
 z_int : mg "int" = none
 z_isinstance : mg "isinstance" = none
 z_len : mg "len" = none
 z_list : mg "list" = none
 z_max : mg "max" = none
 z_range : mg "range" = none
 z_sum : mg "sum" = none
 z_tuple : mg "tuple" = none
theorem fits {n : Nat} (h : n ≤ 4000000) : n ≤ sizeLine := Nat.le_trans h (by decide)
theorem fitsLt {n : Nat} (h : n ≤ 4000000) : n < sizeLine := Nat.lt_of_le_of_lt h (by decide)
end K41
end
section
local macro_rules | `(tactic| walk_at "rd1") => `(tactic| first
 | refine ⟨_, rfl, ?_⟩
 | refine ⟨_, _, rfl, rfl, ?_⟩
 | refine ⟨_, _, _, _, rfl, rfl, (by assumption), (by first | rfl | assumption), ?_⟩
 | refine ⟨_, _, rfl, .inl (by assumption), ?_⟩
 | refine ⟨(by first | exact .inr ⟨by decide, by decide⟩ | exact .inl ⟨by decide, by decide⟩ | exact ⟨by decide, by decide, by decide⟩ | exact ⟨by decide, by decide⟩ | exact ⟨by assumption, by assumption⟩ | (show (0 : Int) < _; first | decide | assumption)), ?_⟩
 | refine ⟨rfl, ?_⟩)
local macro_rules | `(tactic| walk_at "rd") => `(tactic| repeat walk_at "rd1")
namespace K41
open PySem L2 M
seal L2.PE L2.PA L2.PS L2.PSs L2.PT L2.PW L2.PI L2.PG L2.PJ L2.PTs
def spFeed (K : PySem.W.Frag) : Sp := fun vs H Q _ => ∃ (a : Addr) (ns : List Int) (k : Int), vs = [.ref a, .int k] ∧ SqL K H a (ns.map V.int) ∧ ns.length ≤ 63 ∧ 0 ≤ k ∧ ∀ (r : Addr) (p q : Int), H r = none → Q (.ref r) (upd H r (.lst [.int p, .int q]))
def spTake : Sp := fun vs H Q _ => ∃ (a : Addr) (p q m : Int), vs = [.ref a, .int m] ∧ H a = some (.lst [.int p, .int q]) ∧ 0 < m ∧ m < 2 ^ 64 ∧ ∀ (r : Int) (H' : Hp), 0 ≤ r → r < m → Fed a H H' → Q (.int r) H'
section
variable {P : Program} {w : World} {K : PySem.W.Frag} {mg : Str → Option Value} {base : Heap} {n : Nat}
theorem at_ints {ns : List Int} {k : Int} (h0 : 0 ≤ k) (h : k < (ns.length : Int)) : ∃ v : Int, atI (ns.map V.int) k = some (.int v) := by
 have hk : k.toNat < ns.length := by omega
 have ek : k = ((k.toNat : Nat) : Int) := by omega
 refine ⟨ns[k.toNat], ?_⟩
 have q : atI (ns.map V.int) ((k.toNat : Nat) : Int) = some (.int ns[k.toNat]) := atI_nat (by rw [List.getElem?_map, List.getElem?_eq_getElem hk] <;> rfl)
 rw [← ek] at q
 exact q
theorem two_fits : 2 ≤ sizeLine := by decide
theorem ok__law_feed (T : Tx K mg) : DefIs P w K mg base (n + 1) "_law_feed" ["_law_script", "_law_k"] (spFeed K) := by
 refine DefIs.of T.d__law_feed sc__law_feed (fun vs H Q E h => ?_) (fun f cdv A outer s H vs Q E hr h => ?_)
 ·obtain ⟨a, ns, k, rfl, _⟩ := h
  rfl
 obtain ⟨a, ns, k, rfl, hS, h63, hk, q⟩ := h
 have nd := sc__law_feed.nd
 have hl : (ns.map V.int).length = ns.length := List.length_map _
 refine ⟨_, (pss_cons (ps_set (i := 2) nd rfl (by first | exact Or.inl rfl | exact Or.inr rfl) pe_int)
   (pss_cons (ps_if (pt_cmpR op_lt (pv 1) (pe_callB call_len_seq rfl T.z_len PySem.boot_len (pa_cons (pv 0) pa_nil star_name)) (nomark _)) (pss_one (ps_set (i := 2) nd rfl (by first | exact Or.inl rfl | exact Or.inr rfl) (pe_ix ix_list (pv 0) (pv 1) (fun _ _ => rfl)))) pss_nil)
   (pss_cons (ps_if (PW.pt (pw_and (pt_cmpR op_gt (pe_callB call_len_seq rfl T.z_len PySem.boot_len (pa_cons (pv 0) pa_nil star_name)) pe_int (nomark _)) (pw_and1 (pt_cmpR op_eq (pe_op op_mod (pe_ix ix_list (pv 0) pe_int (fun _ _ => rfl)) pe_int) pe_int (nomark _))))) (pss_one (ps_ret (pe_lst (pa_cons (pv 2) (pa_cons (pe_op op_add (pe_op op_mod (pe_op op_add (pe_op op_mul (pe_op op_mod (pv 2) pe_int) pe_int) (pe_op op_mul pe_int (pv 1))) pe_int) pe_int) pa_nil star_bin) star_name)))) pss_nil)
   (pss_cons (ps_if (PW.pt (pw_and (pt_cmpR op_ge (pv 1) (pe_callB call_len_seq rfl T.z_len PySem.boot_len (pa_cons (pv 0) pa_nil star_name)) (nomark _)) (pw_and1 (pt_cmpR op_gt (pe_callB call_len_seq rfl T.z_len PySem.boot_len (pa_cons (pv 0) pa_nil star_name)) pe_int (nomark _))))) (pss_one (ps_set (i := 2) nd rfl (by first | exact Or.inl rfl | exact Or.inr rfl) (pe_op op_add (pe_ix ix_list (pv 0) (pe_op op_mod (pv 1) (pe_callB call_len_seq rfl T.z_len PySem.boot_len (pa_cons (pv 0) pa_nil star_name))) (fun _ _ => rfl)) (pe_op op_mul pe_int (pv 1))))) pss_nil)
   (pss_one (ps_ret (pe_lst (pa_cons pe_int (pa_cons (pe_op op_add (pe_op op_mod (pe_op op_add (pe_op op_mul (pe_op op_mod (pv 2) pe_int) pe_int) (pe_op op_mul pe_int (pv 1))) pe_int) pe_int) pa_nil star_bin) star_const)))))))), ?_⟩
 have h0 : 0 < ns.length → ∃ v : Int, atI (ns.map V.int) 0 = some (.int v) := fun h => at_ints (Int.le_refl 0) (by omega)
 walk_at "rd"
 refine ite2 (fun c => ?_) (fun c => ?_)
 ·have c' := of_decide_eq_true c
  rw [hl] at c'
  obtain ⟨v, hv⟩ := at_ints (ns := ns) hk c'
  obtain ⟨v0, hv0⟩ := h0 (by omega)
  walk_at "rd"
  refine ite2 (fun c2 => ?_) (fun c2 => ?_)
  ·walk_at "rd"
   refine ite2 (fun c3 => ?_) (fun c3 => ?_)
   ·walk_at "rd"
    exact ⟨two_fits, fun l hl' => q l _ _ hl'⟩
   ·walk_at "rd"
    refine ite2 (fun c4 => ?_) (fun c4 => ?_)
    ·have c4' := of_decide_eq_true c4
     rw [hl] at c4'
     omega
    ·refine iteF ?_
     walk_at "rd"
     exact ⟨two_fits, fun l hl' => q l _ _ hl'⟩
  ·have c2' := of_decide_eq_false (Bool.eq_false_iff.mpr c2)
   rw [hl] at c2'
   omega
 ·have c' := of_decide_eq_false (Bool.eq_false_iff.mpr c)
  rw [hl] at c'
  walk_at "rd"
  refine ite2 (fun c2 => ?_) (fun c2 => ?_)
  ·have c2' := of_decide_eq_true c2
   rw [hl] at c2'
   obtain ⟨v0, hv0⟩ := h0 (by omega)
   walk_at "rd"
   refine ite2 (fun c3 => ?_) (fun c3 => ?_)
   ·walk_at "rd"
    exact ⟨two_fits, fun l hl' => q l _ _ hl'⟩
   ·walk_at "rd"
    refine ite2 (fun c4 => ?_) (fun c4 => ?_)
    ·walk_at "rd"
     refine ite2 (fun c5 => ?_) (fun c5 => ?_)
     ·obtain ⟨v, hv⟩ := at_ints (ns := ns) (k := k % (ns.length : Int)) (Int.emod_nonneg _ (by omega)) (Int.emod_lt_of_pos _ (by omega))
      rw [← hl] at hv
      have hp : (0 : Int) < ((ns.map V.int).length : Nat) := by rw [hl]; omega
      walk_at "rd"
      exact ⟨two_fits, fun l hl' => q l _ _ hl'⟩
     ·walk_at "rd"
      exact ⟨two_fits, fun l hl' => q l _ _ hl'⟩
    ·refine iteF ?_
     walk_at "rd"
     exact ⟨two_fits, fun l hl' => q l _ _ hl'⟩
  ·refine iteF ?_
   walk_at "rd"
   refine ite2 (fun c4 => ?_) (fun c4 => ?_)
   ·walk_at "rd"
    refine ite2 (fun c5 => ?_) (fun c5 => ?_)
    ·have c2' := of_decide_eq_false (Bool.eq_false_iff.mpr c2)
     exact absurd (of_decide_eq_true c5) c2'
    ·walk_at "rd"
     exact ⟨two_fits, fun l hl' => q l _ _ hl'⟩
   ·refine iteF ?_
    walk_at "rd"
    exact ⟨two_fits, fun l hl' => q l _ _ hl'⟩
theorem ok__law_take (T : Tx K mg) : DefIs P w K mg base (n + 1) "_law_take" ["_law_feed_here", "_law_many"] spTake := by
 refine DefIs.of T.d__law_take sc__law_take (fun vs H Q E h => ?_) (fun f cdv A outer s H vs Q E hr h => ?_)
 ·obtain ⟨a, p, q, m, rfl, _⟩ := h
  rfl
 obtain ⟨a, p, q, m, rfl, ha, m0, m1, k⟩ := h
 have nd := sc__law_take.nd
 have hS : SqL K H a [.int p, .int q] := SqL.of ha
 refine ⟨_, (pss_cons (ps_if (pt_cmpR op_gt (pe_ix ix_list (pv 0) pe_int (fun _ _ => rfl)) pe_int (nomark _)) (pss_cons (ps_set (i := 2) nd rfl (by first | exact Or.inl rfl | exact Or.inr rfl) (pe_op op_mod (pe_ix ix_list (pv 0) pe_int (fun _ _ => rfl)) (pv 1)))
   (pss_cons (ps_asg (pe_op op_fdivB (pe_ix ix_list (pv 0) pe_int (fun _ _ => rfl)) (pv 1)) (pg_sub (pv 0) pe_int set_list))
   (pss_one (ps_ret (pv 2))))) pss_nil)
   (pss_cons (ps_set (i := 3) nd rfl (by first | exact Or.inl rfl | exact Or.inr rfl) (pe_op op_mod (pe_op op_mul (pe_ix ix_list (pv 0) pe_int (fun _ _ => rfl)) pe_int) pe_int))
   (pss_cons (ps_asg (pe_op op_add (pe_op op_mod (pe_op op_add (pe_op op_mul (pv 3) pe_int) pe_int) pe_int) pe_int) (pg_sub (pv 0) pe_int set_list))
   (pss_one (ps_ret (pe_op op_mod (pe_op op_fdivB (pe_op op_add (pe_op op_mul (pv 3) pe_int) (pe_ix ix_list (pv 0) pe_int (fun _ _ => rfl))) pe_int) (pv 1))))))), ?_⟩
 walk_at "rd"
 refine ite2 (fun c => ?_) (fun c => ?_)
 ·walk_at "rd"
  refine k _ _ (Int.emod_nonneg _ (by omega)) (Int.emod_lt_of_pos _ m0) Fed.of
 ·walk_at "rd"
  refine ⟨_, _, _, _, rfl, rfl, SqL.of upd_same, rfl, ?_⟩
  walk_at "rd"
  refine k _ _ (Int.emod_nonneg _ (by omega)) (Int.emod_lt_of_pos _ m0) Fed.of
end
end K41
end
section
namespace M
open PySem L2
mutual
def D.deep : D → Nat
 | .int _ => 0
 | .str _ => 0
 | .tup ds => deeps ds + 1
def deeps : List D → Nat
 | [] => 0
 | d :: ds => max d.deep (deeps ds)
end
theorem deeps_mem : ∀ {ds : List D} {d : D}, d ∈ ds → d.deep ≤ deeps ds
 | e :: ds, d, h => by
  show d.deep ≤ max e.deep (deeps ds)
  rcases List.mem_cons.mp h with rfl | h
  ·omega
  ·have := deeps_mem h
   omega
theorem deeps_le {n : Nat} : ∀ {ds : List D}, (∀ d ∈ ds, d.deep ≤ n) → deeps ds ≤ n
 | [], _ => Nat.zero_le _
 | e :: ds, h => by
  show max e.deep (deeps ds) ≤ n
  have h1 := h e (by simp)
  have h2 := deeps_le (ds := ds) fun d hd => h d (List.mem_cons_of_mem _ hd)
  omega
section
variable {X : Cx} {pins : List (Addr × Obj)} {σ : St} {H : Hp} {s : Shared}
theorem its_at {vs : List V} {its : List Value} (r : Vals vs its) {j : Nat} (h1 : j < its.toArray.size) : ∃ x, vs[j]? = some x ∧ RelV x its.toArray[j] := by
 have hl := r.length
 have h : j < its.length := by simpa using h1
 obtain ⟨u, e, q⟩ := r.get (i := j) (x := vs[j]'(by omega)) (List.getElem?_eq_getElem _)
 have g : its.toArray[j] = u := by
  have : its[j]? = some its[j] := List.getElem?_eq_getElem h
  rw [e] at this
  simpa using (Option.some.inj this).symm
 exact ⟨vs[j]'(by omega), List.getElem?_eq_getElem _, by rw [g]; exact q⟩
theorem eq_at (I : Inv X pins σ H s) : ∀ (n : Nat) (d : D) {x y : V} {u v : Value} {A : Around}, d.deep ≤ n → RelD H x d → RelD H y d → RelV x u → RelV y v → A.units + n < cLine → SeqAt.EqAt A s u v true
 | n, .int i, x, y, u, v, A, _, hx, hy, ru, rv, _ => by
  cases hx
  cases hy
  obtain ⟨t, rfl⟩ := ru
  obtain ⟨t', rfl⟩ := rv
  have := SeqAt.EqAt.int_int (A := A) (s := s) i t i t'
  rw [beq_self_eq_true] at this
  exact this
 | n, .str z, x, y, u, v, A, _, hx, hy, ru, rv, _ => by
  cases hx
  cases hy
  obtain ⟨t, rfl⟩ := ru
  obtain ⟨t', rfl⟩ := rv
  have := SeqAt.EqAt.str_str (A := A) (s := s) z t z t'
  rw [beq_self_eq_true] at this
  exact this
 | 0, .tup ds, x, y, u, v, A, h, _, _, _, _, _ => absurd h (Nat.not_succ_le_zero _)
 | n + 1, .tup ds, x, y, u, v, A, h, hx, hy, ru, rv, hA => by
  obtain ⟨a, vs, rfl, ha, rvs⟩ := hx
  obtain ⟨b, ws, rfl, hb, rws⟩ := hy
  obtain rfl : u = .ref a := ru
  obtain rfl : v = .ref b := rv
  by_cases hab : a = b
  ·subst hab
   exact SeqAt.EqAt.same _
  ·obtain ⟨its, r1, p1, _⟩ := I.tuple (SqT.of (K := X.K) ha)
   obtain ⟨its2, r2, p2, _⟩ := I.tuple (SqT.of (K := X.K) hb)
   have l1 := r1.length
   have l2 := r2.length
   have l3 := rvs.length
   have l4 := rws.length
   have := SeqAt.EqAt.of_refs hab (SeqAt.RcAt.tuples (A := A) (e := fun _ => true) p1 p2 (by omega) fun j h1 h2 => ?_)
   ·have e : ((List.range (min its.toArray.size its2.toArray.size)).all (fun _ => true) && its.toArray.size == its2.toArray.size) = true := by
     rw [show its.toArray.size = its2.toArray.size by simp only [List.size_toArray]; omega]
     simp
    rw [e] at this
    exact this
   ·obtain ⟨x1, e1, q1⟩ := its_at r1 h1
    obtain ⟨x2, e2, q2⟩ := its_at r2 h2
    obtain ⟨d1, f1, g1⟩ := rvs.get e1
    obtain ⟨d2, f2, g2⟩ := rws.get e2
    rw [f1] at f2
    cases f2
    refine eq_at I n d1 ?_ g1 g2 q1 q2 (by show A.units + 1 + n < cLine; omega)
    have := deeps_mem (List.mem_of_getElem? f1)
    have h' : deeps ds + 1 ≤ n + 1 := h
    omega
end
end M
end
section
namespace M
open PySem L2
def five : List Nat := [113, 120, 122, 118, 119]
def nmA (cs : List Nat) (a : Nat) (b : Int) (k : Nat) : List Nat := cs.take a ++ (97 + ((b + 5 * (k : Int)) % 26).toNat) :: cs.drop a
def nmB (cs : List Nat) (a : Nat) (b : Int) (k : Nat) : List Nat := nmA cs a b (k - k % 2) ++ List.replicate (k % 2) 113
def NmsOk (nms : List Str) : Prop := nms.length = 26 ∧ nms.Nodup ∧ ∀ z ∈ nms, Name z
theorem nmA_len (cs : List Nat) (a : Nat) (b : Int) (k : Nat) : (nmA cs a b k).length = cs.length + 1 := by
 unfold nmA
 rw [List.length_append, List.length_cons, List.length_take, List.length_drop]
 omega
theorem nmB_len (cs : List Nat) (a : Nat) (b : Int) (k : Nat) : (nmB cs a b k).length = cs.length + 1 + k % 2 := by
 unfold nmB
 rw [List.length_append, nmA_len, List.length_replicate]
theorem nmA_inj {cs : List Nat} {a : Nat} {b : Int} {k j : Nat} (hk : k < 26) (hj : j < 26) (h : nmA cs a b k = nmA cs a b j) : k = j := by
 unfold nmA at h
 have h2 := List.append_cancel_left h
 have h3 := (List.cons.inj h2).1
 omega
theorem nmB_inj {cs : List Nat} {a : Nat} {b : Int} {k j : Nat} (hk : k < 26) (hj : j < 26) (h : nmB cs a b k = nmB cs a b j) : k = j := by
 have hl := congrArg List.length h
 rw [nmB_len, nmB_len] at hl
 have hm : k % 2 = j % 2 := by omega
 unfold nmB at h
 rw [hm] at h
 have h2 := List.append_cancel_right h
 have h3 := nmA_inj (by omega) (by omega) h2
 omega
theorem nodup_map {f : Nat → Str} (h : ∀ k j, k < 26 → j < 26 → f k = f j → k = j) : ((List.range 26).map f).Nodup := by
 refine List.pairwise_map.mpr (List.Pairwise.imp_of_mem (fun hi hj hlt e => ?_) (List.pairwise_lt_range (n := 26)))
 have := h _ _ (List.mem_range.mp hi) (List.mem_range.mp hj) e
 omega
theorem five_letter : ∀ c ∈ five, isLetter c = true := by decide
theorem letter_of (i : Int) : isLetter (97 + (i % 26).toNat) = true := by
 unfold isLetter
 have h1 : 0 ≤ i % 26 := Int.emod_nonneg _ (by decide)
 have h2 : i % 26 < 26 := Int.emod_lt_of_pos _ (by decide)
 rw [Bool.and_eq_true, decide_eq_true_eq, decide_eq_true_eq]
 omega
theorem name_of {l : List Nat} (h1 : 1 ≤ l.length) (h6 : l.length ≤ 6) (hl : ∀ c ∈ l, isLetter c = true) (h5 : l.length = 1 ∨ ∃ c ∈ l, c ∈ five) : Name (ofL l) := by
 show nameL l = true
 unfold nameL
 have ne : ∀ z : List Nat, z.length ≠ 1 → (∀ c ∈ z, c ∉ five) → (l != z) = true := fun z hz hc => by
  rw [bne_iff_ne]
  intro e
  subst e
  rcases h5 with h5 | ⟨c, hm, h5⟩
  ·exact hz h5
  ·exact hc c hm h5
 rw [ne [110, 117, 109] (by decide) (by decide), ne [105, 116] (by decide) (by decide), decide_eq_true h1, decide_eq_true h6, List.all_eq_true.mpr hl]
 rfl
theorem mem_nmA {cs : List Nat} {a : Nat} {b : Int} {k c : Nat} : c ∈ nmA cs a b k ↔ c ∈ cs ∨ c = 97 + ((b + 5 * (k : Int)) % 26).toNat := by
 unfold nmA
 rw [List.mem_append, List.mem_cons]
 have e : c ∈ cs ↔ c ∈ cs.take a ∨ c ∈ cs.drop a := by
  rw [← List.mem_append, List.take_append_drop]
 rw [e]
 constructor
 ·rintro (h | h | h)
  ·exact .inl (.inl h)
  ·exact .inr h
  ·exact .inl (.inr h)
 ·rintro ((h | h) | h)
  ·exact .inl h
  ·exact .inr (.inr h)
  ·exact .inr (.inl h)
theorem nmA_name {cs : List Nat} {a : Nat} {b : Int} {k : Nat} (hc : cs.length ≤ 4) (h5 : ∀ c ∈ cs, c ∈ five) : Name (ofL (nmA cs a b k)) := by
 refine name_of (by rw [nmA_len]; omega) (by rw [nmA_len]; omega) (fun c hm => ?_) ?_
 ·rcases mem_nmA.mp hm with h | h
  ·exact five_letter c (h5 c h)
  ·rw [h]; exact letter_of _
 ·cases cs with
  | nil => exact .inl (by rw [nmA_len]; rfl)
  | cons c r => exact .inr ⟨c, mem_nmA.mpr (.inl (by simp)), h5 c (by simp)⟩
theorem nmB_name {cs : List Nat} {a : Nat} {b : Int} {k : Nat} (hc : cs.length ≤ 4) (h5 : ∀ c ∈ cs, c ∈ five) : Name (ofL (nmB cs a b k)) := by
 refine name_of (by rw [nmB_len]; omega) (by rw [nmB_len]; omega) (fun c hm => ?_) ?_
 ·unfold nmB at hm
  rcases List.mem_append.mp hm with hm | hm
  ·rcases mem_nmA.mp hm with h | h
   ·exact five_letter c (h5 c h)
   ·rw [h]; exact letter_of _
  ·rw [(List.mem_replicate.mp hm).2]; decide
 ·by_cases hk : k % 2 = 0
  ·cases cs with
   | nil => exact .inl (by rw [nmB_len, hk]; rfl)
   | cons c r => exact .inr ⟨c, by unfold nmB; exact List.mem_append_left _ (mem_nmA.mpr (.inl (by simp))), h5 c (by simp)⟩
  ·refine .inr ⟨113, ?_, by decide⟩
   unfold nmB
   exact List.mem_append_right _ (List.mem_replicate.mpr ⟨by omega, rfl⟩)
theorem nmsA {cs : List Nat} {a : Nat} {b : Int} (hc : cs.length ≤ 4) (h5 : ∀ c ∈ cs, c ∈ five) : NmsOk ((List.range 26).map fun k => ofL (nmA cs a b k)) := by
 refine ⟨by simp, nodup_map fun k j hk hj e => nmA_inj hk hj (congrArg L e), fun z hz => ?_⟩
 obtain ⟨k, _, rfl⟩ := List.mem_map.mp hz
 exact nmA_name hc h5
theorem nmsB {cs : List Nat} {a : Nat} {b : Int} (hc : cs.length ≤ 4) (h5 : ∀ c ∈ cs, c ∈ five) : NmsOk ((List.range 26).map fun k => ofL (nmB cs a b k)) := by
 refine ⟨by simp, nodup_map fun k j hk hj e => nmB_inj hk hj (congrArg L e), fun z hz => ?_⟩
 obtain ⟨k, _, rfl⟩ := List.mem_map.mp hz
 exact nmB_name hc h5
theorem slice_to (x : Str) {j : Int} (h0 : 0 ≤ j) (h1 : j ≤ x.length) : Txt.slice x none (some j) = ofL ((L x).take j.toNat) := by
 have e : Txt.slice x none (some j) = StrLaws.sliceText x none (some j) := rfl
 rw [e, StrLaws.sliceText_to ⟨h0, by rw [show x.cps.toList.length = x.length by simp [Str.length]]; exact h1⟩]
 show ofL ((((L x).drop 0).take (j - 0).toNat)) = _
 rw [List.drop_zero, Int.sub_zero]
theorem slice_from (x : Str) {j : Int} (h0 : 0 ≤ j) (h1 : j ≤ x.length) : Txt.slice x (some j) none = ofL ((L x).drop j.toNat) := by
 have e : Txt.slice x (some j) none = StrLaws.sliceText x (some j) none := rfl
 rw [e, StrLaws.sliceText_from ⟨h0, by rw [show x.cps.toList.length = x.length by simp [Str.length]]; exact h1⟩]
 apply L_inj
 show ((L x).drop j.toNat).take _ = (L x).drop j.toNat
 refine List.take_of_length_le ?_
 rw [List.length_drop]
 show (L x).length - j.toNat ≤ (((L x).length : Int) - j).toNat
 omega
theorem letter_is {i : Int} (h0 : 0 ≤ i) (h : i < 26) : atI (S "abcdefghijklmnopqrstuvwxyz").cps.toList i = some (97 + i.toNat) := by
 have all : ∀ k, k < 26 → (S "abcdefghijklmnopqrstuvwxyz").cps.toList[k]? = some (97 + k) := by decide +kernel
 have ek : i = ((i.toNat : Nat) : Int) := by omega
 have q := atI_nat (all i.toNat (by omega))
 rw [← ek] at q
 exact q
theorem five_at {i : Int} (h0 : 0 ≤ i) (h : i < 5) : ∃ c ∈ five, atI (S "qxzvw").cps.toList i = some c := by
 have e : (S "qxzvw").cps.toList = five := by decide +kernel
 rw [e]
 exact at_codes h0 h
theorem name_text (cs : List Nat) (a ch : Nat) : ofL (cs.take a) ++ (⟨#[ch]⟩ : Str) ++ ofL (cs.drop a) = ofL (cs.take a ++ ch :: cs.drop a) := by
 apply L_inj
 rw [L_append, L_append, L_ofL, L_ofL, L_ofL]
 show cs.take a ++ [ch] ++ cs.drop a = _
 simp
end M
namespace L2
open PySem PySem.Spec PyProof.Rows
theorem op_mulS {X : Cx} : OpR X (binaryOp .Mult) (fun x y H Q => ∃ i n, x = .str i ∧ y = .int n ∧ (n = 0 ∨ n = 1) ∧ Q (.str (if n = 1 then i else Str.empty)) H) := by
 intro pins s σ H x y v u Q I rx ry h
 obtain ⟨i, n, rfl, rfl, hn, q⟩ := h
 obtain ⟨t, rfl⟩ := rx
 obtain ⟨t', rfl⟩ := ry
 refine SB.mul ?_ fun t' k => ⟨.str _, H, I.tok k, ⟨t', rfl⟩, ?_⟩
 ·rcases hn with rfl | rfl
  ·exact ⟨by decide, fun h => absurd (by decide) h, fun h => absurd (by decide) h⟩
  ·exact ⟨by decide, fun _ h => by simp at h, fun _ h => by simp at h⟩
 ·have e : Txt.mul i n = if n = 1 then i else Str.empty := by
   rcases hn with rfl | rfl
   ·rfl
   ·unfold Txt.mul
    rw [if_neg (by decide), if_pos (by simp), if_pos rfl]
  rw [e]
  exact q
end L2
end
section
namespace M
open PySem L2
structure KWf (ks : List Kn) : Prop where
 nd : (ks.map Kn.name).Nodup
 nm : ∀ k ∈ ks, Name k.name
 ref : ∀ (i : Nat) (k : Kn), ks[i]? = some k → ∀ p ∈ k.parts, p.2 = S "num" ∨ ∃ j, ∃ k' : Kn, j < i ∧ ks[j]? = some k' ∧ k'.name = p.2
 alt : ∀ k ∈ ks, k.rc = false → k.parts ≠ []
 few : ks.length ≤ 6
 pts : ∀ k ∈ ks, k.parts.length ≤ 5
 pnd : ∀ k : Kn, k ∈ ks → (k.parts.map (fun p : Str × Str => p.1)).Nodup
 pnm : ∀ k : Kn, k ∈ ks → ∀ p ∈ k.parts, Name p.1
theorem name_ne_num {x : Str} (h : Name x) : x ≠ S "num" := fun e => by
 rw [e] at h
 exact absurd (show nameL (S "num").cps.toList = true from h) (by decide +kernel)
theorem KWf.nil : KWf [] := ⟨List.nodup_nil, (fun _ h => nomatch h), (fun i k h => by simp at h), (fun _ h => nomatch h), Nat.zero_le _, (fun _ h => nomatch h), (fun _ h => nomatch h), (fun _ h => nomatch h)⟩
theorem find_nodup {α : Type} {f : α → Str} : ∀ {xs : List α} {i : Nat} {a : α}, (xs.map f).Nodup → xs[i]? = some a → xs.find? (fun z => decide (f z = f a)) = some a
 | x :: xs, 0, a, nd, h => by
  simp at h
  subst h
  rw [List.find?_cons, decide_eq_true rfl]
 | x :: xs, i + 1, a, nd, h => by
  have h' : xs[i]? = some a := by simpa using h
  rw [List.map_cons, List.nodup_cons] at nd
  have hne : f x ≠ f a := fun e => nd.1 (by rw [e]; exact List.mem_map_of_mem (List.mem_of_getElem? h'))
  rw [List.find?_cons, decide_eq_false hne]
  exact find_nodup nd.2 h'
theorem KWf.at {ks : List Kn} (w : KWf ks) {i : Nat} {k : Kn} (h : ks[i]? = some k) : kAt ks k.name = some k := find_nodup (f := Kn.name) w.nd h
theorem KWf.no {ks : List Kn} {x : Str} (h : ∀ k ∈ ks, k.name ≠ x) : kAt ks x = none := by
 unfold kAt
 rw [List.find?_eq_none]
 intro k hk
 simpa using h k hk
theorem KWf.num {ks : List Kn} (w : KWf ks) : kAt ks (S "num") = none := KWf.no fun k hk => name_ne_num (w.nm k hk)
def KIn (ks : List Kn) (n : Nat) (x : Str) : Prop := x = S "num" ∨ ∃ j k, j < n ∧ ks[j]? = some k ∧ k.name = x
theorem KIn.mono {ks : List Kn} {n m : Nat} {x : Str} (h : KIn ks n x) (l : n ≤ m) : KIn ks m x := by
 rcases h with h | ⟨j, k, hj, h⟩
 ·exact .inl h
 ·exact .inr ⟨j, k, by omega, h⟩
theorem KIn.ap {ks more : List Kn} {n : Nat} {x : Str} (h : KIn ks n x) : KIn (ks ++ more) n x := by
 rcases h with h | ⟨j, k, hj, h1, h2⟩
 ·exact .inl h
 ·exact .inr ⟨j, k, hj, by rw [List.getElem?_append_left (List.getElem?_eq_some_iff.mp h1).1]; exact h1, h2⟩
theorem KIn.of {ks : List Kn} {x : Str} (h : x = S "num" ∨ ∃ k ∈ ks, k.name = x) : KIn ks ks.length x := by
 rcases h with h | ⟨k, hk, h⟩
 ·exact .inl h
 ·obtain ⟨j, hj, e⟩ := List.mem_iff_getElem.mp hk
  exact .inr ⟨j, k, hj, by rw [← e]; exact List.getElem?_eq_getElem hj, h⟩
theorem KWf.snoc {ks : List Kn} (w : KWf ks) {k : Kn} (h1 : k.name ∉ ks.map Kn.name) (h2 : Name k.name) (h3 : ∀ p ∈ k.parts, KIn ks ks.length p.2) (h4 : k.rc = false → k.parts ≠ []) (h5 : ks.length < 6) (h6 : k.parts.length ≤ 5)
  (h7 : (k.parts.map (·.1)).Nodup) (h8 : ∀ p ∈ k.parts, Name p.1) : KWf (ks ++ [k]) := by
 have mem : ∀ {q : Kn → Prop}, (∀ z ∈ ks, q z) → q k → ∀ z ∈ ks ++ [k], q z := fun a b z hz => by
  rcases List.mem_append.mp hz with hz | hz
  ·exact a z hz
  ·rw [List.mem_singleton.mp hz]; exact b
 refine ⟨?_, mem w.nm h2, ?_, mem w.alt h4, by rw [List.length_append, List.length_singleton]; omega, mem w.pts h6, mem w.pnd h7, mem w.pnm h8⟩
 ·rw [List.map_append]
  exact nd_snoc w.nd h1
 ·intro i z hz p hp
  by_cases hi : i < ks.length
  ·rw [List.getElem?_append_left hi] at hz
   exact KIn.ap (w.ref i z hz p hp)
  ·rw [List.getElem?_append_right (by omega)] at hz
   have hi0 : i - ks.length = 0 := by
    have := (List.getElem?_eq_some_iff.mp hz).1
    simp at this
    omega
   rw [hi0] at hz
   simp at hz
   subst hz
   exact (h3 p hp).ap.mono (by omega)
def maxD : List Int → Int
 | [] => 0
 | n :: ns => max n (maxD ns)
theorem maxD_ge : ∀ {ns : List Int} {n : Int}, n ∈ ns → n ≤ maxD ns
 | m :: ns, n, h => by
  show n ≤ max m (maxD ns)
  rcases List.mem_cons.mp h with rfl | h
  ·omega
  ·have := maxD_ge h
   omega
theorem maxD_mem : ∀ {ns : List Int}, ns ≠ [] → (∀ n ∈ ns, 0 ≤ n) → maxD ns ∈ ns
 | [n], _, h => by
  have h0 := h n (by simp)
  show max n 0 ∈ [n]
  rw [Int.max_eq_left h0]
  simp
 | n :: m :: ns, _, h => by
  have ih := maxD_mem (ns := m :: ns) (by simp) fun x hx => h x (List.mem_cons_of_mem _ hx)
  show max n (maxD (m :: ns)) ∈ n :: m :: ns
  rcases Int.le_total n (maxD (m :: ns)) with e | e
  ·rw [Int.max_eq_right e]; exact List.mem_cons_of_mem _ ih
  ·rw [Int.max_eq_left e]; simp
theorem maxD_is {ns : List Int} {m : Int} (hn : ns ≠ []) (h0 : ∀ n ∈ ns, 0 ≤ n) (hm : m ∈ ns) (h : ∀ n ∈ ns, n ≤ m) : m = maxD ns := by
 have h1 := maxD_ge hm
 have h2 := h _ (maxD_mem hn h0)
 omega
def szF : Nat → List Kn → Str → Int
 | 0, _, _ => 1
 | n + 1, ks, x => match kAt ks x with
  | none => 1
  | some k => 1 + (if k.rc = true then (k.parts.map fun p => szF n ks p.2).sum else maxD (k.parts.map fun p => szF n ks p.2))
theorem szF_bound {ks : List Kn} (hp : ∀ k ∈ ks, k.parts.length ≤ 5) : ∀ (n : Nat) (x : Str), 1 ≤ szF n ks x ∧ szF n ks x ≤ 6 ^ n
 | 0, x => by simp [szF]
 | n + 1, x => by
  unfold szF
  have p1 : (1 : Int) ≤ 6 ^ n := Int.pow_pos (by decide)
  have e6 : (6 : Int) ^ (n + 1) = 6 * 6 ^ n := by rw [Int.pow_succ, Int.mul_comm]
  cases hk : kAt ks x with
  | none => simp only; omega
  | some k =>
   simp only
   have hk5 := hp k (List.mem_of_find?_eq_some hk)
   have all : ∀ m ∈ k.parts.map (fun p => szF n ks p.2), 1 ≤ m ∧ m ≤ 6 ^ n := fun m hm => by
    obtain ⟨p, _, rfl⟩ := List.mem_map.mp hm
    exact szF_bound hp n p.2
   have hl : (k.parts.map (fun p => szF n ks p.2)).length ≤ 5 := by rw [List.length_map]; exact hk5
   generalize k.parts.map (fun p => szF n ks p.2) = ns at all hl ⊢
   have hs : ∀ (l : List Int), (∀ m ∈ l, 1 ≤ m ∧ m ≤ (6 : Int) ^ n) → 0 ≤ l.sum ∧ l.sum ≤ l.length * 6 ^ n := by
    intro l
    induction l with
    | nil => intro _; simp
    | cons a r ih =>
     intro h
     have h1 := h a (by simp)
     have h2 := ih fun m hm => h m (List.mem_cons_of_mem _ hm)
     rw [List.sum_cons, List.length_cons]
     push_cast
     rw [Int.add_mul]
     omega
   have hm : 0 ≤ maxD ns ∧ maxD ns ≤ 6 ^ n := by
    by_cases he : ns = []
    ·subst he; simp [maxD]; omega
    ·have := all _ (maxD_mem he fun m hm => by have := all m hm; omega)
     omega
   have h1 := hs ns all
   have h2 : (ns.length : Int) * 6 ^ n ≤ 5 * 6 ^ n := Int.mul_le_mul_of_nonneg_right (by omega) (by omega)
   split <;> omega
def KsSeq (H : Hp) (v : V) (ks : List Kn) : Prop := ∃ a vs, v = .ref a ∧ (H a = some (.lst vs) ∨ H a = some (.tup vs)) ∧ RelDs H vs (ks.map Kn.d)
theorem KsSeq.same {H H' : Hp} {v : V} {ks : List Kn} (h : KsSeq H v ks) (s : Same H H') : KsSeq H' v ks := by
 obtain ⟨a, vs, e, h1, h2⟩ := h
 exact ⟨a, vs, e, h1.imp (s _ _) (s _ _), h2.same s _⟩
theorem KWf.ksAt {ks : List Kn} (w : KWf ks) {H : Hp} {v : V} (h : RelD H v (dKinds ks)) : KsAt H v ks := ⟨h, by have := w.few; omega, fun k hk => by have := w.pts k hk; omega⟩
theorem KsAt.seq {H : Hp} {v : V} {ks : List Kn} (h : KsAt H v ks) : KsSeq H v ks := by
 obtain ⟨a, vs, e, h1, h2⟩ := h.1
 exact ⟨a, vs, e, .inr h1, h2⟩
def sortS : Option Kn → Str
 | some k => k.sort
 | none => S "num"
end M
namespace L2
open PySem PySem.Spec PyProof.Rows
theorem pi_or {X : Cx} {tg it : Expr} {w1 w2 : TI} (h1 : PI X tg it w1) (h2 : PI X tg it w2) : PI X tg it (fun σ H R => w1 σ H R ∨ w2 σ H R) := fun pins s σ H R I h => by
 rcases h with h | h
 ·exact h1 pins s σ H R I h
 ·exact h2 pins s σ H R I h
end L2
namespace L2
theorem yes_go {σ : St} {H : Hp} {A B : Hp → Prop} (h : A H) : tYes σ H (fun b H3 => if b = true then A H3 else B H3) := by
 unfold tYes
 show if true = true then A H else B H
 rw [if_pos rfl]
 exact h
end L2
namespace M
open PySem L2
theorem Fed.put {f p : Addr} {H H' : Hp} (h : Fed f H H') (hp : H p = none) (hf : p ≠ f) (o : HO) : Fed f H (upd H' p o) := by
 obtain ⟨s, x, y, e⟩ := h
 refine ⟨fun b u hb nb => ?_, x, y, ?_⟩
 ·rw [upd_ne (ne_of_none hb hp)]
  exact s b u hb nb
 ·rw [upd_ne (Ne.symm hf)]
  exact e
theorem lst_tups {H : Hp} {p : Addr} {us : List V} (h : H p = some (.lst us)) (o : HO) : ∀ b vs, H b = some (.tup vs) → upd H p o b = some (.tup vs) := fun b vs hb => by
 rw [upd_ne fun e => by rw [e, h] at hb; cases hb]
 exact hb
theorem names_at {ks : List Kn} {r : Int} (h0 : 0 ≤ r) (h : r < 1 + (ks.length : Int)) : ∃ x, atI ([V.str (S "num")] ++ (ks.map Kn.name).map V.str) r = some (.str x) ∧ KIn ks ks.length x := by
 have e : [V.str (S "num")] ++ (ks.map Kn.name).map V.str = (S "num" :: ks.map Kn.name).map V.str := rfl
 obtain ⟨z, hz, hv⟩ := at_codes (cs := (S "num" :: ks.map Kn.name).map V.str) h0 (by rw [List.length_map, List.length_cons, List.length_map]; push_cast; omega)
 obtain ⟨y, hy, rfl⟩ := List.mem_map.mp hz
 refine ⟨y, by rw [e]; exact hv, ?_⟩
 rcases List.mem_cons.mp hy with rfl | hy
 ·exact .inl rfl
 ·obtain ⟨k, hk, rfl⟩ := List.mem_map.mp hy
  exact KIn.of (.inr ⟨k, hk, rfl⟩)
theorem strs_get {ys : List Str} {i : Nat} (h : i < ys.length) : atI (ys.map V.str) (0 + (i : Int)) = some (.str ys[i]) := by
 rw [Int.zero_add]
 exact atI_nat (by rw [List.getElem?_map, List.getElem?_eq_getElem h]; rfl)
end M
namespace M
open PySem L2
theorem cut812 {nms : List Str} (h : nms.length = 26) : cutV (nms.map V.str) (some 8) (some 12) = ((nms.drop 8).take 4).map V.str := by
 unfold cutV HT.sIx
 rw [List.length_map, h, List.map_take, List.map_drop]
 rfl
theorem part4 {nms : List Str} (h : NmsOk nms) (i : Nat) : (((nms.drop 8).take 4).take i).Nodup ∧ ∀ z ∈ ((nms.drop 8).take 4).take i, Name z := by
 have hs : (((nms.drop 8).take 4).take i).Sublist nms := ((List.take_sublist _ _).trans (List.take_sublist _ _)).trans (List.drop_sublist _ _)
 exact ⟨h.2.1.sublist hs, fun z hz => h.2.2 z (hs.subset hz)⟩
theorem not_ahead {nms : List Str} (h : nms.Nodup) {i : Nat} (hi : i < nms.length) : nms[i] ∉ nms.take i := fun hm => by
 obtain ⟨j, hj, e⟩ := List.mem_iff_getElem.mp hm
 rw [List.length_take] at hj
 rw [List.getElem_take] at e
 have := (List.getElem_inj h).mp e
 omega
def KOver (nms : List Str) (ks : List Kn) : Prop := KWf ks ∧ ks.length ≤ 4 ∧ ks.map Kn.name = nms.take ks.length ∧ ∀ k ∈ ks, k.parts.length ≤ 4 ∧ k.parts.map (·.1) = ((nms.drop 8).take 4).take k.parts.length
end M
end
section
namespace St
open PySem PySem.Spec PyProof.Rows
section
variable {prog : Program} {w : World} {A : Around} {R : Result → Shared → Prop} {I : Addr} {fp wr : List Addr} {G : Array GenState → Array GenState → Prop} {n : Nat} {P : Nat → Value → Prop} {St : Nat → Shared → Prop}
end
section
variable {prog : Program} {w : World} {A : Around} {E : Value → Shared → Prop} {s : Shared}
end
end St
end
section
namespace St
open PySem PySem.Spec PyProof.Rows
section
variable {prog : Program} {w : World} {A : Around} {E : Value → Shared → Prop} {s : Shared} {a : Addr} {ep : Nat} {t : SetTable}
end
end St
namespace L2
open PySem PySem.Spec PyProof.Rows
end L2
end
section
namespace M
open PySem L2
theorem hu2_of {A : Around} {k : Nat} (hr : Room k A) : A.units + 200 < cLine := by
 have := hr.un
 omega
def nuT : Nat → List Kn → Str → D
 | 0, _, _ => tNum 0
 | n + 1, ks, x => match kAt ks x with
  | none => tNum 0
  | some k => if k.rc = true then tRec x (k.parts.map fun p => nuT n ks p.2) else match k.parts with
   | [] => tNum 0
   | p :: _ => tTag x p.1 (nuT n ks p.2)
def nuV : Nat → List Kn → Str → D
 | 0, _, _ => .int 0
 | n + 1, ks, x => match kAt ks x with
  | none => .int 0
  | some k => if k.rc = true then .tup [.str x, .tup (k.parts.map fun p => nuV n ks p.2)] else match k.parts with
   | [] => .int 0
   | p :: _ => .tup [.str x, .str p.1, nuV n ks p.2]
theorem KIn.look {ks : List Kn} (wf : KWf ks) {m : Nat} {x : Str} (h : KIn ks m x) : (x = S "num" ∧ kAt ks x = none) ∨ ∃ j k, m = j + 1 ∧ kAt ks x = some k ∧ k.name = x ∧ k ∈ ks ∧ ∀ p ∈ k.parts, KIn ks j p.2 := by
 rcases h with rfl | ⟨j, k, hj, hk, rfl⟩
 ·exact .inl ⟨rfl, wf.num⟩
 ·refine .inr ⟨m - 1, k, by omega, wf.at hk, rfl, List.mem_of_getElem? hk, fun p hp => ?_⟩
  rcases wf.ref j k hk p hp with z | ⟨i, k2, hi, z⟩
  ·exact .inl z
  ·exact .inr ⟨i, k2, by omega, z⟩
def NuAt (ks : List Kn) (m : Nat) (x : Str) : Prop :=
  (x = S "num" ∧ kAt ks x = none ∧ nuT (m + 1) ks x = tNum 0 ∧ nuV (m + 1) ks x = .int 0) ∨
  ∃ j k, m = j + 1 ∧ kAt ks x = some k ∧ k.name = x ∧ k ∈ ks ∧ (∀ p ∈ k.parts, KIn ks j p.2) ∧ x ≠ S "num" ∧
    ((k.rc = true ∧ nuT (m + 1) ks x = tRec x (k.parts.map fun p => nuT m ks p.2) ∧ nuV (m + 1) ks x = .tup [.str x, .tup (k.parts.map fun p => nuV m ks p.2)]) ∨
     (k.rc = false ∧ ∃ p r, k.parts = p :: r ∧ nuT (m + 1) ks x = tTag x p.1 (nuT m ks p.2) ∧ nuV (m + 1) ks x = .tup [.str x, .str p.1, nuV m ks p.2]))
theorem KIn.nu {ks : List Kn} (wf : KWf ks) {m : Nat} {x : Str} (h : KIn ks m x) : NuAt ks m x := by
 rcases h.look wf with ⟨rfl, e⟩ | ⟨j, k, rfl, e, hn, hm, hp⟩
 ·refine .inl ⟨rfl, e, ?_, ?_⟩
  ·unfold nuT; rw [e]
  ·unfold nuV; rw [e]
 ·refine .inr ⟨j, k, rfl, e, hn, hm, hp, by rw [← hn]; exact name_ne_num (wf.nm k hm), ?_⟩
  cases hc : k.rc with
  | true =>
   refine .inl ⟨rfl, ?_, ?_⟩
   ·conv => lhs; unfold nuT
    rw [e]
    show (if k.rc = true then _ else _) = _
    rw [if_pos hc]
   ·conv => lhs; unfold nuV
    rw [e]
    show (if k.rc = true then _ else _) = _
    rw [if_pos hc]
  | false =>
   obtain ⟨p, r, er⟩ : ∃ p r, k.parts = p :: r := by
    cases hq : k.parts with
    | nil => exact absurd hq (wf.alt k hm hc)
    | cons p r => exact ⟨p, r, rfl⟩
   refine .inr ⟨rfl, p, r, er, ?_, ?_⟩
   ·conv => lhs; unfold nuT
    rw [e]
    show (if k.rc = true then _ else _) = _
    rw [if_neg (by rw [hc]; decide), er]
   ·conv => lhs; unfold nuV
    rw [e]
    show (if k.rc = true then _ else _) = _
    rw [if_neg (by rw [hc]; decide), er]
theorem all2_map {α β γ : Type} {R : β → γ → Prop} {f : α → β} {g : α → γ} : ∀ {xs : List α}, (∀ x ∈ xs, R (f x) (g x)) → All2 R (xs.map f) (xs.map g)
 | [], _ => .nil
 | x :: xs, h => .cons (h x (by simp)) (all2_map fun y hy => h y (List.mem_cons_of_mem _ hy))
end M
end
section
namespace M
open PySem L2
end M
end
section
namespace M
open PySem L2
theorem szF_eq {ks : List Kn} {k : Kn} {x : Str} (h : kAt ks x = some k) (n : Nat) : szF (n + 1) ks x = 1 + (if k.rc = true then (k.parts.map fun p => szF n ks p.2).sum else maxD (k.parts.map fun p => szF n ks p.2)) := by
 conv => lhs; unfold szF
 rw [h]
theorem szF_num {ks : List Kn} {x : Str} (h : kAt ks x = none) : ∀ n, szF n ks x = 1
  | 0 => rfl
  | n + 1 => by conv => lhs; unfold szF
                rw [h]
theorem szF_deep {ks : List Kn} (w : KWf ks) (j : Nat) : ∀ (x : Str), KIn ks j x → ∀ n, j + 1 ≤ n → szF n ks x = szF (j + 1) ks x := by
 induction j with
 | zero =>
  intro x h n hn
  rcases h.look w with ⟨rfl, e⟩ | ⟨i, k, e0, _⟩
  ·rw [szF_num e, szF_num e]
  ·cases e0
 | succ j ih =>
  intro x h n hn
  rcases h.look w with ⟨rfl, e⟩ | ⟨i, k, e0, e, _, _, hp⟩
  ·rw [szF_num e, szF_num e]
  ·cases e0
   obtain ⟨m, rfl⟩ : ∃ m, n = m + 1 := ⟨n - 1, by omega⟩
   have this : (k.parts.map fun p => szF m ks p.2) = k.parts.map fun p => szF (j + 1) ks p.2 := List.map_congr_left fun p hp' => ih p.2 (hp p hp') m (by omega)
   rw [szF_eq e, szF_eq e, this]
def sz (ks : List Kn) (x : Str) : Int := szF 7 ks x
theorem sz_num {ks : List Kn} (w : KWf ks) : sz ks (S "num") = 1 := szF_num w.num _
theorem sz_ge {ks : List Kn} (w : KWf ks) (x : Str) : 1 ≤ sz ks x := (szF_bound w.pts 7 x).1
def inSz (k : Kn) (f : Str → Int) : Int := if k.rc = true then (k.parts.map fun p => f p.2).sum else maxD (k.parts.map fun p => f p.2)
theorem inSz_congr {k : Kn} {f g : Str → Int} (h : ∀ p ∈ k.parts, f p.2 = g p.2) : inSz k f = inSz k g := by
 unfold inSz
 rw [List.map_congr_left (g := fun p => g p.2) h]
theorem sz_at {ks : List Kn} (w : KWf ks) {i : Nat} {k : Kn} (h : ks[i]? = some k) : sz ks k.name = 1 + inSz k (sz ks) := by
 have hf := w.few
 have hi : i < ks.length := (List.getElem?_eq_some_iff.mp h).1
 show szF 7 ks k.name = _
 rw [szF_eq (w.at h)]
 show 1 + inSz k (szF 6 ks) = _
 rw [inSz_congr (g := sz ks)]
 intro p hp
 have hin : KIn ks 5 p.2 := KIn.mono (n := i) (w.ref i k h p hp) (by omega)
 exact (szF_deep w 5 p.2 hin 7 (by omega)).symm
theorem kAt_ap {ks more : List Kn} {x : Str} {k : Kn} (h : kAt ks x = some k) : kAt (ks ++ more) x = some k := by
 unfold kAt at h ⊢
 rw [List.find?_append, h]
 rfl
theorem szF_ap {ks more : List Kn} (w : KWf ks) (w2 : KWf (ks ++ more)) : ∀ (n : Nat) (x : Str), KIn ks ks.length x → szF n (ks ++ more) x = szF n ks x
 | 0, _, _ => rfl
 | n + 1, x, h => by
  rcases h.look w with ⟨rfl, e⟩ | ⟨i, k, e0, e, _, _, hp⟩
  ·rw [szF_num e, szF_num w2.num]
  ·rw [szF_eq e, szF_eq (kAt_ap e), List.map_congr_left (g := fun p => szF n ks p.2) fun p hp' => szF_ap w w2 n p.2 ((hp p hp').mono (by omega))]
theorem sz_ap {ks more : List Kn} (w : KWf ks) (w2 : KWf (ks ++ more)) {x : Str} (h : KIn ks ks.length x) : sz (ks ++ more) x = sz ks x := szF_ap w w2 7 x h
def Fit (ks : List Kn) : Prop := ∀ k ∈ ks, sz ks k.name ≤ 30
theorem Fit.nil : Fit [] := fun _ h => nomatch h
theorem Fit.snoc {ks : List Kn} {k : Kn} (w : KWf ks) (w2 : KWf (ks ++ [k])) (f : Fit ks) (hp : ∀ p ∈ k.parts, KIn ks ks.length p.2) (hb : inSz k (sz ks) ≤ 29) : Fit (ks ++ [k]) := by
 intro z hz
 rcases List.mem_append.mp hz with hz | hz
 ·rw [sz_ap w w2 (KIn.of (.inr ⟨z, hz, rfl⟩))]
  exact f z hz
 ·rw [List.mem_singleton.mp hz, sz_at w2 (i := ks.length) (by simp), inSz_congr (g := sz ks) fun p hp' => sz_ap w w2 (hp p hp')]
  omega
end M
end
section
namespace M
open PySem L2
end M
end
section
namespace M
open PySem L2
end M
end
section
namespace M
open PySem L2
end M
end
section
namespace Nt
open PySem
section
variable {prog : Program} {w : World} {A : Around} {E : Value → Shared → Prop} {s : Shared}
end
section
variable {prog : Program} {w : World} {A : Around} {E : Value → Shared → Prop} {s : Shared}
end
end Nt
end
section
namespace L2
open PySem PySem.Spec PyProof.Rows
section
variable {X : Cx}
end
end L2
end
section
set_option maxHeartbeats 1000000
namespace L2
open PySem PySem.Spec PySem.W PySem.Calls PyProof.Rows
open Builtin Builtin.ObjectAttr
section
variable {prog : Program} {w : World} {A : Around} {E : Value → Shared → Prop} {s : Shared} {K : Frag} {x C : Addr} {ox : Obj} {od : Option Obj} {name : Str}
end
section
variable {prog : Program} {w : World} {A : Around} {E : Value → Shared → Prop} {h : Heap} {g : Array GenState} {d : Drawn} {t : Nat} {os : OsState}
variable {nm q : Str} {C N : Addr} {bs bm bmB : List Value} {hdct : Bool} {sn : List Str} {sub : List Value} {ab : Bool} {col : Option Bool} {dd : Option Addr} {k0 k1 k2 k3 k5 : Option Value} {B newId initId : String}
end
end L2
end
section
set_option maxHeartbeats 1000000
namespace L2
open PySem PySem.Spec PySem.W PySem.Calls PyProof.Rows
open Builtin Builtin.ObjectAttr
section
variable {prog : Program} {w : World} {A : Around} {E : Value → Shared → Prop} {h : Heap} {g : Array GenState} {d : Drawn} {t : Nat} {os : OsState} {K : Frag} {x C t0 : Addr} {name : Str} {v : Value} {bmB : List Value} {newId : String} {B sa owner : String}
end
end L2
end
section
set_option maxHeartbeats 1000000
namespace L2
open PySem PySem.Spec PyProof.Rows
section
variable {X : Cx} {pins : List (Addr × Obj)} {σ : St} {H : Hp} {s : Shared} {C : Addr} {Q : VK} {us : List Value} {vs : List V} {CX : CXT} {k : Nat} {f : Addr} {fd : FuncData} {ps : List Str} {sp : Sp} {E : XK}
variable {x : Str} {p pos : Pos} {e : Expr} {es : List Expr} {t : TA}
variable {o value : Expr} {fl : Str} {pos' : Pos} {ta tv : TE}
end
end L2
end
section
set_option maxHeartbeats 1000000
namespace L2
open PySem PySem.Spec PyProof.Rows
section
variable {X : Cx} {pins : List (Addr × Obj)} {σ : St} {H : Hp} {s : Shared} {h' : Heap}
end
end L2
end
section
set_option maxHeartbeats 1000000
namespace L2
open PySem PySem.Spec PyProof.Rows
section
variable {X : Cx}
end
section
variable {X : Cx} {n : Nat} {x : Str} {C : Addr} {ps : List Str} {sp : Sp} {e : Expr} {es : List Expr} {p pos : Pos} {t : TA}
end
end L2
end
section
namespace L2
open PySem PySem.Spec PyProof.Rows M
section
variable {X : Cx}
end
section
variable {ix : Cap} {tt : TT} {te : TE} {g : TG} {σ : St} {H : Hp} {Q : VK}
end
end L2
end
section
namespace L2
open PySem PySem.Spec PyProof.Rows
section
variable {X : Cx}
end
end L2
end
section
namespace Rv
open PySem PySem.Spec PyProof.Rows PySem.W
section
variable {prog : Program} {w : World} {A : Around} {E : Value → Shared → Prop} {s : Shared} {I l S : Addr} {items : Array Value}
end
end Rv
namespace L2
open PySem PySem.Spec PyProof.Rows
end L2
end
section
namespace St
open PySem PySem.Spec PyProof.Rows
end St
namespace L2
open PySem PySem.Spec PyProof.Rows
end L2
end
section
namespace L2
open PySem PySem.Spec PyProof.Rows M
section
variable {X : Cx}
end
end L2
namespace HT
open PySem PySem.Spec PyProof.Rows L2
section
variable {prog : Program} {w : World} {A : Around} {E : Value → Shared → Prop} {s : Shared}
end
end HT
namespace L2
open PySem PySem.Spec PyProof.Rows M
section
variable {X : Cx}
end
end L2
end
section
namespace PySem
open Sem (wp)
section
variable {prog : Program} {w : World} {A : Around} {E : Value → Shared → Prop} {s : Shared}
theorem getAttrQ_miss_list {a : Addr} {xs : Array Value} {k : Nat} {sl : Array (Option Value)} {name : Str} {Q : Option Value → Shared → Prop}
  (hx : s.heap.get? a = some { cls := .type "list", dict := none, data := .seq xs k, slots := sl }) (hmiss : typeLookup (.type "list") name = pure none) (hname : (["__module__", "__name__", "__qualname__", "__doc__", "__annotations__"] : List Str).contains name = false) (hA : A.handled = none)
  (h : ∀ h' tk, (∀ b o, s.heap.get? b = some o → h'.get? b = some o) → Q none { s with heap := h', toks := tk }) (hsz : name.length + 100 ≤ sizeLine) :
  wpAny (model prog w) A (getAttr? (.ref a) name) Q E s := by
 obtain ⟨hp, g, d, tk, os⟩ := s
 have hT : ∀ tk', (⟨hp, g, d, tk', os⟩ : Shared).TypeIs (.ref a) "list" := fun _ => ⟨_, hx, rfl⟩
 have f1 := sub_AttributeError
 have f3 := F.slot_list_getattribute.lookup
 have f4 := F.slot_list_getattribute.bind (.ref a)
 have f5 := am_list_getattr_none
 unfold getAttr? getAttrBy? getAttrBy
 repeat (any_goals (first | assumption | exact hT _ | ((with_reducible show wpAny _ _ (call (Value.builtin "list.__getattribute__") _ _) _ _ _); refine call_meets F.slot_list_getattribute (hT _) am_entry_list_getattribute (F.args_list_getattribute_2 _ _) (meets_getattribute_miss_list a xs k sl name _ hmiss hname hsz) ⟨hx, hA, fun h' tk' e hx' => ?_⟩) | wp_step))
 obtain ⟨t', u', he⟩ := hx'.there
 show wpAny _ _ (getattributeRaised _ _ _ _ _ _ _) _ _ _
 unfold getattributeRaised
 repeat (any_goals (first | assumption | wp_step))
 all_goals first | exact h _ _ hx'.keeps | skip
end
end PySem
namespace L2
open PySem PySem.Spec PyProof.Rows
theorem plain_upd_loop : plainId "dict.update.loop" = true := by decide +kernel
theorem entry_upd_loop : entryFor table "dict.update.loop" = some Builtin.«dict.update.loop» := entryFor_of_fast (by kernel_rfl)
section
variable {prog : Program} {w : World} {A : Around} {K : Type} [DecidableEq K] {knd : KeyKind prog w K}
def PairsAt (knd : KeyKind prog w K) (h : Heap) : List Value → List (K × Value) → Prop
 | [], [] => True
 | it :: its, p :: ps => (∃ a key, it = .ref a ∧ h.IsTuple a #[key, p.2] ∧ knd.is p.1 key = true) ∧ PairsAt knd h its ps
 | _, _ => False
theorem PairsAt.keep {h h' : Heap} : ∀ {its : List Value} {ps : List (K × Value)}, PairsAt knd h its ps → (∀ a xs, h.IsTuple a xs → h'.IsTuple a xs) → PairsAt knd h' its ps
 | [], [], _, _ => trivial
 | it :: its, p :: ps, ⟨⟨a, key, e, ha, hk⟩, r⟩, k => ⟨⟨a, key, e, k _ _ ha, hk⟩, PairsAt.keep r k⟩
 | [], _ :: _, h, _ => h.elim
 | _ :: _, [], h, _ => h.elim
theorem tup_ne_dict {h : Heap} {a d : Addr} {xs : Array Value} {kvs : List (K × Value)} (ht : h.IsTuple a xs) (hd : h.DictOf knd d kvs) : a ≠ d := fun e => by
 subst e
 obtain ⟨o, ho, hc, _⟩ := ht
 obtain ⟨t, _, _, ht2, hx2, _⟩ := hd
 have hc2 := hx2.1
 have : o = t := Option.some.inj (ho.symm.trans ht2)
 subst this
 rw [hc] at hc2
 exact absurd (Value.type.inj hc2) (by decide)
theorem tup_ne_iter {h : Heap} {a I l : Addr} {i : Nat} {xs : Array Value} (ht : h.IsTuple a xs) (hd : h.IsListIter I l i) : a ≠ I := fun e => by
 subst e
 obtain ⟨o, ho, hc, _⟩ := ht
 obtain ⟨t, ht2, hc2, _⟩ := hd
 have : o = t := Option.some.inj (ho.symm.trans ht2)
 subst this
 rw [hc] at hc2
 exact absurd (Value.type.inj hc2) (by decide)
theorem upd_loop {R : Result → Shared → Prop} {I l d : Addr} {its : List Value} {ps : List (K × Value)} (hh : A.in1.handled = none) (hne : l ≠ I) (hdl : l ≠ d) (hdI : I ≠ d) :
    ∀ (k i : Nat) (s : Shared) (cur : List (K × Value)), its.length - i = k → i ≤ its.length → s.heap.IsListIter I l i → s.heap.IsList l its.toArray → s.heap.DictOf knd d cur → PairsAt knd s.heap (its.drop i) (ps.drop i) → cur.length + (its.length - i) ≤ sizeLine →
    (∀ h' tk, h'.DictOf knd d (merged cur (ps.drop i)) → (∀ b o, b ≠ d → b ≠ I → s.heap.get? b = some o → h'.get? b = some o) → R (.ok (.ret .none)) { s with heap := h', toks := tk }) →
    codeAny (model prog w) A (.builtin "dict.update.loop" ⟨[.ref d, .ref I, rawInt i, .none], []⟩) R s := by
  intro k
  induction k with
  | zero =>
    intro i s cur hk hi hit hl hd hp hsz hR
    have hin : i = its.length := by omega
    have W := Walks.list (prog := prog) (w := w) (A := A.in1) hh I l hne its.toArray
    refine codeAny_builtin entry_upd_loop ?_
    rw [Around.under_plainId plain_upd_loop _]
    show wpAny _ A.in1 (pyNext (.ref I) >>= _) _ _ s
    refine wpAny_bind (W.done s _ _ (by have e : its.toArray.size = i := by simp [hin]
                                        rw [e]; exact ⟨hit, hl⟩) fun h' tk hk' => ?_)
    show wpAny _ _ (Builtin.Dict.addKeywords d [] >>= _) _ _ _
    refine wpAny_bind (wpAny_pure (wpAny_pure ?_))
    have hps : ps.drop i = [] := by
      rw [hin, List.drop_length] at hp
      rw [hin]
      cases hq : ps.drop its.length with
      | nil => rfl
      | cons p r => rw [hq] at hp; exact hp.elim
    refine hR h' tk ?_ fun b o hb hbI e => hk' b o (by simpa using hbI) e
    rw [hps]
    exact hd.at fun o e => hk' d o (by simpa using (Ne.symm hdI)) e
  | succ k ih =>
    intro i s cur hk hi hit hl hd hp hsz hR
    have hlt : i < its.length := by omega
    have W := Walks.list (prog := prog) (w := w) (A := A.in1) hh I l hne its.toArray
    have hdi : its.drop i = its[i] :: its.drop (i + 1) := List.drop_eq_getElem_cons hlt
    rw [hdi] at hp
    obtain ⟨p, r, hpe⟩ : ∃ p r, ps.drop i = p :: r := by
      cases hq : ps.drop i with
      | nil => rw [hq] at hp; exact hp.elim
      | cons p r => exact ⟨p, r, rfl⟩
    have hpr : ps.drop (i + 1) = r := by rw [← List.tail_drop, hpe]; rfl
    rw [hpe] at hp
    obtain ⟨⟨a, key, ea, hta, hkey⟩, hrest⟩ := hp
    refine codeAny_builtin entry_upd_loop ?_
    rw [Around.under_plainId plain_upd_loop _]
    show wpAny _ A.in1 (pyNext (.ref I) >>= _) _ _ s
    refine wpAny_bind (W.item i s _ _ (by simpa using hlt) ⟨hit, hl⟩ fun v h' tk hP hst' hk' => ?_)
    have hv : v = .ref a := by
      have : its[i]? = some v := by simpa using hP
      rw [List.getElem?_eq_getElem hlt, ea] at this
      exact (Option.some.inj this).symm
    subst hv
    have hta' : h'.IsTuple a #[key, p.2] := hta.at fun o e => hk' a o (by simpa using tup_ne_iter hta hit) e
    have hd' : h'.DictOf knd d cur := hd.at fun o e => hk' d o (by simpa using (Ne.symm hdI)) e
    obtain ⟨oa, hoa, hca, na, hda⟩ := id hta'
    refine wpAny_bind (wpAny_holding (wpAny_bind (wpAny_tryCatch ?_)))
    unfold Builtin.Dict.pairItems
    refine wpAny_bind (wpAny_typeOf ⟨oa, hoa, hca⟩ ?_)
    rw [if_pos (by decide)]
    refine wpAny_bind (wpAny_seqItems hoa hda (wpAny_pure ?_))
    show wpAny _ _ (holding [key, p.2] (dictSet d key p.2)) _ _ _
    refine wpAny_holding (wpAny_dictSet_pairs hkey hd' (fun h2 hd2 hs2 => ?_) (by omega))
    have st2 : h2.IsListIter I l (i + 1) ∧ h2.IsList l its.toArray := ⟨hst'.1.at fun o e => (hs2.2 I hdI).trans e, hst'.2.at fun o e => (hs2.2 l hdl).trans e⟩
    refine wpAny_pure ⟨plainId_quiet plain_upd_loop _, ih (i + 1) _ _ (by omega) hlt st2.1 st2.2 hd2 ?_ ?_ fun h3 tk3 hd3 hk3 => ?_⟩
    · rw [hpr]
      exact hrest.keep fun b xs hb => by
        have h1 : h'.IsTuple b xs := hb.at fun o e => hk' b o (by simpa using tup_ne_iter hb hit) e
        exact h1.at fun o e => (hs2.2 b (tup_ne_dict h1 hd')).trans e
    · have := stored_length_le cur p.1 p.2
      omega
    · refine hR h3 tk3 ?_ fun b o hb hbI e => hk3 b o hb hbI ((hs2.2 b hb).trans (hk' b o (by simpa using hbI) e))
      rw [hpe]
      rw [hpr] at hd3
      exact hd3
end
end L2
namespace L2
open PySem PySem.Spec PyProof.Rows
theorem list_no_keys : typeLookup (.type "list") "keys" = pure none := am_miss_of_fast (by kernel_rfl)
section
variable {prog : Program} {w : World} {A : Around} {E : Value → Shared → Prop} {s : Shared} {K : Type} [DecidableEq K] {knd : KeyKind prog w K}
theorem dict_of_list {l : Addr} {its : List Value} {n : Nat} {ps : List (K × Value)} {Q : Value → Shared → Prop} (hh : A.handled = none) (hl : s.heap.get? l = some { cls := .type "list", data := .seq its.toArray n }) (hp : PairsAt knd s.heap its ps) (hsz : its.length ≤ sizeLine)
  (h : ∀ h' tk, h'.DictOf knd s.heap.objs.size (merged [] ps) → (∀ b o, s.heap.get? b = some o → h'.get? b = some o) → Q (.ref s.heap.objs.size) { s with heap := h', toks := tk }) :
  wpAny (model prog w) A (call (.type "dict") [.ref l]) Q E s := by
 refine callType_codes (Q₁ := fun obj s₁ => obj = .ref s.heap.objs.size ∧ s₁ = { s with heap := s.heap.push { cls := .type "dict", data := .dict #[] } }) F.kt_called_dict (F.kt_typeCall_dict_1 _) F.entry_dict_init (kt_code_dict_new _ ⟨rfl, rfl⟩) ?_
 rintro obj s₁ ⟨rfl, rfl⟩
 have hnew : (s.heap.push { cls := .type "dict", data := .dict #[] }).DictOf knd s.heap.objs.size [] := Heap.DictOf.new s.heap
 have ext0 : ∀ b o, s.heap.get? b = some o → (s.heap.push { cls := .type "dict", data := .dict #[] }).get? b = some o := fun b o e => Heap.get?_push_of_some _ e
 have hl0 := ext0 _ _ hl
 have hT : (⟨s.heap.push { cls := .type "dict", data := .dict #[] }, s.gens, s.drawn, s.toks, s.os⟩ : Shared).TypeIs (.ref l) "list" := ⟨_, hl0, rfl⟩
 have hdl : l ≠ s.heap.objs.size := fun e => absurd (Heap.lt_size hl) (by rw [e]; exact Nat.lt_irrefl _)
 refine ⟨hnew.typeIs, F.args_dict_init_2 _ _, ?_⟩
 unfold Builtin.«dict.__init__»
 refine wpAny_bind ?_
 unfold Builtin.Dict.selfAndRest
 refine wpAny_bind (wpAny_notOrdered_dict hnew.typeIs ?_)
 show wpAny _ _ (pure (s.heap.objs.size, [Value.ref l])) _ _ _
 refine wpAny_pure ?_
 show wpAny _ _ (Builtin.Dict.updateFrom "dict.__init__" s.heap.objs.size (.ref l) [] .none) _ _ _
 unfold Builtin.Dict.updateFrom
 refine wpAny_bind (wpAny_typeOf hT ?_)
 rw [if_pos (by decide)]
 refine wpAny_bind (getAttrQ_miss_list (sl := #[]) hl0 list_no_keys (by decide +kernel) hh (fun h1 tk1 k1 => ?_) (by decide +kernel))
 rw [if_pos (show (none : Option Value).isNone = true from rfl)]
 refine wpAny_bind (wpAny_rule ?_)
 have hl1 := k1 _ _ hl0
 have hL1 : h1.IsList l its.toArray := ⟨_, hl1, rfl, _, rfl⟩
 refine wpAny_bind (wpAny_pyIter_list hL1 (wpAny_pure ⟨plainId_quiet plain_upd_loop _, ?_⟩))
 have hsz1 : s.heap.objs.size < h1.objs.size := Heap.lt_size (k1 _ _ (Heap.get?_push_size _ rfl))
 have hlI : l < h1.objs.size := Heap.lt_size hl1
 have ext2 : ∀ b o, h1.get? b = some o → (h1.push { cls := .type "list_iterator", data := .fields #[.ref l, .int 0 0] }).get? b = some o := fun b o e => Heap.get?_push_of_some _ e
 refine upd_loop (knd := knd) (A := A.in1) (ps := ps) (l := l) (d := s.heap.objs.size) (its := its) hh (Nat.ne_of_lt hlI) hdl (Nat.ne_of_gt hsz1) its.length 0 _ [] (Nat.sub_zero _) (Nat.zero_le _) ⟨_, Heap.get?_push_size _ rfl, rfl, rfl⟩ (hL1.push _) (hnew.at fun o e => ext2 _ _ (k1 _ _ e)) (hp.keep fun a xs ha => ha.at fun o e => ext2 _ _ (k1 _ _ (ext0 _ _ e))) (by simpa using hsz) fun h3 tk3 hd3 hk3 => ?_
 refine ⟨rfl, h h3 tk3 hd3 fun b o e => hk3 b o ?_ ?_ (ext2 _ _ (k1 _ _ (ext0 _ _ e)))⟩
 ·exact fun z => absurd (Heap.lt_size e) (by rw [z]; exact Nat.lt_irrefl _)
 ·exact fun z => absurd (Heap.lt_size e) (by rw [z]; exact Nat.not_lt_of_gt hsz1)
end
end L2
namespace L2
open PySem PySem.Spec PyProof.Rows
def PairsV (H : Hp) : List V → List (Key × V) → Prop
 | [], [] => True
 | y :: ys, kv :: kvs => (∃ b, y = .ref b ∧ H b = some (.tup [kV kv.1, kv.2])) ∧ PairsV H ys kvs
 | _, _ => False
theorem PairsV.length {H : Hp} : ∀ {ys : List V} {kvs : List (Key × V)}, PairsV H ys kvs → ys.length = kvs.length
 | [], [], _ => rfl
 | y :: ys, kv :: kvs, ⟨_, r⟩ => by rw [List.length_cons, List.length_cons, PairsV.length r]
 | [], _ :: _, h => h.elim
 | _ :: _, [], h => h.elim
section
variable {X : Cx}
theorem pairs_at {pins : List (Addr × Obj)} {σ : St} {H : Hp} {s : Shared} (I : Inv X pins σ H s) : ∀ {ys : List V} {its : List Value} {kvs : List (Key × V)}, Vals ys its → PairsV H ys kvs → ∃ ps, KV kvs ps ∧ PairsAt (mixKind X.prog X.w) s.heap its ps
 | [], _, [], r, _ => by cases r; exact ⟨[], .nil, trivial⟩
 | y :: ys, _, kv :: kvs, r, ⟨⟨b, eb, hb⟩, rest⟩ => by
  subst eb
  cases r with
  | cons h t =>
   obtain ⟨ps, hk, hp⟩ := pairs_at I t rest
   obtain ⟨its2, r2, p2, _⟩ := I.tuple (SqT.of (K := X.K) hb)
   obtain ⟨u1, u2, rfl, e1, e2⟩ := r2.two
   exact ⟨(kv.1, u2) :: ps, .cons ⟨rfl, e2⟩ hk, ⟨b, u1, h, p2, kV_is e1⟩, hp⟩
 | [], _, _ :: _, _, h => h.elim
 | _ :: _, _, [], _, h => h.elim
theorem call_dictL (hc : X.calm = true) : CallR X (.type "dict") (fun xs H Q => ∃ a ys, ∃ kvs : List (Key × V), xs = [.ref a] ∧ H a = some (.lst ys) ∧ PairsV H ys kvs ∧ ∀ p, H p = none → Q (.ref p) (upd H p (.dK (mergeK [] kvs)))) := by
 intro pins s σ H xs us Q I r h
 obtain ⟨a, ys, kvs, rfl, ha, hp, q⟩ := h
 obtain ⟨u, rfl, ru⟩ := vals1 r
 obtain rfl : u = .ref a := ru
 obtain ⟨hz, its, n, rv, hl⟩ := (show ObjOk X.prog X.w H s.heap a (.lst ys) from I.hok a _ ha)
 obtain ⟨ps, hk, hpa⟩ := pairs_at I rv hp
 have hyl := hp.length
 refine dict_of_list (knd := mixKind X.prog X.w) (I.ok.hd hc) hl hpa (by rw [← rv.length]; exact hz) fun h' tk dd' k' => ?_
 have hz' : (mergeK [] kvs).length ≤ sizeLine := by
  have := length_mergeK kvs []
  rw [List.length_nil] at this
  omega
 exact ⟨.ref s.heap.objs.size, _, I.laid (a := s.heap.objs.size) (o := .dK (mergeK [] kvs)) (t' := tk) k' (Nat.le_refl _) (dk_new hz' (beq_eq_false_iff_ne.mpr (Ne.symm (Nat.ne_of_lt I.big))) (hk.merge .nil) dd'), rfl, q _ (I.hok.fresh (Nat.le_refl _))⟩
end
end L2
end
section
namespace L2
open PySem PySem.Spec PySem.W PyProof.Rows M
section
variable {X : Cx} {o : Expr} {td : TE} {p1 q1 q2 apos : Pos}
end
section
variable {X : Cx}
def rNeK : R2 := fun x y H Q => ∃ a b, ∃ kvs : List (Key × V), x = .ref a ∧ y = .ref b ∧ H a = some (.dK kvs) ∧ H b = some (.dK kvs) ∧ (∀ p ∈ kvs, ∃ d : D, RelD H p.2 d ∧ d.deep ≤ 190) ∧ Q (.bl false) H
theorem op_neK (hu : X.A.units + 200 < cLine) : OpR X (compareOp .NotEq) rNeK := by
 intro pins s σ H x y v u Q I rx ry h
 obtain ⟨a, b, kvs, rfl, rfl, ha, hb, hv, q⟩ := h
 obtain rfl : v = .ref a := rx
 obtain rfl : u = .ref b := ry
 obtain ⟨z, hda, vs, rel, dd⟩ := dk_of I.hok ha
 obtain ⟨z2, hdb, vs2, rel2, dd2⟩ := dk_of I.hok hb
 have nd2 : (vs2.map (·.1)).Nodup := let ⟨_, _, _, _, _, _, _, _, hn⟩ := dd2; hn
 have l1 := rel.length
 have l2 := rel2.length
 have hits : ∀ (ks : List (Key × V)) (us us2 : List (Key × Value)) (pre : List (Key × Value)), KV ks us → KV ks us2 → vs2 = pre ++ us2 → (∀ p ∈ ks, ∃ d : D, RelD H p.2 d ∧ d.deep ≤ 190) → KeqHits X.A.in1 s vs2 us true := by
  intro ks
  induction ks with
  | nil => intro us us2 pre r1 r2 _ _; cases r1; exact .nil
  | cons k ks ih =>
   intro us us2 pre r1 r2 e hd
   cases r1 with
   | @cons _ u1 _ us' h1 t1 =>
    cases r2 with
    | @cons _ w1 _ us2' h2 t2 =>
     obtain ⟨d, rd, hdd⟩ := hd k (by simp)
     have hva : valueAt vs2 u1.1 = some w1.2 := by
      rw [show u1.1 = w1.1 from h1.1.symm.trans h2.1]
      exact valueAt_of_get nd2 (i := pre.length) (by rw [e]; simp)
     have := KeqHits.hit (e := true) (b := true) hva (eq_at I 190 d hdd rd rd h1.2 h2.2 (by show X.A.units + 1 + 190 < cLine; omega)) (ih us' us2' (pre ++ [w1]) t1 t2 (by rw [e]; simp) fun p hp => hd p (List.mem_cons_of_mem _ hp))
     exact this
 refine keq_ne hda hdb dd dd2 (by omega) (fun _ => hits kvs vs vs2 [] rel rel2 rfl hv) ⟨.bl false, H, I, ?_, q⟩
 rw [show vs.length = vs2.length by omega]
 simp
 rfl
end
end L2
end
section
namespace M
open PySem L2
inductive Vk (ks : List Kn) : Str → D → Prop
 | num (i : Int) (h : Nm i) : Vk ks (S "num") (.int i)
 | rc {x : Str} {k : Kn} {ws : List D} (hk : kAt ks x = some k) (hr : k.rc = true) (hl : ws.length = k.parts.length) (h : ∀ (i : Nat) (w : D) (p : Str × Str), ws[i]? = some w → k.parts[i]? = some p → Vk ks p.2 w) : Vk ks x (.tup [.str x, .tup ws])
 | al {x : Str} {k : Kn} {p : Str × Str} {w : D} (hk : kAt ks x = some k) (hr : k.rc = false) (hp : p ∈ k.parts) (h : Vk ks p.2 w) : Vk ks x (.tup [.str x, .str p.1, w])
theorem vk_num {ks : List Kn} (wf : KWf ks) {x : Str} {v : D} (hx : x = S "num") (h : Vk ks x v) : ∃ i, Nm i ∧ v = .int i := by
 cases h with
 | num i hi => exact ⟨i, hi, rfl⟩
 | rc hk => rw [hx, wf.num] at hk; cases hk
 | al hk => rw [hx, wf.num] at hk; cases hk
theorem vk_rec {ks : List Kn} (wf : KWf ks) {x : Str} {k : Kn} {v : D} (hx : kAt ks x = some k) (hr : k.rc = true) (h : Vk ks x v) : ∃ ws, ws.length = k.parts.length ∧ (∀ (i : Nat) w p, ws[i]? = some w → k.parts[i]? = some p → Vk ks p.2 w) ∧ v = .tup [.str x, .tup ws] := by
 cases h with
 | num i hi => rw [wf.num] at hx; cases hx
 | rc hk hr' hl h =>
  rw [hx] at hk
  cases hk
  exact ⟨_, hl, h, rfl⟩
 | al hk hr' =>
  rw [hx] at hk
  cases hk
  rw [hr] at hr'
  cases hr'
theorem vk_alt {ks : List Kn} (wf : KWf ks) {x : Str} {k : Kn} {v : D} (hx : kAt ks x = some k) (hr : k.rc = false) (h : Vk ks x v) : ∃ p ∈ k.parts, ∃ w, Vk ks p.2 w ∧ v = .tup [.str x, .str p.1, w] := by
 cases h with
 | num i hi => rw [wf.num] at hx; cases hx
 | rc hk hr' =>
  rw [hx] at hk
  cases hk
  rw [hr] at hr'
  cases hr'
 | @al _ _ p w hk hr' hp h =>
  rw [hx] at hk
  cases hk
  exact ⟨p, hp, w, h, rfl⟩
def FitB (ks : List Kn) (bs : List (Str × Str)) (env : En) : Prop := ∀ p ∈ bs, ∃ v, env p.1 = some v ∧ Vk ks p.2 v
theorem FitB.put {ks : List Kn} {bs : List (Str × Str)} {env : En} {y k : Str} {v : D} (h : FitB ks bs env) (hy : ∀ p ∈ bs, p.1 ≠ y) (hv : Vk ks k v) : FitB ks (bs ++ [(y, k)]) (env.put y v) := fun p hp => by
 unfold En.put
 rcases List.mem_append.mp hp with hp | hp
 ·obtain ⟨v', h1, h2⟩ := h p hp
  exact ⟨v', by rw [if_neg (hy p hp)]; exact h1, h2⟩
 ·rw [List.mem_singleton.mp hp]
  exact ⟨v, by rw [if_pos rfl], hv⟩
def Sg (s : Str) : Prop := s = S "+" ∨ s = S "-" ∨ s = S "*" ∨ s = S "<" ∨ s = S "="
def SgD (d : D) : Prop := ∀ s a b, d = tOpD s a b → Sg s
def Evs (ks : List Kn) : Nat → En → D → D → Prop
 | 0 => LeafEv
 | n + 1 => fun env d v => LeafEv env d v ∨ (NodeEv ks (Evs ks n) env d v ∧ SgD d)
theorem All2.imp3 {α β : Type} {R R' : α → β → Prop} (k : ∀ a b, R a b → R' a b) : ∀ {as : List α} {bs : List β}, All2 R as bs → All2 R' as bs
 | _, _, .nil => .nil
 | _, _, .cons h t => .cons (k _ _ h) (All2.imp3 k t)
theorem NodeEv.mono {ks : List Kn} {R R' : En → D → D → Prop} (k : ∀ env d v, R env d v → R' env d v) {env : En} {d v : D} (h : NodeEv ks R env d v) : NodeEv ks R' env d v := by
 rcases h with ⟨s, a, b, x, y, h1, h2, r⟩ | ⟨kk, es, vs, hl, h1, r⟩ | ⟨a, kk, vs, f, kn, i, h1, r⟩ | ⟨kk, t, a, x, h1, r⟩ | ⟨a, rs, kk, t, x, y, e, hl, h1, hf, h2, r⟩ | ⟨a, b, c, x, h1, h2, r⟩
 ·exact .inl ⟨s, a, b, x, y, k _ _ _ h1, k _ _ _ h2, r⟩
 ·exact .inr (.inl ⟨kk, es, vs, hl, h1.imp3 (k env), r⟩)
 ·exact .inr (.inr (.inl ⟨a, kk, vs, f, kn, i, k _ _ _ h1, r⟩))
 ·exact .inr (.inr (.inr (.inl ⟨kk, t, a, x, k _ _ _ h1, r⟩)))
 ·exact .inr (.inr (.inr (.inr (.inl ⟨a, rs, kk, t, x, y, e, hl, k _ _ _ h1, hf, k _ _ _ h2, r⟩))))
 ·exact .inr (.inr (.inr (.inr (.inr ⟨a, b, c, x, k _ _ _ h1, k _ _ _ h2, r⟩))))
theorem no_op {h : Str} {r : List D} (hne : h ≠ S "op") : SgD (.tup (.str h :: r)) := fun s a b e => by
 have e1 := D.tup.inj e
 have e2 := (List.cons.inj e1).1
 exact absurd (D.str.inj e2) hne
theorem sg_op {s : Str} {a b : D} (h : Sg s) : SgD (tOpD s a b) := fun s' a' b' e => by
 have e1 := D.tup.inj e
 have e2 := (List.cons.inj (List.cons.inj e1).2).1
 rw [← D.str.inj e2]
 exact h
def TmOk (ks : List Kn) (n : Nat) (bs : List (Str × Str)) (d : D) (x : Str) : Prop := ∀ env, FitB ks bs env → ∃ v, Evs ks n env d v ∧ Vk ks x v
theorem ev_leaf {ks : List Kn} {n : Nat} {env : En} {d v : D} (h : LeafEv env d v) : Evs ks n env d v := by
 cases n with
 | zero => exact h
 | succ n => exact .inl h
theorem tm_num {ks : List Kn} {n : Nat} {bs : List (Str × Str)} {i : Int} (h : Nm i) : TmOk ks n bs (tNum i) (S "num") := fun env _ => ⟨.int i, ev_leaf (.inl ⟨i, rfl, rfl⟩), .num i h⟩
theorem tm_box {ks : List Kn} {n : Nat} {bs : List (Str × Str)} {y x : Str} (h : (y, x) ∈ bs) : TmOk ks n bs (tBox y) x := fun env hf => by
 obtain ⟨v, h1, h2⟩ := hf _ h
 exact ⟨v, ev_leaf (.inr ⟨y, h1, rfl⟩), h2⟩
theorem tm_op {ks : List Kn} (wf : KWf ks) {n : Nat} {bs : List (Str × Str)} {s : Str} {a b : D} (hs : Sg s) (ha : TmOk ks n bs a (S "num")) (hb : TmOk ks n bs b (S "num")) : TmOk ks (n + 1) bs (tOpD s a b) (S "num") := fun env hf => by
 obtain ⟨u, e1, k1⟩ := ha env hf
 obtain ⟨v, e2, k2⟩ := hb env hf
 obtain ⟨i, hi, rfl⟩ := vk_num wf rfl k1
 obtain ⟨j, hj, rfl⟩ := vk_num wf rfl k2
 exact ⟨_, .inr ⟨.inl ⟨s, a, b, i, j, e1, e2, hi, hj, rfl, rfl⟩, sg_op hs⟩, .num _ (opV_nm s i j)⟩
theorem tm_list {ks : List Kn} {n : Nat} {bs : List (Str × Str)} {env : En} (hf : FitB ks bs env) : ∀ {es : List D} {ps : List (Str × Str)}, All2 (fun e (p : Str × Str) => TmOk ks n bs e p.2) es ps → ∃ vs, All2 (Evs ks n env) es vs ∧ vs.length = ps.length ∧ ∀ (i : Nat) w p, vs[i]? = some w → ps[i]? = some p → Vk ks p.2 w
 | _, _, .nil => ⟨[], .nil, rfl, fun i w p h => by simp at h⟩
 | _, _, .cons h t => by
  obtain ⟨v, h1, h2⟩ := h env hf
  obtain ⟨vs, k1, k2, k3⟩ := tm_list hf t
  refine ⟨v :: vs, .cons h1 k1, by rw [List.length_cons, List.length_cons, k2], fun i w p hw hp => ?_⟩
  cases i with
  | zero =>
   simp at hw hp
   subst hw hp
   exact h2
  | succ i => exact k3 i w p (by simpa using hw) (by simpa using hp)
theorem tm_rec {ks : List Kn} {n : Nat} {bs : List (Str × Str)} {x : Str} {k : Kn} {es : List D} (hk : kAt ks x = some k) (hr : k.rc = true) (hl : k.parts.length ≤ 1000) (h : All2 (fun e (p : Str × Str) => TmOk ks n bs e p.2) es k.parts) : TmOk ks (n + 1) bs (tRec x es) x := fun env hf => by
 obtain ⟨vs, h1, h2, h3⟩ := tm_list hf h
 exact ⟨_, .inr ⟨.inr (.inl ⟨x, es, vs, by rw [h.length]; exact hl, h1, rfl, rfl⟩), no_op (by decide +kernel)⟩, .rc hk hr h2 h3⟩
theorem idx_nodup {f : Str} : ∀ {l : List Str} {i : Nat}, l.Nodup → l[i]? = some f → l.findIdx? (fun z => decide (z = f)) = some i
 | [], i, _, h => by simp at h
 | y :: l, 0, _, h => by
  simp at h
  subst h
  simp [List.findIdx?_cons]
 | y :: l, i + 1, nd, h => by
  have hm : f ∈ l := List.mem_of_getElem? (by simpa using h)
  have hne : ¬ y = f := fun e => by subst e; exact (List.nodup_cons.mp nd).1 hm
  rw [List.findIdx?_cons, decide_eq_false hne]
  have := idx_nodup (l := l) (i := i) (List.nodup_cons.mp nd).2 (by simpa using h)
  simp [this]
theorem tm_get {ks : List Kn} (wf : KWf ks) {n : Nat} {bs : List (Str × Str)} {y : Str} {k : Kn} {a : D} {p : Str × Str} (hk : kAt ks y = some k) (hr : k.rc = true) (hp : p ∈ k.parts) (h : TmOk ks n bs a y) : TmOk ks (n + 1) bs (tGet a p.1) p.2 := fun env hf => by
 obtain ⟨v, h1, h2⟩ := h env hf
 obtain ⟨ws, hl, hw, rfl⟩ := vk_rec wf hk hr h2
 obtain ⟨i, hi, e⟩ := List.mem_iff_getElem.mp hp
 have hi2 : i < ws.length := by omega
 have hm := List.mem_of_find?_eq_some hk
 have ei : k.parts[i]? = some p := by rw [← e]; exact List.getElem?_eq_getElem hi
 exact ⟨ws[i], .inr ⟨.inr (.inr (.inl ⟨a, y, ws, p.1, k, i, h1, hk, idx_nodup (wf.pnd k hm) (by rw [List.getElem?_map, ei]; rfl), List.getElem?_eq_getElem hi2, rfl⟩)), no_op (by decide +kernel)⟩, hw i _ p (List.getElem?_eq_getElem hi2) ei⟩
theorem tm_tag {ks : List Kn} {n : Nat} {bs : List (Str × Str)} {x : Str} {k : Kn} {a : D} {p : Str × Str} (hk : kAt ks x = some k) (hr : k.rc = false) (hp : p ∈ k.parts) (h : TmOk ks n bs a p.2) : TmOk ks (n + 1) bs (tTag x p.1 a) x := fun env hf => by
 obtain ⟨v, h1, h2⟩ := h env hf
 exact ⟨_, .inr ⟨.inr (.inr (.inr (.inl ⟨x, p.1, a, v, h1, rfl, rfl⟩))), no_op (by decide +kernel)⟩, .al hk hr hp h2⟩
theorem tm_case {ks : List Kn} (wf : KWf ks) {n : Nat} {bs : List (Str × Str)} {x y : Str} {k : Kn} {a : D} {rs : List (Str × Str × D)} (hk : kAt ks y = some k) (hr : k.rc = false) (ha : TmOk ks n bs a y) (hl : rs.length ≤ 1000) (nd : (rs.map (·.1)).Nodup)
  (h : ∀ p ∈ k.parts, ∃ z e, (p.1, z, e) ∈ rs ∧ (∀ q ∈ bs, q.1 ≠ z) ∧ TmOk ks n (bs ++ [(z, p.2)]) e x) : TmOk ks (n + 1) bs (tCase a rs) x := fun env hf => by
 obtain ⟨v, h1, h2⟩ := ha env hf
 obtain ⟨p, hp, w, hw, rfl⟩ := vk_alt wf hk hr h2
 obtain ⟨z, e, hm, hz, he⟩ := h p hp
 obtain ⟨v', h3, h4⟩ := he _ (hf.put hz hw)
 obtain ⟨i, hi, ei⟩ := List.mem_iff_getElem.mp hm
 have := find_nodup (f := fun r : Str × Str × D => r.1) (xs := rs) (i := i) (a := (p.1, z, e)) nd (by rw [← ei]; exact List.getElem?_eq_getElem hi)
 exact ⟨v', .inr ⟨.inr (.inr (.inr (.inr (.inl ⟨a, rs, y, p.1, w, z, e, hl, h1, this, h3, rfl⟩)))), no_op (by decide +kernel)⟩, h4⟩
theorem tm_if {ks : List Kn} (wf : KWf ks) {n : Nat} {bs : List (Str × Str)} {x : Str} {a b c : D} (ha : TmOk ks n bs a (S "num")) (hb : TmOk ks n bs b x) (hc : TmOk ks n bs c x) : TmOk ks (n + 1) bs (tIfD a b c) x := fun env hf => by
 obtain ⟨u, e1, k1⟩ := ha env hf
 obtain ⟨i, hi, rfl⟩ := vk_num wf rfl k1
 by_cases h0 : i = 0
 ·obtain ⟨v, e2, k2⟩ := hc env hf
  exact ⟨v, .inr ⟨.inr (.inr (.inr (.inr (.inr ⟨a, b, c, i, e1, by rw [if_pos h0]; exact e2, rfl⟩)))), no_op (by decide +kernel)⟩, k2⟩
 ·obtain ⟨v, e2, k2⟩ := hb env hf
  exact ⟨v, .inr ⟨.inr (.inr (.inr (.inr (.inr ⟨a, b, c, i, e1, by rw [if_neg h0]; exact e2, rfl⟩)))), no_op (by decide +kernel)⟩, k2⟩
def smS (f : Str → Int) (k : Kn) : Int := if k.rc = true then (k.parts.map fun p => f p.2).sum else match k.parts with | [] => 0 | p :: _ => f p.2
def hiS (f : Str → Int) (k : Kn) : Int := if k.rc = true then maxD (k.parts.map fun p => f p.2) else match k.parts with | [] => 0 | p :: _ => f p.2
theorem smS_congr {f g : Str → Int} {k : Kn} (h : ∀ p ∈ k.parts, f p.2 = g p.2) : smS f k = smS g k := by
 unfold smS
 rw [List.map_congr_left h]
 cases hq : k.parts with
 | nil => rfl
 | cons p r =>
  show (if k.rc = true then _ else f p.2) = (if k.rc = true then _ else g p.2)
  rw [h p (by rw [hq]; simp)]
theorem hiS_congr {f g : Str → Int} {k : Kn} (h : ∀ p ∈ k.parts, f p.2 = g p.2) : hiS f k = hiS g k := by
 unfold hiS
 rw [List.map_congr_left h]
 cases hq : k.parts with
 | nil => rfl
 | cons p r =>
  show (if k.rc = true then _ else f p.2) = (if k.rc = true then _ else g p.2)
  rw [h p (by rw [hq]; simp)]
def smF : Nat → List Kn → Str → Int
 | 0, _, _ => 1
 | n + 1, ks, x => match kAt ks x with
  | none => 1
  | some k => 1 + smS (smF n ks) k
def hiF : Nat → List Kn → Str → Int
 | 0, _, _ => 1
 | n + 1, ks, x => match kAt ks x with
  | none => 1
  | some k => 1 + hiS (hiF n ks) k
theorem smF_none {n : Nat} {ks : List Kn} {x : Str} (h : kAt ks x = none) : smF (n + 1) ks x = 1 := by unfold smF; rw [h]
theorem smF_some {n : Nat} {ks : List Kn} {x : Str} {k : Kn} (h : kAt ks x = some k) : smF (n + 1) ks x = 1 + smS (smF n ks) k := by
 show (match kAt ks x with | none => 1 | some k => 1 + smS (smF n ks) k) = _
 rw [h]
theorem hiF_none {n : Nat} {ks : List Kn} {x : Str} (h : kAt ks x = none) : hiF (n + 1) ks x = 1 := by unfold hiF; rw [h]
theorem hiF_some {n : Nat} {ks : List Kn} {x : Str} {k : Kn} (h : kAt ks x = some k) : hiF (n + 1) ks x = 1 + hiS (hiF n ks) k := by
 show (match kAt ks x with | none => 1 | some k => 1 + hiS (hiF n ks) k) = _
 rw [h]
theorem smF_up {ks : List Kn} (wf : KWf ks) : ∀ (m : Nat) (x : Str), KIn ks m x → smF (m + 2) ks x = smF (m + 1) ks x ∧ hiF (m + 2) ks x = hiF (m + 1) ks x := by
 intro m
 induction m with
 | zero =>
  intro x h
  rcases h.look wf with ⟨_, e⟩ | ⟨j, k, e0, _⟩
  ·exact ⟨(smF_none e).trans (smF_none e).symm, (hiF_none e).trans (hiF_none e).symm⟩
  ·cases e0
 | succ m ih =>
  intro x h
  rcases h.look wf with ⟨_, e⟩ | ⟨j, k, e0, hk, hn, hm, hp⟩
  ·exact ⟨(smF_none e).trans (smF_none e).symm, (hiF_none e).trans (hiF_none e).symm⟩
  ·cases e0
   rw [smF_some hk, smF_some hk, hiF_some hk, hiF_some hk, smS_congr fun p hp' => (ih p.2 (hp p hp')).1, hiS_congr fun p hp' => (ih p.2 (hp p hp')).2]
   exact ⟨rfl, rfl⟩
def smK (ks : List Kn) (x : Str) : Int := smF 7 ks x
def hiK (ks : List Kn) (x : Str) : Int := hiF 7 ks x
theorem sm_is {ks : List Kn} (wf : KWf ks) {m : Nat} {x : Str} (h : KIn ks m x) (hm : m ≤ 6) : smF (m + 1) ks x = smK ks x ∧ hiF (m + 1) ks x = hiK ks x := by
 have : ∀ k, smF (m + k + 1) ks x = smF (m + 1) ks x ∧ hiF (m + k + 1) ks x = hiF (m + 1) ks x := fun k => by
  induction k with
  | zero => exact ⟨rfl, rfl⟩
  | succ k ih =>
   have u := smF_up wf (m + k) x (h.mono (by omega))
   exact ⟨u.1.trans ih.1, u.2.trans ih.2⟩
 have u := this (6 - m)
 rw [show m + (6 - m) + 1 = 7 by omega] at u
 exact ⟨u.1.symm, u.2.symm⟩
theorem sm_num {ks : List Kn} (wf : KWf ks) : smK ks (S "num") = 1 ∧ hiK ks (S "num") = 1 := ⟨smF_none wf.num, hiF_none wf.num⟩
theorem sm_at {ks : List Kn} (wf : KWf ks) {x : Str} {k : Kn} (hk : kAt ks x = some k) : smK ks x = 1 + smS (smK ks) k ∧ hiK ks x = 1 + hiS (hiK ks) k := by
 have hm := List.mem_of_find?_eq_some hk
 have hx : k.name = x := by
  have := List.find?_some hk
  exact of_decide_eq_true this
 have hin : KIn ks 6 x := (KIn.of (.inr ⟨k, hm, hx⟩)).mono wf.few
 rcases hin.look wf with ⟨_, e⟩ | ⟨j, k', e0, hk', hn, hm', hp⟩
 ·rw [e] at hk; cases hk
 ·cases e0
  rw [hk] at hk'
  cases hk'
  exact ⟨(smF_some (n := 6) hk).trans (congrArg (fun z => 1 + z) (smS_congr fun p hp' => (sm_is wf (hp p hp') (by omega)).1)), (hiF_some (n := 6) hk).trans (congrArg (fun z => 1 + z) (hiS_congr fun p hp' => (sm_is wf (hp p hp') (by omega)).2))⟩
theorem smF_bound {ks : List Kn} (hp : ∀ k ∈ ks, k.parts.length ≤ 5) : ∀ (n : Nat) (x : Str), (1 ≤ smF n ks x ∧ smF n ks x ≤ 6 ^ n) ∧ (1 ≤ hiF n ks x ∧ hiF n ks x ≤ n + 1)
 | 0, x => ⟨⟨Int.le_refl _, Int.le_refl _⟩, ⟨Int.le_refl _, Int.le_refl _⟩⟩
 | n + 1, x => by
  have p1 : (1 : Int) ≤ 6 ^ n := Int.pow_pos (by decide)
  have e6 : (6 : Int) ^ (n + 1) = 6 * 6 ^ n := by rw [Int.pow_succ, Int.mul_comm]
  cases hk : kAt ks x with
  | none =>
   rw [smF_none hk, hiF_none hk]
   exact ⟨⟨Int.le_refl _, by rw [e6]; omega⟩, Int.le_refl _, by push_cast; omega⟩
  | some k =>
   rw [smF_some hk, hiF_some hk]
   have hk5 := hp k (List.mem_of_find?_eq_some hk)
   have ih := fun y => smF_bound hp n y
   have hs : ∀ (l : List (Str × Str)), 0 ≤ (l.map fun p => smF n ks p.2).sum ∧ (l.map fun p => smF n ks p.2).sum ≤ l.length * 6 ^ n := by
    intro l
    induction l with
    | nil => simp
    | cons a r ih' =>
     have h1 := (ih a.2).1
     rw [List.map_cons, List.sum_cons, List.length_cons]
     push_cast
     rw [Int.add_mul]
     omega
   have hm : ∀ (l : List (Str × Str)), 0 ≤ maxD (l.map fun p => hiF n ks p.2) ∧ maxD (l.map fun p => hiF n ks p.2) ≤ n + 1 := by
    intro l
    induction l with
    | nil => show 0 ≤ (0 : Int) ∧ (0 : Int) ≤ n + 1; omega
    | cons a r ih' =>
     have h1 := (ih a.2).2
     have e : maxD ((a :: r).map fun p => hiF n ks p.2) = max (hiF n ks a.2) (maxD (r.map fun p => hiF n ks p.2)) := rfl
     rw [e]
     omega
   have h1 := hs k.parts
   have h2 : (k.parts.length : Int) * 6 ^ n ≤ 5 * 6 ^ n := Int.mul_le_mul_of_nonneg_right (by omega) (by omega)
   have h3 := hm k.parts
   unfold smS hiS
   push_cast
   cases k.rc with
   | true =>
    rw [if_pos rfl, if_pos rfl]
    refine ⟨⟨?_, ?_⟩, ?_, ?_⟩ <;> omega
   | false =>
    rw [if_neg (by decide), if_neg (by decide)]
    cases k.parts with
    | nil =>
     refine ⟨⟨?_, ?_⟩, ?_, ?_⟩ <;> dsimp only <;> omega
    | cons p r =>
     have h4 := ih p.2
     refine ⟨⟨?_, ?_⟩, ?_, ?_⟩ <;> dsimp only <;> omega
theorem sm_bound {ks : List Kn} (wf : KWf ks) (x : Str) : 1 ≤ smK ks x ∧ smK ks x ≤ 279936 ∧ 1 ≤ hiK ks x ∧ hiK ks x ≤ 8 := by
 have := smF_bound wf.pts 7 x
 have e : (6 : Int) ^ 7 = 279936 := by decide
 unfold smK hiK
 omega
end M
end
section
namespace L2
open PySem PySem.Spec PyProof.Rows M
section
variable {X : Cx}
end
section
variable {X : Cx} {a b : Expr} {ta : TA} {p1 p2 q1 q2 : Pos}
end
end L2
end
section
namespace M
open PySem L2
def byN (j : Nat) : Str := ofL [98, 121, 97 + j]
theorem byN_inj {i j : Nat} (h : byN i = byN j) : i = j := by
 have := congrArg L h
 unfold byN at this
 rw [L_ofL, L_ofL] at this
 simp at this
 exact this
def NoBy (x : Str) : Prop := ∀ j : Nat, x ≠ byN j
theorem nb_of {l : List Nat} (h : l[0]? ≠ some 98 ∨ l[1]? ≠ some 121) : NoBy (ofL l) := fun j e => by
 have := congrArg L e
 unfold byN at this
 rw [L_ofL, L_ofL] at this
 subst this
 simp at h
theorem five_ne {c : Nat} (h : c ∈ five) : c ≠ 98 ∧ c ≠ 121 := by
 revert h
 unfold five
 simp
 omega
theorem nmA_nb {cs : List Nat} (h5 : ∀ c ∈ cs, c ∈ five) (a : Nat) (b : Int) (k : Nat) (t : List Nat) (ht : ∀ c ∈ t, c ∈ five) : NoBy (ofL (nmA cs a b k ++ t)) := by
 apply nb_of
 unfold nmA
 cases hcs : cs.take a with
 | nil =>
  right
  rw [List.nil_append, List.cons_append, List.getElem?_cons_succ]
  intro e
  have hm := List.mem_of_getElem? e
  rcases List.mem_append.mp hm with hm | hm
  ·exact (five_ne (h5 _ (List.mem_of_mem_drop hm))).2 rfl
  ·exact (five_ne (ht _ hm)).2 rfl
 | cons c r =>
  left
  intro e
  simp at e
  have : c ∈ cs.take a := by rw [hcs]; simp
  exact (five_ne (h5 c (List.mem_of_mem_take this))).1 e
theorem nmsA_nb {cs : List Nat} {a : Nat} {b : Int} (h5 : ∀ c ∈ cs, c ∈ five) : ∀ z ∈ ((List.range 26).map fun k => ofL (nmA cs a b k)), NoBy z := fun z hz => by
 obtain ⟨k, _, rfl⟩ := List.mem_map.mp hz
 have := nmA_nb h5 a b k [] (fun _ h => nomatch h)
 rw [List.append_nil] at this
 exact this
theorem nmsB_nb {cs : List Nat} {a : Nat} {b : Int} (h5 : ∀ c ∈ cs, c ∈ five) : ∀ z ∈ ((List.range 26).map fun k => ofL (nmB cs a b k)), NoBy z := fun z hz => by
 obtain ⟨k, _, rfl⟩ := List.mem_map.mp hz
 unfold nmB
 exact nmA_nb h5 a b _ _ fun c hc => by rw [List.eq_of_mem_replicate hc]; decide
theorem eight_at {i : Nat} (h : i < 8) : atI (S "abcdefgh").cps.toList (i : Int) = some (97 + i) := by
 have all : ∀ k, k < 8 → (S "abcdefgh").cps.toList[k]? = some (97 + k) := by decide +kernel
 exact atI_nat (all i h)
theorem byN_text (i : Nat) : S "by" ++ (⟨#[97 + i]⟩ : Str) = byN i := by
 apply L_inj
 rw [L_append, show L (S "by") = [98, 121] by decide +kernel]
 rfl
def BxAt (H : Hp) (f : Addr) (bv : V) (bs : List (Str × Str)) : Prop := ∃ bl us, bv = .ref bl ∧ H bl = some (.lst us) ∧ RelDs H us (bs.map dPart) ∧ bl ≠ f
def BFree (bs : List (Str × Str)) (m : Nat) : Prop := ∀ b ∈ bs, ∀ j, j < m → b.1 ≠ byN j
def PNB (ks : List Kn) : Prop := ∀ k ∈ ks, ∀ p ∈ k.parts, NoBy p.1
structure TIn (H : Hp) (f : Addr) (kv bv : V) (ks : List Kn) (bs : List (Str × Str)) (m : Nat) : Prop where
 fd : ∃ p q : Int, H f = some (.lst [.int p, .int q])
 kd : RelD H kv (dKinds ks)
 wf : KWf ks
 nb : PNB ks
 bx : BxAt H f bv bs
 nd : (bs.map (·.1)).Nodup
 bl : bs.length + m ≤ 30
 fr : BFree bs m
 kn : ∀ b ∈ bs, KIn ks 6 b.2
theorem TIn.same {H H' : Hp} {f : Addr} {kv bv : V} {ks : List Kn} {bs : List (Str × Str)} {m : Nat} (h : TIn H f kv bv ks bs m) (s : Same H H') : TIn H' f kv bv ks bs m := by
 obtain ⟨p, q, hf⟩ := h.fd
 obtain ⟨bl, us, e, hb, hu, n⟩ := h.bx
 exact ⟨⟨p, q, s _ _ hf⟩, h.kd.same s _, h.wf, h.nb, ⟨bl, us, e, s _ _ hb, hu.same s _, n⟩, h.nd, h.bl, h.fr, h.kn⟩
theorem TIn.fed {H H' : Hp} {f : Addr} {kv bv : V} {ks : List Kn} {bs : List (Str × Str)} {m : Nat} (h : TIn H f kv bv ks bs m) (s : Fed f H H') : TIn H' f kv bv ks bs m := by
 obtain ⟨bl, us, e, hb, hu, n⟩ := h.bx
 exact ⟨s.2, h.kd.tups (fed_tups h.fd s) _, h.wf, h.nb, ⟨bl, us, e, s.1 _ _ hb n, hu.tups (fed_tups h.fd s) _, n⟩, h.nd, h.bl, h.fr, h.kn⟩
theorem TIn.down {H : Hp} {f : Addr} {kv bv : V} {ks : List Kn} {bs : List (Str × Str)} {m m' : Nat} (h : TIn H f kv bv ks bs m) (l : m' ≤ m) : TIn H f kv bv ks bs m' :=
 ⟨h.fd, h.kd, h.wf, h.nb, h.bx, h.nd, by have := h.bl; omega, fun b hb j hj => h.fr b hb j (by omega), h.kn⟩
end M
namespace M
open PySem L2
end M
end
section
namespace M
open PySem L2
def ArmN (ks : List Kn) (z : Str) : Prop := (∃ j, z = byN j) ∨ ∃ k ∈ ks, ∃ p ∈ k.parts, p.1 = z
def FitK (ks : List Kn) (bs : List (Str × Str)) (env : En) : Prop := (∀ p ∈ bs, env p.1 = some (.str p.2)) ∧ ∀ z, ArmN ks z → (∀ q ∈ bs, q.1 ≠ z) → env z = none
theorem FitK.put {ks : List Kn} {bs : List (Str × Str)} {env : En} {y k : Str} (h : FitK ks bs env) (hy : ∀ p ∈ bs, p.1 ≠ y) : FitK ks (bs ++ [(y, k)]) (env.put y (.str k)) := by
 refine ⟨fun p hp => ?_, fun z hz hq => ?_⟩
 ·unfold En.put
  rcases List.mem_append.mp hp with hp | hp
  ·rw [if_neg (hy p hp)]; exact h.1 p hp
  ·rw [List.mem_singleton.mp hp, if_pos rfl]
 ·unfold En.put
  have hzy : y ≠ z := hq (y, k) (by simp)
  rw [if_neg (Ne.symm hzy)]
  exact h.2 z hz fun q hq' => hq q (by simp [hq'])
def TmK (ks : List Kn) (n : Nat) (bs : List (Str × Str)) (d : D) (x : Str) : Prop := ∀ env, FitK ks bs env → Kd True ks n env d x
def TmB (ks : List Kn) (n : Nat) (bs : List (Str × Str)) (d : D) (x : Str) : Prop := TmOk ks n bs d x ∧ TmK ks n bs d x
theorem kd_leaf {ks : List Kn} {n : Nat} {env : En} {d : D} {x : Str} (h : LeafKd env d x) : Kd True ks n env d x := by
 cases n with
 | zero => exact h
 | succ n => exact .inl h
theorem tb_num {ks : List Kn} {n : Nat} {bs : List (Str × Str)} {i : Int} (h : Nm i) : TmB ks n bs (tNum i) (S "num") := ⟨tm_num h, fun env _ => kd_leaf (.inl ⟨i, h, rfl, rfl⟩)⟩
theorem tb_box {ks : List Kn} {n : Nat} {bs : List (Str × Str)} {y x : Str} (h : (y, x) ∈ bs) : TmB ks n bs (tBox y) x := ⟨tm_box h, fun env hf => kd_leaf (.inr ⟨y, hf.1 _ h, rfl⟩)⟩
theorem tb_op {ks : List Kn} (wf : KWf ks) {n : Nat} {bs : List (Str × Str)} {s : Str} {a b : D} (hs : Sg s) (ha : TmB ks n bs a (S "num")) (hb : TmB ks n bs b (S "num")) : TmB ks (n + 1) bs (tOpD s a b) (S "num") :=
 ⟨tm_op wf hs ha.1 hb.1, fun env hf => .inr (.inl ⟨s, a, b, ha.2 env hf, hb.2 env hf, rfl, rfl⟩)⟩
theorem tb_rec {ks : List Kn} {n : Nat} {bs : List (Str × Str)} {x : Str} {k : Kn} {es : List D} (hk : kAt ks x = some k) (hr : k.rc = true) (hl : k.parts.length ≤ 1000) (h : All2 (fun e (p : Str × Str) => TmB ks n bs e p.2) es k.parts) : TmB ks (n + 1) bs (tRec x es) x :=
 ⟨tm_rec hk hr hl (h.imp fun _ _ h => h.1), fun env hf => .inr (.inr (.inl ⟨es, k, hk, hr, h.imp fun _ _ h => h.2 env hf, rfl⟩))⟩
theorem part_at {k : Kn} {p : Str × Str} (nd : (k.parts.map (·.1)).Nodup) (hp : p ∈ k.parts) : partOf k p.1 = some p.2 := by
 unfold partOf
 obtain ⟨i, hi, e⟩ := List.mem_iff_getElem.mp hp
 have := find_nodup (f := fun r : Str × Str => r.1) (xs := k.parts) (i := i) (a := p) nd (by rw [← e]; exact List.getElem?_eq_getElem hi)
 rw [this]
 rfl
theorem tb_get {ks : List Kn} (wf : KWf ks) {n : Nat} {bs : List (Str × Str)} {y : Str} {k : Kn} {a : D} {p : Str × Str} (hk : kAt ks y = some k) (hr : k.rc = true) (hp : p ∈ k.parts) (h : TmB ks n bs a y) : TmB ks (n + 1) bs (tGet a p.1) p.2 :=
 ⟨tm_get wf hk hr hp h.1, fun env hf => .inr (.inr (.inr (.inl ⟨a, y, p.1, k, h.2 env hf, hk, hr, part_at (wf.pnd k (List.mem_of_find?_eq_some hk)) hp, rfl⟩)))⟩
theorem tb_tag {ks : List Kn} (wf : KWf ks) {n : Nat} {bs : List (Str × Str)} {x : Str} {k : Kn} {a : D} {p : Str × Str} (hk : kAt ks x = some k) (hr : k.rc = false) (hp : p ∈ k.parts) (h : TmB ks n bs a p.2) : TmB ks (n + 1) bs (tTag x p.1 a) x :=
 ⟨tm_tag hk hr hp h.1, fun env hf => .inr (.inr (.inr (.inr (.inl ⟨p.1, a, k, p.2, hk, hr, part_at (wf.pnd k (List.mem_of_find?_eq_some hk)) hp, h.2 env hf, rfl⟩))))⟩
theorem nodup_inj {α β : Type} {f : α → β} : ∀ {l : List α}, (l.map f).Nodup → ∀ {a b : α}, a ∈ l → b ∈ l → f a = f b → a = b
 | [], _, a, _, ha, _, _ => nomatch ha
 | c :: l, nd, a, b, ha, hb, e => by
  rw [List.map_cons, List.nodup_cons] at nd
  rcases List.mem_cons.mp ha with h1 | h1 <;> rcases List.mem_cons.mp hb with h2 | h2
  ·rw [h1, h2]
  ·rw [h1] at e
   exact absurd (by rw [e]; exact List.mem_map_of_mem h2) nd.1
  ·rw [h2] at e
   exact absurd (by rw [← e]; exact List.mem_map_of_mem h1) nd.1
  ·exact nodup_inj nd.2 h1 h2 e
theorem tb_case {ks : List Kn} (wf : KWf ks) {n : Nat} {bs : List (Str × Str)} {x y : Str} {k : Kn} {a : D} {rs : List (Str × Str × D)} (hk : kAt ks y = some k) (hr : k.rc = false) (ha : TmB ks n bs a y) (hl : rs.length ≤ 1000) (nd : (rs.map (·.1)).Nodup)
  (hlen : rs.length = k.parts.length) (hsub : ∀ r ∈ rs, ∃ p ∈ k.parts, p.1 = r.1)
  (h : ∀ p ∈ k.parts, ∃ z e, (p.1, z, e) ∈ rs ∧ (∀ q ∈ bs, q.1 ≠ z) ∧ ArmN ks z ∧ TmB ks n (bs ++ [(z, p.2)]) e x) : TmB ks (n + 1) bs (tCase a rs) x := by
 have hm := List.mem_of_find?_eq_some hk
 refine ⟨tm_case wf hk hr ha.1 hl nd fun p hp => ?_, fun env hf => .inr (.inr (.inr (.inr (.inr (.inl ⟨True.intro, a, rs, y, k, ha.2 env hf, hk, hr, ?_, hlen, nd, fun r hrr => ?_, rfl⟩)))))⟩
 ·obtain ⟨z, e, g1, g2, g3, g4⟩ := h p hp
  exact ⟨z, e, g1, g2, g4.1⟩
 ·intro e
  have h0 : k.parts = [] := List.eq_nil_of_length_eq_zero (by rw [← hlen, e]; rfl)
  exact wf.alt k hm hr h0
 ·obtain ⟨p, hp, e⟩ := hsub r hrr
  obtain ⟨z, e', g1, g2, g3, g4⟩ := h p hp
  have er : r = (p.1, z, e') := nodup_inj nd hrr g1 e.symm
  subst er
  exact ⟨hf.2 z g3 g2, p.2, part_at (wf.pnd k hm) hp, g4.2 _ (hf.put g2)⟩
theorem tb_if {ks : List Kn} (wf : KWf ks) {n : Nat} {bs : List (Str × Str)} {x : Str} {a b c : D} (ha : TmB ks n bs a (S "num")) (hb : TmB ks n bs b x) (hc : TmB ks n bs c x) : TmB ks (n + 1) bs (tIfD a b c) x :=
 ⟨tm_if wf ha.1 hb.1 hc.1, fun env hf => .inr (.inr (.inr (.inr (.inr (.inr ⟨a, b, c, ha.2 env hf, hb.2 env hf, hc.2 env hf, rfl⟩)))))⟩
theorem NodeKd.mono {cs : Prop} {ks : List Kn} {R R' : RKn} (k : ∀ env d x, R env d x → R' env d x) {env : En} {d : D} {x : Str} (h : NodeKd cs ks R env d x) : NodeKd cs ks R' env d x := by
 rcases h with ⟨s, a, b, h1, h2, r⟩ | ⟨es, kn, h1, h2, h3, r⟩ | ⟨a, k1, f, kn, h1, r⟩ | ⟨t, a, kn, k1, h1, h2, h3, h4, r⟩ | ⟨hc, a, rs, k1, kn, h1, h2, h3, h4, h5, h6, h7, r⟩ | ⟨a, b, c, h1, h2, h3, r⟩
 ·exact .inl ⟨s, a, b, k _ _ _ h1, k _ _ _ h2, r⟩
 ·exact .inr (.inl ⟨es, kn, h1, h2, h3.imp fun _ _ h => k _ _ _ h, r⟩)
 ·exact .inr (.inr (.inl ⟨a, k1, f, kn, k _ _ _ h1, r⟩))
 ·exact .inr (.inr (.inr (.inl ⟨t, a, kn, k1, h1, h2, h3, k _ _ _ h4, r⟩)))
 ·refine .inr (.inr (.inr (.inr (.inl ⟨hc, a, rs, k1, kn, k _ _ _ h1, h2, h3, h4, h5, h6, fun r hr => ?_, r⟩))))
  obtain ⟨g1, k2, g2, g3⟩ := h7 r hr
  exact ⟨g1, k2, g2, k _ _ _ g3⟩
 ·exact .inr (.inr (.inr (.inr (.inr ⟨a, b, c, k _ _ _ h1, k _ _ _ h2, k _ _ _ h3, r⟩))))
theorem kd_up {cs : Prop} {ks : List Kn} : ∀ (n : Nat) (env : En) (d : D) (x : Str), Kd cs ks n env d x → Kd cs ks (n + 1) env d x
 | 0, _, _, _, h => .inl h
 | n + 1, env, d, x, h => by
  rcases h with h | h
  ·exact .inl h
  ·exact .inr (h.mono (kd_up n))
theorem kd_le {cs : Prop} {ks : List Kn} {n m : Nat} (l : n ≤ m) {env : En} {d : D} {x : Str} (h : Kd cs ks n env d x) : Kd cs ks m env d x := by
 obtain ⟨k, rfl⟩ : ∃ k, m = n + k := ⟨m - n, by omega⟩
 clear l
 induction k with
 | zero => exact h
 | succ k ih => exact kd_up _ _ _ _ ih
def NoMo (x : Str) : Prop := x ≠ S "more"
theorem nm_of {l : List Nat} (h : l[0]? ≠ some 109 ∨ l[1]? ≠ some 111) : NoMo (ofL l) := fun e => by
 have := congrArg L e
 rw [L_ofL, show L (S "more") = [109, 111, 114, 101] by decide +kernel] at this
 subst this
 simp at h
theorem five_nm {c : Nat} (h : c ∈ five) : c ≠ 109 ∧ c ≠ 111 := by
 revert h
 unfold five
 simp
 omega
theorem nmA_nm {cs : List Nat} (h5 : ∀ c ∈ cs, c ∈ five) (a : Nat) (b : Int) (k : Nat) (t : List Nat) (ht : ∀ c ∈ t, c ∈ five) : NoMo (ofL (nmA cs a b k ++ t)) := by
 apply nm_of
 unfold nmA
 cases hcs : cs.take a with
 | nil =>
  right
  rw [List.nil_append, List.cons_append, List.getElem?_cons_succ]
  intro e
  have hm := List.mem_of_getElem? e
  rcases List.mem_append.mp hm with hm | hm
  ·exact (five_nm (h5 _ (List.mem_of_mem_drop hm))).2 rfl
  ·exact (five_nm (ht _ hm)).2 rfl
 | cons c r =>
  left
  intro e
  simp at e
  have : c ∈ cs.take a := by rw [hcs]; simp
  exact (five_nm (h5 c (List.mem_of_mem_take this))).1 e
theorem nmsA_nm {cs : List Nat} {a : Nat} {b : Int} (h5 : ∀ c ∈ cs, c ∈ five) : ∀ z ∈ ((List.range 26).map fun k => ofL (nmA cs a b k)), NoMo z := fun z hz => by
 obtain ⟨k, _, rfl⟩ := List.mem_map.mp hz
 have := nmA_nm h5 a b k [] (fun _ h => nomatch h)
 rw [List.append_nil] at this
 exact this
theorem nmsB_nm {cs : List Nat} {a : Nat} {b : Int} (h5 : ∀ c ∈ cs, c ∈ five) : ∀ z ∈ ((List.range 26).map fun k => ofL (nmB cs a b k)), NoMo z := fun z hz => by
 obtain ⟨k, _, rfl⟩ := List.mem_map.mp hz
 unfold nmB
 exact nmA_nm h5 a b _ _ fun c hc => by rw [List.eq_of_mem_replicate hc]; decide
end M
end
section
namespace K41
open PySem L2 M
seal L2.PE L2.PA L2.PS L2.PSs L2.PT L2.PW L2.PI L2.PG L2.PJ L2.PTs
def spNames : Sp := fun vs H Q _ => ∃ c : Int, vs = [.int c, .int 26] ∧ ∀ (b : Addr) (H' : Hp) (nms : List Str), Same H H' → H b = none → H' b = some (.lst (nms.map V.str)) → NmsOk nms → (∀ z ∈ nms, NoBy z ∧ NoMo z) → Q (.ref b) H'
section
variable {P : Program} {w : World} {K : PySem.W.Frag} {mg : Str → Option Value} {base : Heap} {n m : Nat}
theorem ok__law_names (T : Tx K mg) : DefIs P w K mg base (n + 1) "_law_names" ["_law_cell", "_law_many"] spNames := by
 refine DefIs.of T.d__law_names sc__law_names (fun vs H Q E h => ?_) (fun f cdv A outer s H vs Q E hr h => ?_)
 ·obtain ⟨_, rfl, _⟩ := h
  rfl
 obtain ⟨c, rfl, k⟩ := h
 have nd := sc__law_names.nd
 refine ⟨_, (pss_cons (ps_set (i := 2) nd rfl (by first | exact Or.inl rfl | exact Or.inr rfl) pe_str)
   (pss_cons (ps_set (i := 3) nd rfl (by first | exact Or.inl rfl | exact Or.inr rfl) (pe_op op_mod (pv 0) pe_int))
   (pss_cons (ps_set (i := 4) nd rfl (by first | exact Or.inl rfl | exact Or.inr rfl) (pe_op op_mod (pe_op op_fdivB (pv 0) pe_int) (pe_op op_add (pv 3) pe_int)))
   (pss_cons (ps_set (i := 5) nd rfl (by first | exact Or.inl rfl | exact Or.inr rfl) (pe_bm PySem.F.plainAttrs_str PySem.F.slot_str_join PySem.F.type_str_join mt_join pe_str (pa_cons (pe_comp ["_law_j", "_law_cell"] [none, some 0] rfl (by kernel_rfl) (pi_range1 rfl T.z_range (pa_cons (pv 3) pa_nil star_name)) (fun _ _ _ _ => (pg_name (i := 0) (by show List.Nodup (["_law_j", "_law_cell"] : List Str); decide +kernel) rfl (Or.inl rfl))) (fun _ _ _ _ => pts_nil) (fun _ _ _ _ => (pe_ix ix_str pe_str (pe_op op_mod (pe_op op_add (pe_op op_fdivB (pv 1) pe_int) (pv 0)) pe_int) (fun _ _ => rfl)))) pa_nil star_comp)))
   (pss_cons (ps_set (i := 6) nd rfl (by first | exact Or.inl rfl | exact Or.inr rfl) (pe_comp ["_law_k", "_law_common", "_law_letters", "_law_at", "_law_cell"] [none, some 5, some 2, some 4, some 0] rfl (by kernel_rfl) (pi_range1 rfl T.z_range (pa_cons (pv 1) pa_nil star_name)) (fun _ _ _ _ => (pg_name (i := 0) (by show List.Nodup (["_law_k", "_law_common", "_law_letters", "_law_at", "_law_cell"] : List Str); decide +kernel) rfl (Or.inl rfl))) (fun _ _ _ _ => pts_nil) (fun _ _ _ _ => (pe_op op_add_str (pe_op op_add_str (pe_slice sl_str (pv 1) po_none (po_some (pv 3))) (pe_ix ix_str (pv 2) (pe_op op_mod (pe_op op_add (pe_op op_fdivB (pv 4) pe_int) (pe_op op_mul pe_int (pv 0))) pe_int) (fun _ _ => rfl))) (pe_slice sl_str (pv 1) (po_some (pv 3)) po_none)))))
   (pss_cons (ps_if (pt_cmpR op_eq (pe_op op_mod (pe_op op_fdivB (pv 0) pe_int) pe_int) pe_int (nomark _)) (pss_one (ps_ret (pv 6))) pss_nil)
   (pss_one (ps_ret (pe_comp ["_law_k", "_law_found"] [none, some 6] rfl (by kernel_rfl) (pi_range1 rfl T.z_range (pa_cons (pv 1) pa_nil star_name)) (fun _ _ _ _ => (pg_name (i := 0) (by show List.Nodup (["_law_k", "_law_found"] : List Str); decide +kernel) rfl (Or.inl rfl))) (fun _ _ _ _ => pts_nil) (fun _ _ _ _ => (pe_op op_add_str (pe_ix (ix_listC (K := K) rfl) (pv 1) (pe_op op_sub (pv 0) (pe_op op_mod (pv 0) pe_int)) (fun _ _ => rfl)) (pe_op op_mulS pe_str (pe_op op_mod (pv 0) pe_int))))))))))))), ?_⟩
 have m0 : 0 ≤ c % 5 := Int.emod_nonneg _ (by decide)
 have m5 : c % 5 < 5 := Int.emod_lt_of_pos _ (by decide)
 refine ⟨_, rfl, _, _, rfl, rfl, (by show (0 : Int) < 5; decide), ?_⟩
 have hp : 0 < (c % 5) + 1 := by omega
 refine ⟨_, rfl, _, _, rfl, rfl, ⟨by decide, by decide⟩, _, rfl, _, _, rfl, rfl, _, _, rfl, rfl, hp, ?_⟩
 have a0 : 0 ≤ c / 5 % ((c % 5) + 1) := Int.emod_nonneg _ (by omega)
 have a1 : c / 5 % ((c % 5) + 1) < (c % 5) + 1 := Int.emod_lt_of_pos _ hp
 refine ⟨rfl, _, rfl, _, rfl, by omega, by omega, ?_⟩
 refine comp_range (j := 0) (fun i ys H' => H' = H ∧ ∃ cs : List Nat, ys = (cs.map single).map V.str ∧ ∀ c ∈ cs, c ∈ five) (by rfl) ⟨rfl, [], rfl, fun _ h => nomatch h⟩ (fitsLt (by omega)) ?_ ?_
 ·rintro i ys H' hi hl ⟨rfl, cs, rfl, hcs⟩
  refine ⟨_, rfl, _, _, rfl, rfl, ⟨by decide, by decide⟩, _, rfl, _, _, rfl, rfl, _, _, rfl, rfl, (by show (0 : Int) < 5; decide), ?_⟩
  obtain ⟨ch, hch, hat⟩ := five_at (Int.emod_nonneg (c / 25 + (0 + (i : Int))) (by decide : (5 : Int) ≠ 0)) (Int.emod_lt_of_pos _ (by decide))
  refine ⟨_, _, ch, rfl, rfl, by decide +kernel, hat, ?_⟩
  exact nxt hi hl ⟨rfl, cs ++ [ch], by simp [single], fun x hx => by
   rcases List.mem_append.mp hx with hx | hx
   ·exact hcs x hx
   ·rw [List.mem_singleton.mp hx]; exact hch⟩
 ·rintro ys H' hl ⟨rfl, cs, rfl, hcs⟩ D hD
  rw [List.length_map, List.length_map] at hl
  refine ⟨S "", D, cs.map single, rfl, rfl, SqL.of upd_same, ?_, ?_⟩
  ·rw [sum_singles, show (S "").length = 0 by decide +kernel]
   omega
  rw [join_singles]
  have sD := Same.new hD (.lst ((cs.map single).map V.str))
  generalize upd H' D (.lst ((cs.map single).map V.str)) = H1 at sD ⊢
  have hlen : (ofL cs).length = cs.length := by rw [← L_length, L_ofL]
  have c4 : cs.length ≤ 4 := by omega
  refine ⟨_, rfl, _, rfl, by decide, by decide, ?_⟩
  refine comp_range (j := 0) (fun i ys H2 => H2 = H1 ∧ ys = ((List.range i).map fun k => ofL (nmA cs (c / 5 % (c % 5 + 1)).toNat (c / 125) k)).map V.str) (by rfl) ⟨rfl, rfl⟩ (fitsLt (by decide)) ?_ ?_
  ·rintro i ys H2 hi hl2 ⟨rfl, rfl⟩
   have e0 : (0 + (i : Int)) = (i : Int) := by omega
   have li0 : 0 ≤ (c / 125 + 5 * (0 + (i : Int))) % 26 := Int.emod_nonneg _ (by decide)
   have li1 : (c / 125 + 5 * (0 + (i : Int))) % 26 < 26 := Int.emod_lt_of_pos _ (by decide)
   refine ⟨_, rfl, _, rfl, _, rfl, _, rfl, fits (by rw [hlen]; omega), ?_⟩
   refine ⟨_, rfl, _, rfl, _, _, rfl, rfl, ⟨by decide, by decide⟩, _, rfl, _, _, rfl, rfl, .inl ⟨by decide, by decide⟩, _, _, rfl, rfl, _, _, rfl, rfl, (by show (0 : Int) < 26; decide), ?_⟩
   refine ⟨_, _, _, rfl, rfl, by decide +kernel, letter_is li0 li1, ?_⟩
   rw [slice_to (ofL cs) a0 (by rw [hlen]; omega)]
   refine ⟨_, _, rfl, rfl, ?_, ?_⟩
   ·refine fits ?_
    rw [show (ofL ((L (ofL cs)).take (c / 5 % (c % 5 + 1)).toNat)).length = (cs.take (c / 5 % (c % 5 + 1)).toNat).length by rw [← L_length, L_ofL, L_ofL], List.length_take]
    show _ + 1 ≤ _
    omega
   refine ⟨_, rfl, _, rfl, _, rfl, _, rfl, fits (by rw [hlen]; omega), ?_⟩
   rw [slice_from (ofL cs) a0 (by rw [hlen]; omega), L_ofL]
   refine ⟨_, _, rfl, rfl, ?_, ?_⟩
   ·refine fits ?_
    rw [Str.length_append, show (ofL (cs.take (c / 5 % (c % 5 + 1)).toNat)).length = (cs.take (c / 5 % (c % 5 + 1)).toNat).length by rw [← L_length, L_ofL], show (ofL (cs.drop (c / 5 % (c % 5 + 1)).toNat)).length = (cs.drop (c / 5 % (c % 5 + 1)).toNat).length by rw [← L_length, L_ofL], List.length_take, List.length_drop]
    show _ + 1 + _ ≤ _
    omega
   rw [name_text]
   refine nxt hi hl2 ⟨rfl, ?_⟩
   rw [List.range_succ, List.map_append, List.map_append, e0]
   rfl
  ·rintro ys H2 hl2 ⟨rfl, rfl⟩ D2 hD2
   have sD2 := Same.new hD2 (.lst (((List.range 26).map fun k => ofL (nmA cs (c / 5 % (c % 5 + 1)).toNat (c / 125) k)).map V.str))
   refine ⟨_, rfl, _, _, rfl, rfl, ⟨by decide, by decide⟩, _, _, rfl, rfl, (by show (0 : Int) < 3; decide), rfl, _, rfl, ite2 (fun cc => ?_) (fun cc => ?_)⟩
   ·exact ⟨_, rfl, k D2 _ _ (sD.trans sD2) (none_of_same sD hD2) upd_same (nmsA c4 hcs) (fun z hz => ⟨nmsA_nb hcs z hz, nmsA_nm hcs z hz⟩)⟩
   ·refine ⟨_, rfl, _, rfl, by decide, by decide, ?_⟩
    obtain ⟨H3, hH3⟩ : ∃ H3, H3 = upd H2 D2 (.lst (((List.range 26).map fun k => ofL (nmA cs (c / 5 % (c % 5 + 1)).toNat (c / 125) k)).map V.str)) := ⟨_, rfl⟩
    have hb : H3 D2 = some (.lst (((List.range 26).map fun k => ofL (nmA cs (c / 5 % (c % 5 + 1)).toNat (c / 125) k)).map V.str)) := by rw [hH3]; exact upd_same
    rw [← hH3] at sD2
    refine comp_range (j := 0) (fun i ys H4 => H4 = H3 ∧ ys = ((List.range i).map fun k => ofL (nmB cs (c / 5 % (c % 5 + 1)).toNat (c / 125) k)).map V.str) (by rfl) ⟨hH3.symm, rfl⟩ (fitsLt (by decide)) ?_ ?_
    ·rintro i ys H4 hi hl3 ⟨rfl, rfl⟩
     have hi' : i < 26 := hi
     have er : (0 + (i : Int)) % 2 = ((i % 2 : Nat) : Int) := by omega
     have es : (0 + (i : Int)) - (0 + (i : Int)) % 2 = ((i - i % 2 : Nat) : Int) := by omega
     refine ⟨_, rfl, _, rfl, _, rfl, _, _, rfl, rfl, (by show (0 : Int) < 2; decide), _, _, rfl, rfl, D2, _, _, .str (ofL (nmA cs (c / 5 % (c % 5 + 1)).toNat (c / 125) (i - i % 2))), rfl, rfl, SqL.of hb, ?_, ?_⟩
     ·rw [es]
      refine atI_nat ?_
      rw [List.getElem?_map, List.getElem?_map, List.getElem?_range (by omega)]
      rfl
     refine ⟨_, rfl, _, _, rfl, rfl, (by show (0 : Int) < 2; decide), _, _, rfl, rfl, by omega, ?_⟩
     refine ⟨_, _, rfl, rfl, ?_, ?_⟩
     ·refine fits ?_
      rw [show (ofL (nmA cs (c / 5 % (c % 5 + 1)).toNat (c / 125) (i - i % 2))).length = cs.length + 1 by rw [← L_length, L_ofL, nmA_len]]
      have : (if (0 + (i : Int)) % 2 = 1 then S "q" else Str.empty).length ≤ 1 := by split <;> decide +kernel
      show _ + (if (0 + (i : Int)) % 2 = 1 then S "q" else Str.empty).length ≤ _
      omega
     refine nxt hi hl3 ⟨rfl, ?_⟩
     rw [List.range_succ, List.map_append, List.map_append]
     congr 1
     show [V.str _] = [V.str _]
     congr 2
     apply L_inj
     rw [L_append, L_ofL, L_ofL]
     unfold nmB
     congr 1
     rw [er]
     rcases Nat.mod_two_eq_zero_or_one i with e | e
     ·rw [e]; decide +kernel
     ·rw [e]; decide +kernel
    ·rintro ys H4 hl3 ⟨rfl, rfl⟩ D4 hD4
     have sD4 := Same.new hD4 (.lst (((List.range 26).map fun k => ofL (nmB cs (c / 5 % (c % 5 + 1)).toNat (c / 125) k)).map V.str))
     exact k D4 _ _ (sD.trans (sD2.trans sD4)) (none_of_same (sD.trans sD2) hD4) upd_same (nmsB c4 hcs) (fun z hz => ⟨nmsB_nb hcs z hz, nmsB_nm hcs z hz⟩)
end
end K41
end
section
namespace K41
open PySem L2 M
seal L2.PE L2.PA L2.PS L2.PSs L2.PT L2.PW L2.PI L2.PG L2.PJ L2.PTs
def spLSort : Sp := fun vs H Q _ => ∃ v ks x, vs = [v, .str x] ∧ KsSeq H v ks ∧ ∀ t pv H', Same H H' → H' t = some (.tup [.str (sortS (kAt ks x)), pv]) → RelD H' pv (partsD (kAt ks x)) → Q (.ref t) H'
def spSize (m : Nat) : Sp := fun vs H Q _ => ∃ v ks x, vs = [v, .str x] ∧ KsSeq H v ks ∧ KWf ks ∧ KIn ks m x ∧ ∀ H', Same H H' → Q (.int (szF (m + 1) ks x)) H'
section
variable {P : Program} {w : World} {K : PySem.W.Frag} {mg : Str → Option Value} {base : Heap} {n m : Nat}
theorem ok__law_sort_of (T : Tx K mg) : DefIs P w K mg base (n + 1) "_law_sort_of" ["_law_kinds_here", "_law_kind"] spLSort := by
  refine DefIs.of T.d__law_sort_of sc__law_sort_of (fun vs H Q E h => ?_) (fun f cdv A outer s H vs Q E hr h => ?_)
  · obtain ⟨_, _, _, rfl, _⟩ := h
    rfl
  obtain ⟨v, ks, x, rfl, ⟨a, us, rfl, hau, hR⟩, q⟩ := h
  have nd := sc__law_sort_of.nd
  refine ⟨_, (pss_cons (ps_for PassesOwn.never rfl (pi_or (pi_list (pv 0)) (pi_tup (pv 0))) (pg_tup rfl (pgs_cons (pg_name (i := 2) nd rfl (by first | exact Or.inl rfl | exact Or.inr rfl)) (pgs_cons (pg_name (i := 3) nd rfl (by first | exact Or.inl rfl | exact Or.inr rfl)) (pgs_cons (pg_name (i := 4) nd rfl (by first | exact Or.inl rfl | exact Or.inr rfl)) pgs_nil))))
      (pss_one (ps_if (pt_cmpR op_eq (pv 2) (pv 1) (nomark _)) (pss_one (ps_ret (pe_tup (pa_cons (pv 3) (pa_cons (pv 4) pa_nil star_name) star_name)))) pss_nil)))
      (pss_one (ps_ret (pe_tup (pa_cons pe_str (pa_cons (pe_tup pa_nil) pa_nil star_tup) star_const))))), ?_⟩
  have hl := hR.length
  rw [List.length_map] at hl
  have turn : ∀ (i : Nat) (v : V), us[i]? = some v → (ks.take i).find? (fun k => decide (k.name = x)) = none → ∃ k b pv, ks[i]? = some k ∧ v = .ref b ∧ H b = some (.tup [.str k.name, .str k.sort, pv]) ∧ RelD H pv (dParts k.parts) := fun i v hv hn => by
    obtain ⟨d, hd, rd⟩ := hR.get hv
    rw [List.getElem?_map] at hd
    obtain ⟨k, hk', rfl⟩ := Option.map_eq_some_iff.mp hd
    obtain ⟨b, ws, rfl, hb, _, _, rfl, rfl, _, _, rfl, rfl, v3, _, rfl, r3, rfl⟩ := rd
    exact ⟨k, b, v3, hk', rfl, hb, r3⟩
  rcases hau with ha | ha
  case' inl =>
    refine .inl ⟨_, rfl, a, rfl, ⟨_, SqL.of ha⟩, ?_⟩
    refine for_list (xs := us) (fun i σ H' => ∃ o2 o3 o4, σ = [some (.ref a), some (.str x), o2, o3, o4] ∧ H' = H ∧ (ks.take i).find? (fun k => decide (k.name = x)) = none) ⟨none, none, none, rfl, rfl, rfl⟩ (fun i σ H' _ p => by obtain ⟨_, _, _, _, rfl, _⟩ := p; exact SqL.of ha) ?_ ?_
  case' inr =>
    refine .inr ⟨_, rfl, a, rfl, ⟨_, SqT.of ha⟩, ?_⟩
    refine for_tup (xs := us) (fun i σ H' => ∃ o2 o3 o4, σ = [some (.ref a), some (.str x), o2, o3, o4] ∧ H' = H ∧ (ks.take i).find? (fun k => decide (k.name = x)) = none) ⟨none, none, none, rfl, rfl, rfl⟩ (fun i σ H' _ p => by obtain ⟨_, _, _, _, rfl, _⟩ := p; exact SqT.of ha) ?_ ?_
  all_goals first
    | (rintro i v σ H' hv ⟨o2, o3, o4, rfl, rfl, hn⟩
       obtain ⟨k, b, pv, hk', rfl, hb, r3⟩ := turn i v hv hn
       refine ⟨b, _, rfl, SqT.of hb, rfl, _, _, rfl, _, _, rfl, _, _, rfl, rfl, ?_⟩
       refine ⟨_, rfl, _, rfl, rfl, _, rfl, ite2 (fun c => ?_) (fun c => ?_)⟩
       · have e : k.name = x := V.str.inj (of_decide_eq_true c)
         have e2 : kAt ks x = some k := (find_step hn hk').1 (decide_eq_true e)
         refine ⟨_, rfl, _, rfl, (by show 2 ≤ sizeLine; decide), fun t ht => ?_⟩
         have st := Same.new ht (.tup [.str k.sort, pv])
         rw [e2] at q
         exact q t pv _ st upd_same (r3.same st _)
       · have e : ¬ k.name = x := fun z => c (decide_eq_true (congrArg V.str z))
         exact ⟨_, _, _, rfl, rfl, (find_step hn hk').2 (decide_eq_false e)⟩)
    | (rintro σ H' ⟨o2, o3, o4, rfl, rfl, hn⟩
       rw [List.take_of_length_le (by omega)] at hn
       rw [show kAt ks x = none from hn] at q
       refine ⟨(by show 0 ≤ sizeLine; decide), fun e he => ⟨(by show 2 ≤ sizeLine; decide), fun t ht => ?_⟩⟩
       have se := Same.new he (.tup [])
       have st := Same.new ht (.tup [.str (S "num"), .ref e])
       exact q t (.ref e) _ (se.trans st) upd_same ⟨e, [], rfl, st _ _ upd_same, rfl⟩)
theorem ok__law_size (T : Tx K mg) (spc : Sp) (D__law_sort_of : DefIs P w K mg base n "_law_sort_of" ["_law_kinds_here", "_law_kind"] spLSort) (D__law_size : DefIs P w K mg base n "_law_size" ["_law_kinds_here", "_law_kind"] spc) (hspc : ∀ j, m = j + 1 → spc = spSize j) (hm : m ≤ 6) :
  DefIs P w K mg base (n + 1) "_law_size" ["_law_kinds_here", "_law_kind"] (spSize m) := by
 refine DefIs.of T.d__law_size sc__law_size (fun vs H Q E h => ?_) (fun f cdv A outer s H vs Q E hr h => ?_)
 ·obtain ⟨_, _, _, rfl, _⟩ := h
  rfl
 obtain ⟨v, ks, x, rfl, hk, wf, hin, q⟩ := h
 have nd := sc__law_size.nd
 refine ⟨_, (pss_cons (ps_asg (pe_dcall D__law_sort_of hr (pa_cons (pv 0) (pa_cons (pv 1) pa_nil star_name) star_name)) (pg_tup rfl (pgs_cons (pg_name (i := 2) nd rfl (by first | exact Or.inl rfl | exact Or.inr rfl)) (pgs_cons (pg_name (i := 3) nd rfl (by first | exact Or.inl rfl | exact Or.inr rfl)) pgs_nil))))
   (pss_cons (ps_setComp (i := 4) ["_law_name", "_law_part", "_law_kinds_here"] [none, none, some 0] rfl (by kernel_rfl) nd rfl (by first | exact Or.inl rfl | exact Or.inr rfl) (pi_tup (pv 3)) (fun _ _ _ _ => (pg_tupC (K := K) (n := 2) rfl rfl (pgs_cons (pg_name (i := 0) (by show List.Nodup (["_law_name", "_law_part", "_law_kinds_here"] : List Str); decide +kernel) rfl (Or.inl rfl)) (pgs_cons (pg_name (i := 1) (by show List.Nodup (["_law_name", "_law_part", "_law_kinds_here"] : List Str); decide +kernel) rfl (Or.inl rfl)) pgs_nil)))) (fun _ _ _ _ => pts_nil) (fun _ _ _ _ => (pe_dcall D__law_size hr (pa_cons (pv 2) (pa_cons (pv 1) pa_nil star_name) star_name))))
   (pss_cons (ps_if (pt_cmpR op_eq (pv 2) pe_str (nomark _)) (pss_one (ps_ret (pe_op op_add pe_int (pe_callB (call_maxL rfl) rfl T.z_max PyProof.Rows.boot_max (pa_cons (pv 4) pa_nil star_name))))) pss_nil)
   (pss_one (ps_ret (pe_op op_add pe_int (pe_callB (call_sumL rfl) rfl T.z_sum PyProof.Rows.boot_sum (pa_cons (pv 4) pa_nil star_name)))))))), ?_⟩
 refine ⟨_, rfl, _, rfl, v, ks, x, rfl, hk, fun t pv H1 s1 ht rp => ?_⟩
 refine ⟨t, _, rfl, SqT.of ht, rfl, _, _, rfl, _, _, rfl, rfl, ?_⟩
 have key : ∃ ps : List (Str × Str), partsD (kAt ks x) = dParts ps ∧ ps.length ≤ 5 ∧ (∀ p ∈ ps, ∃ j, m = j + 1 ∧ KIn ks j p.2) ∧ (sortS (kAt ks x) = S "alt" → ps ≠ [] ∧ szF (m + 1) ks x = 1 + maxD (ps.map fun p => szF m ks p.2)) ∧
   (sortS (kAt ks x) ≠ S "alt" → szF (m + 1) ks x = 1 + (ps.map fun p => szF m ks p.2).sum) := by
  cases hx : kAt ks x with
  | none =>
   refine ⟨[], rfl, by decide, (fun _ h => nomatch h), (fun h => absurd h (by decide +kernel)), fun _ => ?_⟩
   unfold szF
   rw [hx]
   rfl
  | some k =>
   have hmem : k ∈ ks := List.mem_of_find?_eq_some hx
   have hname : k.name = x := by
    have := List.find?_some hx
    simpa using this
   refine ⟨k.parts, rfl, wf.pts k hmem, fun p hp => ?_, fun h => ?_, fun h => ?_⟩
   ·rcases hin with rfl | ⟨j, k', hj, hk', e⟩
    ·exact absurd hname (name_ne_num (wf.nm k hmem))
    ·have e2 : kAt ks k'.name = some k' := wf.at hk'
     rw [e, hx] at e2
     cases e2
     refine ⟨m - 1, by omega, ?_⟩
     rcases wf.ref j k hk' p hp with z | ⟨i, k2, hi, z⟩
     ·exact .inl z
     ·exact .inr ⟨i, k2, by omega, z⟩
   ·have hrc : k.rc = false := by
     cases hc : k.rc with
     | false => rfl
     | true =>
      have : k.sort = S "alt" := h
      unfold Kn.sort at this
      rw [hc, if_pos rfl] at this
      exact absurd this (by decide +kernel)
    refine ⟨wf.alt k hmem hrc, ?_⟩
    conv => lhs; unfold szF
    rw [hx]
    show 1 + (if k.rc = true then _ else _) = _
    rw [if_neg (by rw [hrc]; decide)]
   ·have hrc : k.rc = true := by
     cases hc : k.rc with
     | true => rfl
     | false =>
      refine absurd ?_ h
      show k.sort = S "alt"
      unfold Kn.sort
      rw [hc, if_neg (by decide)]
    conv => lhs; unfold szF
    rw [hx]
    show 1 + (if k.rc = true then _ else _) = _
    rw [if_pos hrc]
 obtain ⟨ps, eps, h5, hpin, halt, hrec⟩ := key
 rw [eps] at rp
 obtain ⟨e, us, rfl, he, hus⟩ := rp
 have hl := hus.length
 rw [List.length_map] at hl
 refine ⟨_, rfl, e, rfl, ⟨_, SqT.of he⟩, ?_⟩
 refine comp_tupG (xs := us) (fun i ys H' => Same H1 H' ∧ ys = ((ps.take i).map fun p => szF m ks p.2).map V.int) ⟨Same.refl _, rfl⟩ (fitsLt (by omega)) (fun i ys H' _ p => SqT.of (p.1 _ _ he)) ?_ ?_
 ·rintro i z ys H' hz hi hly ⟨sm, rfl⟩
  obtain ⟨d, hd, rd⟩ := hus.get hz
  rw [List.getElem?_map] at hd
  obtain ⟨p, hp, rfl⟩ := Option.map_eq_some_iff.mp hd
  obtain ⟨b, ws, rfl, hb, _, _, rfl, rfl, _, _, rfl, rfl, rfl⟩ := rd
  obtain ⟨j, rfl, hj⟩ := hpin p (List.mem_of_getElem? hp)
  have D' := hspc j rfl
  subst D'
  refine ⟨b, _, rfl, SqT.of (sm _ _ hb), rfl, _, _, rfl, _, _, rfl, rfl, ext2 rfl rfl, yes_go ?_⟩
  refine ⟨_, rfl, _, rfl, _, ks, p.2, rfl, hk.same (s1.trans sm), wf, hj, fun H2 s2 => nxtG hi hly ⟨sm.trans s2, ?_⟩⟩
  rw [List.take_add_one, hp]
  simp
 ·rintro ys H' hly ⟨sm, rfl⟩ D hD
  rw [List.take_of_length_le (by omega)]
  have sD := Same.new hD (.lst ((ps.map fun p => szF m ks p.2).map V.int))
  have sAll := s1.trans (sm.trans sD)
  have hb : ∀ n ∈ ps.map (fun p => szF m ks p.2), 0 ≤ n ∧ n ≤ 1000000 := fun n hn => by
   obtain ⟨p, _, rfl⟩ := List.mem_map.mp hn
   have h1 := szF_bound wf.pts m p.2
   have h2 : (6 : Int) ^ m ≤ 6 ^ 6 := by
    rcases (show m = 0 ∨ m = 1 ∨ m = 2 ∨ m = 3 ∨ m = 4 ∨ m = 5 ∨ m = 6 by omega) with h | h | h | h | h | h | h <;> subst h <;> decide
   have h3 : (6 : Int) ^ 6 = 46656 := by decide
   omega
  refine ⟨_, rfl, rfl, _, rfl, ite2 (fun c => ?_) (fun c => ?_)⟩
  ·obtain ⟨hne, ez⟩ := halt (V.str.inj (of_decide_eq_true c))
   refine ⟨_, rfl, D, _, rfl, SqL.of upd_same, (fun z => hne (List.map_eq_nil_iff.mp z)), fun mx h1 h2 => ⟨_, _, rfl, rfl, ?_⟩⟩
   have := q _ sAll
   rw [ez, ← maxD_is (fun z => hne (List.map_eq_nil_iff.mp z)) (fun n hn => (hb n hn).1) h1 h2] at this
   exact this
  ·have ez := hrec (fun z => c (decide_eq_true (congrArg V.str z)))
   refine ⟨_, rfl, D, _, rfl, SqL.of upd_same, hb, by rw [List.length_map]; omega, _, _, rfl, rfl, ?_⟩
   have := q _ sAll
   rw [ez] at this
   exact this
theorem size_is (T : Tx K mg) : ∀ m, m ≤ 6 → DefIs P w K mg base (m + 2) "_law_size" ["_law_kinds_here", "_law_kind"] (spSize m)
 | 0, h => ok__law_size (n := 1) T (fun _ _ _ _ => False) (ok__law_sort_of T) (DefIs.none T.d__law_size fun _ _ _ _ h => h) (fun j e => by cases e) h
 | m + 1, h => ok__law_size (n := m + 2) T (spSize m) (ok__law_sort_of T) (size_is T m (by omega)) (fun j e => by cases e; rfl) h
end
end K41
end
section
namespace K41
open PySem L2 M
seal L2.PE L2.PA L2.PS L2.PSs L2.PT L2.PW L2.PI L2.PG L2.PJ L2.PTs
def spParts : Sp := fun vs H Q _ => ∃ (f l nb : Addr) (srt : Str) (p q : Int) (ws : List V) (ks : List Kn) (n4 : List Str), vs = [.ref f, .ref l, .str srt, .ref nb] ∧ H f = some (.lst [.int p, .int q]) ∧ H l = some (.lst ws) ∧ RelDs H ws (ks.map Kn.d) ∧ KWf ks ∧
 H nb = some (.lst (n4.map V.str)) ∧ n4.length = 4 ∧ (srt = S "rec" ∨ srt = S "alt") ∧ l ≠ f ∧ nb ≠ f ∧
 ∀ v ps (H' : Hp), Fed f H H' → RelD H' v (dParts ps) → ps.length ≤ 4 → ps.map (·.1) = n4.take ps.length → (srt = S "alt" → ps ≠ []) → (∀ p ∈ ps, KIn ks ks.length p.2) → (ps.map fun p => sz ks p.2).sum ≤ 29 → Q v H'
theorem if_asg {D : Ends} {σ : St} {H : Hp} {c : Bool} {B : Prop} {i : Nat} {v x : V} (σk : V → St) (h1 : σ.set i (some v) = σk v) (h2 : σ = σk x) (hB : D.nx σ H → B) (h : ∀ y, (y = v ∨ (y = x ∧ c = false)) → D.nx (σk y) H) : if c = true then tAsg (tC v) (gName i) D σ H else B := by
 cases c with
 | false => exact hB (by rw [h2]; exact h x (.inr ⟨rfl, rfl⟩))
 | true =>
  show D.nx (σ.set i (some v)) H
  rw [h1]
  exact h v (.inl rfl)
theorem and2 {tb : TE} {σ : St} {H : Hp} {Q : VK} {c cA : Bool} (hA : Q (.bl cA) H → tb σ H Q) (h : ∀ b : Bool, (b = true → cA = true) → Q (.bl b) H) : if c = true then tb σ H Q else Q (.bl false) H := by
 cases c with
 | false => exact h false (fun e => by cases e)
 | true => exact hA (h cA id)
theorem maxD_sum : ∀ {ns : List Int}, (∀ n ∈ ns, 0 ≤ n) → maxD ns ≤ ns.sum ∧ 0 ≤ ns.sum
 | [], _ => ⟨Int.le_refl _, Int.le_refl _⟩
 | n :: ns, h => by
  have h1 := h n (by simp)
  have h2 := maxD_sum (ns := ns) fun m hm => h m (by simp [hm])
  rw [List.sum_cons]
  show max n (maxD ns) ≤ _ ∧ _
  omega
theorem inSz_sum {ks : List Kn} (wf : KWf ks) {x : Str} {b : Bool} {ps : List (Str × Str)} (h : (ps.map fun p => sz ks p.2).sum ≤ 29) : inSz (Kn.mk x b ps) (sz ks) ≤ 29 := by
 have := maxD_sum (ns := ps.map fun p => sz ks p.2) fun n hn => by
  obtain ⟨p, _, rfl⟩ := List.mem_map.mp hn
  have := sz_ge wf p.2
  omega
 unfold inSz
 show (if b = true then (ps.map fun p => sz ks p.2).sum else maxD (ps.map fun p => sz ks p.2)) ≤ 29
 split <;> omega
section
variable {P : Program} {w : World} {K : PySem.W.Frag} {mg : Str → Option Value} {base : Heap} {n m : Nat}
theorem ok__law_parts (T : Tx K mg) (D__law_take : DefIs P w K mg base n "_law_take" ["_law_feed_here", "_law_many"] spTake) (D__law_size : DefIs P w K mg base n "_law_size" ["_law_kinds_here", "_law_kind"] (spSize 6)) : DefIs P w K mg base (n + 1) "_law_parts" ["_law_feed_here", "_law_kinds_here", "_law_sort", "_law_names_here"] spParts := by
  refine DefIs.of T.d__law_parts sc__law_parts (fun vs H Q E h => ?_) (fun f cdv A outer s H vs Q E hr h => ?_)
  · obtain ⟨_, _, _, _, _, _, _, _, _, rfl, _⟩ := h
    rfl
  obtain ⟨f', l, nb, srt, p, q, ws, ks, n4, rfl, hf, hl, hws, wf, hnb, h4, hs, lf, nf, k⟩ := h
  have nd := sc__law_parts.nd
  refine ⟨_, (pss_cons (ps_set (i := 4) nd rfl (by first | exact Or.inl rfl | exact Or.inr rfl) (pe_lst pa_nil))
      (pss_cons (ps_set (i := 5) nd rfl (by first | exact Or.inl rfl | exact Or.inr rfl) pe_int)
      (pss_cons (ps_for PassesOwn.never rfl (pi_range1 rfl T.z_range (pa_cons (pe_op op_add (pe_op op_add (pe_dcall D__law_take hr (pa_cons (pv 0) (pa_cons pe_int pa_nil star_const) star_name)) (pe_callTy call_int1 rfl T.z_int PyProof.Rows.boot_int (pa_cons (pe_cmpR op_eq (pv 2) pe_str (nomark _)) pa_nil star_cmp))) (pe_callTy call_int1 rfl T.z_int PyProof.Rows.boot_int (pa_cons (pe_and (pe_cmpR op_eq (pe_dcall D__law_take hr (pa_cons (pv 0) (pa_cons pe_int pa_nil star_const) star_name)) pe_int (nomark _)) (pe_one (pe_cmpR op_eq (pv 2) pe_str (nomark _)))) pa_nil star_bool))) pa_nil star_bin)) (pg_name (i := 6) nd rfl (by first | exact Or.inl rfl | exact Or.inr rfl))
      (pss_cons (ps_set (i := 7) nd rfl (by first | exact Or.inl rfl | exact Or.inr rfl) (pe_ix ix_list (pe_op op_cat (pe_lst (pa_cons pe_str pa_nil star_const)) (pe_comp ["_law_row"] [none] rfl (by kernel_rfl) (pi_list (pv 1)) (fun _ _ _ _ => (pg_name (i := 0) (by show List.Nodup (["_law_row"] : List Str); decide +kernel) rfl (Or.inl rfl))) (fun _ _ _ _ => pts_nil) (fun _ _ _ _ => (pe_ix (ix_tupC (K := K) rfl) (pv 0) pe_int (fun _ _ => rfl))))) (pe_dcall D__law_take hr (pa_cons (pv 0) (pa_cons (pe_op op_add pe_int (pe_callB call_len_seq rfl T.z_len PySem.boot_len (pa_cons (pv 1) pa_nil star_name))) pa_nil star_bin) star_name)) (fun _ _ => rfl)))
      (pss_cons (ps_if (pt_cmpR op_gt (pe_dcall D__law_size hr (pa_cons (pv 1) (pa_cons (pv 7) pa_nil star_name) star_name)) (pv 5) (nomark _)) (pss_one (ps_set (i := 7) nd rfl (by first | exact Or.inl rfl | exact Or.inr rfl) pe_str)) pss_nil)
      (pss_cons (ps_set (i := 5) nd rfl (by first | exact Or.inl rfl | exact Or.inr rfl) (pe_op op_sub (pv 5) (pe_dcall D__law_size hr (pa_cons (pv 1) (pa_cons (pv 7) pa_nil star_name) star_name))))
      (pss_one (ps_expr (pe_bm PySem.F.plainAttrs_list PySem.F.slot_list_append PySem.F.type_list_append mt_append (pv 4) (pa_cons (pe_tup (pa_cons (pe_ix ix_list (pv 3) (pv 6) (fun _ _ => rfl)) (pa_cons (pv 7) pa_nil star_name) star_sub)) pa_nil star_tup))))))))
      (pss_one (ps_ret (pe_callTy call_tuple_of rfl T.z_tuple PyProof.Rows.boot_tuple (pa_cons (pe_slice sl_list (pv 4) po_none (po_some pe_int)) pa_nil star_sub))))))), ?_⟩
  refine ⟨(by show 0 ≤ sizeLine; decide), fun pl hpl => ?_⟩
  have s0 := Same.new hpl (.lst [])
  have plf : pl ≠ f' := Ne.symm (ne_of_none hf hpl)
  have hfew := wf.few
  have hwl := hws.length
  rw [List.length_map] at hwl
  refine ⟨_, rfl, f', p, q, 4, rfl, s0 _ _ hf, by decide, by decide, fun r1 H1 r10 r11 f1 => ?_⟩
  obtain ⟨p1, q1, h1⟩ := f1.2
  have F1 : Fed f' H H1 := ⟨s0.but.trans f1.1, f1.2⟩
  have hp1 : H1 pl = some (.lst []) := f1.1 _ _ upd_same plf
  have hAB : ∃ cA cB : Bool, decide (V.str srt = V.str (S "rec")) = cA ∧ decide (V.str srt = V.str (S "alt")) = cB ∧ 0 ≤ (if cA = true then (1 : Int) else 0) ∧ 0 ≤ (if cB = true then (1 : Int) else 0) ∧ (if cA = true then (1 : Int) else 0) + (if cB = true then (1 : Int) else 0) ≤ 1 ∧ (srt = S "alt" → (if cB = true then (1 : Int) else 0) = 1) := by
    rcases hs with rfl | rfl
    · exact ⟨true, false, by decide +kernel, by decide +kernel, by decide, by decide, by decide, fun e => absurd e (by decide +kernel)⟩
    · exact ⟨false, true, by decide +kernel, by decide +kernel, by decide, by decide, by decide, fun _ => rfl⟩
  obtain ⟨cA, cB, eA, eB, hb0, hb1, hb2, hbA⟩ := hAB
  refine ⟨_, rfl, rfl, .inr ⟨cB, congrArg (fun b => [V.bl b]) eB, r1, (if cB = true then 1 else 0), rfl, rfl, ?_⟩⟩
  refine ⟨_, rfl, f', p1, q1, 9, rfl, h1, by decide, by decide, fun r2 H2 r20 r21 f2 => ⟨rfl, _, rfl, and2 (cA := decide (V.str srt = V.str (S "rec"))) (fun z => ⟨_, rfl, rfl, z⟩) (fun b hb => ?_)⟩⟩
  rw [eA] at hb
  have hbb : 0 ≤ (if b = true then (1 : Int) else 0) ∧ (if b = true then (1 : Int) else 0) ≤ (if cA = true then (1 : Int) else 0) := by
    cases b with
    | false => exact ⟨Int.le_refl _, hb0⟩
    | true => rw [hb rfl]; exact ⟨by decide, by decide⟩
  refine .inr ⟨b, rfl, _, (if b = true then 1 else 0), rfl, rfl, _, rfl, by omega, by omega, ?_⟩
  all_goals
      have F2 : Fed f' H H2 := F1.trans f2
      have hp2 : H2 pl = some (.lst []) := f2.1 _ _ hp1 plf
      refine for_range (fun i σ H' => ∃ us, ∃ ps : List (Str × Str), ∃ left o6 o7, σ = [some (.ref f'), some (.ref l), some (.str _), some (.ref nb), some (.ref pl), some (.int left), o6, o7] ∧ Fed f' H H' ∧ H' pl = some (.lst us) ∧ RelDs H' us (ps.map dPart) ∧ ps.length = i ∧ ps.map (·.1) = n4.take i ∧ (∀ p ∈ ps, KIn ks ks.length p.2) ∧ (ps.map fun p => sz ks p.2).sum + left = 25 ∧ -(i : Int) ≤ left)
        ⟨[], [], 25, none, none, rfl, F2, hp2, rfl, rfl, rfl, (fun _ h => nomatch h), rfl, by decide⟩ ?_ ?_
      · rintro i σ H3 hi ⟨us, ps, left, o6, o7, rfl, F, hpu, hus, hpl', hpn, hin, hsum, hleft⟩
        have hi4 : i < 4 := by omega
        obtain ⟨p3, q3, h3⟩ := F.2
        have hl3 := F.1 l _ hl lf
        have hn3 := F.1 nb _ hnb nf
        have hws3 := hws.tups (fed_tups ⟨p, q, hf⟩ F) _
        refine ⟨(by show 1 ≤ sizeLine; decide), fun l1 hl1 => ?_⟩
        have s1 := Same.new hl1 (.lst [.str (S "num")])
        refine ⟨_, rfl, l, rfl, ⟨_, SqL.of (s1 _ _ hl3)⟩, ?_⟩
        refine comp_list (j := 0) (xs := ws) (fun i ys H' => H' = upd H3 l1 (.lst [.str (S "num")]) ∧ ys = ((ks.take i).map Kn.name).map V.str) (by rfl) ⟨rfl, rfl⟩ (fitsLt (by omega)) (fun i ys H' _ p => by obtain ⟨rfl, _⟩ := p; exact SqL.of (s1 _ _ hl3)) ?_ ?_
        · rintro i' x ys H' hx hly ⟨rfl, rfl⟩
          obtain ⟨d, hd, rd⟩ := (hws3.same s1 _).get hx
          rw [List.getElem?_map] at hd
          obtain ⟨k', hk', rfl⟩ := Option.map_eq_some_iff.mp hd
          obtain ⟨b, vs', rfl, hb, _, _, rfl, rfl, _, _, rfl, rfl, v3, _, rfl, r3, rfl⟩ := rd
          have hi' : i' < ws.length := (List.getElem?_eq_some_iff.mp hx).1
          refine ⟨_, rfl, b, _, _, _, rfl, rfl, SqT.of hb, rfl, nxt hi' hly ⟨rfl, ?_⟩⟩
          rw [List.take_add_one, hk']
          simp
        rintro ys H' hly ⟨rfl, rfl⟩ D2 hD2
        rw [List.take_of_length_le (by omega)]
        have s2 := Same.new hD2 (.lst ((ks.map Kn.name).map V.str))
        refine ⟨l1, D2, _, _, rfl, rfl, s2 _ _ upd_same, upd_same, fits (by rw [List.length_map, List.length_map]; show 1 + _ ≤ _; omega), fun l3 hl3' => ?_⟩
        have s3 := Same.new hl3' (.lst ([.str (S "num")] ++ (ks.map Kn.name).map V.str))
        have s13 := s1.trans (s2.trans s3)
        have l3f : l3 ≠ f' := Ne.symm (ne_of_none (s2 _ _ (s1 _ _ h3)) hl3')
        refine ⟨_, rfl, _, rfl, l, _, rfl, .inl (SqL.of (s13 _ _ hl3)), _, _, rfl, rfl, ?_⟩
        refine ⟨f', p3, q3, _, rfl, s13 _ _ h3, by omega, by omega, fun r H4 r0 r1' f4 => ?_⟩
        rw [hwl] at r1'
        obtain ⟨x, hx, hxin⟩ := names_at r0 r1'
        have hl34 : H4 l3 = some (.lst ([.str (S "num")] ++ (ks.map Kn.name).map V.str)) := f4.1 _ _ upd_same l3f
        refine ⟨l3, _, _, _, rfl, rfl, SqL.of hl34, hx, ?_⟩
        have F4 : Fed f' H H4 := (F.same s13).trans f4
        have hpu4 := f4.1 _ _ (s13 _ _ hpu) plf
        have hus4 := (hus.same s13 _).tups (fed_tups ⟨p3, q3, s13 _ _ h3⟩ f4) _
        have hl4 := F4.1 l _ hl lf
        have hn4 := F4.1 nb _ hnb nf
        have hws4 := hws.tups (fed_tups ⟨p, q, hf⟩ F4) _
        have seq4 : KsSeq H4 (.ref l) ks := ⟨l, ws, rfl, .inl hl4, hws4⟩
        refine ⟨_, rfl, _, rfl, _, ks, x, rfl, seq4, wf, hxin.mono hfew, fun H5 s5 => ⟨_, rfl, _, _, rfl, rfl, _, rfl, if_asg (x := .str x) (fun y => [some (.ref f'), some (.ref l), some (.str srt), some (.ref nb), some (.ref pl), some (.int left), some (.int (0 + (i : Int))), some y]) rfl rfl id (fun y hy => ?_)⟩⟩
        obtain ⟨kd, rfl, hx', hkl⟩ : ∃ kd, y = .str kd ∧ KIn ks ks.length kd ∧ -((i : Int) + 1) ≤ left - sz ks kd := by
          rcases hy with rfl | ⟨rfl, hcf⟩
          · exact ⟨S "num", rfl, .inl rfl, by have h1 : sz ks (S "num") = 1 := sz_num wf
                                              omega⟩
          · refine ⟨_, rfl, hxin, ?_⟩
            have h0 : ¬ left < sz ks x := of_decide_eq_false hcf
            omega
        · refine ⟨_, rfl, _, rfl, _, rfl, _, ks, kd, rfl, seq4.same s5, wf, hx'.mono hfew, fun H6 s6 => ⟨_, _, rfl, rfl, ?_⟩⟩
          have s56 := s5.trans s6
          have hpu6 := s56 _ _ hpu4
          have hi4' : i < n4.length := by omega
          refine ⟨_, rfl, .inl ⟨rfl, _, SqL.of hpu6⟩, _, rfl, _, rfl, nb, _, _, _, rfl, rfl, SqL.of (s56 _ _ hn4), strs_get hi4', _, rfl, (by show 2 ≤ sizeLine; decide), fun t ht => ?_⟩
          have s47 : ∀ o, Same H4 (upd H6 t o) := fun o => s56.trans (Same.new ht o)
          have hul := hus.length
          rw [List.length_map] at hul
          refine ⟨pl, us, _, rfl, rfl, s47 _ _ _ hpu4, fitsLt (by omega), ?_⟩
          refine ⟨_, ps ++ [(n4[i], kd)], _, _, _, rfl, Fed.put (F4.same (s47 _)) hpl plf _, upd_same, ?_, by rw [List.length_append, List.length_singleton, hpl'], ?_, fun z hz => ?_, ?_, by push_cast; exact hkl⟩
          · rw [List.map_append]
            refine RelDs.append ((hus4.same (s47 _) _).tups (lst_tups (s47 _ _ _ hpu4) _) _) ?_
            exact ⟨_, [], rfl, ⟨t, _, rfl, lst_tups (s47 _ _ _ hpu4) _ _ _ upd_same, _, _, rfl, rfl, _, _, rfl, rfl, rfl⟩, rfl⟩
          · rw [List.map_append, hpn, List.take_add_one, List.getElem?_eq_getElem hi4']
            rfl
          · rcases List.mem_append.mp hz with hz | hz
            · exact hin z hz
            · rw [List.mem_singleton.mp hz]; exact hx'
          · show ((ps ++ [(n4[i], kd)]).map fun p => sz ks p.2).sum + (left - sz ks kd) = 25
            rw [List.map_append, List.sum_append]
            simp only [List.map_cons, List.map_nil, List.sum_cons, List.sum_nil]
            omega
      · rintro σ H3 ⟨us, ps, left, o6, o7, rfl, F, hpu, hus, hpl', hpn, hin, hsum, hleft⟩
        have hul := hus.length
        rw [List.length_map] at hul
        refine ⟨_, rfl, _, rfl, pl, us, rfl, SqL.of hpu, fun c2 hc2 => ?_⟩
        have ecut : cutV us none (some 4) = us := by
          unfold cutV
          rw [show HT.sIx us.length 0 none = 0 from rfl, List.drop_zero, Nat.sub_zero]
          refine List.take_of_length_le ?_
          unfold HT.sIx
          simp
          omega
        have s1 := Same.new hc2 (.lst (cutV us none (some 4)))
        refine ⟨c2, _, rfl, .inl ⟨SqL.of upd_same, fun t ht => ?_⟩⟩
        have s2 := Same.new ht (.tup (cutV us none (some 4)))
        refine k _ ps _ (F.same (s1.trans s2)) ⟨t, us, rfl, by rw [ecut]; exact upd_same, hus.same (s1.trans s2) _⟩ (by omega) (by rw [hpl']; exact hpn) ?_ hin (by omega)
        intro ha e
        have h9 := hbA ha
        rw [e] at hpl'
        simp only [List.length_nil] at hpl'
        omega
def spKinds : Sp := fun vs H Q _ => ∃ (f nb : Addr) (p q : Int) (nms : List Str), vs = [.ref f, .ref nb] ∧ H f = some (.lst [.int p, .int q]) ∧ H nb = some (.lst (nms.map V.str)) ∧ NmsOk nms ∧ nb ≠ f ∧ ∀ v ks (H' : Hp), Fed f H H' → RelD H' v (dKinds ks) → KOver nms ks → Fit ks → Q v H'
theorem ok__law_kinds (T : Tx K mg) (D__law_take : DefIs P w K mg base n "_law_take" ["_law_feed_here", "_law_many"] spTake) (D__law_parts : DefIs P w K mg base n "_law_parts" ["_law_feed_here", "_law_kinds_here", "_law_sort", "_law_names_here"] spParts) : DefIs P w K mg base (n + 1) "_law_kinds" ["_law_feed_here", "_law_names_here"] spKinds := by
 refine DefIs.of T.d__law_kinds sc__law_kinds (fun vs H Q E h => ?_) (fun f cdv A outer s H vs Q E hr h => ?_)
 ·obtain ⟨_, _, _, _, _, rfl, _⟩ := h
  rfl
 obtain ⟨f', nb, p, q, nms, rfl, hf, hnb, hok, nf, k⟩ := h
 have nd := sc__law_kinds.nd
 refine ⟨_, (pss_cons (ps_set (i := 2) nd rfl (by first | exact Or.inl rfl | exact Or.inr rfl) (pe_lst pa_nil))
   (pss_cons (ps_for PassesOwn.never rfl (pi_range1 rfl T.z_range (pa_cons (pe_dcall D__law_take hr (pa_cons (pv 0) (pa_cons pe_int pa_nil star_const) star_name)) pa_nil star_call)) (pg_name (i := 3) nd rfl (by first | exact Or.inl rfl | exact Or.inr rfl))
   (pss_cons (ps_set (i := 4) nd rfl (by first | exact Or.inl rfl | exact Or.inr rfl) (pe_ix ix_list (pe_lst (pa_cons pe_str (pa_cons pe_str pa_nil star_const) star_const)) (pe_dcall D__law_take hr (pa_cons (pv 0) (pa_cons pe_int pa_nil star_const) star_name)) (fun _ _ => rfl)))
   (pss_one (ps_expr (pe_bm PySem.F.plainAttrs_list PySem.F.slot_list_append PySem.F.type_list_append mt_append (pv 2) (pa_cons (pe_tup (pa_cons (pe_ix ix_list (pv 1) (pv 3) (fun _ _ => rfl)) (pa_cons (pv 4) (pa_cons (pe_dcall D__law_parts hr (pa_cons (pv 0) (pa_cons (pv 2) (pa_cons (pv 4) (pa_cons (pe_slice sl_list (pv 1) (po_some pe_int) (po_some pe_int)) pa_nil star_sub) star_name) star_name) star_name)) pa_nil star_call) star_name) star_sub)) pa_nil star_tup))))))
   (pss_one (ps_ret (pe_callTy call_tuple_of rfl T.z_tuple PyProof.Rows.boot_tuple (pa_cons (pv 2) pa_nil star_name)))))), ?_⟩
 refine ⟨(by show 0 ≤ sizeLine; decide), fun l hl => ?_⟩
 have s0 := Same.new hl (.lst [])
 have lf : l ≠ f' := Ne.symm (ne_of_none hf hl)
 have hlen := hok.1
 refine ⟨_, rfl, f', p, q, 5, rfl, s0 _ _ hf, by decide, by decide, fun r1 H1 r10 r11 f1 => ⟨_, rfl, by omega, by omega, ?_⟩⟩
 have F1 : Fed f' H H1 := ⟨s0.but.trans f1.1, f1.2⟩
 have hp1 : H1 l = some (.lst []) := f1.1 _ _ upd_same lf
 refine for_range (fun i σ H' => ∃ us, ∃ ks : List Kn, ∃ o3 o4, σ = [some (.ref f'), some (.ref nb), some (.ref l), o3, o4] ∧ Fed f' H H' ∧ H' l = some (.lst us) ∧ RelDs H' us (ks.map Kn.d) ∧ ks.length = i ∧ Fit ks ∧ KOver nms ks)
  ⟨[], [], none, none, rfl, F1, hp1, rfl, rfl, Fit.nil, KWf.nil, Nat.zero_le _, rfl, fun _ h => nomatch h⟩ ?_ ?_
 ·rintro i σ H2 hi ⟨us, ks, o3, o4, rfl, F, hlu, hus, hki, hfit, wf, hk4, hkn, hkp⟩
  have hi4 : i < 4 := by omega
  have hul := hus.length
  rw [List.length_map] at hul
  obtain ⟨p2, q2, h2⟩ := F.2
  refine ⟨(by show 2 ≤ sizeLine; decide), fun l1 hl1 => ?_⟩
  have s1 := Same.new hl1 (.lst [.str (S "rec"), .str (S "alt")])
  have l1f : l1 ≠ f' := Ne.symm (ne_of_none h2 hl1)
  refine ⟨_, rfl, f', p2, q2, 2, rfl, s1 _ _ h2, by decide, by decide, fun r H3 r0 r1' f3 => ?_⟩
  have key : ∃ srt : Str, atI [V.str (S "rec"), V.str (S "alt")] r = some (.str srt) ∧ (srt = S "rec" ∨ srt = S "alt") := by
   rcases (show r = 0 ∨ r = 1 by omega) with rfl | rfl
   ·exact ⟨S "rec", rfl, .inl rfl⟩
   ·exact ⟨S "alt", rfl, .inr rfl⟩
  obtain ⟨srt, hat, hsrt⟩ := key
  refine ⟨l1, _, _, _, rfl, rfl, SqL.of (f3.1 _ _ upd_same l1f), hat, ?_⟩
  have F3 : Fed f' H H3 := (F.same s1).trans f3
  obtain ⟨p3, q3, h3⟩ := f3.2
  have hlu3 := f3.1 _ _ (s1 _ _ hlu) lf
  have hus3 := (hus.same s1 _).tups (fed_tups ⟨p2, q2, s1 _ _ h2⟩ f3) _
  have hn3 := F3.1 nb _ hnb nf
  have hin : i < nms.length := by omega
  refine ⟨_, rfl, .inl ⟨rfl, _, SqL.of hlu3⟩, _, rfl, _, rfl, nb, _, _, _, rfl, rfl, SqL.of hn3, strs_get hin, _, rfl, ?_⟩
  refine ⟨_, rfl, _, rfl, _, rfl, _, rfl, _, rfl, _, rfl, nb, _, rfl, SqL.of hn3, fun c hc => ?_⟩
  rw [cut812 hlen]
  have sc := Same.new hc (.lst (((nms.drop 8).take 4).map V.str))
  have cf : c ≠ f' := Ne.symm (ne_of_none h3 hc)
  refine ⟨f', l, c, srt, p3, q3, us, ks, (nms.drop 8).take 4, rfl, sc _ _ h3, sc _ _ hlu3, hus3.same sc _, wf, upd_same, by rw [List.length_take, List.length_drop, hlen]; rfl, hsrt, lf, cf, fun v ps H4 f4 rv h4 hpn halt hpin hsum => ?_⟩
  have F4 : Fed f' H H4 := (F3.same sc).trans f4
  have hlu4 := f4.1 _ _ (sc _ _ hlu3) lf
  have hus4 := (hus3.same sc _).tups (fed_tups ⟨p3, q3, sc _ _ h3⟩ f4) _
  refine ⟨(by show 3 ≤ sizeLine; decide), fun t ht => ?_⟩
  have s5 : ∀ o, Same H4 (upd H4 t o) := fun o => Same.new ht o
  refine ⟨l, us, _, rfl, rfl, s5 _ _ _ hlu4, fitsLt (by omega), ?_⟩
  have hP4 := part4 hok ps.length
  have hsort : (Kn.mk nms[i] (decide (srt = S "rec")) ps).sort = srt := by
   unfold Kn.sort
   rcases hsrt with rfl | rfl
   ·rfl
   ·show (if decide (S "alt" = S "rec") = true then _ else _) = _
    rw [if_neg (by decide +kernel)]
  have hname : ks.map Kn.name = nms.take i := by rw [hkn, hki]
  have w2 : KWf (ks ++ [Kn.mk nms[i] (decide (srt = S "rec")) ps]) := by
   refine wf.snoc ?_ (hok.2.2 _ (List.getElem_mem hin)) hpin ?_ (by omega) (by show ps.length ≤ 5; omega) (by show (ps.map (·.1)).Nodup; rw [hpn]; exact hP4.1) (fun z hz => hP4.2 z.1 (by rw [← hpn]; exact List.mem_map_of_mem hz))
   ·show nms[i] ∉ ks.map Kn.name
    rw [hname]
    exact not_ahead hok.2.1 hin
   ·intro hrc
    refine halt ?_
    rcases hsrt with e | e
    ·exact absurd hrc (by show ¬ decide (srt = S "rec") = false; rw [e]; decide +kernel)
    ·exact e
  refine ⟨_, ks ++ [Kn.mk nms[i] (decide (srt = S "rec")) ps], _, _, rfl, Fed.put (F4.same (s5 _)) hl lf _, upd_same, ?_, by rw [List.length_append, List.length_singleton, hki], hfit.snoc wf w2 hpin (inSz_sum wf hsum), ?_⟩
  ·rw [List.map_append]
   refine RelDs.append ((hus4.same (s5 _) _).tups (lst_tups (s5 _ _ _ hlu4) _) _) ?_
   refine ⟨_, [], rfl, ⟨t, _, rfl, lst_tups (s5 _ _ _ hlu4) _ _ _ upd_same, _, _, rfl, rfl, _, _, rfl, ?_, _, _, rfl, (rv.same (s5 _) _).tups (lst_tups (s5 _ _ _ hlu4) _) _, rfl⟩, rfl⟩
   show V.str srt = V.str _
   rw [hsort]
  ·refine ⟨w2, by rw [List.length_append, List.length_singleton]; omega, ?_, ?_⟩
   ·rw [List.map_append, hname, List.length_append, List.length_singleton, hki, List.take_add_one, List.getElem?_eq_getElem hin]
    rfl
   ·intro z hz
    rcases List.mem_append.mp hz with hz | hz
    ·exact hkp z hz
    ·rw [List.mem_singleton.mp hz]
     exact ⟨h4, hpn⟩
 ·rintro σ H2 ⟨us, ks, o3, o4, rfl, F, hlu, hus, hki, hfit, hK⟩
  refine ⟨_, rfl, l, us, rfl, .inl ⟨SqL.of hlu, fun t ht => ?_⟩⟩
  have s1 := Same.new ht (.tup us)
  exact k _ ks _ (F.same s1) ⟨t, us, rfl, upd_same, hus.same s1 _⟩ hK hfit
end
end K41
end
section
namespace K41
open PySem L2 M
seal L2.PE L2.PA L2.PS L2.PSs L2.PT L2.PW L2.PI L2.PG L2.PJ L2.PTs
def spLNum : Sp := fun vs H Q _ => ∃ (a : Addr) (p q : Int), vs = [.ref a] ∧ H a = some (.lst [.int p, .int q]) ∧ ∀ (i : Int) (H' : Hp), Nm i → Fed a H H' → Q (.int i) H'
section
variable {P : Program} {w : World} {K : PySem.W.Frag} {mg : Str → Option Value} {base : Heap} {n m : Nat}
theorem ok__law_number (T : Tx K mg) (D__law_take : DefIs P w K mg base n "_law_take" ["_law_feed_here", "_law_many"] spTake) : DefIs P w K mg base (n + 1) "_law_number" ["_law_feed_here"] spLNum := by
 refine DefIs.of T.d__law_number sc__law_number (fun vs H Q E h => ?_) (fun f cdv A outer s H vs Q E hr h => ?_)
 ·obtain ⟨a, p, q, rfl, _⟩ := h
  rfl
 obtain ⟨a, p, q, rfl, ha, k⟩ := h
 have nd := sc__law_number.nd
 have e2 : (2 : Int) ^ (32 : Int).toNat = 4294967296 := by decide
 refine ⟨_, (pss_cons (ps_set (i := 1) nd rfl (by first | exact Or.inl rfl | exact Or.inr rfl) (pe_dcall D__law_take hr (pa_cons (pv 0) (pa_cons pe_int pa_nil star_const) star_name)))
   (pss_cons (ps_if (pt_cmpR op_lt (pv 1) pe_int (nomark _)) (pss_one (ps_ret (pe_dcall D__law_take hr (pa_cons (pv 0) (pa_cons pe_int pa_nil star_const) star_name)))) pss_nil)
   (pss_cons (ps_if (pt_cmpR op_eq (pv 1) pe_int (nomark _)) (pss_one (ps_ret (pe_op op_sub (pe_op op_sub (pe_op op_pow pe_int pe_int) pe_int) (pe_dcall D__law_take hr (pa_cons (pv 0) (pa_cons pe_int pa_nil star_const) star_name))))) pss_nil)
   (pss_one (ps_ret (pe_dcall D__law_take hr (pa_cons (pv 0) (pa_cons (pe_op op_pow pe_int pe_int) pa_nil star_bin) star_name))))))), ?_⟩
 refine ⟨_, rfl, a, p, q, 4, rfl, ha, by decide, by decide, fun r1 H1 r10 r11 f1 => ?_⟩
 obtain ⟨p1, q1, h1⟩ := f1.2
 refine ⟨_, rfl, _, _, rfl, rfl, _, rfl, ?_⟩
 refine ite2 (fun c => ?_) (fun c => ?_)
 ·exact ⟨_, rfl, a, p1, q1, 6, rfl, h1, by decide, by decide, fun r2 H2 r20 r21 f2 => k _ _ ⟨r20, by omega⟩ (f1.trans f2)⟩
 refine ⟨_, rfl, rfl, _, rfl, ?_⟩
 refine ite2 (fun c => ?_) (fun c => ?_)
 ·refine ⟨_, _, rfl, rfl, ⟨by decide, by decide, by decide⟩, _, _, rfl, rfl, _, rfl, a, p1, q1, 6, rfl, h1, by decide, by decide, fun r2 H2 r20 r21 f2 => ⟨_, _, rfl, rfl, k _ _ ⟨by omega, by omega⟩ (f1.trans f2)⟩⟩
 ·refine ⟨_, rfl, _, _, rfl, rfl, ⟨by decide, by decide, by decide⟩, a, p1, q1, _, rfl, h1, by omega, by omega, fun r2 H2 r20 r21 f2 => k _ _ ⟨r20, by omega⟩ (f1.trans f2)⟩
end
end K41
end
section
namespace K41
open PySem L2 M
seal L2.PE L2.PA L2.PS L2.PSs L2.PT L2.PW L2.PI L2.PG L2.PJ L2.PTs
def spSortOf : Sp := fun vs H Q _ => ∃ v ks x, vs = [v, .str x] ∧ KsAt H v ks ∧ Q (sortV (kAt ks x)) H
def spPartsOf : Sp := fun vs H Q _ => ∃ v ks x, vs = [v, .str x] ∧ KsAt H v ks ∧ ∀ u H', Same H H' → RelD H' u (partsD (kAt ks x)) → Q u H'
section
variable {P : Program} {w : World} {K : PySem.W.Frag} {mg : Str → Option Value} {base : Heap} {n : Nat}
theorem ok_sort_of (T : Tx K mg) : DefIs P w K mg base (n + 1) "sort_of" ["kinds", "K"] spSortOf := by
 refine DefIs.of T.d_sort_of sc_sort_of (fun vs H Q E h => ?_) (fun f cdv A outer s H vs Q E hr h => ?_)
 ·obtain ⟨_, _, _, rfl, _⟩ := h
  rfl
 obtain ⟨v, ks, x, rfl, hk, q⟩ := h
 have nd := sc_sort_of.nd
 refine ⟨_, (pss_cons (ps_for PassesOwn.never rfl (pi_tup (pv 0)) (pg_tup rfl (pgs_cons (pg_name (i := 2) nd rfl (by first | exact Or.inl rfl | exact Or.inr rfl)) (pgs_cons (pg_name (i := 3) nd rfl (by first | exact Or.inl rfl | exact Or.inr rfl)) (pgs_cons (pg_name (i := 4) nd rfl (by first | exact Or.inl rfl | exact Or.inr rfl)) pgs_nil))))
   (pss_one (ps_if (pt_cmpR op_eq (pv 2) (pv 1) (nomark _)) (pss_one (ps_ret (pv 3))) pss_nil)))
   (pss_one (ps_ret pe_non))), ?_⟩
 obtain ⟨a, us, rfl, ha, hR⟩ := hk.1
 refine ⟨_, rfl, a, rfl, ⟨_, SqT.of ha⟩, ?_⟩
 have hl := hR.length
 rw [List.length_map] at hl
 refine for_tup (xs := us) (fun i σ H' => ∃ o2 o3 o4, σ = [some (.ref a), some (.str x), o2, o3, o4] ∧ H' = H ∧ (ks.take i).find? (fun k => decide (k.name = x)) = none) ⟨none, none, none, rfl, rfl, rfl⟩ (fun i σ H' _ p => ?_) ?_ ?_
 ·obtain ⟨_, _, _, _, rfl, _⟩ := p
  exact SqT.of ha
 ·rintro i v σ H' hv ⟨o2, o3, o4, rfl, rfl, hn⟩
  obtain ⟨d, hd, rd⟩ := hR.get hv
  rw [List.getElem?_map] at hd
  obtain ⟨k, hk', rfl⟩ := Option.map_eq_some_iff.mp hd
  obtain ⟨b, ws, rfl, hb, _, _, rfl, rfl, _, _, rfl, rfl, v3, _, rfl, r3, rfl⟩ := rd
  refine ⟨b, _, rfl, SqT.of hb, rfl, _, _, rfl, _, _, rfl, _, _, rfl, rfl, ?_⟩
  refine ⟨_, rfl, _, rfl, rfl, _, rfl, ite2 (fun c => ?_) (fun c => ?_)⟩
  ·have e : k.name = x := V.str.inj (of_decide_eq_true c)
   have e2 : kAt ks x = some k := (find_step hn hk').1 (decide_eq_true e)
   refine ⟨_, rfl, ?_⟩
   rw [e2] at q
   exact q
  ·have e : ¬ k.name = x := fun z => c (decide_eq_true (congrArg V.str z))
   exact ⟨_, _, _, rfl, rfl, (find_step hn hk').2 (decide_eq_false e)⟩
 ·rintro σ H' ⟨o2, o3, o4, rfl, rfl, hn⟩
  rw [List.take_of_length_le (by omega)] at hn
  rw [show kAt ks x = none from hn] at q
  exact q
theorem ok_parts_of (T : Tx K mg) : DefIs P w K mg base (n + 1) "parts_of" ["kinds", "K"] spPartsOf := by
 refine DefIs.of T.d_parts_of sc_parts_of (fun vs H Q E h => ?_) (fun f cdv A outer s H vs Q E hr h => ?_)
 ·obtain ⟨_, _, _, rfl, _⟩ := h
  rfl
 obtain ⟨v, ks, x, rfl, hk, q⟩ := h
 have nd := sc_parts_of.nd
 refine ⟨_, (pss_cons (ps_for PassesOwn.never rfl (pi_tup (pv 0)) (pg_tup rfl (pgs_cons (pg_name (i := 2) nd rfl (by first | exact Or.inl rfl | exact Or.inr rfl)) (pgs_cons (pg_name (i := 3) nd rfl (by first | exact Or.inl rfl | exact Or.inr rfl)) (pgs_cons (pg_name (i := 4) nd rfl (by first | exact Or.inl rfl | exact Or.inr rfl)) pgs_nil))))
   (pss_one (ps_if (pt_cmpR op_eq (pv 2) (pv 1) (nomark _)) (pss_one (ps_ret (pv 4))) pss_nil)))
   (pss_one (ps_ret (pe_tup pa_nil)))), ?_⟩
 obtain ⟨a, us, rfl, ha, hR⟩ := hk.1
 refine ⟨_, rfl, a, rfl, ⟨_, SqT.of ha⟩, ?_⟩
 have hl := hR.length
 rw [List.length_map] at hl
 refine for_tup (xs := us) (fun i σ H' => ∃ o2 o3 o4, σ = [some (.ref a), some (.str x), o2, o3, o4] ∧ H' = H ∧ (ks.take i).find? (fun k => decide (k.name = x)) = none) ⟨none, none, none, rfl, rfl, rfl⟩ (fun i σ H' _ p => ?_) ?_ ?_
 ·obtain ⟨_, _, _, _, rfl, _⟩ := p
  exact SqT.of ha
 ·rintro i v σ H' hv ⟨o2, o3, o4, rfl, rfl, hn⟩
  obtain ⟨d, hd, rd⟩ := hR.get hv
  rw [List.getElem?_map] at hd
  obtain ⟨k, hk', rfl⟩ := Option.map_eq_some_iff.mp hd
  obtain ⟨b, ws, rfl, hb, _, _, rfl, rfl, _, _, rfl, rfl, v3, _, rfl, r3, rfl⟩ := rd
  refine ⟨b, _, rfl, SqT.of hb, rfl, _, _, rfl, _, _, rfl, _, _, rfl, rfl, ?_⟩
  refine ⟨_, rfl, _, rfl, rfl, _, rfl, ite2 (fun c => ?_) (fun c => ?_)⟩
  ·have e : k.name = x := V.str.inj (of_decide_eq_true c)
   have e2 : kAt ks x = some k := (find_step hn hk').1 (decide_eq_true e)
   refine ⟨_, rfl, ?_⟩
   rw [e2] at q
   exact q _ _ (Same.refl _) r3
  ·have e : ¬ k.name = x := fun z => c (decide_eq_true (congrArg V.str z))
   exact ⟨_, _, _, rfl, rfl, (find_step hn hk').2 (decide_eq_false e)⟩
 ·rintro σ H' ⟨o2, o3, o4, rfl, rfl, hn⟩
  rw [List.take_of_length_le (by omega)] at hn
  rw [show kAt ks x = none from hn] at q
  exact ⟨(by show 0 ≤ sizeLine; decide), fun p hp => q _ _ (Same.new hp _) ⟨p, [], rfl, upd_same, rfl⟩⟩
end
end K41
end
section
namespace K41
open PySem L2 M
seal L2.PE L2.PA L2.PS L2.PSs L2.PT L2.PW L2.PI L2.PG L2.PJ L2.PTs
theorem seq_cut {t u : TS} {D : Ends} {σ : St} {H : Hp} (h : ∀ R : St → Hp → Prop, (∀ σ H, u D σ H → R σ H) → t { D with nx := R } σ H) : tSeq t u D σ H := h (u D) fun _ _ h => h
theorem rec_sort {k : Kn} (h : k.rc = true) : k.sort = S "rec" := by unfold Kn.sort; rw [if_pos h]
theorem alt_sort {k : Kn} (h : k.rc = false) : k.sort = S "alt" := by unfold Kn.sort; rw [if_neg (by rw [h]; decide)]
theorem iteBT {c : Bool} {A B : Prop} (h : c = true) (a : A) : if c = true then A else B := by rw [if_pos h]; exact a
def spSm (F : List Kn → Str → Int) (m : Nat) : Sp := fun vs H Q _ => ∃ v ks x, vs = [v, .str x] ∧ RelD H v (dKinds ks) ∧ KWf ks ∧ KIn ks m x ∧ ∀ H', Same H H' → Q (.int (F ks x)) H'
section
variable {P : Program} {w : World} {K : PySem.W.Frag} {mg : Str → Option Value} {base : Heap} {n m : Nat}
theorem ok__law_small (T : Tx K mg) (spc : Sp) (D__law_sort_of : DefIs P w K mg base n "_law_sort_of" ["_law_kinds_here", "_law_kind"] spLSort) (D__law_small : DefIs P w K mg base n "_law_small" ["_law_kinds_here", "_law_kind"] spc) (hspc : ∀ j, m = j + 1 → spc = spSm smK j) :
  DefIs P w K mg base (n + 1) "_law_small" ["_law_kinds_here", "_law_kind"] (spSm smK m) := by
 refine DefIs.of T.d__law_small sc__law_small (fun vs H Q E h => ?_) (fun f cdv A outer s H vs Q E hr h => ?_)
 ·obtain ⟨_, _, _, rfl, _⟩ := h
  rfl
 obtain ⟨v, ks, x, rfl, hk, wf, hin, q⟩ := h
 have nd := sc__law_small.nd
 refine ⟨_, (pss_cons (ps_asg (pe_dcall D__law_sort_of hr (pa_cons (pv 0) (pa_cons (pv 1) pa_nil star_name) star_name)) (pg_tup rfl (pgs_cons (pg_name (i := 2) nd rfl (by first | exact Or.inl rfl | exact Or.inr rfl)) (pgs_cons (pg_name (i := 3) nd rfl (by first | exact Or.inl rfl | exact Or.inr rfl)) pgs_nil))))
   (pss_cons (ps_if (pt_cmpR op_eq (pv 2) pe_str (nomark _)) (pss_one (ps_ret (pe_op op_add pe_int (pe_dcall D__law_small hr (pa_cons (pv 0) (pa_cons (pe_ix ix_tup (pe_ix ix_tup (pv 3) pe_int (fun _ _ => rfl)) pe_int (fun _ _ => rfl)) pa_nil star_sub) star_name))))) pss_nil)
   (pss_one (ps_ret (pe_op op_add pe_int (pe_callB (call_sumL rfl) rfl T.z_sum PyProof.Rows.boot_sum (pa_cons (pe_comp ["_law_name", "_law_part", "_law_kinds_here"] [none, none, some 0] rfl (by kernel_rfl) (pi_tup (pv 3)) (fun _ _ _ _ => (pg_tupC (K := K) (n := 2) rfl rfl (pgs_cons (pg_name (i := 0) (by show List.Nodup (["_law_name", "_law_part", "_law_kinds_here"] : List Str); decide +kernel) rfl (Or.inl rfl)) (pgs_cons (pg_name (i := 1) (by show List.Nodup (["_law_name", "_law_part", "_law_kinds_here"] : List Str); decide +kernel) rfl (Or.inl rfl)) pgs_nil)))) (fun _ _ _ _ => pts_nil) (fun _ _ _ _ => (pe_dcall D__law_small hr (pa_cons (pv 2) (pa_cons (pv 1) pa_nil star_name) star_name)))) pa_nil star_comp))))))), ?_⟩
 refine ⟨_, rfl, _, rfl, v, ks, x, rfl, (wf.ksAt hk).seq, fun t pv' H1 s1 ht rp => ?_⟩
 refine ⟨t, _, rfl, SqT.of ht, rfl, _, _, rfl, _, _, rfl, rfl, ?_⟩
 rcases hin.look wf with ⟨rfl, hkx⟩ | ⟨j, k, rfl, hkx, hn, hm, hp⟩
 ·refine ⟨_, rfl, rfl, _, rfl, iteKF (decide_eq_false (by rw [hkx]; decide +kernel)) ?_⟩
  rw [hkx] at rp
  obtain ⟨a, us, rfl, ha, hus⟩ := rp
  obtain rfl : us = [] := hus
  refine ⟨_, rfl, a, rfl, ⟨_, SqT.of ha⟩, ?_⟩
  refine comp_tupG (xs := []) (fun i ys H' => H' = H1 ∧ ys = []) ⟨rfl, rfl⟩ (fitsLt (by decide)) (fun i ys H' _ p => by obtain ⟨rfl, _⟩ := p; exact SqT.of ha) (fun i y ys H' hy => by simp at hy) ?_
  rintro ys H' hly ⟨rfl, rfl⟩ D hD
  refine ⟨D, [], rfl, SqL.of upd_same, (fun _ h => nomatch h), by decide, _, _, rfl, rfl, ?_⟩
  have e := (sm_num wf).1
  rw [e] at q
  exact q _ (s1.trans (Same.new hD _))
 ·have D' := hspc j rfl
  subst D'
  rw [hkx] at rp
  obtain ⟨a, us, rfl, ha, hus⟩ := rp
  have hl := hus.length
  rw [List.length_map] at hl
  have h5 := wf.pts k hm
  have hss : sortS (kAt ks x) = k.sort := by rw [hkx]; rfl
  have e := (sm_at wf hkx).1
  unfold smS at e
  cases hc : k.rc with
  | false =>
   rw [if_neg (by rw [hc]; decide)] at e
   refine ⟨_, rfl, rfl, _, rfl, iteKT (decide_eq_true (by rw [hss, alt_sort hc]; rfl)) ?_⟩
   cases hpp : k.parts with
   | nil => exact absurd hpp (wf.alt k hm hc)
   | cons p r =>
    rw [hpp] at hus e
    obtain ⟨vp, rest, rfl, rp, _⟩ := hus
    obtain ⟨b, ws, rfl, hb, _, _, rfl, rfl, _, _, rfl, rfl, rfl⟩ := rp
    refine ⟨_, rfl, _, rfl, a, _, _, _, rfl, rfl, SqT.of ha, atI_nat (j := 0) rfl, b, _, _, _, rfl, rfl, SqT.of hb, rfl, ?_⟩
    refine ⟨v, ks, p.2, rfl, hk.same s1 _, wf, hp p (by rw [hpp]; simp), fun H2 s2 => ⟨_, _, rfl, rfl, ?_⟩⟩
    rw [e] at q
    exact q _ (s1.trans s2)
  | true =>
   rw [if_pos hc] at e
   refine ⟨_, rfl, rfl, _, rfl, iteKF (decide_eq_false (by rw [hss, rec_sort hc]; decide +kernel)) ?_⟩
   refine ⟨_, rfl, a, rfl, ⟨_, SqT.of ha⟩, ?_⟩
   refine comp_tupG (xs := us) (fun i ys H' => Same H1 H' ∧ ys = ((k.parts.take i).map fun p => smK ks p.2).map V.int) ⟨Same.refl _, rfl⟩ (fitsLt (by omega)) (fun i ys H' _ p => SqT.of (p.1 _ _ ha)) ?_ ?_
   ·rintro i y ys H' hy hi' hly ⟨sm', rfl⟩
    obtain ⟨d, hd, rd⟩ := hus.get hy
    rw [List.getElem?_map] at hd
    obtain ⟨pr, hpr, rfl⟩ := Option.map_eq_some_iff.mp hd
    obtain ⟨b, ws, rfl, hb, _, _, rfl, rfl, _, _, rfl, rfl, rfl⟩ := rd
    refine ⟨b, _, rfl, SqT.of (sm' _ _ hb), rfl, _, _, rfl, _, _, rfl, rfl, ext2 rfl rfl, yes_go ?_⟩
    refine ⟨_, rfl, _, rfl, v, ks, pr.2, rfl, hk.same (s1.trans sm') _, wf, hp pr (List.mem_of_getElem? hpr), fun H2 s2 => nxtG hi' hly ⟨sm'.trans s2, ?_⟩⟩
    rw [List.take_add_one, hpr, List.map_append, List.map_append]
    rfl
   ·rintro ys H' hly ⟨sm', rfl⟩ D hD
    rw [List.take_of_length_le (by omega)]
    refine ⟨D, k.parts.map fun p => smK ks p.2, rfl, SqL.of upd_same, fun z hz => ?_, by rw [List.length_map]; omega, _, _, rfl, rfl, ?_⟩
    ·obtain ⟨p, _, rfl⟩ := List.mem_map.mp hz
     have := sm_bound wf p.2
     omega
    ·rw [e] at q
     exact q _ (s1.trans (sm'.trans (Same.new hD _)))
theorem small_is (T : Tx K mg) : ∀ m, DefIs P w K mg base (m + 2) "_law_small" ["_law_kinds_here", "_law_kind"] (spSm smK m)
 | 0 => ok__law_small (n := 1) T (fun _ _ _ _ => False) (ok__law_sort_of T) (DefIs.none T.d__law_small fun _ _ _ _ h => h) (fun j e => by cases e)
 | m + 1 => ok__law_small (n := m + 2) T (spSm smK m) (ok__law_sort_of T) (small_is T m) (fun j e => by cases e; rfl)
def spAny : Sp := fun vs H Q _ => ∃ (f ka : Addr) (p q : Int) (us : List V) (ks : List Kn), vs = [.ref f, .ref ka] ∧ H f = some (.lst [.int p, .int q]) ∧ (H ka = some (.lst us) ∨ H ka = some (.tup us)) ∧ RelDs H us (ks.map Kn.d) ∧ ks.length ≤ 6 ∧ ∀ x H', KIn ks ks.length x → Fed f H H' → Q (.str x) H'
theorem ok__law_any_kind (T : Tx K mg) (D__law_take : DefIs P w K mg base n "_law_take" ["_law_feed_here", "_law_many"] spTake) : DefIs P w K mg base (n + 1) "_law_any_kind" ["_law_feed_here", "_law_kinds_here"] spAny := by
 refine DefIs.of T.d__law_any_kind sc__law_any_kind (fun vs H Q E h => ?_) (fun f cdv A outer s H vs Q E hr h => ?_)
 ·obtain ⟨_, _, _, _, _, _, rfl, _⟩ := h
  rfl
 obtain ⟨f', ka, p1, q1, us, ks, rfl, h1, hka, hus, hfew, q⟩ := h
 have nd := sc__law_any_kind.nd
 refine ⟨_, (pss_one (ps_ret (pe_ix ix_list (pe_op op_cat (pe_lst (pa_cons pe_str pa_nil star_const)) (pe_comp ["_law_row"] [none] rfl (by kernel_rfl) (pi_or (pi_list (pv 1)) (pi_tup (pv 1))) (fun _ _ _ _ => (pg_name (i := 0) (by show List.Nodup (["_law_row"] : List Str); decide +kernel) rfl (Or.inl rfl))) (fun _ _ _ _ => pts_nil) (fun _ _ _ _ => (pe_ix (ix_tupC (K := K) rfl) (pv 0) pe_int (fun _ _ => rfl))))) (pe_dcall D__law_take hr (pa_cons (pv 0) (pa_cons (pe_op op_add pe_int (pe_callB call_len_seq rfl T.z_len PySem.boot_len (pa_cons (pv 1) pa_nil star_name))) pa_nil star_bin) star_name)) (fun _ _ => rfl)))), ?_⟩
 refine ⟨(by show 1 ≤ sizeLine; decide), fun l2 hl2 => ?_⟩
 have s2 := Same.new hl2 (.lst [.str (S "num")])
 have hul := hus.length
 rw [List.length_map] at hul
 rcases hka with hka | hka
 ·refine .inl ⟨_, rfl, ka, rfl, ⟨_, SqL.of (s2 _ _ hka)⟩, ?_⟩
  refine comp_list (j := 0) (xs := us) (fun i ys H' => H' = upd H l2 (.lst [.str (S "num")]) ∧ ys = ((ks.take i).map Kn.name).map V.str) (by rfl) ⟨rfl, rfl⟩ (fitsLt (by omega)) (fun i ys H' _ p => by obtain ⟨rfl, _⟩ := p; exact SqL.of (s2 _ _ hka)) ?_ ?_
  ·rintro i' x ys H' hx hly ⟨rfl, rfl⟩
   obtain ⟨d, hd, rd⟩ := (hus.same s2 _).get hx
   rw [List.getElem?_map] at hd
   obtain ⟨k', hk', rfl⟩ := Option.map_eq_some_iff.mp hd
   obtain ⟨b, vs', rfl, hb, _, _, rfl, rfl, _, _, rfl, rfl, v3, _, rfl, r3, rfl⟩ := rd
   have hi' : i' < us.length := (List.getElem?_eq_some_iff.mp hx).1
   refine ⟨_, rfl, b, _, _, _, rfl, rfl, SqT.of hb, rfl, nxt hi' hly ⟨rfl, ?_⟩⟩
   rw [List.take_add_one, hk']
   simp
  rintro ys H' hly ⟨rfl, rfl⟩ D2 hD2
  rw [List.take_of_length_le (by omega)]
  have s3 := Same.new hD2 (.lst ((ks.map Kn.name).map V.str))
  refine ⟨l2, D2, _, _, rfl, rfl, s3 _ _ upd_same, upd_same, fits (by rw [List.length_map, List.length_map]; show 1 + _ ≤ _; omega), fun l3 hl3 => ?_⟩
  have s4 := Same.new hl3 (.lst ([.str (S "num")] ++ (ks.map Kn.name).map V.str))
  have s24 := s2.trans (s3.trans s4)
  have l3f : l3 ≠ f' := Ne.symm (ne_of_none ((s2.trans s3) _ _ h1) hl3)
  refine ⟨_, rfl, _, rfl, ka, _, rfl, .inl (SqL.of (s24 _ _ hka)), _, _, rfl, rfl, f', p1, q1, _, rfl, s24 _ _ h1, by omega, by omega, fun r5 H5 r50 r51 f5 => ?_⟩
  obtain ⟨x, hx, hxin⟩ := names_at (ks := ks) r50 (by rw [← hul]; exact r51)
  exact ⟨l3, _, _, _, rfl, rfl, SqL.of (f5.1 _ _ upd_same l3f), hx, q x _ hxin (((Fed.refl h1).same s24).trans f5)⟩
 ·refine .inr ⟨_, rfl, ka, rfl, ⟨_, SqT.of (s2 _ _ hka)⟩, ?_⟩
  refine comp_tup (j := 0) (xs := us) (fun i ys H' => H' = upd H l2 (.lst [.str (S "num")]) ∧ ys = ((ks.take i).map Kn.name).map V.str) (by rfl) ⟨rfl, rfl⟩ (fitsLt (by omega)) (fun i ys H' _ p => by obtain ⟨rfl, _⟩ := p; exact SqT.of (s2 _ _ hka)) ?_ ?_
  ·rintro i' x ys H' hx hly ⟨rfl, rfl⟩
   obtain ⟨d, hd, rd⟩ := (hus.same s2 _).get hx
   rw [List.getElem?_map] at hd
   obtain ⟨k', hk', rfl⟩ := Option.map_eq_some_iff.mp hd
   obtain ⟨b, vs', rfl, hb, _, _, rfl, rfl, _, _, rfl, rfl, v3, _, rfl, r3, rfl⟩ := rd
   have hi' : i' < us.length := (List.getElem?_eq_some_iff.mp hx).1
   refine ⟨_, rfl, b, _, _, _, rfl, rfl, SqT.of hb, rfl, nxt hi' hly ⟨rfl, ?_⟩⟩
   rw [List.take_add_one, hk']
   simp
  rintro ys H' hly ⟨rfl, rfl⟩ D2 hD2
  rw [List.take_of_length_le (by omega)]
  have s3 := Same.new hD2 (.lst ((ks.map Kn.name).map V.str))
  refine ⟨l2, D2, _, _, rfl, rfl, s3 _ _ upd_same, upd_same, fits (by rw [List.length_map, List.length_map]; show 1 + _ ≤ _; omega), fun l3 hl3 => ?_⟩
  have s4 := Same.new hl3 (.lst ([.str (S "num")] ++ (ks.map Kn.name).map V.str))
  have s24 := s2.trans (s3.trans s4)
  have l3f : l3 ≠ f' := Ne.symm (ne_of_none ((s2.trans s3) _ _ h1) hl3)
  refine ⟨_, rfl, _, rfl, ka, _, rfl, .inr (SqT.of (s24 _ _ hka)), _, _, rfl, rfl, f', p1, q1, _, rfl, s24 _ _ h1, by omega, by omega, fun r5 H5 r50 r51 f5 => ?_⟩
  obtain ⟨x, hx, hxin⟩ := names_at (ks := ks) r50 (by rw [← hul]; exact r51)
  exact ⟨l3, _, _, _, rfl, rfl, SqL.of (f5.1 _ _ upd_same l3f), hx, q x _ hxin (((Fed.refl h1).same s24).trans f5)⟩
end
end K41
end
section
namespace K41
open PySem L2 M
seal L2.PE L2.PA L2.PS L2.PSs L2.PT L2.PW L2.PI L2.PG L2.PJ L2.PTs
theorem RelDs.rev {H : Hp} : ∀ {vs : List V} {ds : List D}, RelDs H vs ds → RelDs H vs.reverse ds.reverse
 | vs, [], h => by rw [show vs = [] from h]; rfl
 | vs, d :: ds, ⟨v, r, e, h1, h2⟩ => by
  subst e
  rw [List.reverse_cons, List.reverse_cons]
  exact (RelDs.rev h2).append ⟨v, [], rfl, h1, rfl⟩
theorem nodup_rev {α : Type} {l : List α} (h : l.Nodup) : l.reverse.Nodup := List.pairwise_reverse.mpr (h.imp fun h => Ne.symm h)
theorem over_none {H H' : Hp} {p : Addr} (s : Same H H') (hp : H p = none) (o : HO) : Same H (upd H' p o) := fun b u q => by
 rw [upd_ne (ne_of_none q hp)]
 exact s b u q
def bKV (bs : List (Str × Str)) : List (Key × V) := bs.map fun b => (Sum.inr b.1, .str b.2)
theorem pairs_bs {H : Hp} : ∀ {us : List V} {bs : List (Str × Str)}, RelDs H us (bs.map dPart) → PairsV H us (bKV bs)
 | us, [], h => by rw [show us = [] from h]; trivial
 | us, b :: bs, ⟨v, r, e, h1, h2⟩ => by
  subst e
  obtain ⟨a, ws, rfl, ha, _, _, rfl, rfl, _, _, rfl, rfl, rfl⟩ := h1
  exact ⟨⟨a, rfl, ha⟩, pairs_bs h2⟩
theorem args6 {a b c d r : V} {i j : Int} (h : i = j) : [a, b, c, d, r, V.int i] = [a, b, c, d, r, V.int j] := by rw [h]
theorem kin_part6 {ks : List Kn} (wf : KWf ks) {k : Kn} (h : k ∈ ks) {p : Str × Str} (hp : p ∈ k.parts) : KIn ks 6 p.2 := by
 obtain ⟨i, hi, e⟩ := List.mem_iff_getElem.mp h
 have := wf.few
 exact KIn.mono (n := i) (wf.ref i k (by rw [← e]; exact List.getElem?_eq_getElem hi) p hp) (by omega)
def spTw (c : Nat) : Sp := fun vs H Q _ => ∃ (f : Addr) (kv bv : V) (ks : List Kn) (bs : List (Str × Str)) (x : Str) (room : Int) (m j : Nat), vs = [.ref f, kv, bv, .str x, .int room, .int (m : Int)] ∧ c = 7 * m + j ∧ j ≤ 6 ∧ TIn H f kv bv ks bs (m + 1) ∧ m ≤ 7 ∧ KIn ks j x ∧ smK ks x ≤ room ∧ ∀ a d H', Fed f H H' → RelD H' (.ref a) d → TmB ks (c + 1) bs d x → Q (.ref a) H'
def spTlt (c : Nat) : Sp := fun vs H Q E => ∃ c', c' < c ∧ spTw c' vs H Q E
def spBoxed : Sp := fun vs H Q _ => ∃ (f l : Addr) (p q : Int) (zs : List Str), vs = [.ref f, .ref l] ∧ H f = some (.lst [.int p, .int q]) ∧ H l = some (.lst (zs.map V.str)) ∧ zs ≠ [] ∧ zs.length ≤ 100 ∧ l ≠ f ∧ ∀ z t H', z ∈ zs → Fed f H H' → RelD H' (.ref t) (tBox z) → Q (.ref t) H'
def spArmsW (m : Nat) : Sp := fun vs H Q _ => ∃ (f : Addr) (kv bv pvv : V) (ks : List Kn) (bs ps : List (Str × Str)) (x : Str) (room : Int), vs = [.ref f, kv, bv, pvv, .str x, .int room, .int ((m + 1 : Nat) : Int)] ∧ TIn H f kv bv ks bs (m + 2) ∧ m < 7 ∧ RelD H pvv (dParts ps) ∧ ps ≠ [] ∧ ps.length ≤ 5 ∧ (ps.map (·.1)).Nodup ∧ (∀ p ∈ ps, KIn ks 6 p.2) ∧ KIn ks 6 x ∧ smK ks x * (ps.length : Int) ≤ room ∧
 ∀ (u : V) (rs : List (Str × Str × D)) (H' : Hp), Fed f H H' → RelD H' u (.tup (rs.map dArm)) → rs.length = ps.length → (∀ r ∈ rs, ∃ p ∈ ps, p.1 = r.1) → (rs.map (·.1)).Nodup → (∀ p ∈ ps, ∃ z e, (p.1, z, e) ∈ rs ∧ (∀ q ∈ bs, q.1 ≠ z) ∧ ArmN ks z ∧ TmB ks (7 * m + 7) (bs ++ [(z, p.2)]) e x) → Q u H'
section
variable {P : Program} {w : World} {K : PySem.W.Frag} {mg : Str → Option Value} {base : Heap} {n m : Nat}
theorem ok__law_boxed (T : Tx K mg) (D__law_take : DefIs P w K mg base n "_law_take" ["_law_feed_here", "_law_many"] spTake) : DefIs P w K mg base (n + 1) "_law_boxed" ["_law_feed_here", "_law_some"] spBoxed := by
 refine DefIs.of T.d__law_boxed sc__law_boxed (fun vs H Q E h => ?_) (fun f cdv A outer s H vs Q E hr h => ?_)
 ·obtain ⟨_, _, _, _, _, rfl, _⟩ := h
  rfl
 obtain ⟨f', l, p, q0, zs, rfl, hf, hl, hne, h100, lf, q⟩ := h
 refine ⟨_, (pss_one (ps_ret (pe_tup (pa_cons pe_str (pa_cons (pe_ix ix_list (pv 1) (pe_dcall D__law_take hr (pa_cons (pv 0) (pa_cons (pe_callB call_len_seq rfl T.z_len PySem.boot_len (pa_cons (pv 1) pa_nil star_name)) pa_nil star_call) star_name)) (fun _ _ => rfl)) pa_nil star_sub) star_const)))), ?_⟩
 have hzp : 0 < zs.length := List.length_pos_iff.mpr hne
 have zl : (zs.map V.str).length = zs.length := List.length_map _
 refine ⟨_, rfl, _, rfl, _, rfl, l, _, rfl, .inl (SqL.of hl), f', p, q0, _, rfl, hf, by rw [zl]; omega, by rw [zl]; omega, fun r H4 r0 r1 f4 => ?_⟩
 rw [zl] at r1
 obtain ⟨i, rfl⟩ : ∃ i : Nat, r = (i : Int) := ⟨r.toNat, by omega⟩
 have hi' : i < zs.length := by omega
 refine ⟨l, _, _, .str zs[i], rfl, rfl, SqL.of (f4.1 _ _ hl lf), atI_nat (by rw [List.getElem?_map, List.getElem?_eq_getElem hi']; rfl), (by show 2 ≤ sizeLine; decide), fun t ht => ?_⟩
 have st := Same.new ht (.tup [.str (S "box"), .str zs[i]])
 exact q zs[i] t _ (List.getElem_mem hi') (f4.same st) ⟨t, _, rfl, upd_same, _, _, rfl, rfl, _, _, rfl, rfl, rfl⟩
theorem ok__law_arms (T : Tx K mg) {c : Nat} (hc : 7 * m + 6 < c) (D__law_take : DefIs P w K mg base n "_law_take" ["_law_feed_here", "_law_many"] spTake) (D__law_term : DefIs P w K mg base n "_law_term" ["_law_feed_here", "_law_kinds_here", "_law_boxes", "_law_kind", "_law_room", "_law_deep"] (spTlt c)) : DefIs P w K mg base (n + 1) "_law_arms" ["_law_feed_here", "_law_kinds_here", "_law_boxes", "_law_parts_here", "_law_kind", "_law_room", "_law_deep"] (spArmsW m) := by
 refine DefIs.of T.d__law_arms sc__law_arms (fun vs H Q E h => ?_) (fun f cdv A outer s H vs Q E hr h => ?_)
 ·obtain ⟨_, _, _, _, _, _, _, _, _, rfl, _⟩ := h
  rfl
 obtain ⟨f', kv, bv, pvv, ks, bs, ps, x, room, rfl, ti, m8, hps, hpe, h5, hnd, hpn, hxin, hroom, q⟩ := h
 have nd := sc__law_arms.nd
 have hu := hu_of hr
 refine ⟨_, (pss_cons (ps_set (i := 7) nd rfl (by first | exact Or.inl rfl | exact Or.inr rfl) (pe_lst pa_nil))
   (pss_cons (ps_set (i := 8) nd rfl (by first | exact Or.inl rfl | exact Or.inr rfl) (pe_op op_fdivB (pv 5) (pe_callB call_len_seq rfl T.z_len PySem.boot_len (pa_cons (pv 3) pa_nil star_name))))
   (pss_cons (ps_for PassesOwn.never rfl (pi_tup (pv 3)) (pg_tup rfl (pgs_cons (pg_name (i := 9) nd rfl (by first | exact Or.inl rfl | exact Or.inr rfl)) (pgs_cons (pg_name (i := 10) nd rfl (by first | exact Or.inl rfl | exact Or.inr rfl)) pgs_nil)))
   (pss_cons (ps_set (i := 11) nd rfl (by first | exact Or.inl rfl | exact Or.inr rfl) (pe_op op_add_str pe_str (pe_ix ix_str pe_str (pv 6) (fun _ _ => rfl))))
   (pss_one (ps_expr (pe_bm PySem.F.plainAttrs_list PySem.F.slot_list_append PySem.F.type_list_append mt_append (pv 7) (pa_cons (pe_tup (pa_cons (pv 9) (pa_cons (pv 11) (pa_cons (pe_dcall D__law_term hr (pa_cons (pv 0) (pa_cons (pv 1) (pa_cons (pe_op op_cat (pv 2) (pe_lst (pa_cons (pe_tup (pa_cons (pv 11) (pa_cons (pv 10) pa_nil star_name) star_name)) pa_nil star_tup))) (pa_cons (pv 4) (pa_cons (pv 8) (pa_cons (pe_op op_sub (pv 6) pe_int) pa_nil star_bin) star_name) star_name) star_bin) star_name) star_name)) pa_nil star_call) star_name) star_name)) pa_nil star_tup))))))
   (pss_cons (ps_if (pt_cmpR op_eq (pe_dcall D__law_take hr (pa_cons (pv 0) (pa_cons pe_int pa_nil star_const) star_name)) pe_int (nomark _)) (pss_one (ps_expr (pe_bm0 PySem.F.plainAttrs_list PySem.F.slot_list_reverse PySem.F.type_list_reverse mt_reverse (pv 7)))) pss_nil)
   (pss_one (ps_ret (pe_callTy call_tuple_of rfl T.z_tuple PyProof.Rows.boot_tuple (pa_cons (pv 7) pa_nil star_name)))))))), seq_cut fun R1 hR1 => ?_⟩
 refine ⟨(by show 0 ≤ sizeLine; decide), fun al hal => ?_⟩
 have s0 := Same.new hal (.lst [])
 obtain ⟨p0, q0, hf⟩ := ti.fd
 have alf : al ≠ f' := Ne.symm (ne_of_none hf hal)
 obtain ⟨pa, us, rfl, hpa, hus⟩ := hps
 have hl := hus.length
 rw [List.length_map] at hl
 have hpos : 0 < ps.length := List.length_pos_iff.mpr hpe
 have hpos' : (0 : Int) < (us.length : Int) := by omega
 have hj1 : (((m + 1 : Nat) : Int)) - 1 = (m : Int) := by omega
 have heach : smK ks x ≤ room / (us.length : Int) := by
  refine (Int.le_ediv_iff_mul_le hpos').mpr ?_
  rw [hl]
  exact hroom
 refine hR1 _ _ (seq_cut fun R2 hR2 => ?_)
 refine ⟨_, rfl, _, rfl, pa, _, rfl, .inr (SqT.of (s0 _ _ hpa)), _, _, rfl, rfl, ⟨by omega, by omega⟩, ?_⟩
 refine hR2 _ _ (seq_cut fun R3 hR3 => ?_)
 refine ⟨_, rfl, pa, rfl, ⟨_, SqT.of (s0 _ _ hpa)⟩, ?_⟩
 refine for_tup (xs := us) (fun i σ H' => ∃ (ws : List V) (rs : List (Str × Str × D)) (o8 o9 o10 : Option V), σ = [some (.ref f'), some kv, some bv, some (.ref pa), some (.str x), some (.int room), some (.int ((m + 1 : Nat) : Int)), some (.ref al), some (.int (room / (us.length : Int))), o8, o9, o10] ∧ Fed f' H H' ∧ H' al = some (.lst ws) ∧ RelDs H' ws (rs.map dArm) ∧ rs.map (·.1) = (ps.take i).map (·.1) ∧ ∀ p ∈ ps.take i, ∃ z e, (p.1, z, e) ∈ rs ∧ (∀ q ∈ bs, q.1 ≠ z) ∧ ArmN ks z ∧ TmB ks (7 * m + 7) (bs ++ [(z, p.2)]) e x)
  ⟨[], [], none, none, none, rfl, (Fed.refl hf).same s0, upd_same, rfl, rfl, fun p hp => by rw [List.take_zero] at hp; exact nomatch hp⟩ (fun i σ H' _ p => ?_) ?_ ?_
 ·obtain ⟨_, _, _, _, _, _, fm, _⟩ := p
  exact SqT.of (fed_tups ti.fd fm _ _ hpa)
 ·rintro i vv σ H1 hvv ⟨ws, rs, o8, o9, o10, rfl, fm, hws, rws, hrn, hrs⟩
  have tp := fed_tups ti.fd fm
  obtain ⟨d, hd, rd⟩ := hus.get hvv
  rw [List.getElem?_map] at hd
  obtain ⟨pr, hpr, rfl⟩ := Option.map_eq_some_iff.mp hd
  obtain ⟨b, wz, rfl, hb, _, _, rfl, rfl, _, _, rfl, rfl, rfl⟩ := rd
  have hpm := List.mem_of_getElem? hpr
  have hi' : i < us.length := (List.getElem?_eq_some_iff.mp hvv).1
  have hwl := rws.length
  have hrl : rs.length ≤ 5 := by
   have := congrArg List.length hrn
   rw [List.length_map, List.length_map, List.length_take] at this
   omega
  rw [List.length_map] at hwl
  refine ⟨b, _, rfl, SqT.of (tp _ _ hb), rfl, _, _, rfl, _, _, rfl, rfl, seq_cut fun R4 hR4 => ?_⟩
  have e2 : (Str.ofString "by").length = 2 := by decide +kernel
  refine ⟨_, rfl, _, _, _, rfl, rfl, by decide +kernel, eight_at (i := m + 1) (by omega), _, _, rfl, rfl, fits (by rw [e2]; show 2 + 1 ≤ _; decide), ?_⟩
  rw [show Str.ofString "by" ++ (⟨#[97 + (m + 1)]⟩ : Str) = byN (m + 1) from byN_text (m + 1)]
  have hy : ∀ b ∈ bs, b.1 ≠ byN (m + 1) := fun b hb => ti.fr b hb (m + 1) (by omega)
  have hyf : ∀ j, j < m + 1 → byN (m + 1) ≠ byN j := fun j hj e => by have := byN_inj e; omega
  have t3 := ti.fed fm
  obtain ⟨bl3, ub3, e3, hbl3, hub3, blf3⟩ := t3.bx
  cases e3
  obtain ⟨p3, q3, h3⟩ := fm.2
  refine hR4 _ _ ?_
  refine ⟨_, rfl, .inl ⟨rfl, _, SqL.of hws⟩, _, rfl, _, rfl, _, rfl, _, rfl, _, rfl, _, rfl, _, rfl, (by show 2 ≤ sizeLine; decide), fun t1 ht1 => ⟨(by show 1 ≤ sizeLine; decide), fun l1 hl1 => ?_⟩⟩
  have y1 := Same.new ht1 (.tup [.str (byN (m + 1)), .str pr.2])
  have y2 := Same.new hl1 (.lst [.ref t1])
  have hul3 := hub3.length
  rw [List.length_map] at hul3
  have hbl30 := ti.bl
  refine ⟨_, l1, _, _, rfl, rfl, (y1.trans y2) _ _ hbl3, upd_same, fits (by show _ + 1 ≤ _; omega), fun l2 hl2 => ?_⟩
  have y3 := Same.new hl2 (.lst (ub3 ++ [.ref t1]))
  have y13 := y1.trans (y2.trans y3)
  have t4 := t3.same y13
  have l2f : l2 ≠ f' := Ne.symm (ne_of_none ((y1.trans y2) _ _ h3) hl2)
  refine ⟨_, rfl, _, rfl, _, rfl, _, _, rfl, rfl, 7 * m + 6, hc, f', kv, .ref l2, ks, bs ++ [((byN (m + 1)), pr.2)], x, room / (us.length : Int), m, 6, args6 hj1, rfl, by decide, ⟨t4.fd, t4.kd, t4.wf, t4.nb, ⟨l2, _, rfl, upd_same, ?_, l2f⟩, ?_, ?_, ?_, ?_⟩, by omega, hxin, heach, fun u dd H6 f6 ru htm => ?_⟩
  ·rw [List.map_append]
   exact (hub3.same y13 _).append ⟨_, [], rfl, ⟨t1, _, rfl, (y2.trans y3) _ _ upd_same, _, _, rfl, rfl, _, _, rfl, rfl, rfl⟩, rfl⟩
  ·rw [List.map_append]
   exact nd_snoc ti.nd fun hm => by
    obtain ⟨b', hb', e'⟩ := List.mem_map.mp hm
    exact hy b' hb' e'
  ·rw [List.length_append, List.length_singleton]
   omega
  ·intro b' hb' j hj
   rcases List.mem_append.mp hb' with hb' | hb'
   ·exact ti.fr b' hb' j (by omega)
   ·rw [List.mem_singleton.mp hb']
    exact hyf j hj
  ·intro b' hb'
   rcases List.mem_append.mp hb' with hb' | hb'
   ·exact ti.kn b' hb'
   ·rw [List.mem_singleton.mp hb']
    exact hpn pr hpm
  refine ⟨(by show 3 ≤ sizeLine; decide), fun t6 ht6 => ?_⟩
  have F6 : Fed f' H1 H6 := ((Fed.refl h3).same y13).trans f6
  have st := Same.new ht6 (.tup [.str pr.1, .str (byN (m + 1)), .ref u])
  have hw6 := st _ _ (F6.1 _ _ hws alf)
  have rw6 := (rws.tups (fed_tups fm.2 F6) _).same st _
  refine ⟨al, ws, _, rfl, rfl, hw6, fitsLt (by omega), _, rs ++ [(pr.1, (byN (m + 1)), dd)], _, _, _, rfl, Fed.put ((fm.trans F6).same st) hal alf _, upd_same, ?_, ?_, fun p hp => ?_⟩
  ·rw [List.map_append]
   exact (rw6.tups (lst_tups hw6 _) _).append ⟨_, [], rfl, ⟨t6, _, rfl, lst_tups hw6 _ _ _ upd_same, _, _, rfl, rfl, _, _, rfl, rfl, _, _, rfl, (ru.same st _).tups (lst_tups hw6 _) _, rfl⟩, rfl⟩
  ·rw [List.map_append, hrn, List.take_add_one, hpr, List.map_append]
   rfl
  ·rw [List.take_add_one, hpr] at hp
   rcases List.mem_append.mp hp with hp | hp
   ·obtain ⟨z, e, g1, g2, g3⟩ := hrs p hp
    exact ⟨z, e, List.mem_append_left _ g1, g2, g3⟩
   ·have ep : p = pr := by simpa using hp
    rw [ep]
    exact ⟨(byN (m + 1)), dd, List.mem_append_right _ (by simp), hy, .inl ⟨m + 1, rfl⟩, htm⟩
 ·rintro σ H1 ⟨ws, rs, o8, o9, o10, rfl, fm, hws, rws, hrn, hrs⟩
  rw [List.take_of_length_le (by omega)] at hrn hrs
  have hrl : rs.length = ps.length := by
   have := congrArg List.length hrn
   rwa [List.length_map, List.length_map] at this
  have hsub : ∀ r ∈ rs, ∃ p ∈ ps, p.1 = r.1 := fun r hr => by
   have : r.1 ∈ rs.map (·.1) := List.mem_map_of_mem hr
   rw [hrn] at this
   obtain ⟨p, hp, e⟩ := List.mem_map.mp this
   exact ⟨p, hp, e⟩
  obtain ⟨p1, q1, h1⟩ := fm.2
  refine hR3 _ _ (seq_cut fun R5 hR5 => ?_)
  refine ⟨_, rfl, f', p1, q1, _, rfl, h1, by decide, by decide, fun r H2 r0 r1 f2 => ⟨rfl, _, rfl, ite2 (fun c => ?_) (fun c => ?_)⟩⟩
  ·have hw2 := f2.1 _ _ hws alf
   have rw2 := rws.tups (fed_tups fm.2 f2) _
   refine ⟨_, rfl, .inl ⟨rfl, _, SqL.of hw2⟩, al, ws, rfl, rfl, hw2, ?_⟩
   refine hR5 _ _ ?_
   refine ⟨_, rfl, al, _, rfl, .inl ⟨SqL.of upd_same, fun t ht => ?_⟩⟩
   have st := Same.new ht (.tup ws.reverse)
   refine q _ rs.reverse _ ((Fed.put (fm.trans f2) hal alf _).same st) ⟨t, _, rfl, upd_same, ?_⟩ (by rw [List.length_reverse]; exact hrl) (fun r hr => hsub r (List.mem_reverse.mp hr)) ?_ fun p hp => ?_
   ·rw [List.map_reverse]
    exact (RelDs.rev (rw2.tups (lst_tups hw2 _) _)).same st _
   ·rw [List.map_reverse]
    exact nodup_rev (by rw [hrn]; exact hnd)
   ·obtain ⟨z, e, h1, h2, h3⟩ := hrs p hp
    exact ⟨z, e, List.mem_reverse.mpr h1, h2, h3⟩
  ·refine hR5 _ _ ?_
   refine ⟨_, rfl, al, _, rfl, .inl ⟨SqL.of (f2.1 _ _ hws alf), fun t ht => ?_⟩⟩
   have st := Same.new ht (.tup ws)
   exact q _ rs _ ((fm.trans f2).same st) ⟨t, _, rfl, upd_same, (rws.tups (fed_tups fm.2 f2) _).same st _⟩ hrl hsub (by rw [hrn]; exact hnd) hrs
end
end K41
end
section
namespace K41
open PySem L2 M
seal L2.PE L2.PA L2.PS L2.PSs L2.PT L2.PW L2.PI L2.PG L2.PJ L2.PTs
def PtAt (H : Hp) (ks : List Kn) (k : Kn) (room : Int) (w : V) : Prop := ∃ (b : Addr) (p : Str × Str), w = .ref b ∧ H b = some (.tup [.str p.1, .str p.2]) ∧ p ∈ k.parts ∧ smK ks p.2 < room
theorem PtAt.tups {H H' : Hp} {ks : List Kn} {k : Kn} {room : Int} {w : V} (h : PtAt H ks k room w) (s : ∀ b us, H b = some (.tup us) → H' b = some (.tup us)) : PtAt H' ks k room w := by
 obtain ⟨b, p, e, hb, r⟩ := h
 exact ⟨b, p, e, s _ _ hb, r⟩
theorem sign_at {r : Int} (h0 : 0 ≤ r) (h : r < 5) : ∃ c, atI (S "+-*<=").cps.toList r = some c ∧ Sg ⟨#[c]⟩ := by
 obtain ⟨i, rfl⟩ : ∃ i : Nat, r = (i : Int) := ⟨r.toNat, by omega⟩
 have hi : i = 0 ∨ i = 1 ∨ i = 2 ∨ i = 3 ∨ i = 4 := by omega
 rcases hi with rfl | rfl | rfl | rfl | rfl
 ·exact ⟨43, atI_nat (by decide +kernel), .inl (by decide +kernel)⟩
 ·exact ⟨45, atI_nat (by decide +kernel), .inr (.inl (by decide +kernel))⟩
 ·exact ⟨42, atI_nat (by decide +kernel), .inr (.inr (.inl (by decide +kernel)))⟩
 ·exact ⟨60, atI_nat (by decide +kernel), .inr (.inr (.inr (.inl (by decide +kernel))))⟩
 ·exact ⟨61, atI_nat (by decide +kernel), .inr (.inr (.inr (.inr (by decide +kernel))))⟩
theorem all2_snoc {α β : Type} {R : α → β → Prop} : ∀ {as : List α} {bs : List β} {a : α} {b : β}, All2 R as bs → R a b → All2 R (as ++ [a]) (bs ++ [b])
 | _, _, _, _, .nil, h => .cons h .nil
 | _, _, _, _, .cons h t, k => .cons h (all2_snoc t k)
theorem evs_up {ks : List Kn} : ∀ (n : Nat) (env : En) (d v : D), Evs ks n env d v → Evs ks (n + 1) env d v
 | 0, _, _, _, h => .inl h
 | n + 1, env, d, v, h => by
  rcases h with h | ⟨h, g⟩
  ·exact .inl h
  ·exact .inr ⟨h.mono (evs_up n), g⟩
theorem evs_le {ks : List Kn} {n m : Nat} (l : n ≤ m) {env : En} {d v : D} (h : Evs ks n env d v) : Evs ks m env d v := by
 obtain ⟨k, rfl⟩ : ∃ k, m = n + k := ⟨m - n, by omega⟩
 clear l
 induction k with
 | zero => exact h
 | succ k ih => exact evs_up _ _ _ _ ih
theorem TmB.le {ks : List Kn} {n m : Nat} {bs : List (Str × Str)} {d : D} {x : Str} (h : TmB ks n bs d x) (l : n ≤ m) : TmB ks m bs d x := ⟨fun env hf => by
 obtain ⟨v, h1, h2⟩ := h.1 env hf
 exact ⟨v, evs_le l h1, h2⟩, fun env hf => kd_le l (h.2 env hf)⟩
section
variable {P : Program} {w : World} {K : PySem.W.Frag} {mg : Str → Option Value} {base : Heap} {n m : Nat}
theorem ok__law_whole_term (T : Tx K mg) {c : Nat} (D__law_sort_of : DefIs P w K mg base n "_law_sort_of" ["_law_kinds_here", "_law_kind"] spLSort) (D__law_take : DefIs P w K mg base n "_law_take" ["_law_feed_here", "_law_many"] spTake) (D__law_number : DefIs P w K mg base n "_law_number" ["_law_feed_here"] spLNum) (D__law_small : DefIs P w K mg base n "_law_small" ["_law_kinds_here", "_law_kind"] (spSm smK 6)) (D__law_term : DefIs P w K mg base n "_law_term" ["_law_feed_here", "_law_kinds_here", "_law_boxes", "_law_kind", "_law_room", "_law_deep"] (spTlt c)) :
  DefIs P w K mg base (n + 1) "_law_whole_term" ["_law_feed_here", "_law_kinds_here", "_law_boxes", "_law_kind", "_law_room", "_law_deep"] (spTw c) := by
 refine DefIs.of T.d__law_whole_term sc__law_whole_term (fun vs H Q E h => ?_) (fun f cdv A outer s H vs Q E hr h => ?_)
 ·obtain ⟨_, _, _, _, _, _, _, _, _, rfl, _⟩ := h
  rfl
 obtain ⟨f', kv, bv, ks, bs, x, room, m, j, rfl, hcm, hj6, ti, m8, hxj, hroom, q⟩ := h
 have nd := sc__law_whole_term.nd
 have wf := ti.wf
 have hxin : KIn ks 6 x := hxj.mono hj6
 refine ⟨_, (pss_cons (ps_asg (pe_dcall D__law_sort_of hr (pa_cons (pv 1) (pa_cons (pv 3) pa_nil star_name) star_name)) (pg_tup rfl (pgs_cons (pg_name (i := 6) nd rfl (by first | exact Or.inl rfl | exact Or.inr rfl)) (pgs_cons (pg_name (i := 7) nd rfl (by first | exact Or.inl rfl | exact Or.inr rfl)) pgs_nil))))
   (pss_cons (ps_if (pt_cmpR op_eq (pv 6) pe_str (nomark _)) (pss_cons (ps_if (PW.pt (pw_or (pt_cmpR op_lt (pv 4) pe_int (nomark _)) (pw_or (pt_cmpR op_eq (pv 5) pe_int (nomark _)) (pw_or1 (pt_cmpR op_eq (pe_dcall D__law_take hr (pa_cons (pv 0) (pa_cons pe_int pa_nil star_const) star_name)) pe_int (nomark _)))))) (pss_one (ps_ret (pe_tup (pa_cons pe_str (pa_cons (pe_dcall D__law_number hr (pa_cons (pv 0) pa_nil star_name)) pa_nil star_call) star_const)))) pss_nil)
   (pss_cons (ps_set (i := 8) nd rfl (by first | exact Or.inl rfl | exact Or.inr rfl) (pe_dcall D__law_term hr (pa_cons (pv 0) (pa_cons (pv 1) (pa_cons (pv 2) (pa_cons pe_str (pa_cons (pe_op op_fdivB (pe_op op_sub (pv 4) pe_int) pe_int) (pa_cons (pe_op op_sub (pv 5) pe_int) pa_nil star_bin) star_bin) star_const) star_name) star_name) star_name)))
   (pss_cons (ps_set (i := 9) nd rfl (by first | exact Or.inl rfl | exact Or.inr rfl) (pe_dcall D__law_term hr (pa_cons (pv 0) (pa_cons (pv 1) (pa_cons (pv 2) (pa_cons pe_str (pa_cons (pe_op op_fdivB (pe_op op_sub (pv 4) pe_int) pe_int) (pa_cons (pe_op op_sub (pv 5) pe_int) pa_nil star_bin) star_bin) star_const) star_name) star_name) star_name)))
   (pss_one (ps_ret (pe_tup (pa_cons pe_str (pa_cons (pe_ix ix_str pe_str (pe_dcall D__law_take hr (pa_cons (pv 0) (pa_cons pe_int pa_nil star_const) star_name)) (fun _ _ => rfl)) (pa_cons (pv 8) (pa_cons (pv 9) pa_nil star_name) star_name) star_sub) star_const))))))) pss_nil)
   (pss_cons (ps_if (pt_cmpR op_eq (pv 6) pe_str (nomark _)) (pss_cons (ps_setComp (i := 10) ["_law_part", "_law_room", "_law_kinds_here"] [none, some 4, some 1] rfl (by kernel_rfl) nd rfl (by first | exact Or.inl rfl | exact Or.inr rfl) (pi_tup (pv 7)) (fun _ _ _ _ => (pg_name (i := 0) (by show List.Nodup (["_law_part", "_law_room", "_law_kinds_here"] : List Str); decide +kernel) rfl (Or.inl rfl))) (fun _ _ _ _ => (pts_one (pt_cmpR op_lt (pe_dcall D__law_small hr (pa_cons (pv 2) (pa_cons (pe_ix (ix_tupC (K := K) rfl) (pv 0) pe_int (fun _ _ => rfl)) pa_nil star_sub) star_name)) (pv 1) (nomark _)))) (fun _ _ _ _ => (pv 0)))
   (pss_cons (ps_asg (pe_ix ix_list (pv 10) (pe_dcall D__law_take hr (pa_cons (pv 0) (pa_cons (pe_callB call_len_seq rfl T.z_len PySem.boot_len (pa_cons (pv 10) pa_nil star_name)) pa_nil star_call) star_name)) (fun _ _ => rfl)) (pg_tup rfl (pgs_cons (pg_name (i := 11) nd rfl (by first | exact Or.inl rfl | exact Or.inr rfl)) (pgs_cons (pg_name (i := 12) nd rfl (by first | exact Or.inl rfl | exact Or.inr rfl)) pgs_nil))))
   (pss_one (ps_ret (pe_tup (pa_cons pe_str (pa_cons (pv 3) (pa_cons (pv 11) (pa_cons (pe_dcall D__law_term hr (pa_cons (pv 0) (pa_cons (pv 1) (pa_cons (pv 2) (pa_cons (pv 12) (pa_cons (pe_op op_sub (pv 4) pe_int) (pa_cons (pv 5) pa_nil star_name) star_bin) star_name) star_name) star_name) star_name)) pa_nil star_call) star_name) star_name) star_const)))))) pss_nil)
   (pss_cons (ps_set (i := 13) nd rfl (by first | exact Or.inl rfl | exact Or.inr rfl) (pe_op op_sub (pv 4) (pe_dcall D__law_small hr (pa_cons (pv 1) (pa_cons (pv 3) pa_nil star_name) star_name))))
   (pss_cons (ps_set (i := 14) nd rfl (by first | exact Or.inl rfl | exact Or.inr rfl) (pe_lst pa_nil))
   (pss_cons (ps_for PassesOwn.never rfl (pi_tup (pv 7)) (pg_tup rfl (pgs_cons (pg_name (i := 15) nd rfl (by first | exact Or.inl rfl | exact Or.inr rfl)) (pgs_cons (pg_name (i := 12) nd rfl (by first | exact Or.inl rfl | exact Or.inr rfl)) pgs_nil)))
   (pss_one (ps_expr (pe_bm PySem.F.plainAttrs_list PySem.F.slot_list_append PySem.F.type_list_append mt_append (pv 14) (pa_cons (pe_dcall D__law_term hr (pa_cons (pv 0) (pa_cons (pv 1) (pa_cons (pv 2) (pa_cons (pv 12) (pa_cons (pe_op op_add (pe_dcall D__law_small hr (pa_cons (pv 1) (pa_cons (pv 12) pa_nil star_name) star_name)) (pe_op op_fdivB (pv 13) (pe_callB call_len_seq rfl T.z_len PySem.boot_len (pa_cons (pv 7) pa_nil star_name)))) (pa_cons (pv 5) pa_nil star_name) star_bin) star_name) star_name) star_name) star_name)) pa_nil star_call)))))
   (pss_one (ps_ret (pe_tup (pa_cons pe_str (pa_cons (pv 3) (pa_cons (pe_callTy call_tuple_of rfl T.z_tuple PyProof.Rows.boot_tuple (pa_cons (pv 14) pa_nil star_name)) pa_nil star_call) star_name) star_const)))))))))), seq_cut fun R1 hR1 => ?_⟩
 refine ⟨_, rfl, _, rfl, kv, ks, x, rfl, (wf.ksAt ti.kd).seq, fun t pv' H1 s1 ht rp => ?_⟩
 refine ⟨t, _, rfl, SqT.of ht, rfl, _, _, rfl, _, _, rfl, rfl, ?_⟩
 refine hR1 _ _ (seq_cut fun R2 hR2 => ?_)
 have t1 := ti.same s1
 obtain ⟨p1, q1, h1⟩ := t1.fd
 obtain ⟨p0, q0, hf⟩ := ti.fd
 have F1 : Fed f' H H1 := (Fed.refl hf).same s1
 rcases hxj.look wf with ⟨rfl, hkx⟩ | ⟨j', k, hjj, hkx, hn, hkm, hkp⟩
 ·refine ⟨_, rfl, rfl, _, rfl, iteKT (decide_eq_true (by rw [hkx]; rfl)) ?_⟩
  have RN : ∀ (H2 : Hp) (f2 : Fed f' H1 H2), ∀ (i : Int) (H3 : Hp), Nm i → Fed f' H2 H3 → ∀ t, H3 t = none → Q (.ref t) (upd H3 t (.tup [.str (S "num"), .int i])) := fun H2 f2 i H3 hi f3 t ht => by
   have st := Same.new ht (.tup [.str (S "num"), .int i])
   exact q _ (tNum i) _ (((F1.trans f2).trans f3).same st) ⟨t, _, rfl, upd_same, _, _, rfl, rfl, _, _, rfl, rfl, rfl⟩ (tb_num hi)
  refine ⟨_, rfl, _, _, rfl, rfl, _, rfl, ite2 (fun c1 => ?_) (fun c1 => ?_)⟩
  ·exact iteT ⟨_, rfl, f', p1, q1, rfl, h1, fun i H3 hi f3 => ⟨(by show 2 ≤ sizeLine; decide), fun t ht => RN H1 (Fed.refl h1) i H3 hi f3 t ht⟩⟩
  refine ⟨_, rfl, rfl, _, rfl, ite2 (fun c2 => ?_) (fun c2 => ?_)⟩
  ·exact iteT ⟨_, rfl, f', p1, q1, rfl, h1, fun i H3 hi f3 => ⟨(by show 2 ≤ sizeLine; decide), fun t ht => RN H1 (Fed.refl h1) i H3 hi f3 t ht⟩⟩
  have c1' : ¬ room < 3 := fun z => c1 (decide_eq_true z)
  have c2' : ¬ (m : Int) = 0 := fun z => c2 (decide_eq_true (congrArg V.int z))
  obtain ⟨m', rfl⟩ : ∃ m', m = m' + 1 := ⟨m - 1, by omega⟩
  have hj1 : (((m' + 1 : Nat) : Int)) - 1 = (m' : Int) := by omega
  refine ⟨_, rfl, f', p1, q1, _, rfl, h1, by decide, by decide, fun r H2 r0 r1 f2 => ⟨rfl, _, rfl, ite2 (fun c3 => ?_) (fun c3 => ?_)⟩⟩
  ·obtain ⟨p2, q2, h2⟩ := f2.2
   exact ⟨_, rfl, f', p2, q2, rfl, h2, fun i H3 hi f3 => ⟨(by show 2 ≤ sizeLine; decide), fun t ht => RN H2 f2 i H3 hi f3 t ht⟩⟩
  have t2 := t1.fed f2
  have hs1 := (sm_num wf).1
  have hrm : smK ks (S "num") ≤ (room - 1) / 2 := by rw [hs1]; omega
  refine ⟨_, rfl, _, rfl, _, rfl, _, rfl, _, _, rfl, rfl, _, _, rfl, rfl, ⟨by decide, by decide⟩, _, rfl, _, _, rfl, rfl, ?_⟩
  refine ⟨7 * m', by omega, f', kv, bv, ks, bs, S "num", (room - 1) / 2, m', 0, args6 hj1, rfl, by decide, t2.down (by omega), by omega, .inl rfl, hrm, fun u1 d1 H3 f3 ru1 ht1 => ?_⟩
  have t3 := t2.fed f3
  refine ⟨_, rfl, _, rfl, _, rfl, _, rfl, _, _, rfl, rfl, _, _, rfl, rfl, ⟨by decide, by decide⟩, _, rfl, _, _, rfl, rfl, ?_⟩
  refine ⟨7 * m', by omega, f', kv, bv, ks, bs, S "num", (room - 1) / 2, m', 0, args6 hj1, rfl, by decide, t3.down (by omega), by omega, .inl rfl, hrm, fun u2 d2 H4 f4 ru2 ht2 => ?_⟩
  have t4 := t3.fed f4
  obtain ⟨p4, q4, h4⟩ := t4.fd
  refine ⟨_, rfl, f', p4, q4, _, rfl, h4, by decide, by decide, fun r' H5 r0' r1' f5 => ?_⟩
  obtain ⟨ch, hch, hsg⟩ := sign_at r0' r1'
  refine ⟨_, _, ch, rfl, rfl, by decide +kernel, hch, _, rfl, _, rfl, (by show 4 ≤ sizeLine; decide), fun t' ht' => ?_⟩
  have st := Same.new ht' (.tup [.str (S "op"), .str ⟨#[ch]⟩, .ref u1, .ref u2])
  exact q _ (tOpD ⟨#[ch]⟩ d1 d2) _ (((((F1.trans f2).trans f3).trans f4).trans f5).same st) ⟨t', _, rfl, upd_same, _, _, rfl, rfl, _, _, rfl, rfl, _, _, rfl, ((ru1.tups (fed_tups t3.fd f4) _).tups (fed_tups t4.fd f5) _).same st _, _, _, rfl, (ru2.tups (fed_tups t4.fd f5) _).same st _, rfl⟩ (TmB.le (tb_op wf hsg ht1 ht2) (by omega))
 ·subst hjj
  rw [hkx] at rp
  obtain ⟨a, us, rfl, ha, hus⟩ := rp
  have hl := hus.length
  rw [List.length_map] at hl
  have h5 := wf.pts k hkm
  have hss : sortS (kAt ks x) = k.sort := by rw [hkx]; rfl
  have es := (sm_at wf hkx).1
  unfold smS at es
  cases hc : k.rc with
  | false =>
   rw [if_neg (by rw [hc]; decide)] at es
   refine ⟨_, rfl, rfl, _, rfl, iteKF (decide_eq_false (by rw [hss, alt_sort hc]; decide +kernel)) ?_⟩
   refine hR2 _ _ (seq_cut fun R3 hR3 => ?_)
   refine ⟨_, rfl, rfl, _, rfl, iteKT (decide_eq_true (by rw [hss, alt_sort hc]; rfl)) ?_⟩
   refine ⟨_, rfl, a, rfl, ⟨_, SqT.of ha⟩, ?_⟩
   refine comp_tupG (xs := us) (fun i ys H' => Same H1 H' ∧ (∀ z ∈ ys, PtAt H' ks k room z) ∧ (1 ≤ i → ys ≠ [])) ⟨Same.refl _, (fun _ h => nomatch h), fun h => absurd h (by decide)⟩ (fitsLt (by omega)) (fun i ys H' _ p => SqT.of (p.1 _ _ ha)) ?_ ?_
   ·rintro i y ys H' hy hi2 hly ⟨sm2, hys, hne⟩
    obtain ⟨d', hd2, rd2⟩ := hus.get hy
    rw [List.getElem?_map] at hd2
    obtain ⟨pr, hpr, rfl⟩ := Option.map_eq_some_iff.mp hd2
    obtain ⟨b, ws', rfl, hb, _, _, rfl, rfl, _, _, rfl, rfl, rfl⟩ := rd2
    have hpm := List.mem_of_getElem? hpr
    have first : i = 0 → smK ks pr.2 < room := fun e0 => by
     subst e0
     cases hpp : k.parts with
     | nil => rw [hpp] at hpr; simp at hpr
     | cons p r =>
      rw [hpp] at hpr es
      simp at hpr
      subst hpr
      have es' : smK ks x = 1 + smK ks p.2 := es
      omega
    refine ⟨ext_set rfl, ?_⟩
    refine ⟨_, rfl, _, rfl, b, _, _, _, rfl, rfl, SqT.of (sm2 _ _ hb), rfl, kv, ks, pr.2, rfl, t1.kd.same sm2 _, wf, kin_part6 wf hkm hpm, fun H3 s3 => ⟨_, rfl, _, _, rfl, rfl, _, rfl, ite2 (fun c1 => ?_) (fun c1 => ?_)⟩⟩
    ·refine ⟨_, rfl, nxtG hi2 hly ⟨sm2.trans s3, fun z hz => ?_, fun _ => by simp⟩⟩
     rcases List.mem_append.mp hz with hz | hz
     ·exact (hys z hz).tups fun b us q => s3 _ _ q
     ·rw [List.mem_singleton.mp hz]
      exact ⟨b, pr, rfl, s3 _ _ (sm2 _ _ hb), hpm, of_decide_eq_true c1⟩
    ·refine nxtN hi2 hly ⟨sm2.trans s3, fun z hz => (hys z hz).tups fun b us q => s3 _ _ q, fun _ => ?_⟩
     by_cases e0 : i = 0
     ·exact absurd (decide_eq_true (first e0)) c1
     ·exact hne (by omega)
   ·rintro ys H2 hly ⟨sm2, hys, hne⟩ D hD
    have hnl : k.parts.length ≠ 0 := fun e => wf.alt k hkm hc (List.length_eq_zero_iff.mp e)
    have hyne := hne (by omega)
    have hyp : 0 < ys.length := Nat.pos_of_ne_zero fun e => hyne (List.length_eq_zero_iff.mp e)
    have sD := Same.new hD (.lst ys)
    have s12 := sm2.trans sD
    have Df : D ≠ f' := Ne.symm (ne_of_none (sm2 _ _ h1) hD)
    refine ⟨_, rfl, _, rfl, _, rfl, D, _, rfl, .inl (SqL.of upd_same), f', p1, q1, _, rfl, s12 _ _ h1, by omega, by omega, fun r H5 r0 r1 f5 => ?_⟩
    obtain ⟨i, rfl⟩ : ∃ i : Nat, r = (i : Int) := ⟨r.toNat, by omega⟩
    have hi' : i < ys.length := by omega
    have t2 := t1.same s12
    have tp5 := fed_tups t2.fd f5
    obtain ⟨b, p, eb, hb, hpm, hsm⟩ := ((hys ys[i] (List.getElem_mem hi')).tups fun b us q => sD _ _ q).tups tp5
    have hat : atI ys (i : Int) = some (.ref b) := atI_nat (by rw [List.getElem?_eq_getElem hi', eb])
    refine ⟨D, _, _, _, rfl, rfl, SqL.of (f5.1 _ _ upd_same Df), hat, b, _, rfl, SqT.of hb, rfl, _, _, rfl, _, _, rfl, rfl, ?_⟩
    have t5 := t2.fed f5
    refine ⟨_, rfl, _, rfl, _, rfl, _, rfl, _, rfl, _, rfl, _, rfl, _, _, rfl, rfl, _, rfl, ?_⟩
    refine ⟨7 * m + j', by omega, f', kv, bv, ks, bs, p.2, room - 1, m, j', rfl, rfl, by omega, t5, m8, hkp p hpm, by omega, fun u du H7 f7 ru htu => ⟨(by show 4 ≤ sizeLine; decide), fun t' ht' => ?_⟩⟩
    have st := Same.new ht' (.tup [.str (S "tag"), .str x, .str p.1, .ref u])
    exact q _ (tTag x p.1 du) _ ((((F1.same s12).trans f5).trans f7).same st) ⟨t', _, rfl, upd_same, _, _, rfl, rfl, _, _, rfl, rfl, _, _, rfl, rfl, _, _, rfl, ru.same st _, rfl⟩ (TmB.le (tb_tag wf hkx hc hpm htu) (by omega))
  | true =>
   rw [if_pos hc] at es
   refine ⟨_, rfl, rfl, _, rfl, iteKF (decide_eq_false (by rw [hss, rec_sort hc]; decide +kernel)) ?_⟩
   refine hR2 _ _ (seq_cut fun R3 hR3 => ?_)
   refine ⟨_, rfl, rfl, _, rfl, iteKF (decide_eq_false (by rw [hss, rec_sort hc]; decide +kernel)) ?_⟩
   refine hR3 _ _ (seq_cut fun R4 hR4 => ?_)
   refine ⟨_, rfl, _, rfl, _, rfl, kv, ks, x, rfl, t1.kd, wf, hxin, fun H2 s2 => ⟨_, _, rfl, rfl, ?_⟩⟩
   refine hR4 _ _ (seq_cut fun R5 hR5 => ?_)
   refine ⟨(by show 0 ≤ sizeLine; decide), fun tl htl => ?_⟩
   refine hR5 _ _ (seq_cut fun R6 hR6 => ?_)
   have s12 := s2.trans (Same.new htl (.lst []))
   have htl1 := none_of_same s2 htl
   have tlf : tl ≠ f' := Ne.symm (ne_of_none h1 htl1)
   refine ⟨_, rfl, a, rfl, ⟨_, SqT.of (s12 _ _ ha)⟩, ?_⟩
   refine for_tup (xs := us) (fun i σ H' => ∃ (ws : List V) (ds : List D) (o12 o15 : Option V), σ = [some (.ref f'), some kv, some bv, some (.str x), some (.int room), some (.int (m : Int)), some (.str (sortS (kAt ks x))), some (.ref a), none, none, none, none, o12, some (.int (room - smK ks x)), some (.ref tl), o15] ∧ Fed f' H1 H' ∧ H' tl = some (.lst ws) ∧ RelDs H' ws ds ∧ All2 (fun e (p : Str × Str) => TmB ks (7 * m + j' + 1) bs e p.2) ds (k.parts.take i)) ⟨[], [], none, none, rfl, (Fed.refl h1).same s12, upd_same, rfl, by rw [List.take_zero]; exact .nil⟩ (fun i σ H' _ p => ?_) ?_ ?_
   ·obtain ⟨_, _, _, _, _, fm, _⟩ := p
    exact SqT.of (fed_tups t1.fd fm _ _ ha)
   ·rintro i vv σ H3 hvv ⟨ws, ds, o12, o15, rfl, fm, hws, rws, hall⟩
    have tp := fed_tups t1.fd fm
    obtain ⟨d', hd2, rd2⟩ := hus.get hvv
    rw [List.getElem?_map] at hd2
    obtain ⟨pr, hpr, rfl⟩ := Option.map_eq_some_iff.mp hd2
    obtain ⟨b, ws', rfl, hb, _, _, rfl, rfl, _, _, rfl, rfl, rfl⟩ := rd2
    have hpm := List.mem_of_getElem? hpr
    have t3 := t1.fed fm
    have hwl := rws.length
    have hal := hall.length
    rw [List.length_take] at hal
    have hi' : i < us.length := (List.getElem?_eq_some_iff.mp hvv).1
    refine ⟨b, _, rfl, SqT.of (tp _ _ hb), rfl, _, _, rfl, _, _, rfl, rfl, ?_⟩
    refine ⟨_, rfl, .inl ⟨rfl, _, SqL.of hws⟩, _, rfl, _, rfl, _, rfl, _, rfl, _, rfl, _, rfl, kv, ks, pr.2, rfl, t3.kd, wf, kin_part6 wf hkm hpm, fun H4 s4 => ?_⟩
    have hdv : 0 ≤ (room - smK ks x) / (us.length : Int) := Int.ediv_nonneg (by omega) (by omega)
    refine ⟨_, rfl, _, rfl, a, _, rfl, .inr (SqT.of (s4 _ _ (tp _ _ ha))), _, _, rfl, rfl, ⟨by omega, by omega⟩, _, _, rfl, rfl, _, rfl, ?_⟩
    have t4 := t3.same s4
    refine ⟨7 * m + j', by omega, f', kv, bv, ks, bs, pr.2, smK ks pr.2 + (room - smK ks x) / (us.length : Int), m, j', rfl, rfl, by omega, t4, m8, hkp pr hpm, by omega, fun u du H5 f5 ru htu => ?_⟩
    have hw5 := f5.1 _ _ (s4 _ _ hws) tlf
    have rw5 := (rws.same s4 _).tups (fed_tups t4.fd f5) _
    refine ⟨tl, ws, _, rfl, rfl, hw5, fitsLt (by omega), _, ds ++ [du], _, _, rfl, Fed.put ((fm.same s4).trans f5) htl1 tlf _, upd_same, (rw5.tups (lst_tups hw5 _) _).append ⟨.ref u, [], rfl, ru.tups (lst_tups hw5 _) _, rfl⟩, ?_⟩
    rw [List.take_add_one, hpr]
    exact all2_snoc hall htu
   ·rintro σ H3 ⟨ws, ds, o12, o15, rfl, fm, hws, rws, hall⟩
    rw [List.take_of_length_le (by omega)] at hall
    refine hR6 _ _ ?_
    refine ⟨_, rfl, _, rfl, tl, ws, rfl, .inl ⟨SqL.of hws, fun t2 ht2 => ⟨(by show 3 ≤ sizeLine; decide), fun t3 ht3 => ?_⟩⟩⟩
    have y2 := Same.new ht2 (.tup ws)
    have y3 := Same.new ht3 (.tup [.str (S "rec"), .str x, .ref t2])
    exact q _ (tRec x ds) _ ((F1.trans fm).same (y2.trans y3)) ⟨t3, _, rfl, upd_same, _, _, rfl, rfl, _, _, rfl, rfl, _, _, rfl, ⟨t2, ws, rfl, y3 _ _ upd_same, rws.same (y2.trans y3) _⟩, rfl⟩ (TmB.le (tb_rec hkx hc (by omega) hall) (by omega))
end
end K41
end
section
namespace L2
open PySem PySem.Spec PyProof.Rows
section
variable {X : Cx}
end
end L2
end
section
namespace PySem
open Sem (wp)
section
variable {prog : Program} {w : World} {A : Around} {E : Value → Shared → Prop} {s : Shared}
theorem getAttrQ_miss_tup {a : Addr} {xs : Array Value} {k : Nat} {sl : Array (Option Value)} {name : Str} {Q : Option Value → Shared → Prop}
  (hx : s.heap.get? a = some { cls := .type "tuple", dict := none, data := .seq xs k, slots := sl }) (hmiss : typeLookup (.type "tuple") name = pure none) (hname : (["__module__", "__name__", "__qualname__", "__doc__", "__annotations__"] : List Str).contains name = false) (hA : A.handled = none)
  (h : ∀ h' tk, (∀ b o, s.heap.get? b = some o → h'.get? b = some o) → Q none { s with heap := h', toks := tk }) (hsz : name.length + 100 ≤ sizeLine) :
  wpAny (model prog w) A (getAttr? (.ref a) name) Q E s := by
 obtain ⟨hp, g, d, tk, os⟩ := s
 have hT : ∀ tk', (⟨hp, g, d, tk', os⟩ : Shared).TypeIs (.ref a) "tuple" := fun _ => ⟨_, hx, rfl⟩
 have f1 := sub_AttributeError
 have f3 := F.slot_tuple_getattribute.lookup
 have f4 := F.slot_tuple_getattribute.bind (.ref a)
 have f5 := am_tuple_getattr_none
 unfold getAttr? getAttrBy? getAttrBy
 repeat (any_goals (first | assumption | exact hT _ | ((with_reducible show wpAny _ _ (call (Value.builtin "tuple.__getattribute__") _ _) _ _ _); refine call_meets F.slot_tuple_getattribute (hT _) am_entry_tuple_getattribute (F.args_tuple_getattribute_2 _ _) (meets_getattribute_miss_tuple a xs k sl name _ hmiss hname hsz) ⟨hx, hA, fun h' tk' e hx' => ?_⟩) | wp_step))
 obtain ⟨t', u', he⟩ := hx'.there
 show wpAny _ _ (getattributeRaised _ _ _ _ _ _ _) _ _ _
 unfold getattributeRaised
 repeat (any_goals (first | assumption | wp_step))
 all_goals first | exact h _ _ hx'.keeps | skip
end
end PySem
namespace L2
open PySem PySem.Spec PyProof.Rows
section
variable {prog : Program} {w : World} {A : Around} {K : Type} [DecidableEq K] {knd : KeyKind prog w K}
theorem tup_ne_iterT {h : Heap} {a I l : Addr} {i : Nat} {xs : Array Value} (ht : h.IsTuple a xs) (hd : h.IsTupleIter I l i) : a ≠ I := fun e => by
 subst e
 obtain ⟨o, ho, hc, _⟩ := ht
 obtain ⟨t, ht2, hc2, _⟩ := hd
 have : o = t := Option.some.inj (ho.symm.trans ht2)
 subst this
 rw [hc] at hc2
 exact absurd (Value.type.inj hc2) (by decide)
theorem upd_loopT {R : Result → Shared → Prop} {I l d : Addr} {its : List Value} {ps : List (K × Value)} (hh : A.in1.handled = none) (hne : l ≠ I) (hdl : l ≠ d) (hdI : I ≠ d) :
    ∀ (k i : Nat) (s : Shared) (cur : List (K × Value)), its.length - i = k → i ≤ its.length → s.heap.IsTupleIter I l i → s.heap.IsTuple l its.toArray → s.heap.DictOf knd d cur → PairsAt knd s.heap (its.drop i) (ps.drop i) → cur.length + (its.length - i) ≤ sizeLine →
    (∀ h' tk, h'.DictOf knd d (merged cur (ps.drop i)) → (∀ b o, b ≠ d → b ≠ I → s.heap.get? b = some o → h'.get? b = some o) → R (.ok (.ret .none)) { s with heap := h', toks := tk }) →
    codeAny (model prog w) A (.builtin "dict.update.loop" ⟨[.ref d, .ref I, rawInt i, .none], []⟩) R s := by
  intro k
  induction k with
  | zero =>
    intro i s cur hk hi hit hl hd hp hsz hR
    have hin : i = its.length := by omega
    have W := Walks.tuple (prog := prog) (w := w) (A := A.in1) hh I l hne its.toArray
    refine codeAny_builtin entry_upd_loop ?_
    rw [Around.under_plainId plain_upd_loop _]
    show wpAny _ A.in1 (pyNext (.ref I) >>= _) _ _ s
    refine wpAny_bind (W.done s _ _ (by have e : its.toArray.size = i := by simp [hin]
                                        rw [e]; exact ⟨hit, hl⟩) fun h' tk hk' => ?_)
    show wpAny _ _ (Builtin.Dict.addKeywords d [] >>= _) _ _ _
    refine wpAny_bind (wpAny_pure (wpAny_pure ?_))
    have hps : ps.drop i = [] := by
      rw [hin, List.drop_length] at hp
      rw [hin]
      cases hq : ps.drop its.length with
      | nil => rfl
      | cons p r => rw [hq] at hp; exact hp.elim
    refine hR h' tk ?_ fun b o hb hbI e => hk' b o (by simpa using hbI) e
    rw [hps]
    exact hd.at fun o e => hk' d o (by simpa using (Ne.symm hdI)) e
  | succ k ih =>
    intro i s cur hk hi hit hl hd hp hsz hR
    have hlt : i < its.length := by omega
    have W := Walks.tuple (prog := prog) (w := w) (A := A.in1) hh I l hne its.toArray
    have hdi : its.drop i = its[i] :: its.drop (i + 1) := List.drop_eq_getElem_cons hlt
    rw [hdi] at hp
    obtain ⟨p, r, hpe⟩ : ∃ p r, ps.drop i = p :: r := by
      cases hq : ps.drop i with
      | nil => rw [hq] at hp; exact hp.elim
      | cons p r => exact ⟨p, r, rfl⟩
    have hpr : ps.drop (i + 1) = r := by rw [← List.tail_drop, hpe]; rfl
    rw [hpe] at hp
    obtain ⟨⟨a, key, ea, hta, hkey⟩, hrest⟩ := hp
    refine codeAny_builtin entry_upd_loop ?_
    rw [Around.under_plainId plain_upd_loop _]
    show wpAny _ A.in1 (pyNext (.ref I) >>= _) _ _ s
    refine wpAny_bind (W.item i s _ _ (by simpa using hlt) ⟨hit, hl⟩ fun v h' tk hP hst' hk' => ?_)
    have hv : v = .ref a := by
      have : its[i]? = some v := by simpa using hP
      rw [List.getElem?_eq_getElem hlt, ea] at this
      exact (Option.some.inj this).symm
    subst hv
    have hta' : h'.IsTuple a #[key, p.2] := hta.at fun o e => hk' a o (by simpa using tup_ne_iterT hta hit) e
    have hd' : h'.DictOf knd d cur := hd.at fun o e => hk' d o (by simpa using (Ne.symm hdI)) e
    obtain ⟨oa, hoa, hca, na, hda⟩ := id hta'
    refine wpAny_bind (wpAny_holding (wpAny_bind (wpAny_tryCatch ?_)))
    unfold Builtin.Dict.pairItems
    refine wpAny_bind (wpAny_typeOf ⟨oa, hoa, hca⟩ ?_)
    rw [if_pos (by decide)]
    refine wpAny_bind (wpAny_seqItems hoa hda (wpAny_pure ?_))
    show wpAny _ _ (holding [key, p.2] (dictSet d key p.2)) _ _ _
    refine wpAny_holding (wpAny_dictSet_pairs hkey hd' (fun h2 hd2 hs2 => ?_) (by omega))
    have st2 : h2.IsTupleIter I l (i + 1) ∧ h2.IsTuple l its.toArray := ⟨hst'.1.at fun o e => (hs2.2 I hdI).trans e, hst'.2.at fun o e => (hs2.2 l hdl).trans e⟩
    refine wpAny_pure ⟨plainId_quiet plain_upd_loop _, ih (i + 1) _ _ (by omega) hlt st2.1 st2.2 hd2 ?_ ?_ fun h3 tk3 hd3 hk3 => ?_⟩
    · rw [hpr]
      exact hrest.keep fun b xs hb => by
        have h1 : h'.IsTuple b xs := hb.at fun o e => hk' b o (by simpa using tup_ne_iterT hb hit) e
        exact h1.at fun o e => (hs2.2 b (tup_ne_dict h1 hd')).trans e
    · have := stored_length_le cur p.1 p.2
      omega
    · refine hR h3 tk3 ?_ fun b o hb hbI e => hk3 b o hb hbI ((hs2.2 b hb).trans (hk' b o (by simpa using hbI) e))
      rw [hpe]
      rw [hpr] at hd3
      exact hd3
end
end L2
namespace L2
open PySem PySem.Spec PyProof.Rows
theorem tup_no_keys : typeLookup (.type "tuple") "keys" = pure none := am_miss_of_fast (by kernel_rfl)
section
variable {prog : Program} {w : World} {A : Around} {E : Value → Shared → Prop} {s : Shared} {K : Type} [DecidableEq K] {knd : KeyKind prog w K}
theorem dict_of_tup {l : Addr} {its : List Value} {n : Nat} {sl : Array (Option Value)} {ps : List (K × Value)} {Q : Value → Shared → Prop} (hh : A.handled = none) (hl : s.heap.get? l = some { cls := .type "tuple", data := .seq its.toArray n, dict := none, slots := sl }) (hp : PairsAt knd s.heap its ps) (hsz : its.length ≤ sizeLine)
  (h : ∀ h' tk, h'.DictOf knd s.heap.objs.size (merged [] ps) → (∀ b o, s.heap.get? b = some o → h'.get? b = some o) → Q (.ref s.heap.objs.size) { s with heap := h', toks := tk }) :
  wpAny (model prog w) A (call (.type "dict") [.ref l]) Q E s := by
 refine callType_codes (Q₁ := fun obj s₁ => obj = .ref s.heap.objs.size ∧ s₁ = { s with heap := s.heap.push { cls := .type "dict", data := .dict #[] } }) F.kt_called_dict (F.kt_typeCall_dict_1 _) F.entry_dict_init (kt_code_dict_new _ ⟨rfl, rfl⟩) ?_
 rintro obj s₁ ⟨rfl, rfl⟩
 have hnew : (s.heap.push { cls := .type "dict", data := .dict #[] }).DictOf knd s.heap.objs.size [] := Heap.DictOf.new s.heap
 have ext0 : ∀ b o, s.heap.get? b = some o → (s.heap.push { cls := .type "dict", data := .dict #[] }).get? b = some o := fun b o e => Heap.get?_push_of_some _ e
 have hl0 := ext0 _ _ hl
 have hT : (⟨s.heap.push { cls := .type "dict", data := .dict #[] }, s.gens, s.drawn, s.toks, s.os⟩ : Shared).TypeIs (.ref l) "tuple" := ⟨_, hl0, rfl⟩
 have hdl : l ≠ s.heap.objs.size := fun e => absurd (Heap.lt_size hl) (by rw [e]; exact Nat.lt_irrefl _)
 refine ⟨hnew.typeIs, F.args_dict_init_2 _ _, ?_⟩
 unfold Builtin.«dict.__init__»
 refine wpAny_bind ?_
 unfold Builtin.Dict.selfAndRest
 refine wpAny_bind (wpAny_notOrdered_dict hnew.typeIs ?_)
 show wpAny _ _ (pure (s.heap.objs.size, [Value.ref l])) _ _ _
 refine wpAny_pure ?_
 show wpAny _ _ (Builtin.Dict.updateFrom "dict.__init__" s.heap.objs.size (.ref l) [] .none) _ _ _
 unfold Builtin.Dict.updateFrom
 refine wpAny_bind (wpAny_typeOf hT ?_)
 rw [if_pos (by decide)]
 refine wpAny_bind (getAttrQ_miss_tup (sl := sl) hl0 tup_no_keys (by decide +kernel) hh (fun h1 tk1 k1 => ?_) (by decide +kernel))
 rw [if_pos (show (none : Option Value).isNone = true from rfl)]
 refine wpAny_bind (wpAny_rule ?_)
 have hl1 := k1 _ _ hl0
 have hL1 : h1.IsTuple l its.toArray := ⟨_, hl1, rfl, _, rfl⟩
 refine wpAny_bind (wpAny_pyIter_tuple hL1 (wpAny_pure ⟨plainId_quiet plain_upd_loop _, ?_⟩))
 have hsz1 : s.heap.objs.size < h1.objs.size := Heap.lt_size (k1 _ _ (Heap.get?_push_size _ rfl))
 have hlI : l < h1.objs.size := Heap.lt_size hl1
 have ext2 : ∀ b o, h1.get? b = some o → (h1.push { cls := .type "tuple_iterator", data := .fields #[.ref l, .int 0 0] }).get? b = some o := fun b o e => Heap.get?_push_of_some _ e
 refine upd_loopT (knd := knd) (A := A.in1) (ps := ps) (l := l) (d := s.heap.objs.size) (its := its) hh (Nat.ne_of_lt hlI) hdl (Nat.ne_of_gt hsz1) its.length 0 _ [] (Nat.sub_zero _) (Nat.zero_le _) ⟨_, Heap.get?_push_size _ rfl, rfl, rfl⟩ (hL1.push _) (hnew.at fun o e => ext2 _ _ (k1 _ _ e)) (hp.keep fun a xs ha => ha.at fun o e => ext2 _ _ (k1 _ _ (ext0 _ _ e))) (by simpa using hsz) fun h3 tk3 hd3 hk3 => ?_
 refine ⟨rfl, h h3 tk3 hd3 fun b o e => hk3 b o ?_ ?_ (ext2 _ _ (k1 _ _ (ext0 _ _ e)))⟩
 ·exact fun z => absurd (Heap.lt_size e) (by rw [z]; exact Nat.lt_irrefl _)
 ·exact fun z => absurd (Heap.lt_size e) (by rw [z]; exact Nat.not_lt_of_gt hsz1)
end
end L2
namespace L2
open PySem PySem.Spec PyProof.Rows
section
variable {X : Cx}
theorem call_dictT (hc : X.calm = true) : CallR X (.type "dict") (fun xs H Q => ∃ a ys, ∃ kvs : List (Key × V), xs = [.ref a] ∧ H a = some (.tup ys) ∧ PairsV H ys kvs ∧ ∀ p, H p = none → Q (.ref p) (upd H p (.dK (mergeK [] kvs)))) := by
 intro pins s σ H xs us Q I r h
 obtain ⟨a, ys, kvs, rfl, ha, hp, q⟩ := h
 obtain ⟨u, rfl, ru⟩ := vals1 r
 obtain rfl : u = .ref a := ru
 obtain ⟨hz, its, rv, ⟨oc, od, dt, sl⟩, ho, h1, n, h2, h3⟩ := (show ObjOk X.prog X.w H s.heap a (.tup ys) from I.hok a _ ha)
 simp only at h1 h2 h3
 subst h1 h2 h3
 obtain ⟨ps, hk, hpa⟩ := pairs_at I rv hp
 have hyl := hp.length
 refine dict_of_tup (knd := mixKind X.prog X.w) (I.ok.hd hc) ho hpa (by rw [← rv.length]; exact hz) fun h' tk dd' k' => ?_
 have hz' : (mergeK [] kvs).length ≤ sizeLine := by
  have := length_mergeK kvs []
  rw [List.length_nil] at this
  omega
 exact ⟨.ref s.heap.objs.size, _, I.laid (a := s.heap.objs.size) (o := .dK (mergeK [] kvs)) (t' := tk) k' (Nat.le_refl _) (dk_new hz' (beq_eq_false_iff_ne.mpr (Ne.symm (Nat.ne_of_lt I.big))) (hk.merge .nil) dd'), rfl, q _ (I.hok.fresh (Nat.le_refl _))⟩
end
end L2
end
section
namespace M
open PySem L2
abbrev Wy := Str × Str × D
def wyD (y : Wy) : D := .tup [.str y.2.1, y.2.2]
def WAll (H : Hp) : List (Key × V) → List Wy → Prop
 | [], [] => True
 | kv :: kvs, y :: ys => (kv.1 = Sum.inr y.1 ∧ RelD H kv.2 (wyD y)) ∧ WAll H kvs ys
 | _, _ => False
theorem WAll.len {H : Hp} : ∀ {kvs : List (Key × V)} {ys : List Wy}, WAll H kvs ys → kvs.length = ys.length
 | [], [], _ => rfl
 | kv :: kvs, y :: ys, h => by rw [List.length_cons, List.length_cons, WAll.len h.2]
theorem WAll.tups {H H' : Hp} (s : ∀ b us, H b = some (.tup us) → H' b = some (.tup us)) : ∀ {kvs : List (Key × V)} {ys : List Wy}, WAll H kvs ys → WAll H' kvs ys
 | [], [], _ => trivial
 | kv :: kvs, y :: ys, h => ⟨⟨h.1.1, h.1.2.tups s _⟩, WAll.tups s h.2⟩
theorem WAll.snoc {H : Hp} {kv : Key × V} {y : Wy} (h : kv.1 = Sum.inr y.1 ∧ RelD H kv.2 (wyD y)) : ∀ {kvs : List (Key × V)} {ys : List Wy}, WAll H kvs ys → WAll H (kvs ++ [kv]) (ys ++ [y])
 | [], [], _ => ⟨h, trivial⟩
 | kv' :: kvs, y' :: ys, g => ⟨g.1, WAll.snoc h g.2⟩
theorem WAll.get {H : Hp} : ∀ {kvs : List (Key × V)} {ys : List Wy}, WAll H kvs ys → ∀ {i : Nat} {kv : Key × V}, kvs[i]? = some kv → ∃ y, ys[i]? = some y ∧ kv.1 = Sum.inr y.1 ∧ RelD H kv.2 (wyD y)
 | kv' :: kvs, y :: ys, g, 0, kv, e => by
  simp at e
  subst e
  exact ⟨y, rfl, g.1⟩
 | kv' :: kvs, y :: ys, g, i + 1, kv, e => WAll.get g.2 (by simpa using e)
def wyAt (ys : List Wy) (x : Str) : Option Wy := ys.find? fun y => decide (y.1 = x)
def goesTo (ys : List Wy) (x : Str) : Option Str := if x = S "num" then some (S "num") else (wyAt ys x).map fun y => y.2.1
def optV : Option Str → V
 | some x => .str x
 | none => .non
def WaysAt (H : Hp) (a : Addr) (ys : List Wy) : Prop := ∃ kvs : List (Key × V), Rd H a (.dK kvs) ∧ WAll H kvs ys
theorem WAll.val {H : Hp} {x : Str} : ∀ {kvs : List (Key × V)} {ys : List Wy}, WAll H kvs ys → (wyAt ys x = none → valV kvs (Sum.inr x : Key) = none) ∧ ∀ y, wyAt ys x = some y → ∃ v, valV kvs (Sum.inr x : Key) = some v ∧ RelD H v (wyD y)
 | [], [], _ => ⟨fun _ => rfl, fun y e => (by cases e)⟩
 | kv :: kvs, y :: ys, h => by
  have ih := WAll.val (x := x) h.2
  unfold wyAt valV at *
  rw [List.find?_cons, List.find?_cons]
  by_cases c : y.1 = x
  ·have c' : kv.1 = Sum.inr x := by rw [h.1.1, c]
   rw [decide_eq_true c, decide_eq_true c']
   exact ⟨fun e => (by cases e), fun z e => by cases e; exact ⟨kv.2, rfl, h.1.2⟩⟩
  ·have c' : ¬ kv.1 = Sum.inr x := fun z => c (Sum.inr.inj (h.1.1.symm.trans z))
   rw [decide_eq_false c, decide_eq_false c']
   exact ih
theorem Rd.same {H H' : Hp} {a : Addr} {u : HO} (h : Rd H a u) (s : Same H H') : Rd H' a u := by
 rcases h with h | ⟨o, h⟩
 ·exact .inl (s _ _ h)
 ·exact .inr ⟨o, s _ _ h⟩
theorem WaysAt.same {H H' : Hp} {a : Addr} {ys : List Wy} (h : WaysAt H a ys) (s : Same H H') : WaysAt H' a ys := by
 obtain ⟨kvs, h1, h2⟩ := h
 exact ⟨kvs, Rd.same h1 s, h2.tups fun b us e => s _ _ e⟩
theorem DGet.rd {H : Hp} {a : Addr} {kvs : List (Key × V)} {k : Key} (e : Rd H a (.dK kvs)) : DGet H a (kV k) (valV kvs k) := .inl ⟨kvs, k, e, rfl, rfl⟩
end M
end
section
namespace K41
open PySem L2 M
seal L2.PE L2.PA L2.PS L2.PSs L2.PT L2.PW L2.PI L2.PG L2.PJ L2.PTs
structure Hold (R : Prop) : Prop where
 go : R
theorem merge0 {R A : Prop} (h : Hold R → A) (r : R) : A := h ⟨r⟩
theorem DefIs.anyP {P : Program} {w : World} {K : PySem.W.Frag} {mg : Str → Option Value} {base : Heap} {n : Nat} {x : Str} {st : Stmt} {ps : List Str} {Pr : Nat → Prop} {sps : Nat → Sp} (T : DefTx K mg x st ps) (D : ∀ m, Pr m → DefIs P w K mg base n x ps (sps m)) : DefIs P w K mg base n x ps (fun vs H Q E => ∃ m, Pr m ∧ sps m vs H Q E) := by
 by_cases hP : ∃ m, Pr m
 ·obtain ⟨m0, h0⟩ := hP
  obtain ⟨f, fd, F, b, k, mm, l⟩ := (D m0 h0).ex
  refine ⟨f, fd, ⟨?_, ?_⟩, b, k, mm, l⟩
  ·rintro vs H Q E ⟨m, hm, h⟩
   obtain ⟨f2, fd2, F2, _⟩ := (D m hm).ex
   exact F2.1 vs H Q E h
  ·rintro A outer s H args us vs Q E h1 h2 h3 h4 ⟨m, hm, h⟩
   obtain ⟨f2, fd2, F2, b2, k2, mm2, l2⟩ := (D m hm).ex
   rw [mm] at mm2
   cases mm2
   obtain ⟨oc, od, osl, l⟩ := l
   obtain ⟨_, _, _, l2⟩ := l2
   rw [l] at l2
   cases l2
   exact F2.2 A outer s H args us vs Q E h1 h2 h3 h4 h
 ·exact DefIs.none T fun vs H Q E h => hP ⟨h.choose, h.choose_spec.1⟩
def spArmsC (c : Nat) : Sp := fun vs H Q E => ∃ m, 7 * m + 6 < c ∧ spArmsW m vs H Q E
theorem val_not {z : Str} : ∀ {bs : List (Str × Str)}, (∀ b ∈ bs, b.1 ≠ z) → ∀ acc, valV (mergeK acc (bKV bs)) (Sum.inr z) = valV acc (Sum.inr z)
 | [], _, acc => rfl
 | b :: bs, h, acc => by
  have := val_not (bs := bs) (fun b' hb => h b' (by simp [hb])) (putK acc (Sum.inr b.1) (.str b.2))
  show valV (mergeK (putK acc (Sum.inr b.1) (.str b.2)) (bKV bs)) (Sum.inr z) = _
  rw [this, valV_put, if_neg]
  intro e
  exact h b (by simp) (Sum.inr.inj e).symm
theorem val_bs {z k : Str} : ∀ {bs : List (Str × Str)}, (bs.map (·.1)).Nodup → (z, k) ∈ bs → ∀ acc, valV (mergeK acc (bKV bs)) (Sum.inr z) = some (.str k)
 | b :: bs, nd, h, acc => by
  rw [List.map_cons, List.nodup_cons] at nd
  show valV (mergeK (putK acc (Sum.inr b.1) (.str b.2)) (bKV bs)) (Sum.inr z) = _
  rcases List.mem_cons.mp h with h | h
  ·subst h
   rw [val_not (bs := bs) (fun b' hb e => nd.1 (List.mem_map.mpr ⟨b', hb, e⟩)), valV_put, if_pos rfl]
  ·exact val_bs nd.2 h _
theorem look_ps {ks : List Kn} (wf : KWf ks) {y : Str} (h : KIn ks 6 y) {H : Hp} {v : V} (rp : RelD H v (partsD (kAt ks y))) : ∃ ps, RelD H v (dParts ps) ∧ ps.length ≤ 5 ∧ (sortS (kAt ks y) = S "rec" → ∃ k, kAt ks y = some k ∧ k.rc = true ∧ k.parts = ps) ∧ (sortS (kAt ks y) = S "alt" → ∃ k, kAt ks y = some k ∧ k.rc = false ∧ k.parts = ps) := by
 rcases h.look wf with ⟨rfl, e⟩ | ⟨j, k, hj, e, hn, hm, hp⟩
 ·rw [e] at rp ⊢
  exact ⟨[], rp, by decide, fun z => absurd z (by decide +kernel), fun z => absurd z (by decide +kernel)⟩
 ·rw [e] at rp ⊢
  refine ⟨k.parts, rp, by have := wf.pts k hm; omega, fun z => ⟨k, rfl, ?_, rfl⟩, fun z => ⟨k, rfl, ?_, rfl⟩⟩
  ·cases hc : k.rc with
   | true => rfl
   | false =>
    have z' : k.sort = S "rec" := z
    rw [alt_sort hc] at z'
    exact absurd z' (by decide +kernel)
  ·cases hc : k.rc with
   | false => rfl
   | true =>
    have z' : k.sort = S "alt" := z
    rw [rec_sort hc] at z'
    exact absurd z' (by decide +kernel)
def HdAt (H : Hp) (ks : List Kn) (bs : List (Str × Str)) (x : Str) (w : V) : Prop := ∃ (b : Addr) (z g y : Str) (k : Kn), w = .ref b ∧ H b = some (.tup [.str z, .str g]) ∧ (z, y) ∈ bs ∧ kAt ks y = some k ∧ k.rc = true ∧ (g, x) ∈ k.parts
theorem HdAt.tups {H H' : Hp} {ks : List Kn} {bs : List (Str × Str)} {x : Str} {w : V} (h : HdAt H ks bs x w) (s : ∀ b us, H b = some (.tup us) → H' b = some (.tup us)) : HdAt H' ks bs x w := by
 obtain ⟨b, z, g, y, k, e, hb, r⟩ := h
 exact ⟨b, z, g, y, k, e, s _ _ hb, r⟩
def TgOk (ks : List Kn) (bs : List (Str × Str)) (z : Str) : Prop := ∃ (y : Str) (k : Kn), (z, y) ∈ bs ∧ kAt ks y = some k ∧ k.rc = false
section
variable {P : Program} {w : World} {K : PySem.W.Frag} {mg : Str → Option Value} {base : Heap} {n m : Nat}
theorem ok__law_term (T : Tx K mg) {c : Nat} (D__law_take : DefIs P w K mg base n "_law_take" ["_law_feed_here", "_law_many"] spTake) (D__law_boxed : DefIs P w K mg base n "_law_boxed" ["_law_feed_here", "_law_some"] spBoxed) (D__law_small : DefIs P w K mg base n "_law_small" ["_law_kinds_here", "_law_kind"] (spSm smK 6)) (D__law_sort_of : DefIs P w K mg base n "_law_sort_of" ["_law_kinds_here", "_law_kind"] spLSort) (D__law_term : DefIs P w K mg base n "_law_term" ["_law_feed_here", "_law_kinds_here", "_law_boxes", "_law_kind", "_law_room", "_law_deep"] (spTlt c)) (D__law_arms : DefIs P w K mg base n "_law_arms" ["_law_feed_here", "_law_kinds_here", "_law_boxes", "_law_parts_here", "_law_kind", "_law_room", "_law_deep"] (spArmsC c)) (D__law_whole_term : DefIs P w K mg base n "_law_whole_term" ["_law_feed_here", "_law_kinds_here", "_law_boxes", "_law_kind", "_law_room", "_law_deep"] (spTw c)) :
  DefIs P w K mg base (n + 1) "_law_term" ["_law_feed_here", "_law_kinds_here", "_law_boxes", "_law_kind", "_law_room", "_law_deep"] (spTw c) := by
 refine DefIs.of T.d__law_term sc__law_term (fun vs H Q E h => ?_) (fun f cdv A outer s H vs Q E hr h => ?_)
 ·obtain ⟨_, _, _, _, _, _, _, _, _, rfl, _⟩ := h
  rfl
 obtain ⟨f', kv, bv, ks, bs, x, room, m, j, rfl, hcm, hj6, ti, m8, hxj, hroom, q⟩ := h
 have nd := sc__law_term.nd
 have hu := hu_of hr
 have wf := ti.wf
 have hxin : KIn ks 6 x := hxj.mono hj6
 have hsb := sm_bound wf x
 refine ⟨_, (pss_cons (ps_setComp (i := 6) ["_law_x", "_law_told_here", "_law_kind"] [none, none, some 3] rfl (by kernel_rfl) nd rfl (by first | exact Or.inl rfl | exact Or.inr rfl) (pi_list (pv 2)) (fun _ _ _ _ => (pg_tupC (K := K) (n := 2) rfl rfl (pgs_cons (pg_name (i := 0) (by show List.Nodup (["_law_x", "_law_told_here", "_law_kind"] : List Str); decide +kernel) rfl (Or.inl rfl)) (pgs_cons (pg_name (i := 1) (by show List.Nodup (["_law_x", "_law_told_here", "_law_kind"] : List Str); decide +kernel) rfl (Or.inl rfl)) pgs_nil)))) (fun _ _ _ _ => (pts_one (pt_cmpR op_eq (pv 1) (pv 2) (nomark _)))) (fun _ _ _ _ => (pv 0)))
   (pss_cons (ps_set (i := 7) nd rfl (by first | exact Or.inl rfl | exact Or.inr rfl) (pe_dcall D__law_take hr (pa_cons (pv 0) (pa_cons pe_int pa_nil star_const) star_name)))
   (pss_cons (ps_if (PW.pt (pw_and (pt_cmpR op_gt (pe_callB call_len_seq rfl T.z_len PySem.boot_len (pa_cons (pv 6) pa_nil star_name)) pe_int (nomark _)) (pw_and1 (pt_cmpR op_lt (pv 7) pe_int (nomark _))))) (pss_one (ps_ret (pe_dcall D__law_boxed hr (pa_cons (pv 0) (pa_cons (pv 6) pa_nil star_name) star_name)))) pss_nil)
   (pss_cons (ps_set (i := 8) nd rfl (by first | exact Or.inl rfl | exact Or.inr rfl) (pe_dcall D__law_small hr (pa_cons (pv 1) (pa_cons (pv 3) pa_nil star_name) star_name)))
   (pss_cons (ps_if (PW.pt (pw_and (pt_cmpR op_eq (pv 7) pe_int (nomark _)) (pw_and (pt_cmpR op_gt (pv 5) pe_int (nomark _)) (pw_and1 (pt_cmpR op_gt (pv 4) (pe_op op_add (pe_op op_mul pe_int (pv 8)) pe_int) (nomark _)))))) (pss_cons (ps_set (i := 9) nd rfl (by first | exact Or.inl rfl | exact Or.inr rfl) (pe_op op_fdivB (pe_op op_sub (pe_op op_sub (pv 4) pe_int) (pe_op op_mul pe_int (pv 8))) pe_int))
   (pss_cons (ps_set (i := 10) nd rfl (by first | exact Or.inl rfl | exact Or.inr rfl) (pe_dcall D__law_term hr (pa_cons (pv 0) (pa_cons (pv 1) (pa_cons (pv 2) (pa_cons pe_str (pa_cons (pe_op op_add pe_int (pv 9)) (pa_cons (pe_op op_sub (pv 5) pe_int) pa_nil star_bin) star_bin) star_const) star_name) star_name) star_name)))
   (pss_cons (ps_set (i := 11) nd rfl (by first | exact Or.inl rfl | exact Or.inr rfl) (pe_dcall D__law_term hr (pa_cons (pv 0) (pa_cons (pv 1) (pa_cons (pv 2) (pa_cons (pv 3) (pa_cons (pe_op op_add (pv 8) (pv 9)) (pa_cons (pe_op op_sub (pv 5) pe_int) pa_nil star_bin) star_bin) star_name) star_name) star_name) star_name)))
   (pss_one (ps_ret (pe_tup (pa_cons pe_str (pa_cons (pv 10) (pa_cons (pv 11) (pa_cons (pe_dcall D__law_term hr (pa_cons (pv 0) (pa_cons (pv 1) (pa_cons (pv 2) (pa_cons (pv 3) (pa_cons (pe_op op_add (pv 8) (pv 9)) (pa_cons (pe_op op_sub (pv 5) pe_int) pa_nil star_bin) star_bin) star_name) star_name) star_name) star_name)) pa_nil star_call) star_name) star_name) star_const))))))) pss_nil)
   (pss_cons (ps_if (PW.pt (pw_and (pt_cmpR op_eq (pv 7) pe_int (nomark _)) (pw_and1 (pt_cmpR op_gt (pv 4) pe_int (nomark _))))) (pss_cons (ps_set (i := 12) nd rfl (by first | exact Or.inl rfl | exact Or.inr rfl) (pe_lst pa_nil))
   (pss_cons (ps_for PassesOwn.never rfl (pi_list (pv 2)) (pg_tup rfl (pgs_cons (pg_name (i := 13) nd rfl (by first | exact Or.inl rfl | exact Or.inr rfl)) (pgs_cons (pg_name (i := 14) nd rfl (by first | exact Or.inl rfl | exact Or.inr rfl)) pgs_nil)))
   (pss_cons (ps_asg (pe_dcall D__law_sort_of hr (pa_cons (pv 1) (pa_cons (pv 14) pa_nil star_name) star_name)) (pg_tup rfl (pgs_cons (pg_name (i := 15) nd rfl (by first | exact Or.inl rfl | exact Or.inr rfl)) (pgs_cons (pg_name (i := 16) nd rfl (by first | exact Or.inl rfl | exact Or.inr rfl)) pgs_nil))))
   (pss_one (ps_set (i := 12) nd rfl (by first | exact Or.inl rfl | exact Or.inr rfl) (pe_op op_cat (pv 12) (pe_comp ["_law_f", "_law_part", "_law_x", "_law_sort", "_law_kind"] [none, none, some 13, some 15, some 3] rfl (by kernel_rfl) (pi_tup (pv 16)) (fun _ _ _ _ => (pg_tupC (K := K) (n := 2) rfl rfl (pgs_cons (pg_name (i := 0) (by show List.Nodup (["_law_f", "_law_part", "_law_x", "_law_sort", "_law_kind"] : List Str); decide +kernel) rfl (Or.inl rfl)) (pgs_cons (pg_name (i := 1) (by show List.Nodup (["_law_f", "_law_part", "_law_x", "_law_sort", "_law_kind"] : List Str); decide +kernel) rfl (Or.inl rfl)) pgs_nil)))) (fun _ _ _ _ => (pts_one (PW.pt (pw_and (pt_cmpR op_eq (pv 3) pe_str (nomark _)) (pw_and1 (pt_cmpR op_eq (pv 1) (pv 4) (nomark _))))))) (fun _ _ _ _ => (pe_tup (pa_cons (pv 2) (pa_cons (pv 0) pa_nil star_name) star_name)))))))))
   (pss_one (ps_if (pt_cmpR op_gt (pe_callB call_len_seq rfl T.z_len PySem.boot_len (pa_cons (pv 12) pa_nil star_name)) pe_int (nomark _)) (pss_cons (ps_asg (pe_ix ix_list (pv 12) (pe_dcall D__law_take hr (pa_cons (pv 0) (pa_cons (pe_callB call_len_seq rfl T.z_len PySem.boot_len (pa_cons (pv 12) pa_nil star_name)) pa_nil star_call) star_name)) (fun _ _ => rfl)) (pg_tup rfl (pgs_cons (pg_name (i := 13) nd rfl (by first | exact Or.inl rfl | exact Or.inr rfl)) (pgs_cons (pg_name (i := 17) nd rfl (by first | exact Or.inl rfl | exact Or.inr rfl)) pgs_nil))))
   (pss_one (ps_ret (pe_tup (pa_cons pe_str (pa_cons (pe_tup (pa_cons pe_str (pa_cons (pv 13) pa_nil star_name) star_const)) (pa_cons (pv 17) pa_nil star_name) star_tup) star_const))))) pss_nil)))) pss_nil)
   (pss_cons (ps_if (PW.pt (pw_and (pt_cmpR op_eq (pv 7) pe_int (nomark _)) (pw_and1 (pt_cmpR op_gt (pv 5) pe_int (nomark _))))) (pss_cons (ps_setComp (i := 18) ["_law_x", "_law_told_here", "_law_kinds_here"] [none, none, some 1] rfl (by kernel_rfl) nd rfl (by first | exact Or.inl rfl | exact Or.inr rfl) (pi_list (pv 2)) (fun _ _ _ _ => (pg_tupC (K := K) (n := 2) rfl rfl (pgs_cons (pg_name (i := 0) (by show List.Nodup (["_law_x", "_law_told_here", "_law_kinds_here"] : List Str); decide +kernel) rfl (Or.inl rfl)) (pgs_cons (pg_name (i := 1) (by show List.Nodup (["_law_x", "_law_told_here", "_law_kinds_here"] : List Str); decide +kernel) rfl (Or.inl rfl)) pgs_nil)))) (fun _ _ _ _ => (pts_one (pt_cmpR op_eq (pe_ix (ix_tupC (K := K) rfl) (pe_dcall D__law_sort_of hr (pa_cons (pv 2) (pa_cons (pv 1) pa_nil star_name) star_name)) pe_int (fun _ _ => rfl)) pe_str (nomark _)))) (fun _ _ _ _ => (pv 0)))
   (pss_one (ps_if (pt_cmpR op_gt (pe_callB call_len_seq rfl T.z_len PySem.boot_len (pa_cons (pv 18) pa_nil star_name)) pe_int (nomark _)) (pss_cons (ps_set (i := 13) nd rfl (by first | exact Or.inl rfl | exact Or.inr rfl) (pe_ix ix_list (pv 18) (pe_dcall D__law_take hr (pa_cons (pv 0) (pa_cons (pe_callB call_len_seq rfl T.z_len PySem.boot_len (pa_cons (pv 18) pa_nil star_name)) pa_nil star_call) star_name)) (fun _ _ => rfl)))
   (pss_cons (ps_set (i := 16) nd rfl (by first | exact Or.inl rfl | exact Or.inr rfl) (pe_ix ix_tup (pe_dcall D__law_sort_of hr (pa_cons (pv 1) (pa_cons (pe_dget hu (pe_callTy (call_dictL rfl) rfl T.z_dict PyProof.Rows.boot_dict (pa_cons (pv 2) pa_nil star_name)) (pv 13) (fun _ _ => rfl)) pa_nil star_sub) star_name)) pe_int (fun _ _ => rfl)))
   (pss_one (ps_if (pt_cmpR op_ge (pe_op op_sub (pv 4) pe_int) (pe_op op_mul (pv 8) (pe_callB call_len_seq rfl T.z_len PySem.boot_len (pa_cons (pv 16) pa_nil star_name))) (nomark _)) (pss_one (ps_ret (pe_tup (pa_cons pe_str (pa_cons (pe_tup (pa_cons pe_str (pa_cons (pv 13) pa_nil star_name) star_const)) (pa_cons (pe_dcall D__law_arms hr (pa_cons (pv 0) (pa_cons (pv 1) (pa_cons (pv 2) (pa_cons (pv 16) (pa_cons (pv 3) (pa_cons (pe_op op_sub (pv 4) pe_int) (pa_cons (pv 5) pa_nil star_name) star_bin) star_name) star_name) star_name) star_name) star_name)) pa_nil star_call) star_tup) star_const)))) pss_nil)))) pss_nil))) pss_nil)
   (pss_one (ps_ret (pe_dcall D__law_whole_term hr (pa_cons (pv 0) (pa_cons (pv 1) (pa_cons (pv 2) (pa_cons (pv 3) (pa_cons (pv 4) (pa_cons (pv 5) pa_nil star_name) star_name) star_name) star_name) star_name) star_name))))))))))), ?_⟩
 refine seq_cut fun R1 hR1 => ?_
 obtain ⟨p0, q0, hf⟩ := ti.fd
 have hbx := ti.bx
 obtain ⟨bl, ub, rfl, hbl, hub, blf⟩ := hbx
 have hul := hub.length
 rw [List.length_map] at hul
 have hbl30 := ti.bl
 refine ⟨_, rfl, bl, rfl, ⟨_, SqL.of hbl⟩, ?_⟩
 refine comp_listG (xs := ub) (fun i ys H' => H' = H ∧ ∃ zs : List Str, ys = zs.map V.str ∧ (∀ z ∈ zs, (z, x) ∈ bs) ∧ zs.length ≤ i) ⟨rfl, [], rfl, (fun _ h => nomatch h), Nat.le_refl _⟩ (fitsLt (by omega)) (fun i ys H' _ p => by obtain ⟨rfl, _⟩ := p; exact SqL.of hbl) ?_ ?_
 ·rintro i y ys H' hy hi2 hly ⟨rfl, zs, rfl, hzs, hzl⟩
  obtain ⟨d', hd2, rd2⟩ := hub.get hy
  rw [List.getElem?_map] at hd2
  obtain ⟨pr, hpr, rfl⟩ := Option.map_eq_some_iff.mp hd2
  obtain ⟨b, ws', rfl, hb, _, _, rfl, rfl, _, _, rfl, rfl, rfl⟩ := rd2
  refine ⟨b, _, rfl, SqT.of hb, rfl, _, _, rfl, _, _, rfl, rfl, ext2 rfl rfl, ?_⟩
  refine ⟨_, rfl, _, rfl, rfl, _, rfl, ?_⟩
  by_cases hpx : pr.2 = x
  ·refine iteKT (decide_eq_true (by rw [hpx])) ⟨_, rfl, nxtG hi2 hly ⟨rfl, zs ++ [pr.1], by rw [List.map_append]; rfl, fun z hz => ?_, by rw [List.length_append, List.length_singleton]; omega⟩⟩
   rcases List.mem_append.mp hz with hz | hz
   ·exact hzs z hz
   ·rw [List.mem_singleton.mp hz, ← hpx]
    exact List.mem_of_getElem? hpr
  ·exact iteKF (decide_eq_false fun z => hpx (V.str.inj z)) (nxtN hi2 hly ⟨rfl, zs, rfl, hzs, by omega⟩)
 rintro ys H2 hly ⟨rfl, zs, rfl, hzs, hzl⟩ D hD
 have sD := Same.new hD (.lst (zs.map V.str))
 have t1 := ti.same sD
 have F1 := (Fed.refl hf).same sD
 have Df : D ≠ f' := Ne.symm (ne_of_none hf hD)
 refine hR1 _ _ (seq_cut fun R2 hR2 => ?_)
 refine ⟨_, rfl, f', p0, q0, _, rfl, sD _ _ hf, by decide, by decide, fun fm H1 m0 m1 f1 => ?_⟩
 have t2 := t1.fed f1
 have F2 := F1.trans f1
 obtain ⟨p2, q2, h2⟩ := t2.fd
 have hD2 := f1.1 _ _ upd_same Df
 have zl : (zs.map V.str).length = zs.length := List.length_map _
 refine hR2 _ _ (seq_cut fun R3 hR3 => ?_)
 apply merge0
 ·intro key
  refine ⟨_, rfl, D, _, rfl, .inl (SqL.of hD2), _, _, rfl, rfl, _, rfl, ite2 (fun c1 => ?_) (fun c1 => ?_)⟩
  ·refine ⟨_, rfl, _, _, rfl, rfl, _, rfl, ite2 (fun c2 => ?_) (fun c2 => ?_)⟩
   ·have hzp := of_decide_eq_true c1
    rw [zl] at hzp
    exact ⟨_, rfl, _, rfl, f', D, p2, q2, zs, rfl, h2, hD2, List.length_pos_iff.mp (by omega), by omega, Df, fun z t H' hz fz rz => q t (tBox z) H' (F2.trans fz) rz (tb_box (hzs z hz))⟩
   ·exact key.go
  ·exact iteF key.go
 refine hR3 _ _ (seq_cut fun R4 hR4 => ?_)
 refine ⟨_, rfl, _, rfl, kv, ks, x, rfl, t2.kd, wf, hxin, fun H3 s3 => ?_⟩
 have t3 := t2.same s3
 have F3 := F2.same s3
 obtain ⟨p3, q3, h3⟩ := t3.fd
 have hbx3 := t3.bx
 obtain ⟨bl3, ub3, e3b, hbl3, hub3, blf3⟩ := hbx3
 cases e3b
 have hul3 := hub3.length
 rw [List.length_map] at hul3
 refine hR4 _ _ (seq_cut fun R5 hR5 => ?_)
 by_cases e3 : fm = 3
 ·refine ⟨_, rfl, rfl, _, rfl, iteKT (decide_eq_true (by rw [e3])) ?_⟩
  apply merge0
  ·intro key
   refine ⟨_, rfl, _, _, rfl, rfl, _, rfl, ite2 (fun c2 => ?_) (fun c2 => iteF key.go)⟩
   refine ⟨_, rfl, _, rfl, _, _, rfl, rfl, .inr ⟨by omega, by omega⟩, _, _, rfl, rfl, _, _, rfl, rfl, _, rfl, ite2 (fun c3 => ?_) (fun c3 => key.go)⟩
   have c2' : (0 : Int) < (m : Int) := of_decide_eq_true c2
   have c3' : 2 * smK ks x + 1 < room := of_decide_eq_true c3
   obtain ⟨m', rfl⟩ : ∃ m', m = m' + 1 := ⟨m - 1, by omega⟩
   have hj1 : (((m' + 1 : Nat) : Int)) - 1 = (m' : Int) := by omega
   refine ⟨_, rfl, _, _, rfl, rfl, _, rfl, _, _, rfl, rfl, .inr ⟨by omega, by omega⟩, _, _, rfl, rfl, _, _, rfl, rfl, ⟨by decide, by decide⟩, ?_⟩
   have hm0 : 0 ≤ (room - 2 - 2 * smK ks x) / 3 := Int.ediv_nonneg (by omega) (by decide)
   refine ⟨_, rfl, _, rfl, _, rfl, _, rfl, _, _, rfl, rfl, _, rfl, _, _, rfl, rfl, ?_⟩
   refine ⟨7 * m', by omega, f', kv, .ref bl, ks, bs, S "num", 1 + (room - 2 - 2 * smK ks x) / 3, m', 0, args6 hj1, rfl, by decide, t3.down (by omega), by omega, .inl rfl, by rw [(sm_num wf).1]; omega, fun u1 d1 H5 f5 ru1 ht1 => ?_⟩
   have t5 := t3.fed f5
   refine ⟨_, rfl, _, rfl, _, rfl, _, rfl, _, rfl, _, rfl, _, _, rfl, rfl, _, rfl, _, _, rfl, rfl, ?_⟩
   refine ⟨7 * m' + j, by omega, f', kv, .ref bl, ks, bs, x, smK ks x + (room - 2 - 2 * smK ks x) / 3, m', j, args6 hj1, rfl, hj6, t5.down (by omega), by omega, hxj, by omega, fun u2 d2 H6 f6 ru2 ht2 => ?_⟩
   have t6 := t5.fed f6
   refine ⟨_, rfl, _, rfl, _, rfl, _, rfl, _, rfl, _, rfl, _, rfl, _, rfl, _, _, rfl, rfl, _, rfl, _, _, rfl, rfl, ?_⟩
   refine ⟨7 * m' + j, by omega, f', kv, .ref bl, ks, bs, x, smK ks x + (room - 2 - 2 * smK ks x) / 3, m', j, args6 hj1, rfl, hj6, t6.down (by omega), by omega, hxj, by omega, fun u3 d3 H7 f7 ru3 ht3 => ⟨(by show 4 ≤ sizeLine; decide), fun t ht => ?_⟩⟩
   have st := Same.new ht (.tup [.str (S "if"), .ref u1, .ref u2, .ref u3])
   exact q _ (tIfD d1 d2 d3) _ ((((F3.trans f5).trans f6).trans f7).same st) ⟨t, _, rfl, upd_same, _, _, rfl, rfl, _, _, rfl, ((ru1.tups (fed_tups t5.fd f6) _).tups (fed_tups t6.fd f7) _).same st _, _, _, rfl, (ru2.tups (fed_tups t6.fd f7) _).same st _, _, _, rfl, ru3.same st _, rfl⟩ (TmB.le (tb_if wf (TmB.le ht1 (by omega)) ht2 ht3) (by omega))
  refine hR5 _ _ (seq_cut fun R6 hR6 => ?_)
  refine ⟨_, rfl, rfl, _, rfl, iteKF (decide_eq_false fun z => absurd (V.int.inj z) (by omega)) (iteF ?_)⟩
  refine hR6 _ _ (seq_cut fun R7 hR7 => ?_)
  refine ⟨_, rfl, rfl, _, rfl, iteKF (decide_eq_false fun z => absurd (V.int.inj z) (by omega)) (iteF ?_)⟩
  refine hR7 _ _ ?_
  exact ⟨_, rfl, _, rfl, _, rfl, _, rfl, _, rfl, _, rfl, f', kv, .ref bl, ks, bs, x, room, m, j, rfl, hcm, hj6, t3, m8, hxj, hroom, fun a d H' fd ra ha => q a d H' (F3.trans fd) ra ha⟩
 refine ⟨_, rfl, rfl, _, rfl, iteKF (decide_eq_false fun z => e3 (V.int.inj z)) (iteF ?_)⟩
 refine hR5 _ _ (seq_cut fun R6 hR6 => ?_)
 by_cases e4 : fm = 4
 ·refine ⟨_, rfl, rfl, _, rfl, iteKT (decide_eq_true (by rw [e4])) ?_⟩
  refine ⟨_, rfl, _, _, rfl, rfl, _, rfl, ite2 (fun c2 => ?_) (fun c2 => ?_)⟩
  ·refine ⟨(by show 0 ≤ sizeLine; decide), fun hd hhd => ?_⟩
   have s4 := Same.new hhd (.lst [])
   refine ⟨_, rfl, bl, rfl, ⟨_, SqL.of (s4 _ _ hbl3)⟩, ?_⟩
   refine for_list (xs := ub3) (fun i σ H' => ∃ (ha : Addr) (ws : List V) (o13 o14 o15 o16 : Option V), σ = [some (.ref f'), some kv, some (.ref bl), some (.str x), some (.int room), some (.int (m : Int)), some (.ref D), some (.int fm), some (.int (smK ks x)), none, none, none, some (.ref ha), o13, o14, o15, o16, none, none] ∧ Same H3 H' ∧ H' ha = some (.lst ws) ∧ ha ≠ f' ∧ (∀ w ∈ ws, HdAt H' ks bs x w) ∧ ws.length ≤ 5 * i)
    ⟨hd, [], none, none, none, none, rfl, s4, upd_same, Ne.symm (ne_of_none h3 hhd), (fun _ h => nomatch h), Nat.zero_le _⟩ (fun i σ H' _ p => ?_) ?_ ?_
   ·obtain ⟨_, _, _, _, _, _, _, sm, _⟩ := p
    exact SqL.of (sm _ _ hbl3)
   ·rintro i vv σ H4 hvv ⟨ha, ws, o13, o14, o15, o16, rfl, sm, hws, haf, hall, hwl⟩
    obtain ⟨d', hd2, rd2⟩ := hub3.get hvv
    rw [List.getElem?_map] at hd2
    obtain ⟨pr, hpr, rfl⟩ := Option.map_eq_some_iff.mp hd2
    obtain ⟨b, ws', rfl, hb, _, _, rfl, rfl, _, _, rfl, rfl, rfl⟩ := rd2
    have hpm := List.mem_of_getElem? hpr
    have hi' : i < ub3.length := (List.getElem?_eq_some_iff.mp hvv).1
    refine ⟨b, _, rfl, SqT.of (sm _ _ hb), rfl, _, _, rfl, _, _, rfl, rfl, ?_⟩
    refine ⟨_, rfl, _, rfl, kv, ks, pr.2, rfl, (wf.ksAt (t3.kd.same sm _)).seq, fun t pv' H5 s5 ht rp => ?_⟩
    refine ⟨t, _, rfl, SqT.of ht, rfl, _, _, rfl, _, _, rfl, rfl, ?_⟩
    obtain ⟨ps, rps, h5, hrec, halt⟩ := look_ps wf (t3.kn pr hpm) rp
    obtain ⟨a, us, rfl, hpa, hus⟩ := rps
    have hl := hus.length
    rw [List.length_map] at hl
    refine ⟨_, rfl, _, rfl, a, rfl, ⟨_, SqT.of hpa⟩, ?_⟩
    refine comp_tupG (xs := us) (fun i ys H' => Same H5 H' ∧ (∀ w ∈ ys, HdAt H' ks bs x w) ∧ ys.length ≤ i) ⟨Same.refl _, (fun _ h => nomatch h), Nat.le_refl _⟩ (fitsLt (by omega)) (fun i ys H' _ p => SqT.of (p.1 _ _ hpa)) ?_ ?_
    ·rintro i2 y ys H' hy hi2 hly ⟨sm2, hys, hyl⟩
     obtain ⟨d', hd2, rd2⟩ := hus.get hy
     rw [List.getElem?_map] at hd2
     obtain ⟨pt, hpt, rfl⟩ := Option.map_eq_some_iff.mp hd2
     obtain ⟨b2, ws2, rfl, hb2, _, _, rfl, rfl, _, _, rfl, rfl, rfl⟩ := rd2
     refine ⟨b2, _, rfl, SqT.of (sm2 _ _ hb2), rfl, _, _, rfl, _, _, rfl, rfl, ext2 rfl rfl, ?_⟩
     refine ⟨_, rfl, rfl, _, rfl, ?_⟩
     by_cases hs : sortS (kAt ks pr.2) = S "rec"
     ·refine iteKT (decide_eq_true (congrArg V.str hs)) ?_
      refine ⟨_, rfl, _, rfl, rfl, _, rfl, ?_⟩
      by_cases hpx : pt.2 = x
      ·refine iteKT (decide_eq_true (by rw [hpx])) ⟨_, rfl, _, rfl, (by show 2 ≤ sizeLine; decide), fun t2 ht2 => nxtG hi2 hly ⟨sm2.trans (Same.new ht2 _), fun z hz => ?_, by rw [List.length_append, List.length_singleton]; omega⟩⟩
       rcases List.mem_append.mp hz with hz | hz
       ·exact (hys z hz).tups fun b us q => Same.new ht2 _ _ _ q
       ·obtain ⟨k, hk, hrc, hkp⟩ := hrec hs
        rw [List.mem_singleton.mp hz]
        exact ⟨t2, pr.1, pt.1, pr.2, k, rfl, upd_same, hpm, hk, hrc, by rw [hkp, ← hpx]; exact List.mem_of_getElem? hpt⟩
      ·exact iteKF (decide_eq_false fun z => hpx (V.str.inj z)) (nxtN hi2 hly ⟨sm2, hys, by omega⟩)
     ·exact iteKF (decide_eq_false fun z => hs (V.str.inj z)) (iteF (nxtN hi2 hly ⟨sm2, hys, by omega⟩))
    ·rintro ys H6 hly ⟨sm2, hys, hyl⟩ D2 hD2'
     have sD2 := Same.new hD2' (.lst ys)
     have s56 := s5.trans (sm2.trans sD2)
     refine ⟨ha, D2, _, _, rfl, rfl, s56 _ _ hws, upd_same, fits (by omega), fun l3 hl3 => ?_⟩
     have sl := Same.new hl3 (.lst (ws ++ ys))
     refine ⟨l3, ws ++ ys, _, _, _, _, rfl, sm.trans (s56.trans sl), upd_same, Ne.symm (ne_of_none ((sm.trans s56) _ _ h3) hl3), fun z hz => ?_, by rw [List.length_append]; omega⟩
     rcases List.mem_append.mp hz with hz | hz
     ·exact (hall z hz).tups fun b us q => (s56.trans sl) _ _ q
     ·exact (hys z hz).tups fun b us q => (sD2.trans sl) _ _ q
   ·rintro σ H4 ⟨ha, ws, o13, o14, o15, o16, rfl, sm, hws, haf, hall, hwl⟩
    have t4 := t3.same sm
    have F4 := F3.same sm
    refine ⟨_, rfl, ha, _, rfl, .inl (SqL.of hws), _, _, rfl, rfl, _, rfl, ite2 (fun c3 => ?_) (fun c3 => ?_)⟩
    ·have hwp := of_decide_eq_true c3
     refine ⟨_, rfl, _, rfl, _, rfl, ha, _, rfl, .inl (SqL.of hws), f', p3, q3, _, rfl, sm _ _ h3, by omega, by omega, fun r H6 r0 r1 f6 => ?_⟩
     obtain ⟨i, rfl⟩ : ∃ i : Nat, r = (i : Int) := ⟨r.toNat, by omega⟩
     have hi' : i < ws.length := by omega
     obtain ⟨b, z, g, y, k, eb, hb, hz, hk, hrc, hg⟩ := (hall ws[i] (List.getElem_mem hi')).tups (fed_tups t4.fd f6)
     have hat : atI ws (i : Int) = some (.ref b) := atI_nat (by rw [List.getElem?_eq_getElem hi', eb])
     refine ⟨ha, _, _, _, rfl, rfl, SqL.of (f6.1 _ _ hws haf), hat, b, _, rfl, SqT.of hb, rfl, _, _, rfl, _, _, rfl, rfl, ?_⟩
     refine ⟨_, rfl, (by show 2 ≤ sizeLine; decide), fun t1 ht1 => ⟨_, rfl, (by show 3 ≤ sizeLine; decide), fun t2 ht2 => ?_⟩⟩
     have y1 := Same.new ht1 (.tup [.str (S "box"), .str z])
     have y2 := Same.new ht2 (.tup [.str (S "get"), .ref t1, .str g])
     exact q _ (tGet (tBox z) g) _ ((F4.trans f6).same (y1.trans y2)) ⟨t2, _, rfl, upd_same, _, _, rfl, rfl, _, _, rfl, ⟨t1, _, rfl, y2 _ _ upd_same, _, _, rfl, rfl, _, _, rfl, rfl, rfl⟩, _, _, rfl, rfl, rfl⟩ (tb_get (p := (g, x)) wf hk hrc hg (tb_box hz))
    ·refine hR6 _ _ (seq_cut fun R7 hR7 => ?_)
     refine ⟨_, rfl, rfl, _, rfl, iteKF (decide_eq_false fun z => absurd (V.int.inj z) (by omega)) (iteF ?_)⟩
     refine hR7 _ _ ?_
     exact ⟨_, rfl, _, rfl, _, rfl, _, rfl, _, rfl, _, rfl, f', kv, .ref bl, ks, bs, x, room, m, j, rfl, hcm, hj6, t4, m8, hxj, hroom, fun a d H' fd ra ha => q a d H' (F4.trans fd) ra ha⟩
  ·refine hR6 _ _ (seq_cut fun R7 hR7 => ?_)
   refine ⟨_, rfl, rfl, _, rfl, iteKF (decide_eq_false fun z => absurd (V.int.inj z) (by omega)) (iteF ?_)⟩
   refine hR7 _ _ ?_
   exact ⟨_, rfl, _, rfl, _, rfl, _, rfl, _, rfl, _, rfl, f', kv, .ref bl, ks, bs, x, room, m, j, rfl, hcm, hj6, t3, m8, hxj, hroom, fun a d H' fd ra ha => q a d H' (F3.trans fd) ra ha⟩
 refine ⟨_, rfl, rfl, _, rfl, iteKF (decide_eq_false fun z => e4 (V.int.inj z)) (iteF ?_)⟩
 refine hR6 _ _ (seq_cut fun R7 hR7 => ?_)
 by_cases e5 : fm = 5
 ·refine ⟨_, rfl, rfl, _, rfl, iteKT (decide_eq_true (by rw [e5])) ?_⟩
  refine ⟨_, rfl, _, _, rfl, rfl, _, rfl, ite2 (fun c2 => ?_) (fun c2 => ?_)⟩
  ·have c2' : (0 : Int) < (m : Int) := of_decide_eq_true c2
   refine ⟨_, rfl, bl, rfl, ⟨_, SqL.of hbl3⟩, ?_⟩
   refine comp_listG (xs := ub3) (fun i ys H' => Same H3 H' ∧ ∃ zs : List Str, ys = zs.map V.str ∧ (∀ z ∈ zs, TgOk ks bs z) ∧ zs.length ≤ i) ⟨Same.refl _, [], rfl, (fun _ h => nomatch h), Nat.le_refl _⟩ (fitsLt (by omega)) (fun i ys H' _ p => SqL.of (p.1 _ _ hbl3)) ?_ ?_
   ·rintro i y ys H' hy hi2 hly ⟨sm, zs, rfl, hzs, hzl⟩
    obtain ⟨d', hd2, rd2⟩ := hub3.get hy
    rw [List.getElem?_map] at hd2
    obtain ⟨pr, hpr, rfl⟩ := Option.map_eq_some_iff.mp hd2
    obtain ⟨b, ws', rfl, hb, _, _, rfl, rfl, _, _, rfl, rfl, rfl⟩ := rd2
    have hpm := List.mem_of_getElem? hpr
    refine ⟨b, _, rfl, SqT.of (sm _ _ hb), rfl, _, _, rfl, _, _, rfl, rfl, ext2 rfl rfl, ?_⟩
    refine ⟨_, rfl, _, rfl, kv, ks, pr.2, rfl, (wf.ksAt (t3.kd.same sm _)).seq, fun t pv' H5 s5 ht rp => ⟨t, _, _, _, rfl, rfl, SqT.of ht, rfl, rfl, _, rfl, ?_⟩⟩
    obtain ⟨ps, rps, h5, hrec, halt⟩ := look_ps wf (t3.kn pr hpm) rp
    by_cases hs : sortS (kAt ks pr.2) = S "alt"
    ·refine iteKT (decide_eq_true (congrArg V.str hs)) ⟨_, rfl, nxtG hi2 hly ⟨sm.trans s5, zs ++ [pr.1], by rw [List.map_append]; rfl, fun z hz => ?_, by rw [List.length_append, List.length_singleton]; omega⟩⟩
     rcases List.mem_append.mp hz with hz | hz
     ·exact hzs z hz
     ·obtain ⟨k, hk, hrc, _⟩ := halt hs
      rw [List.mem_singleton.mp hz]
      exact ⟨pr.2, k, hpm, hk, hrc⟩
    ·exact iteKF (decide_eq_false fun z => hs (V.str.inj z)) (nxtN hi2 hly ⟨sm.trans s5, zs, rfl, hzs, by omega⟩)
   rintro ys H4 hly ⟨sm, tgs, rfl, htg, htl⟩ G hG
   have sG := Same.new hG (.lst (tgs.map V.str))
   have s4 := sm.trans sG
   have t4 := t3.same s4
   have F4 := F3.same s4
   have Gf : G ≠ f' := Ne.symm (ne_of_none (sm _ _ h3) hG)
   have gl : (tgs.map V.str).length = tgs.length := List.length_map _
   refine ⟨_, rfl, G, _, rfl, .inl (SqL.of upd_same), _, _, rfl, rfl, _, rfl, ite2 (fun c3 => ?_) (fun c3 => ?_)⟩
   ·have hgp := of_decide_eq_true c3
    rw [gl] at hgp
    refine ⟨_, rfl, _, rfl, _, rfl, G, _, rfl, .inl (SqL.of upd_same), f', p3, q3, _, rfl, s4 _ _ h3, by rw [gl]; omega, by rw [gl]; omega, fun r H6 r0 r1 f6 => ?_⟩
    rw [gl] at r1
    obtain ⟨i, rfl⟩ : ∃ i : Nat, r = (i : Int) := ⟨r.toNat, by omega⟩
    have hi' : i < tgs.length := by omega
    obtain ⟨y, k, hzy, hk, hrc⟩ := htg tgs[i] (List.getElem_mem hi')
    have hkm := List.mem_of_find?_eq_some hk
    have t6 := t4.fed f6
    have F6 := F4.trans f6
    have hbx6 := t6.bx
    obtain ⟨bl6, ub6, e6b, hbl6, hub6, blf6⟩ := hbx6
    cases e6b
    refine ⟨G, _, _, .str tgs[i], rfl, rfl, SqL.of (f6.1 _ _ upd_same Gf), atI_nat (by rw [List.getElem?_map, List.getElem?_eq_getElem hi']; rfl), ?_⟩
    refine ⟨_, rfl, _, rfl, bl, ub6, bKV bs, rfl, hbl6, pairs_bs hub6, fun p hp => ?_⟩
    have sp := Same.new hp (.dK (mergeK [] (bKV bs)))
    have hdg := DGet.rd (H := upd H6 p (.dK (mergeK [] (bKV bs)))) (a := p) (kvs := mergeK [] (bKV bs)) (k := (Sum.inr tgs[i] : Key)) (Or.inl upd_same)
    rw [val_bs ti.nd hzy] at hdg
    refine ⟨_, rfl, p, .str y, rfl, hdg, ?_⟩
    have t7 := t6.same sp
    refine ⟨kv, ks, y, rfl, (wf.ksAt t7.kd).seq, fun t pv' H8 s8 ht rp => ⟨t, _, _, _, rfl, rfl, SqT.of ht, rfl, ?_⟩⟩
    have t8 := t7.same s8
    have F8 := F6.same (sp.trans s8)
    rw [hk] at rp
    have rp' := rp
    obtain ⟨a, us, rfl, hpa, hus⟩ := rp
    have hl := hus.length
    rw [List.length_map] at hl
    have h5 := wf.pts k hkm
    refine ⟨_, rfl, _, _, rfl, rfl, _, rfl, _, rfl, a, _, rfl, .inr (SqT.of hpa), _, _, rfl, rfl, .inl ⟨by omega, by omega⟩, _, _, rfl, rfl, _, rfl, ite2 (fun c4 => ?_) (fun c4 => ?_)⟩
    ·have c4' : smK ks x * (us.length : Int) ≤ room - 2 := of_decide_eq_true c4
     rw [hl] at c4'
     obtain ⟨m', rfl⟩ : ∃ m', m = m' + 1 := ⟨m - 1, by omega⟩
     refine ⟨_, rfl, (by show 2 ≤ sizeLine; decide), fun t1 ht1 => ?_⟩
     have y1 := Same.new ht1 (.tup [.str (S "box"), .str tgs[i]])
     refine ⟨_, rfl, _, rfl, _, rfl, _, rfl, _, rfl, _, rfl, _, _, rfl, rfl, _, rfl, m', by omega, f', kv, .ref bl, .ref a, ks, bs, k.parts, x, room - 2, rfl, t8.same y1, by omega, rp'.same y1 _, wf.alt k hkm hrc, h5, wf.pnd k hkm, fun p hp => kin_part6 wf hkm hp, hxin, c4', fun u rs H9 f9 ru hlen hsub hnd hrs => ⟨(by show 3 ≤ sizeLine; decide), fun t2 ht2 => ?_⟩⟩
     have y2 := Same.new ht2 (.tup [.str (S "case"), .ref t1, u])
     have hb9 := fed_tups (t8.same y1).fd f9 _ _ upd_same
     exact q _ (tCase (tBox tgs[i]) rs) _ (((F8.same y1).trans f9).same y2) ⟨t2, _, rfl, upd_same, _, _, rfl, rfl, _, _, rfl, ⟨t1, _, rfl, y2 _ _ hb9, _, _, rfl, rfl, _, _, rfl, rfl, rfl⟩, _, _, rfl, ru.same y2 _, rfl⟩ (TmB.le (tb_case wf hk hrc (tb_box hzy) (by omega) hnd hlen hsub hrs) (by omega))
    ·refine hR7 _ _ ?_
     exact ⟨_, rfl, _, rfl, _, rfl, _, rfl, _, rfl, _, rfl, f', kv, .ref bl, ks, bs, x, room, m, j, rfl, hcm, hj6, t8, m8, hxj, hroom, fun a d H' fd ra ha => q a d H' (F8.trans fd) ra ha⟩
   ·refine hR7 _ _ ?_
    exact ⟨_, rfl, _, rfl, _, rfl, _, rfl, _, rfl, _, rfl, f', kv, .ref bl, ks, bs, x, room, m, j, rfl, hcm, hj6, t4, m8, hxj, hroom, fun a d H' fd ra ha => q a d H' (F4.trans fd) ra ha⟩
  ·refine hR7 _ _ ?_
   exact ⟨_, rfl, _, rfl, _, rfl, _, rfl, _, rfl, _, rfl, f', kv, .ref bl, ks, bs, x, room, m, j, rfl, hcm, hj6, t3, m8, hxj, hroom, fun a d H' fd ra ha => q a d H' (F3.trans fd) ra ha⟩
 refine ⟨_, rfl, rfl, _, rfl, iteKF (decide_eq_false fun z => e5 (V.int.inj z)) (iteF ?_)⟩
 refine hR7 _ _ ?_
 exact ⟨_, rfl, _, rfl, _, rfl, _, rfl, _, rfl, _, rfl, f', kv, .ref bl, ks, bs, x, room, m, j, rfl, hcm, hj6, t3, m8, hxj, hroom, fun a d H' fd ra ha => q a d H' (F3.trans fd) ra ha⟩
theorem term_is (T : Tx K mg) : ∀ c, DefIs P w K mg base (3 * c + 10) "_law_term" ["_law_feed_here", "_law_kinds_here", "_law_boxes", "_law_kind", "_law_room", "_law_deep"] (spTw c) := by
 intro c
 induction c using Nat.strongRecOn with
 | _ c ih =>
  have take : ∀ k, DefIs P w K mg base (k + 1) "_law_take" ["_law_feed_here", "_law_many"] spTake := fun k => ok__law_take T
  have sml : ∀ k, 8 ≤ k → DefIs P w K mg base k "_law_small" ["_law_kinds_here", "_law_kind"] (spSm smK 6) := fun k hk => (small_is T 6).mono hk
  have tlt : DefIs P w K mg base (3 * c + 7) "_law_term" ["_law_feed_here", "_law_kinds_here", "_law_boxes", "_law_kind", "_law_room", "_law_deep"] (spTlt c) := DefIs.anyP (Pr := fun c' => c' < c) (sps := spTw) T.d__law_term fun c' h => (ih c' h).mono (by omega)
  exact ok__law_term (n := 3 * c + 9) T (take _) (ok__law_boxed (n := 3 * c + 8) T (take _)) (sml _ (by omega)) (ok__law_sort_of T) (tlt.mono (by omega)) (DefIs.anyP (Pr := fun m => 7 * m + 6 < c) (sps := spArmsW) T.d__law_arms fun m hm => ok__law_arms (n := 3 * c + 8) T hm (take _) (tlt.mono (by omega))) (ok__law_whole_term (n := 3 * c + 8) T (ok__law_sort_of T) (take _) (ok__law_number T (take _)) (sml _ (by omega)) (tlt.mono (by omega)))
def spNewT : Sp := fun vs H Q _ => ∃ (f : Addr) (kv bv : V) (ks : List Kn) (bs : List (Str × Str)) (x : Str), vs = [.ref f, kv, bv, .str x] ∧ TIn H f kv bv ks bs 3 ∧ KIn ks 6 x ∧ ∀ a d H', Fed f H H' → RelD H' (.ref a) d → TmB ks 21 bs d x → Q (.ref a) H'
def spTC : Sp := fun vs H Q E => ∃ c, c ≤ 20 ∧ spTw c vs H Q E
theorem ok__law_new_term (T : Tx K mg) (D__law_take : DefIs P w K mg base n "_law_take" ["_law_feed_here", "_law_many"] spTake) (D__law_small : DefIs P w K mg base n "_law_small" ["_law_kinds_here", "_law_kind"] (spSm smK 6)) (D__law_term : DefIs P w K mg base n "_law_term" ["_law_feed_here", "_law_kinds_here", "_law_boxes", "_law_kind", "_law_room", "_law_deep"] spTC) :
  DefIs P w K mg base (n + 1) "_law_new_term" ["_law_feed_here", "_law_kinds_here", "_law_boxes", "_law_kind"] spNewT := by
 refine DefIs.of T.d__law_new_term sc__law_new_term (fun vs H Q E h => ?_) (fun f cdv A outer s H vs Q E hr h => ?_)
 ·obtain ⟨_, _, _, _, _, _, rfl, _⟩ := h
  rfl
 obtain ⟨f', kv, bv, ks, bs, x, rfl, ti, hxin, q⟩ := h
 refine ⟨_, (pss_one (ps_ret (pe_dcall D__law_term hr (pa_cons (pv 0) (pa_cons (pv 1) (pa_cons (pv 2) (pa_cons (pv 3) (pa_cons (pe_op op_add (pe_dcall D__law_small hr (pa_cons (pv 1) (pa_cons (pv 3) pa_nil star_name) star_name)) (pe_dcall D__law_take hr (pa_cons (pv 0) (pa_cons pe_int pa_nil star_const) star_name))) (pa_cons pe_int pa_nil star_const) star_bin) star_name) star_name) star_name) star_name)))), ?_⟩
 refine ⟨_, rfl, _, rfl, _, rfl, _, rfl, _, rfl, _, rfl, kv, ks, x, rfl, ti.kd, ti.wf, hxin, fun H1 s1 => ?_⟩
 have t1 := ti.same s1
 obtain ⟨p0, q0, hf⟩ := ti.fd
 obtain ⟨p1, q1, h1⟩ := t1.fd
 refine ⟨_, rfl, f', p1, q1, _, rfl, h1, by decide, by decide, fun r H2 r0 r1 f2 => ?_⟩
 refine ⟨_, _, rfl, rfl, 20, Nat.le_refl _, f', kv, bv, ks, bs, x, _, 2, 6, rfl, rfl, by decide, t1.fed f2, by decide, hxin, by omega, fun a d H' fd ra ha => q a d H' ((((Fed.refl hf).same s1).trans f2).trans fd) ra ha⟩
theorem new_term_is (T : Tx K mg) : DefIs P w K mg base 80 "_law_new_term" ["_law_feed_here", "_law_kinds_here", "_law_boxes", "_law_kind"] spNewT :=
 ok__law_new_term (n := 79) T (ok__law_take T) ((small_is T 6).mono (by omega)) (DefIs.anyP (Pr := fun c => c ≤ 20) (sps := spTw) T.d__law_term fun c hc => (term_is T c).mono (by omega))
end
end K41
end
section
set_option maxHeartbeats 1000000
namespace L2
open PySem PySem.Spec PyProof.Rows
section
variable {M : Model} {A : Around} {E : Value → Shared → Prop} {s : Shared} {c2 : Value}
end
end L2
end
section
set_option maxHeartbeats 1000000
namespace L2
open PySem PySem.Spec PyProof.Rows
section
variable {X : Cx} {pins : List (Addr × Obj)} {σ : St} {H : Hp} {s : Shared} {h' : Heap} {x C : Addr} {d T T1 : Option Addr} {fl c2 : Value}
end
section
variable {P : Program} {w : World} {K : PySem.W.Frag} {mg : Str → Option Value} {base : Heap} {N : List Str} {qual : Str} {scope : Scope} {f : Addr} {cd : Value} {A : Around} {outer : List Env} {s : Shared} {H : Hp} {E : XK}
end
section
variable {X : Cx} {E : XS}
end
end L2
end
section
set_option maxHeartbeats 1000000
namespace L2
open PySem PySem.Spec PyProof.Rows
section
variable {M : Model} {A : Around} {E' : Value → Shared → Prop} {env : Env}
end
section
variable {X : Cx} {E : XS} {ex : Expr} {te : TE} {pos : Pos}
end
section
variable {P : Program} {w : World} {K : PySem.W.Frag} {mg : Str → Option Value} {base : Heap} {n m : Nat} {x : Str} {ps N : List Str} {sp : Sp} {st : Stmt}
end
section
variable {X : Cx} {E : XS} {n : Nat} {x : Str} {ps : List Str} {sp : Sp} {e : Expr} {es : List Expr} {p pos : Pos} {t : TA}
end
end L2
end
section
set_option maxHeartbeats 1000000
namespace L2
open PySem PySem.Spec PyProof.Rows
section
variable {X : Cx} {pins pn : List (Addr × Obj)} {σ : St} {H : Hp} {s : Shared} {e : Value}
end
end L2
end
section
set_option maxHeartbeats 1000000
namespace L2
open PySem PySem.Spec PyProof.Rows
section
variable {X : Cx} {pins : List (Addr × Obj)} {σ : St} {H : Hp} {s : Shared}
end
end L2
end
section
set_option maxHeartbeats 1000000
namespace L2
open PySem PySem.Spec PyProof.Rows
section
variable {X : Cx} {pins : List (Addr × Obj)} {σ : St} {H : Hp} {s : Shared} {C : Addr} {o : Expr} {fl : Str} {pos : Pos} {ta : TE}
end
end L2
end
section
set_option maxHeartbeats 1000000
namespace L2
open PySem PySem.Spec PyProof.Rows
section
variable {X : Cx} {pins : List (Addr × Obj)} {σ : St} {H : Hp} {s : Shared} {C : Addr} {Q : VK} {us : List Value} {vs : List V} {k : Nat} {ps : List Str} {sp : Sp}
variable {x : Str} {p pos : Pos} {e : Expr} {es : List Expr} {t : TA}
end
section
variable {prog : Program} {w : World} {A : Around} {E' : Value → Shared → Prop} {env : Env}
end
section
variable {X : Cx} {E : XS}
end
end L2
end
section
set_option maxHeartbeats 1000000
namespace L2
open PySem PySem.Spec PyProof.Rows
end L2
end
section
namespace St
open PySem PySem.Spec PyProof.Rows
end St
namespace L2
open PySem PySem.Spec PyProof.Rows
end L2
namespace L2
open PySem PySem.Spec PyProof.Rows
end L2
end
section
namespace K41
open PySem L2 M
seal L2.PE L2.PA L2.PS L2.PSs L2.PT L2.PW L2.PI L2.PG L2.PJ L2.PTs
theorem inV_strs (x : Str) : ∀ ys : List Str, inV (.str x) (ys.map V.str) = decide (x ∈ ys)
 | [] => rfl
 | y :: ys => by
  show ((y == x) || inV (.str x) (ys.map V.str)) = _
  rw [inV_strs x ys]
  by_cases h : y = x
  ·subst h; simp
  ·have h' : ¬ x = y := fun e => h e.symm
   simp [h, h']
theorem flat_strs : ∀ ys : List Str, (ys.map V.str).all flatV = true
 | [] => rfl
 | y :: ys => by
  show (flatV (.str y) && (ys.map V.str).all flatV) = true
  rw [flat_strs ys]
  rfl
end K41
end
section
namespace K41
open PySem L2 M
seal L2.PE L2.PA L2.PS L2.PSs L2.PT L2.PW L2.PI L2.PG L2.PJ L2.PTs
theorem op_in_seqC {X : Cx} {K : PySem.W.Frag} (hK : X.K = K) : OpR X (compareOp .In) (rIn K false) := by subst hK; exact op_in_seq
theorem rds_take {H : Hp} : ∀ {vs : List V} {ds : List D} (n : Nat), RelDs H vs ds → RelDs H (vs.take n) (ds.take n)
 | vs, [], n, h => by
  rw [show vs = [] from h, List.take_nil, List.take_nil]
  rfl
 | vs, d :: ds, 0, _ => by
  rw [List.take_zero, List.take_zero]
  rfl
 | vs, d :: ds, n + 1, ⟨v, r, e, h1, h2⟩ => by
  subst e
  exact ⟨v, _, rfl, h1, rds_take n h2⟩
theorem rds_set {H : Hp} {w : V} {e : D} (hw : RelD H w e) : ∀ {vs : List V} {ds : List D} (n : Nat), RelDs H vs ds → RelDs H (vs.set n w) (ds.set n e)
 | vs, [], n, h => by
  rw [show vs = [] from h]
  rfl
 | vs, d :: ds, 0, ⟨v, r, e', h1, h2⟩ => by
  subst e'
  exact ⟨w, r, rfl, hw, h2⟩
 | vs, d :: ds, n + 1, ⟨v, r, e', h1, h2⟩ => by
  subst e'
  exact ⟨v, _, rfl, h1, rds_set hw n h2⟩
theorem rds_erase {H : Hp} : ∀ {vs : List V} {ds : List D} (n : Nat), RelDs H vs ds → RelDs H (vs.eraseIdx n) (ds.eraseIdx n)
 | vs, [], n, h => by
  rw [show vs = [] from h]
  rfl
 | vs, d :: ds, 0, ⟨v, r, e', h1, h2⟩ => by
  subst e'
  exact h2
 | vs, d :: ds, n + 1, ⟨v, r, e', h1, h2⟩ => by
  subst e'
  exact ⟨v, _, rfl, h1, rds_erase n h2⟩
theorem map_set {α β : Type} (f : α → β) : ∀ (l : List α) (n : Nat) (a : α), (l.set n a).map f = (l.map f).set n (f a)
 | [], _, _ => rfl
 | b :: l, 0, a => rfl
 | b :: l, n + 1, a => by
  show f b :: (l.set n a).map f = f b :: (l.map f).set n (f a)
  rw [map_set f l n a]
theorem map_erase {α β : Type} (f : α → β) : ∀ (l : List α) (n : Nat), (l.eraseIdx n).map f = (l.map f).eraseIdx n
 | [], _ => rfl
 | b :: l, 0 => rfl
 | b :: l, n + 1 => by
  show f b :: (l.eraseIdx n).map f = f b :: (l.map f).eraseIdx n
  rw [map_erase f l n]
theorem cut0 (us : List V) (k : Nat) : cutV us none (some (k : Int)) = us.take k := by
 unfold cutV
 rw [show HT.sIx us.length 0 none = 0 from rfl, List.drop_zero, Nat.sub_zero, HT.sIx_nat]
 by_cases h : k ≤ us.length
 ·rw [Nat.min_eq_left h]
 ·rw [Nat.min_eq_right (by omega), List.take_length, List.take_of_length_le (by omega)]
theorem pi_listC {X : Cx} {K : PySem.W.Frag} {tg : Expr} (hK : X.K = K) {l : Expr} {tl : TE} (hl : PE X l tl) : PI X tg l (iList K tl) := by subst hK; exact pi_list hl
theorem merge2 (Pq : Addr → Hp → Prop) {R : Addr → Hp → Prop} {A : Prop} (h : (∀ a H, Pq a H → R a H) → A) (r : ∀ a H, Pq a H → R a H) : A := h r
structure BP (ks : List Kn) (ns : List Str) (n7 : Str) (qs : List (Str × Str)) : Prop where
 len : qs.length ≤ 4
 nd : (qs.map (·.1)).Nodup
 nm : ∀ p ∈ qs, p.1 ∈ ns ∨ p.1 = n7
 kn : ∀ p ∈ qs, KIn ks ks.length p.2
def spBP : Sp := fun vs H Q _ => ∃ (f l nb : Addr) (srt : Str) (pv : V) (p q : Int) (ws : List V) (ks : List Kn) (ps : List (Str × Str)) (nms : List Str) (n7 : Str), vs = [.ref f, .ref l, .str srt, pv, .ref nb] ∧ H f = some (.lst [.int p, .int q]) ∧ H l = some (.lst ws) ∧ RelDs H ws (ks.map Kn.d) ∧ KWf ks ∧
 RelD H pv (dParts ps) ∧ ps.length ≤ 4 ∧ (ps.map (·.1)).Nodup ∧ H nb = some (.lst (nms.map V.str)) ∧ nms[7]? = some n7 ∧ n7 ∉ ps.map (·.1) ∧ l ≠ f ∧ nb ≠ f ∧
 ∀ v qs (H' : Hp), Fed f H H' → RelD H' v (dParts qs) → BP ks (ps.map (·.1)) n7 qs → (srt = S "alt" → qs ≠ []) → Q v H'
def StA (H : Hp) (f : Addr) (qok : List (Str × Str) → Prop) (pl : Addr) (H' : Hp) : Prop := Fed f H H' ∧ pl ≠ f ∧ H pl = none ∧ ∃ us qs, H' pl = some (.lst us) ∧ RelDs H' us (qs.map dPart) ∧ qok qs
def okA (ks : List Kn) (ps : List (Str × Str)) (qs : List (Str × Str)) : Prop := qs.length ≤ 4 ∧ (qs.map (·.1)).Sublist (ps.map (·.1)) ∧ ∀ p ∈ qs, KIn ks ks.length p.2
section
variable {P : Program} {w : World} {K : PySem.W.Frag} {mg : Str → Option Value} {base : Heap} {n m : Nat}
theorem ok__law_beside_parts (T : Tx K mg) (D__law_take : DefIs P w K mg base n "_law_take" ["_law_feed_here", "_law_many"] spTake) (D__law_any_kind : DefIs P w K mg base n "_law_any_kind" ["_law_feed_here", "_law_kinds_here"] spAny) : DefIs P w K mg base (n + 1) "_law_beside_parts" ["_law_feed_here", "_law_kinds_here", "_law_sort", "_law_parts_here", "_law_names_here"] spBP := by
 refine DefIs.of T.d__law_beside_parts sc__law_beside_parts (fun vs H Q E h => ?_) (fun f cdv A outer s H vs Q E hr h => ?_)
 ·obtain ⟨_, _, _, _, _, _, _, _, _, _, _, _, rfl, _⟩ := h
  rfl
 obtain ⟨f', l, nb, srt, pv', p0, q0, ws, ks, ps, nms, n7, rfl, hf, hl, hws, wf, hpv, hps4, hpnd, hnb, hn7, hn7n, lf, nf, q⟩ := h
 have nd := sc__law_beside_parts.nd
 have hfew := wf.few
 have hwl := hws.length
 rw [List.length_map] at hwl
 refine ⟨_, (pss_cons (ps_set (i := 5) nd rfl (by first | exact Or.inl rfl | exact Or.inr rfl) (pe_dcall D__law_take hr (pa_cons (pv 0) (pa_cons pe_int pa_nil star_const) star_name)))
   (pss_cons (ps_setComp (i := 3) ["_law_name", "_law_part", "_law_kinds_here"] [none, none, some 1] rfl (by kernel_rfl) nd rfl (by first | exact Or.inl rfl | exact Or.inr rfl) (pi_tup (pv 3)) (fun _ _ _ _ => (pg_tupC (K := K) (n := 2) rfl rfl (pgs_cons (pg_name (i := 0) (by show List.Nodup (["_law_name", "_law_part", "_law_kinds_here"] : List Str); decide +kernel) rfl (Or.inl rfl)) (pgs_cons (pg_name (i := 1) (by show List.Nodup (["_law_name", "_law_part", "_law_kinds_here"] : List Str); decide +kernel) rfl (Or.inl rfl)) pgs_nil)))) (fun _ _ _ _ => (pts_one (PW.pt (pw_or (pt_cmpR op_eq (pv 1) pe_str (nomark _)) (pw_or1 (pt_cmpR (op_in_seqC (K := K) rfl) (pv 1) (pe_comp ["_law_row"] [none] rfl (by kernel_rfl) (pi_listC (K := K) rfl (pv 2)) (fun _ _ _ _ => (pg_name (i := 0) (by show List.Nodup (["_law_row"] : List Str); decide +kernel) rfl (Or.inl rfl))) (fun _ _ _ _ => pts_nil) (fun _ _ _ _ => (pe_ix (ix_tupC (K := K) rfl) (pv 0) pe_int (fun _ _ => rfl)))) (by with_unfolding_all rfl))))))) (fun _ _ _ _ => (pe_tup (pa_cons (pv 0) (pa_cons (pv 1) pa_nil star_name) star_name))))
   (pss_cons (ps_if (PW.pt (pw_and (pt_cmpR op_eq (pv 5) pe_int (nomark _)) (pw_and1 (pt_cmpR op_gt (pe_callB call_len_seq rfl T.z_len PySem.boot_len (pa_cons (pv 3) pa_nil star_name)) pe_int (nomark _))))) (pss_one (ps_expr (pe_bm PySem.F.plainAttrs_list PySem.F.slot_list_pop PySem.F.type_list_pop mt_popAt (pv 3) (pa_cons (pe_dcall D__law_take hr (pa_cons (pv 0) (pa_cons (pe_callB call_len_seq rfl T.z_len PySem.boot_len (pa_cons (pv 3) pa_nil star_name)) pa_nil star_call) star_name)) pa_nil star_call)))) pss_nil)
   (pss_cons (ps_if (PW.pt (pw_or (pt_cmpR op_eq (pv 5) pe_int (nomark _)) (pw_or1 (PW.pt (pw_and (pt_cmpR op_eq (pe_callB call_len_seq rfl T.z_len PySem.boot_len (pa_cons (pv 3) pa_nil star_name)) pe_int (nomark _)) (pw_and1 (pt_cmpR op_eq (pv 2) pe_str (nomark _)))))))) (pss_one (ps_set (i := 3) nd rfl (by first | exact Or.inl rfl | exact Or.inr rfl) (pe_op op_cat (pe_slice sl_list (pv 3) po_none (po_some pe_int)) (pe_lst (pa_cons (pe_tup (pa_cons (pe_ix ix_list (pv 4) pe_int (fun _ _ => rfl)) (pa_cons (pe_dcall D__law_any_kind hr (pa_cons (pv 0) (pa_cons (pv 1) pa_nil star_name) star_name)) pa_nil star_call) star_sub)) pa_nil star_tup))))) pss_nil)
   (pss_cons (ps_if (pt_cmpR op_eq (pv 5) pe_int (nomark _)) (pss_one (ps_expr (pe_bm0 PySem.F.plainAttrs_list PySem.F.slot_list_reverse PySem.F.type_list_reverse mt_reverse (pv 3)))) pss_nil)
   (pss_cons (ps_if (PW.pt (pw_and (pt_cmpR op_eq (pv 5) pe_int (nomark _)) (pw_and1 (pt_cmpR op_gt (pe_callB call_len_seq rfl T.z_len PySem.boot_len (pa_cons (pv 3) pa_nil star_name)) pe_int (nomark _))))) (pss_cons (ps_set (i := 6) nd rfl (by first | exact Or.inl rfl | exact Or.inr rfl) (pe_dcall D__law_take hr (pa_cons (pv 0) (pa_cons (pe_callB call_len_seq rfl T.z_len PySem.boot_len (pa_cons (pv 3) pa_nil star_name)) pa_nil star_call) star_name)))
   (pss_one (ps_asg (pe_tup (pa_cons (pe_ix ix_tup (pe_ix ix_list (pv 3) (pv 6) (fun _ _ => rfl)) pe_int (fun _ _ => rfl)) (pa_cons (pe_dcall D__law_any_kind hr (pa_cons (pv 0) (pa_cons (pv 1) pa_nil star_name) star_name)) pa_nil star_call) star_sub)) (pg_sub (pv 3) (pv 6) set_list)))) pss_nil)
   (pss_one (ps_ret (pe_callTy call_tuple_of rfl T.z_tuple PyProof.Rows.boot_tuple (pa_cons (pv 3) pa_nil star_name)))))))))), ?_⟩
 refine ⟨_, rfl, f', p0, q0, _, rfl, hf, by decide, by decide, fun fm H1 m0 m1 f1 => ?_⟩
 have tp1 := fed_tups ⟨p0, q0, hf⟩ f1
 obtain ⟨p1, q1, h1⟩ := f1.2
 have hl1 := f1.1 _ _ hl lf
 have hws1 := hws.tups tp1 _
 obtain ⟨pa, us, rfl, hpa, hus⟩ := hpv
 have hpa1 := tp1 _ _ hpa
 have hus1 := hus.tups tp1 _
 have hul := hus.length
 rw [List.length_map] at hul
 apply merge2 (StA H f' (okA ks ps))
 ·intro key
  refine ⟨_, rfl, pa, rfl, ⟨_, SqT.of hpa1⟩, ?_⟩
  refine comp_tupG (xs := us) (fun i ys H' => Same H1 H' ∧ ∃ qs : List (Str × Str), qs.Sublist (ps.take i) ∧ RelDs H' ys (qs.map dPart) ∧ ∀ p ∈ qs, KIn ks ks.length p.2) ⟨Same.refl _, [], List.nil_sublist _, rfl, fun _ h => nomatch h⟩ (fitsLt (by omega)) (fun i ys H' _ p => SqT.of (p.1 _ _ hpa1)) ?_ ?_
  ·rintro i y ys H' hy hi2 hly ⟨sm, qs, hsub, rqs, hqk⟩
   obtain ⟨d', hd2, rd2⟩ := hus1.get hy
   rw [List.getElem?_map] at hd2
   obtain ⟨pr, hpr, rfl⟩ := Option.map_eq_some_iff.mp hd2
   obtain ⟨b, ws', rfl, hb, _, _, rfl, rfl, _, _, rfl, rfl, rfl⟩ := rd2
   have etk : ps.take (i + 1) = ps.take i ++ [pr] := by rw [List.take_add_one, hpr]; rfl
   have keep : ∀ (H2 : Hp) (t : Addr), Same H' H2 → H2 t = none → KIn ks ks.length pr.2 → Same H1 (upd H2 t (.tup [.str pr.1, .str pr.2])) ∧ ∃ qs' : List (Str × Str), qs'.Sublist (ps.take (i + 1)) ∧ RelDs (upd H2 t (.tup [.str pr.1, .str pr.2])) (ys ++ [.ref t]) (qs'.map dPart) ∧ ∀ p ∈ qs', KIn ks ks.length p.2 := fun H2 t s2 ht hk => by
    have st := Same.new ht (.tup [.str pr.1, .str pr.2])
    refine ⟨sm.trans (s2.trans st), qs ++ [pr], by rw [etk]; exact hsub.append (List.Sublist.refl _), ?_, fun z hz => ?_⟩
    ·rw [List.map_append]
     exact (rqs.same (s2.trans st) _).append ⟨_, [], rfl, ⟨t, _, rfl, upd_same, _, _, rfl, rfl, _, _, rfl, rfl, rfl⟩, rfl⟩
    ·rcases List.mem_append.mp hz with hz | hz
     ·exact hqk z hz
     ·rw [List.mem_singleton.mp hz]; exact hk
   refine ⟨b, _, rfl, SqT.of (sm _ _ hb), rfl, _, _, rfl, _, _, rfl, rfl, ext2 rfl rfl, ?_⟩
   refine ⟨_, rfl, rfl, _, rfl, ?_⟩
   by_cases hnum : pr.2 = S "num"
   ·exact iteKT (decide_eq_true (congrArg V.str hnum)) (iteT ⟨_, rfl, _, rfl, (by show 2 ≤ sizeLine; decide), fun t ht => nxtG hi2 hly (keep _ t (Same.refl _) ht (.inl hnum))⟩)
   ·refine iteKF (decide_eq_false fun z => hnum (V.str.inj z)) ?_
    refine ⟨_, rfl, _, rfl, l, rfl, ⟨_, SqL.of (sm _ _ hl1)⟩, ?_⟩
    refine comp_list (j := 0) (xs := ws) (fun i2 ys2 H2 => Same H' H2 ∧ ys2 = ((ks.take i2).map Kn.name).map V.str) (by rfl) ⟨Same.refl _, rfl⟩ (fitsLt (by omega)) (fun i2 ys2 H2 _ p => SqL.of (p.1 _ _ (sm _ _ hl1))) ?_ ?_
    ·rintro i' x ys2 H2 hx hly2 ⟨s2, rfl⟩
     obtain ⟨d, hd, rd⟩ := (hws1.same (sm.trans s2) _).get hx
     rw [List.getElem?_map] at hd
     obtain ⟨k', hk', rfl⟩ := Option.map_eq_some_iff.mp hd
     obtain ⟨b3, vs', rfl, hb3, _, _, rfl, rfl, _, _, rfl, rfl, v3, _, rfl, r3, rfl⟩ := rd
     have hi' : i' < ws.length := (List.getElem?_eq_some_iff.mp hx).1
     refine ⟨_, rfl, b3, _, _, _, rfl, rfl, SqT.of hb3, rfl, nxt hi' hly2 ⟨s2, ?_⟩⟩
     rw [List.take_add_one, hk']
     simp
    rintro ys2 H2 hly2 ⟨s2, rfl⟩ D2 hD2
    rw [List.take_of_length_le (by omega)]
    have sD := Same.new hD2 (.lst ((ks.map Kn.name).map V.str))
    refine ⟨D2, _, rfl, .inl (SqL.of upd_same), rfl, flat_strs _, _, rfl, ?_⟩
    rw [if_neg (by decide), inV_strs]
    by_cases hin : pr.2 ∈ ks.map Kn.name
    ·refine iteBT (decide_eq_true hin) ⟨_, rfl, _, rfl, (by show 2 ≤ sizeLine; decide), fun t ht => nxtG hi2 hly (keep _ t (s2.trans sD) ht (KIn.of (.inr ?_)))⟩
     obtain ⟨k', h1', h2'⟩ := List.mem_map.mp hin
     exact ⟨k', h1', h2'⟩
    ·exact iteBF (decide_eq_false hin) (nxtN hi2 hly ⟨sm.trans (s2.trans sD), qs, by rw [etk]; exact hsub.trans (List.sublist_append_left _ _), rqs.same (s2.trans sD) _, hqk⟩)
  rintro ys H2 hly ⟨sm, qs, hsub, rqs, hqk⟩ pl hpl
  have sP := Same.new hpl (.lst ys)
  have hsub' : qs.Sublist ps := hsub.trans (List.take_sublist _ _)
  have plf : pl ≠ f' := Ne.symm (ne_of_none (sm _ _ h1) hpl)
  have hpl0 : H pl = none := by
   cases h : H pl with
   | none => rfl
   | some o =>
    have := (f1.same sm).1 _ _ h plf
    rw [hpl] at this
    cases this
  have st0 : StA H f' (okA ks ps) pl (upd H2 pl (.lst ys)) := ⟨f1.same (sm.trans sP), plf, hpl0, ys, qs, upd_same, rqs.same sP _, Nat.le_trans hsub'.length_le hps4, hsub'.map _, hqk⟩
  clear hsub hsub' rqs hqk hly
  generalize upd H2 pl (.lst ys) = H3 at st0 ⊢
  clear sP sm hpl plf hpl0 ys qs
  refine ⟨_, rfl, rfl, _, rfl, ite2 (fun c1 => ?_) (fun c1 => iteF (key _ _ st0))⟩
  obtain ⟨F, plf, hpl0, us3, qs, hpl3, rqs, hq4, hqs, hqk⟩ := id st0
  refine ⟨_, rfl, pl, _, rfl, .inl (SqL.of hpl3), _, _, rfl, rfl, _, rfl, ite2 (fun c2 => ?_) (fun c2 => key _ _ st0)⟩
  obtain ⟨p3, q3, h3⟩ := F.2
  have hrl := rqs.length
  rw [List.length_map] at hrl
  refine ⟨_, rfl, .inl ⟨rfl, _, SqL.of hpl3⟩, _, rfl, _, rfl, pl, _, rfl, .inl (SqL.of hpl3), f', p3, q3, _, rfl, h3, by have := of_decide_eq_true c2; omega, by omega, fun r H4 r0 r1 f4 => ?_⟩
  have hpl4 := f4.1 _ _ hpl3 plf
  obtain ⟨i, rfl⟩ : ∃ i : Nat, r = (i : Int) := ⟨r.toNat, by omega⟩
  have hi' : i < us3.length := by omega
  refine ⟨pl, us3, _, i, us3[i], rfl, rfl, hpl4, by omega, by omega, ?_, List.getElem?_eq_getElem hi', ?_⟩
  ·exact PySem.StrLaws.seqIndex_nonneg (by omega) (by omega)
  have rq4 := rqs.tups (fed_tups F.2 f4) _
  have st1 : StA H f' (okA ks ps) pl (upd H4 pl (.lst (us3.eraseIdx i))) := by
   refine ⟨Fed.put (F.trans f4) hpl0 plf _, plf, hpl0, us3.eraseIdx i, qs.eraseIdx i, upd_same, ?_, Nat.le_trans (List.eraseIdx_sublist _ _).length_le hq4, ((List.eraseIdx_sublist _ _).map _).trans hqs, fun p hp => hqk p ((List.eraseIdx_sublist _ _).subset hp)⟩
   rw [map_erase]
   exact (rds_erase i rq4).tups (lst_tups hpl4 _) _
  generalize upd H4 pl (.lst (us3.eraseIdx i)) = H5 at st1 ⊢
  exact key _ _ st1
 apply merge2 (StA H f' (fun qs => BP ks (ps.map (·.1)) n7 qs ∧ (srt = S "alt" → qs ≠ [])))
 ·intro key pl H3 st0
  obtain ⟨F, plf, hpl0, us3, qs, hpl3, rqs, hq4, hqs, hqk⟩ := id st0
  have hrl := rqs.length
  rw [List.length_map] at hrl
  obtain ⟨p3, q3, h3⟩ := F.2
  have stay : (srt = S "alt" → qs ≠ []) → StA H f' (fun qs => BP ks (ps.map (·.1)) n7 qs ∧ (srt = S "alt" → qs ≠ [])) pl H3 := fun ha => ⟨F, plf, hpl0, us3, qs, hpl3, rqs, ⟨hq4, hpnd.sublist hqs, fun p hp => .inl (hqs.subset (List.mem_map_of_mem hp)), hqk⟩, ha⟩
  apply merge0
  ·intro body
   refine ⟨_, rfl, rfl, _, rfl, ite2 (fun c1 => iteT body.go) (fun c1 => ?_)⟩
   refine ⟨_, rfl, pl, _, rfl, .inl (SqL.of hpl3), rfl, _, rfl, ite2 (fun c2 => ?_) (fun c2 => iteF (key _ _ (stay fun _ e => ?_)))⟩
   ·refine ⟨_, rfl, rfl, _, rfl, ite2 (fun c3 => body.go) (fun c3 => key _ _ (stay fun e => ?_))⟩
    exact absurd (decide_eq_true (by rw [e]; rfl)) c3
   ·refine c2 (decide_eq_true ?_)
    rw [e] at hrl
    rw [hrl]
    rfl
  have hl3 := F.1 _ _ hl lf
  have hws3 := hws.tups (fed_tups ⟨p0, q0, hf⟩ F) _
  have hnb3 := F.1 _ _ hnb nf
  refine ⟨_, rfl, _, rfl, pl, us3, rfl, SqL.of hpl3, fun c2 hc2 => ?_⟩
  rw [show ((3 : Int)) = ((3 : Nat) : Int) from rfl, cut0]
  have sc := Same.new hc2 (.lst (us3.take 3))
  have c2f : c2 ≠ f' := Ne.symm (ne_of_none h3 hc2)
  have hat : atI (nms.map V.str) 7 = some (.str n7) := atI_nat (j := 7) (by rw [List.getElem?_map, hn7]; rfl)
  refine ⟨_, rfl, nb, _, _, _, rfl, rfl, SqL.of (sc _ _ hnb3), hat, _, rfl, _, rfl, f', l, p3, q3, ws, ks, rfl, sc _ _ h3, .inl (sc _ _ hl3), hws3.same sc _, hfew, fun x H5 hx f5 => ?_⟩
  refine ⟨(by show 2 ≤ sizeLine; decide), fun t ht => ⟨(by show 1 ≤ sizeLine; decide), fun l1 hl1 => ?_⟩⟩
  have y1 := Same.new ht (.tup [.str n7, .str x])
  have y2 := Same.new hl1 (.lst [.ref t])
  have hc5 := f5.1 _ _ upd_same c2f
  refine ⟨c2, l1, _, _, rfl, rfl, (y1.trans y2) _ _ hc5, upd_same, fits (by rw [List.length_take]; show _ + 1 ≤ _; omega), fun l3 hl3' => ?_⟩
  have y3 := Same.new hl3' (.lst (us3.take 3 ++ [.ref t]))
  have y13 := y1.trans (y2.trans y3)
  have F5 : Fed f' H H5 := (F.same sc).trans f5
  have rq5 := ((rqs.same sc _).tups (fed_tups ⟨p3, q3, sc _ _ h3⟩ f5) _).same y13 _
  obtain ⟨p5, q5, h5⟩ := F5.2
  have l3f : l3 ≠ f' := Ne.symm (ne_of_none ((y1.trans y2) _ _ h5) hl3')
  have st1 : StA H f' (fun qs => BP ks (ps.map (·.1)) n7 qs ∧ (srt = S "alt" → qs ≠ [])) l3 (upd (upd (upd H5 t (.tup [.str n7, .str x])) l1 (.lst [.ref t])) l3 (.lst (us3.take 3 ++ [.ref t]))) := by
   refine ⟨F5.same y13, l3f, ?_, us3.take 3 ++ [.ref t], qs.take 3 ++ [(n7, x)], upd_same, ?_, ⟨?_, ?_, fun p hp => ?_, fun p hp => ?_⟩, fun _ => by simp⟩
   ·cases h : H l3 with
    | none => rfl
    | some o =>
     have := (F5.same (y1.trans y2)).1 _ _ h l3f
     rw [hl3'] at this
     cases this
   ·rw [List.map_append, List.map_take]
    exact (rds_take 3 rq5).append ⟨_, [], rfl, ⟨t, _, rfl, (y2.trans y3) _ _ upd_same, _, _, rfl, rfl, _, _, rfl, rfl, rfl⟩, rfl⟩
   ·rw [List.length_append, List.length_take, List.length_singleton]
    omega
   ·rw [List.map_append]
    refine List.nodup_append.mpr ⟨(hpnd.sublist hqs).sublist ((List.take_sublist _ _).map _), by simp, fun a ha b hb e => ?_⟩
    have hb' : b = n7 := by simpa using hb
    rw [e, hb'] at ha
    exact hn7n (hqs.subset (((List.take_sublist _ _).map _).subset ha))
   ·rcases List.mem_append.mp hp with hp | hp
    ·exact .inl (hqs.subset (List.mem_map_of_mem (List.mem_of_mem_take hp)))
    ·rw [List.mem_singleton.mp hp]; exact .inr rfl
   ·rcases List.mem_append.mp hp with hp | hp
    ·exact hqk p (List.mem_of_mem_take hp)
    ·rw [List.mem_singleton.mp hp]; exact hx
  generalize upd (upd (upd H5 t (.tup [.str n7, .str x])) l1 (.lst [.ref t])) l3 (.lst (us3.take 3 ++ [.ref t])) = H7 at st1 ⊢
  exact key _ _ st1
 intro pl H3 st0
 obtain ⟨F, plf, hpl0, us3, qs, hpl3, rqs, hbp, hne⟩ := st0
 have hrl := rqs.length
 rw [List.length_map] at hrl
 have hq4 := hbp.len
 obtain ⟨p3, q3, h3⟩ := F.2
 by_cases e3 : fm = 3
 ·refine ⟨_, rfl, rfl, _, rfl, iteKT (decide_eq_true (by rw [e3])) ?_⟩
  refine ⟨_, rfl, .inl ⟨rfl, _, SqL.of hpl3⟩, pl, us3, rfl, rfl, hpl3, ?_⟩
  refine ⟨_, rfl, rfl, _, rfl, iteKF (decide_eq_false fun z => absurd (V.int.inj z) (by omega)) (iteF ?_)⟩
  refine ⟨_, rfl, pl, _, rfl, .inl ⟨SqL.of upd_same, fun t ht => ?_⟩⟩
  have st := Same.new ht (.tup us3.reverse)
  refine q _ qs.reverse _ ((Fed.put F hpl0 plf _).same st) ⟨t, _, rfl, upd_same, ?_⟩ ⟨by rw [List.length_reverse]; exact hq4, by rw [List.map_reverse]; exact nodup_rev hbp.nd, fun p hp => hbp.nm p (List.mem_reverse.mp hp), fun p hp => hbp.kn p (List.mem_reverse.mp hp)⟩ fun ha e => hne ha (List.reverse_eq_nil_iff.mp e)
  rw [List.map_reverse]
  exact ((RelDs.rev rqs).tups (lst_tups hpl3 _) _).same st _
 refine ⟨_, rfl, rfl, _, rfl, iteKF (decide_eq_false fun z => e3 (V.int.inj z)) ?_⟩
 apply merge0
 ·intro key
  refine ⟨_, rfl, rfl, _, rfl, ite2 (fun c1 => ?_) (fun c1 => iteF key.go)⟩
  refine ⟨_, rfl, pl, _, rfl, .inl (SqL.of hpl3), _, _, rfl, rfl, _, rfl, ite2 (fun c2 => ?_) (fun c2 => key.go)⟩
  refine ⟨_, rfl, _, rfl, pl, _, rfl, .inl (SqL.of hpl3), f', p3, q3, _, rfl, h3, by have := of_decide_eq_true c2; omega, by omega, fun r H4 r0 r1 f4 => ?_⟩
  have hpl4 := f4.1 _ _ hpl3 plf
  have F4 := F.trans f4
  obtain ⟨p4, q4, h4⟩ := F4.2
  obtain ⟨i, rfl⟩ : ∃ i : Nat, r = (i : Int) := ⟨r.toNat, by omega⟩
  have hi' : i < us3.length := by omega
  have rq4 := rqs.tups (fed_tups F.2 f4) _
  obtain ⟨di, hdi, rdi⟩ := rq4.get (List.getElem?_eq_getElem hi')
  rw [List.getElem?_map] at hdi
  obtain ⟨pi, hpi, rfl⟩ := Option.map_eq_some_iff.mp hdi
  obtain ⟨b, ws', eb, hb, _, _, rfl, rfl, _, _, rfl, rfl, rfl⟩ := rdi
  have hl4 := F4.1 _ _ hl lf
  have hws4 := hws.tups (fed_tups ⟨p0, q0, hf⟩ F4) _
  have hat : atI us3 (i : Int) = some (.ref b) := atI_nat (by rw [List.getElem?_eq_getElem hi', eb])
  refine ⟨_, rfl, _, rfl, pl, _, _, _, rfl, rfl, SqL.of hpl4, hat, b, _, _, _, rfl, rfl, SqT.of hb, rfl, ?_⟩
  refine ⟨_, rfl, _, rfl, f', l, p4, q4, ws, ks, rfl, h4, .inl hl4, hws4, hfew, fun x H5 hx f5 => ⟨(by show 2 ≤ sizeLine; decide), fun t ht => ?_⟩⟩
  have y1 := Same.new ht (.tup [.str pi.1, .str x])
  have hpl5 := y1 _ _ (f5.1 _ _ hpl4 plf)
  have rq5 := (rq4.tups (fed_tups ⟨p4, q4, h4⟩ f5) _).same y1 _
  have hix : ixN us3.length (i : Int) = some i := by
   unfold ixN
   rw [if_pos (by omega), if_pos (by omega)]
   simp
  refine ⟨_, rfl, _, rfl, pl, us3, _, i, rfl, rfl, hpl5, hix, ?_⟩
  have hrl5 : (us3.set i (V.ref t)).length = us3.length := List.length_set
  refine ⟨_, rfl, pl, _, rfl, .inl ⟨SqL.of upd_same, fun t2 ht2 => ?_⟩⟩
  have st := Same.new ht2 (.tup (us3.set i (.ref t)))
  refine q _ (qs.set i (pi.1, x)) _ ((Fed.put ((F4.trans f5).same y1) hpl0 plf _).same st) ⟨t2, _, rfl, upd_same, ?_⟩ ⟨by rw [List.length_set]; exact hq4, ?_, fun p hp => ?_, fun p hp => ?_⟩ fun ha e => ?_
  ·rw [map_set]
   exact ((rds_set (e := dPart (pi.1, x)) ⟨t, _, rfl, upd_same, _, _, rfl, rfl, _, _, rfl, rfl, rfl⟩ i rq5).tups (lst_tups hpl5 _) _).same st _
  ·rw [map_set]
   have : (qs.map (·.1)).set i pi.1 = qs.map (·.1) := by
    refine List.ext_getElem? fun j => ?_
    rw [List.getElem?_set]
    by_cases hij : i = j
    ·subst hij
     rw [if_pos rfl, List.getElem?_map, hpi, if_pos (by rw [List.length_map]; omega)]
     rfl
    ·rw [if_neg hij]
   rw [this]
   exact hbp.nd
  ·rcases List.mem_or_eq_of_mem_set hp with hp | rfl
   ·exact hbp.nm p hp
   ·exact hbp.nm pi (List.mem_of_getElem? hpi)
  ·rcases List.mem_or_eq_of_mem_set hp with hp | rfl
   ·exact hbp.kn p hp
   ·exact hx
  ·have h0 : qs.length = 0 := by
    have := congrArg List.length e
    rwa [List.length_set] at this
   omega
 refine ⟨_, rfl, pl, _, rfl, .inl ⟨SqL.of hpl3, fun t ht => ?_⟩⟩
 have st := Same.new ht (.tup us3)
 exact q _ qs _ (F.same st) ⟨t, _, rfl, upd_same, rqs.same st _⟩ hbp hne
end
end K41
end
section
namespace K41
open PySem L2 M
seal L2.PE L2.PA L2.PS L2.PSs L2.PT L2.PW L2.PI L2.PG L2.PJ L2.PTs
theorem merge3 (Pq : V → V → Hp → Prop) {R : V → V → Hp → Prop} {A : Prop} (h : (∀ a b H, Pq a b H → R a b H) → A) (r : ∀ a b H, Pq a b H → R a b H) : A := h r
theorem name_idxE {ks : List Kn} (nd : (ks.map Kn.name).Nodup) {i j : Nat} {k k' : Kn} (hi : ks[i]? = some k) (hj : ks[j]? = some k') (e : k.name = k'.name) : i = j := by
 have h1 : (ks.map Kn.name)[i]? = some k.name := by rw [List.getElem?_map, hi]; rfl
 have h2 : (ks.map Kn.name)[j]? = some k.name := by rw [List.getElem?_map, hj, e]; rfl
 have hl := (List.getElem?_eq_some_iff.mp hi).1
 exact (List.getElem?_inj (by rw [List.length_map]; exact hl) nd).mp (h1.trans h2.symm)
theorem not_dropE {nms : List Str} (nd : nms.Nodup) {h7 : 7 < nms.length} (h : nms[7] ∈ nms.drop 8) : False := by
 obtain ⟨j, hj, e⟩ := List.mem_iff_getElem.mp h
 rw [List.getElem_drop] at e
 rw [List.length_drop] at hj
 have h1 : nms[8 + j]? = nms[7]? := by rw [List.getElem?_eq_getElem (by omega), List.getElem?_eq_getElem h7, e]
 have := (List.getElem?_inj (by omega) nd).mp h1
 omega
structure QOk (ks2 : List Kn) (nms : List Str) (srt : Str) (qs : List (Str × Str)) : Prop where
 len : qs.length ≤ 4
 nd : (qs.map (·.1)).Nodup
 nm : ∀ p ∈ qs, p.1 ∈ nms
 kn : ∀ p ∈ qs, KIn ks2 ks2.length p.2
 ne : srt = S "alt" → qs ≠ []
 st : srt = S "rec" ∨ srt = S "alt"
def KBes (nms : List Str) (ks2 : List Kn) : Prop := KWf ks2 ∧ ks2.length ≤ 4 ∧ ∀ k ∈ ks2, ∀ p ∈ k.parts, p.1 ∈ nms
theorem sort_mk {x srt : Str} {ps : List (Str × Str)} (h : srt = S "rec" ∨ srt = S "alt") : (Kn.mk x (decide (srt = S "rec")) ps).sort = srt := by
 unfold Kn.sort
 rcases h with rfl | rfl
 ·rfl
 ·show (if decide (S "alt" = S "rec") = true then _ else _) = _
  rw [if_neg (by decide +kernel)]
theorem QOk.wf {ks2 : List Kn} {nms : List Str} {srt x : Str} {qs : List (Str × Str)} (h : QOk ks2 nms srt qs) (w : KWf ks2) (l : ks2.length < 6) (hok : NmsOk nms) (hx : x ∈ nms) (hn : x ∉ ks2.map Kn.name) : KWf (ks2 ++ [Kn.mk x (decide (srt = S "rec")) qs]) := by
 refine w.snoc hn (hok.2.2 _ hx) h.kn (fun hrc => h.ne ?_) l (by show qs.length ≤ 5; have := h.len; omega) h.nd (fun z hz => hok.2.2 _ (h.nm z hz))
 rcases h.st with e | e
 ·exact absurd hrc (by show ¬ decide (srt = S "rec") = false; rw [e]; decide +kernel)
 ·exact e
theorem QOk.nums {ks2 : List Kn} {nms : List Str} {srt : Str} {qs : List (Str × Str)} (h : QOk ks2 nms srt qs) : QOk ks2 nms srt (qs.map fun p => (p.1, S "num")) := by
 refine ⟨by rw [List.length_map]; exact h.len, by rw [List.map_map]; exact h.nd, fun p hp => ?_, fun p hp => ?_, fun e z => h.ne e (List.map_eq_nil_iff.mp z), h.st⟩
 ·obtain ⟨p', hp', rfl⟩ := List.mem_map.mp hp
  exact h.nm p' hp'
 ·obtain ⟨p', hp', rfl⟩ := List.mem_map.mp hp
  exact .inl rfl
def spBes : Sp := fun vs H Q _ => ∃ (f nb : Addr) (kv : V) (p q : Int) (ks : List Kn) (nms : List Str), vs = [.ref f, kv, .ref nb] ∧ H f = some (.lst [.int p, .int q]) ∧ RelD H kv (dKinds ks) ∧ KOver nms ks ∧ H nb = some (.lst (nms.map V.str)) ∧ NmsOk nms ∧ nb ≠ f ∧
 ∀ v ks2 (H' : Hp), Fed f H H' → RelD H' v (dKinds ks2) → KBes nms ks2 → Q v H'
section
variable {P : Program} {w : World} {K : PySem.W.Frag} {mg : Str → Option Value} {base : Heap} {n m : Nat}
theorem ok__law_beside (T : Tx K mg) (D__law_take : DefIs P w K mg base n "_law_take" ["_law_feed_here", "_law_many"] spTake) (D__law_beside_parts : DefIs P w K mg base n "_law_beside_parts" ["_law_feed_here", "_law_kinds_here", "_law_sort", "_law_parts_here", "_law_names_here"] spBP) (D__law_parts : DefIs P w K mg base n "_law_parts" ["_law_feed_here", "_law_kinds_here", "_law_sort", "_law_names_here"] spParts) (D__law_size : DefIs P w K mg base n "_law_size" ["_law_kinds_here", "_law_kind"] (spSize 6)) : DefIs P w K mg base (n + 1) "_law_beside" ["_law_feed_here", "_law_kinds_here", "_law_names_here"] spBes := by
 refine DefIs.of T.d__law_beside sc__law_beside (fun vs H Q E h => ?_) (fun f cdv A outer s H vs Q E hr h => ?_)
 ·obtain ⟨_, _, _, _, _, _, _, rfl, _⟩ := h
  rfl
 obtain ⟨f', nb, kv, p0, q0, ks, nms, rfl, hf, hkv, hKo, hnb, hok, nf, q⟩ := h
 obtain ⟨wf, hk4, hkn, hkp⟩ := hKo
 have nd := sc__law_beside.nd
 have hlen := hok.1
 obtain ⟨ka, kus, rfl, hka, hku⟩ := hkv
 have hkl := hku.length
 rw [List.length_map] at hkl
 have h7 : 7 < nms.length := by omega
 have hn7 : nms[7]? = some nms[7] := List.getElem?_eq_getElem h7
 refine ⟨_, (pss_cons (ps_set (i := 3) nd rfl (by first | exact Or.inl rfl | exact Or.inr rfl) (pe_lst pa_nil))
   (pss_cons (ps_for PassesOwn.never rfl (pi_tup (pv 1)) (pg_tup rfl (pgs_cons (pg_name (i := 4) nd rfl (by first | exact Or.inl rfl | exact Or.inr rfl)) (pgs_cons (pg_name (i := 5) nd rfl (by first | exact Or.inl rfl | exact Or.inr rfl)) (pgs_cons (pg_name (i := 6) nd rfl (by first | exact Or.inl rfl | exact Or.inr rfl)) pgs_nil))))
   (pss_cons (ps_set (i := 7) nd rfl (by first | exact Or.inl rfl | exact Or.inr rfl) (pe_dcall D__law_take hr (pa_cons (pv 0) (pa_cons pe_int pa_nil star_const) star_name)))
   (pss_cons (ps_set (i := 8) nd rfl (by first | exact Or.inl rfl | exact Or.inr rfl) (pe_dcall D__law_beside_parts hr (pa_cons (pv 0) (pa_cons (pv 3) (pa_cons (pv 5) (pa_cons (pv 6) (pa_cons (pv 2) pa_nil star_name) star_name) star_name) star_name) star_name)))
   (pss_cons (ps_if (pt_cmpR op_eq (pv 7) pe_int (nomark _)) (pss_cons (ps_set (i := 8) nd rfl (by first | exact Or.inl rfl | exact Or.inr rfl) (pe_dcall D__law_parts hr (pa_cons (pv 0) (pa_cons (pv 3) (pa_cons (pe_ix ix_list (pe_lst (pa_cons pe_str (pa_cons pe_str pa_nil star_const) star_const)) (pe_callTy call_int1 rfl T.z_int PyProof.Rows.boot_int (pa_cons (pe_cmpR op_eq (pv 5) pe_str (nomark _)) pa_nil star_cmp)) (fun _ _ => rfl)) (pa_cons (pe_slice sl_list (pv 2) (po_some pe_int) (po_some pe_int)) pa_nil star_sub) star_sub) star_name) star_name)))
   (pss_one (ps_set (i := 5) nd rfl (by first | exact Or.inl rfl | exact Or.inr rfl) (pe_ix ix_list (pe_lst (pa_cons pe_str (pa_cons pe_str pa_nil star_const) star_const)) (pe_callTy call_int1 rfl T.z_int PyProof.Rows.boot_int (pa_cons (pe_cmpR op_eq (pv 5) pe_str (nomark _)) pa_nil star_cmp)) (fun _ _ => rfl))))) pss_nil)
   (pss_cons (ps_if (pt_cmpR op_gt (pe_dcall D__law_size hr (pa_cons (pe_op op_cat (pv 3) (pe_lst (pa_cons (pe_tup (pa_cons (pv 4) (pa_cons (pv 5) (pa_cons (pv 8) pa_nil star_name) star_name) star_name)) pa_nil star_tup))) (pa_cons (pv 4) pa_nil star_name) star_bin)) pe_int (nomark _)) (pss_one (ps_set (i := 8) nd rfl (by first | exact Or.inl rfl | exact Or.inr rfl) (pe_callTy call_tuple_of rfl T.z_tuple PyProof.Rows.boot_tuple (pa_cons (pe_comp ["_law_part", "_law_kind"] [none, none] rfl (by kernel_rfl) (pi_tup (pv 8)) (fun _ _ _ _ => (pg_tupC (K := K) (n := 2) rfl rfl (pgs_cons (pg_name (i := 0) (by show List.Nodup (["_law_part", "_law_kind"] : List Str); decide +kernel) rfl (Or.inl rfl)) (pgs_cons (pg_name (i := 1) (by show List.Nodup (["_law_part", "_law_kind"] : List Str); decide +kernel) rfl (Or.inl rfl)) pgs_nil)))) (fun _ _ _ _ => pts_nil) (fun _ _ _ _ => (pe_tup (pa_cons (pv 0) (pa_cons pe_str pa_nil star_const) star_name)))) pa_nil star_comp)))) pss_nil)
   (pss_one (ps_if (pt_cmpR op_ne (pv 7) pe_int (nomark _)) (pss_one (ps_expr (pe_bm PySem.F.plainAttrs_list PySem.F.slot_list_append PySem.F.type_list_append mt_append (pv 3) (pa_cons (pe_tup (pa_cons (pv 4) (pa_cons (pv 5) (pa_cons (pv 8) pa_nil star_name) star_name) star_name)) pa_nil star_tup)))) pss_nil)))))))
   (pss_one (ps_ret (pe_callTy call_tuple_of rfl T.z_tuple PyProof.Rows.boot_tuple (pa_cons (pv 3) pa_nil star_name)))))), ?_⟩
 refine ⟨(by show 0 ≤ sizeLine; decide), fun fl hfl => ?_⟩
 have s0 := Same.new hfl (.lst [])
 have flf : fl ≠ f' := Ne.symm (ne_of_none hf hfl)
 refine ⟨_, rfl, ka, rfl, ⟨_, SqT.of (s0 _ _ hka)⟩, ?_⟩
 refine for_tup (xs := kus) (fun i σ H' => ∃ (ws : List V) (ks2 : List Kn) (o4 o5 o6 o7 o8 : Option V), σ = [some (.ref f'), some (.ref ka), some (.ref nb), some (.ref fl), o4, o5, o6, o7, o8] ∧ Fed f' H H' ∧ H' fl = some (.lst ws) ∧ RelDs H' ws (ks2.map Kn.d) ∧ KWf ks2 ∧ ks2.length ≤ i ∧ (∀ k ∈ ks2, ∃ j k0, j < i ∧ ks[j]? = some k0 ∧ k0.name = k.name) ∧ ∀ k ∈ ks2, ∀ p ∈ k.parts, p.1 ∈ nms)
  ⟨[], [], none, none, none, none, none, rfl, (Fed.refl hf).same s0, upd_same, rfl, KWf.nil, Nat.le_refl _, (fun _ h => nomatch h), (fun _ h => nomatch h)⟩ (fun i σ H' _ p => ?_) ?_ ?_
 ·obtain ⟨_, _, _, _, _, _, _, _, F, _⟩ := p
  exact SqT.of (fed_tups ⟨p0, q0, hf⟩ F _ _ hka)
 ·rintro i vv σ H1 hvv ⟨ws, ks2, o4, o5, o6, o7, o8, rfl, F, hws, rws, wf2, hl2, hbef, hpn⟩
  have tp := fed_tups ⟨p0, q0, hf⟩ F
  obtain ⟨d, hd, rd⟩ := (hku.tups tp _).get hvv
  rw [List.getElem?_map] at hd
  obtain ⟨k, hk, rfl⟩ := Option.map_eq_some_iff.mp hd
  obtain ⟨b, _, rfl, hb, _, _, rfl, rfl, v2, _, rfl, e2, v3, _, rfl, r3, rfl⟩ := rd
  have e2' : v2 = .str k.sort := e2
  have hi : i < ks.length := (List.getElem?_eq_some_iff.mp hk).1
  have hkm := List.mem_of_getElem? hk
  obtain ⟨hp4, hpnm⟩ := hkp k hkm
  have hwl := rws.length
  rw [List.length_map] at hwl
  have hst : k.sort = S "rec" ∨ k.sort = S "alt" := by
   unfold Kn.sort
   cases k.rc
   ·exact .inr rfl
   ·exact .inl rfl
  have hkin : k.name ∈ nms := by
   have h1 : k.name ∈ ks.map Kn.name := List.mem_map_of_mem hkm
   rw [hkn] at h1
   exact List.mem_of_mem_take h1
  have hknew : k.name ∉ ks2.map Kn.name := fun hm => by
   obtain ⟨k', hk', e'⟩ := List.mem_map.mp hm
   obtain ⟨j, k0, hj, hk0, e0⟩ := hbef k' hk'
   have := name_idxE wf.nd hk0 hk (e0.trans e')
   omega
  have hn8 : ∀ z ∈ k.parts.map (·.1), z ∈ nms.drop 8 := fun z hz => by
   rw [hpnm] at hz
   exact List.mem_of_mem_take (List.mem_of_mem_take hz)
  have hn7n : nms[7] ∉ k.parts.map (·.1) := fun hm => not_dropE hok.2.1 (hn8 _ hm)
  have hpar : ∀ p ∈ k.parts, p.1 ∈ nms := fun p hp => List.mem_of_mem_drop (hn8 _ (List.mem_map_of_mem hp))
  obtain ⟨p1, q1, h1⟩ := F.2
  refine ⟨b, _, rfl, SqT.of hb, rfl, _, _, rfl, _, _, rfl, _, _, rfl, rfl, ?_⟩
  refine ⟨_, rfl, f', p1, q1, _, rfl, h1, by decide, by decide, fun fm H2 m0 m1 f2 => ?_⟩
  have F2 := F.trans f2
  have tp2 := fed_tups F.2 f2
  obtain ⟨p2, q2, h2⟩ := F2.2
  have hws2 := f2.1 _ _ hws flf
  have rws2 := rws.tups tp2 _
  have r32 := r3.tups tp2 _
  apply merge3 (fun v s H' => ∃ (srt : Str) (qs : List (Str × Str)), s = .str srt ∧ Fed f' H H' ∧ H' fl = some (.lst ws) ∧ RelDs H' ws (ks2.map Kn.d) ∧ RelD H' v (dParts qs) ∧ QOk ks2 nms srt qs)
  ·intro key
   generalize ew : v2 = w2
   have ew2 : w2 = .str k.sort := ew.symm.trans e2'
   refine ⟨_, rfl, _, rfl, _, rfl, _, rfl, _, rfl, f', fl, nb, k.sort, v3, p2, q2, ws, ks2, k.parts, nms, nms[7], by rw [ew2]; rfl, h2, hws2, rws2, wf2, r32, hp4, wf.pnd k hkm, F2.1 _ _ hnb nf, hn7, hn7n, flf, nf, fun v1 qs1 H3 f3 rv1 hbp hne1 => ?_⟩
   have F3 := F2.trans f3
   have tp3 := fed_tups F2.2 f3
   obtain ⟨p3, q3, h3⟩ := F3.2
   have hws3 := f3.1 _ _ hws2 flf
   have rws3 := rws2.tups tp3 _
   have q1k : QOk ks2 nms k.sort qs1 := ⟨hbp.len, hbp.nd, fun p hp => by
    rcases hbp.nm p hp with z | z
    ·exact List.mem_of_mem_drop (hn8 _ z)
    ·rw [z]; exact List.getElem_mem h7, hbp.kn, hne1, hst⟩
   refine ⟨_, rfl, rfl, _, rfl, ite2 (fun c1 => ?_) (fun c1 => key _ _ _ ⟨k.sort, qs1, ew2, F3, hws3, rws3, rv1, q1k⟩)⟩
   have flip : ∃ so : Str, ∃ cB : Bool, decide (w2 = V.str (S "rec")) = cB ∧ atI [V.str (S "rec"), V.str (S "alt")] (if cB = true then 1 else 0) = some (.str so) ∧ (so = S "rec" ∨ so = S "alt") := by
    rw [ew2]
    rcases hst with e | e
    ·exact ⟨S "alt", true, by rw [e]; decide +kernel, rfl, .inr rfl⟩
    ·exact ⟨S "rec", false, by rw [e]; decide +kernel, rfl, .inl rfl⟩
   obtain ⟨so, cB, eB, hat, hso⟩ := flip
   have hn3 := F3.1 _ _ hnb nf
   refine ⟨_, rfl, _, rfl, (by show 2 ≤ sizeLine; decide), fun l1 hl1 => ?_⟩
   have y1 := Same.new hl1 (.lst [.str (S "rec"), .str (S "alt")])
   refine ⟨_, rfl, by rw [ew2]; rfl, .inr ⟨cB, congrArg (fun b => [V.bl b]) eB, l1, _, _, _, rfl, rfl, SqL.of upd_same, hat, ?_⟩⟩
   refine ⟨_, rfl, _, rfl, _, rfl, nb, _, rfl, SqL.of (y1 _ _ hn3), fun c hc => ?_⟩
   rw [cut812 hlen]
   have sc := Same.new hc (.lst (((nms.drop 8).take 4).map V.str))
   have y1c := y1.trans sc
   have cf : c ≠ f' := Ne.symm (ne_of_none (y1 _ _ h3) hc)
   refine ⟨f', fl, c, so, p3, q3, ws, ks2, (nms.drop 8).take 4, rfl, y1c _ _ h3, y1c _ _ hws3, rws3.same y1c _, wf2, upd_same, by rw [List.length_take, List.length_drop, hlen]; rfl, hso, flf, cf, fun v ps H4 f4 rv h4 hpn4 halt hpin hsum => ?_⟩
   have F4 := (F3.same y1c).trans f4
   have hws4 := f4.1 _ _ (y1c _ _ hws3) flf
   have rws4 := (rws3.same y1c _).tups (fed_tups ⟨p3, q3, y1c _ _ h3⟩ f4) _
   refine ⟨(by show 2 ≤ sizeLine; decide), fun l2 hl2 => ?_⟩
   have y2 := Same.new hl2 (.lst [.str (S "rec"), .str (S "alt")])
   refine ⟨_, rfl, by rw [ew2]; rfl, .inr ⟨cB, congrArg (fun b => [V.bl b]) eB, l2, _, _, _, rfl, rfl, SqL.of upd_same, hat, ?_⟩⟩
   have hn4 : ∀ z ∈ ps.map (·.1), z ∈ nms := fun z hz => by
    rw [hpn4] at hz
    exact List.mem_of_mem_drop (List.mem_of_mem_take (List.mem_of_mem_take hz))
   have q2k : QOk ks2 nms so ps := ⟨h4, by rw [hpn4]; exact (part4 hok ps.length).1, fun p hp => hn4 _ (List.mem_map_of_mem hp), hpin, halt, hso⟩
   have hP : ∃ (srt : Str) (qs : List (Str × Str)), V.str so = .str srt ∧ Fed f' H (upd H4 l2 (.lst [.str (Str.ofString "rec"), .str (Str.ofString "alt")])) ∧ upd H4 l2 (.lst [.str (Str.ofString "rec"), .str (Str.ofString "alt")]) fl = some (.lst ws) ∧ RelDs (upd H4 l2 (.lst [.str (Str.ofString "rec"), .str (Str.ofString "alt")])) ws (ks2.map Kn.d) ∧ RelD (upd H4 l2 (.lst [.str (Str.ofString "rec"), .str (Str.ofString "alt")])) v (dParts qs) ∧ QOk ks2 nms srt qs := ⟨so, ps, rfl, F4.same y2, y2 _ _ hws4, rws4.same y2 _, rv.same y2 _, q2k⟩
   generalize upd H4 l2 (.lst [.str (Str.ofString "rec"), .str (Str.ofString "alt")]) = H5 at hP ⊢
   generalize V.str so = vso at hP ⊢
   exact key _ _ _ hP
  apply merge3 (fun v s H' => ∃ (srt : Str) (qs : List (Str × Str)), s = .str srt ∧ Fed f' H H' ∧ H' fl = some (.lst ws) ∧ RelDs H' ws (ks2.map Kn.d) ∧ RelD H' v (dParts qs) ∧ QOk ks2 nms srt qs)
  ·intro key v s H3 hP
   obtain ⟨srt, qs, es, F3, hws3, rws3, rv, hq⟩ := id hP
   have wf3 := hq.wf wf2 (by omega) hok hkin hknew
   refine ⟨_, rfl, _, rfl, _, rfl, _, rfl, (by show 3 ≤ sizeLine; decide), fun t ht => ⟨(by show 1 ≤ sizeLine; decide), fun l1 hl1 => ?_⟩⟩
   have y1 := Same.new ht (.tup [.str k.name, s, v])
   have y2 := Same.new hl1 (.lst [.ref t])
   refine ⟨fl, l1, _, _, rfl, rfl, (y1.trans y2) _ _ hws3, upd_same, fits (by show _ + 1 ≤ _; omega), fun l3 hl3 => ?_⟩
   have y3 := Same.new hl3 (.lst (ws ++ [.ref t]))
   have y13 := y1.trans (y2.trans y3)
   have seq3 : KsSeq (upd (upd (upd H3 t (.tup [.str k.name, s, v])) l1 (.lst [.ref t])) l3 (.lst (ws ++ [.ref t]))) (.ref l3) (ks2 ++ [Kn.mk k.name (decide (srt = S "rec")) qs]) := by
    refine ⟨l3, _, rfl, .inl upd_same, ?_⟩
    rw [List.map_append]
    refine (rws3.same y13 _).append ⟨_, [], rfl, ⟨t, _, rfl, (y2.trans y3) _ _ upd_same, _, _, rfl, rfl, _, _, rfl, ?_, _, _, rfl, rv.same y13 _, rfl⟩, rfl⟩
    rw [es]
    show V.str srt = V.str _
    rw [sort_mk hq.st]
   refine ⟨_, rfl, .ref l3, _, k.name, rfl, seq3, wf3, ?_, fun H5 s5 => ⟨_, _, rfl, rfl, _, rfl, ite2 (fun c1 => ?_) (fun c1 => key _ _ _ ⟨srt, qs, es, F3.same (y13.trans s5), (y13.trans s5) _ _ hws3, rws3.same (y13.trans s5) _, rv.same (y13.trans s5) _, hq⟩)⟩⟩
   ·refine (KIn.of (.inr ⟨Kn.mk k.name (decide (srt = S "rec")) qs, by simp, rfl⟩)).mono ?_
    rw [List.length_append, List.length_singleton]
    omega
   ·have y15 := y13.trans s5
    obtain ⟨a, us, rfl, ha, hus⟩ := rv
    have hul := hus.length
    rw [List.length_map] at hul
    have hql := hq.len
    have ha5 := y15 _ _ ha
    have hus5 := hus.same y15 _
    refine ⟨_, rfl, a, rfl, ⟨_, SqT.of ha5⟩, ?_⟩
    refine comp_tupG (xs := us) (fun i ys H' => Same H5 H' ∧ RelDs H' ys ((qs.take i).map fun p => dPart (p.1, S "num"))) ⟨Same.refl _, rfl⟩ (fitsLt (by omega)) (fun i ys H' _ p => SqT.of (p.1 _ _ ha5)) ?_ ?_
    ·rintro i2 y ys H' hy hi2 hly ⟨sm, rys⟩
     obtain ⟨d', hd2, rd2⟩ := hus5.get hy
     rw [List.getElem?_map] at hd2
     obtain ⟨pr, hpr, rfl⟩ := Option.map_eq_some_iff.mp hd2
     obtain ⟨b2, ws', rfl, hb2, _, _, rfl, rfl, _, _, rfl, rfl, rfl⟩ := rd2
     refine ⟨b2, _, rfl, SqT.of (sm _ _ hb2), rfl, _, _, rfl, _, _, rfl, rfl, ext2 rfl rfl, yes_go ?_⟩
     refine ⟨_, rfl, (by show 2 ≤ sizeLine; decide), fun t2 ht2 => nxtG hi2 hly ⟨sm.trans (Same.new ht2 _), ?_⟩⟩
     rw [List.take_add_one, hpr]
     show RelDs _ _ ((qs.take i2 ++ [pr]).map _)
     rw [List.map_append]
     exact (rys.same (Same.new ht2 _) _).append ⟨_, [], rfl, ⟨t2, _, rfl, upd_same, _, _, rfl, rfl, _, _, rfl, rfl, rfl⟩, rfl⟩
    ·rintro ys H6 hly ⟨sm, rys⟩ D hD
     rw [List.take_of_length_le (by omega)] at rys
     have z1 := Same.new hD (.lst ys)
     refine ⟨D, ys, rfl, .inl ⟨SqL.of upd_same, fun t2 ht2 => ?_⟩⟩
     have z2 := Same.new ht2 (.tup ys)
     have z := y15.trans (sm.trans (z1.trans z2))
     have hP2 : ∃ (srt : Str) (qs : List (Str × Str)), s = .str srt ∧ Fed f' H (upd (upd H6 D (.lst ys)) t2 (.tup ys)) ∧ upd (upd H6 D (.lst ys)) t2 (.tup ys) fl = some (.lst ws) ∧ RelDs (upd (upd H6 D (.lst ys)) t2 (.tup ys)) ws (ks2.map Kn.d) ∧ RelD (upd (upd H6 D (.lst ys)) t2 (.tup ys)) (.ref t2) (dParts qs) ∧ QOk ks2 nms srt qs := by
      refine ⟨srt, qs.map fun p => (p.1, S "num"), es, F3.same z, z _ _ hws3, rws3.same z _, ⟨t2, ys, rfl, upd_same, ?_⟩, hq.nums⟩
      rw [List.map_map]
      exact rys.same (z1.trans z2) _
     generalize upd (upd H6 D (.lst ys)) t2 (.tup ys) = H7 at hP2 ⊢
     generalize V.ref t2 = v7 at hP2 ⊢
     exact key _ _ _ hP2
  intro v s H3 hP
  obtain ⟨srt, qs, rfl, F3, hws3, rws3, rv, hq⟩ := hP
  have wf3 := hq.wf wf2 (by omega) hok hkin hknew
  refine ⟨_, rfl, rfl, _, rfl, ite2 (fun c1 => ?_) (fun c1 => ?_)⟩
  ·refine ⟨_, rfl, .inl ⟨rfl, _, SqL.of hws3⟩, _, rfl, _, rfl, _, rfl, (by show 3 ≤ sizeLine; decide), fun t ht => ?_⟩
   have y1 := Same.new ht (.tup [.str k.name, .str srt, v])
   have hw4 := y1 _ _ hws3
   refine ⟨fl, ws, _, rfl, rfl, hw4, fitsLt (by omega), ?_⟩
   refine ⟨_, ks2 ++ [Kn.mk k.name (decide (srt = S "rec")) qs], _, _, _, _, _, rfl, Fed.put (F3.same y1) hfl flf _, upd_same, ?_, wf3, by rw [List.length_append, List.length_singleton]; omega, fun k' hk' => ?_, fun k' hk' => ?_⟩
   ·rw [List.map_append]
    refine RelDs.append ((rws3.same y1 _).tups (lst_tups hw4 _) _) ⟨_, [], rfl, ⟨t, _, rfl, lst_tups hw4 _ _ _ upd_same, _, _, rfl, rfl, _, _, rfl, ?_, _, _, rfl, (rv.same y1 _).tups (lst_tups hw4 _) _, rfl⟩, rfl⟩
    show V.str srt = V.str _
    rw [sort_mk hq.st]
   ·rcases List.mem_append.mp hk' with h | h
    ·obtain ⟨j, k0, hj, h'⟩ := hbef k' h
     exact ⟨j, k0, by omega, h'⟩
    ·rw [List.mem_singleton.mp h]
     exact ⟨i, k, by omega, hk, rfl⟩
   ·rcases List.mem_append.mp hk' with h | h
    ·exact hpn k' h
    ·rw [List.mem_singleton.mp h]
     exact hq.nm
  ·refine ⟨ws, ks2, _, _, _, _, _, rfl, F3, hws3, rws3, wf2, by omega, fun k' hk' => ?_, hpn⟩
   obtain ⟨j, k0, hj, h'⟩ := hbef k' hk'
   exact ⟨j, k0, by omega, h'⟩
 ·rintro σ H1 ⟨ws, ks2, o4, o5, o6, o7, o8, rfl, F, hws, rws, wf2, hl2, hbef, hpn⟩
  refine ⟨_, rfl, fl, ws, rfl, .inl ⟨SqL.of hws, fun t ht => ?_⟩⟩
  have st := Same.new ht (.tup ws)
  exact q _ ks2 _ (F.same st) ⟨t, ws, rfl, upd_same, rws.same st _⟩ ⟨wf2, by omega, hpn⟩
end
end K41
end
section
namespace M
open PySem L2
end M
end
section
namespace M
open PySem L2
theorem kAt_self {ks : List Kn} (nd : (ks.map Kn.name).Nodup) {k : Kn} (hk : k ∈ ks) : kAt ks k.name = some k := by
 obtain ⟨i, hi, e⟩ := List.mem_iff_getElem.mp hk
 exact find_nodup (f := Kn.name) (xs := ks) (i := i) (a := k) nd (by rw [← e]; exact List.getElem?_eq_getElem hi)
end M
end
section
namespace M
open PySem L2
def ownOf (olds : List (Str × Str)) (x : Str) : Option Str := (olds.find? fun p => decide (p.1 = x)).map fun p => p.2
theorem own_in {olds : List (Str × Str)} {x k : Str} (h : ownOf olds x = some k) : (x, k) ∈ olds := by
 unfold ownOf at h
 obtain ⟨p, hp, e⟩ := Option.map_eq_some_iff.mp h
 have h1 : p.1 = x := by
  have := List.find?_some hp
  exact of_decide_eq_true this
 have := List.mem_of_find?_eq_some hp
 rw [← h1, ← e]
 exact this
theorem own_at {olds : List (Str × Str)} (nd : (olds.map (·.1)).Nodup) {p : Str × Str} (hp : p ∈ olds) : ownOf olds p.1 = some p.2 := by
 unfold ownOf
 obtain ⟨i, hi, e⟩ := List.mem_iff_getElem.mp hp
 rw [find_nodup (f := fun r : Str × Str => r.1) (xs := olds) (i := i) (a := p) nd (by rw [← e]; exact List.getElem?_eq_getElem hi)]
 rfl
def okQ (ys : List Wy) (olds : List (Str × Str)) (q : Str × Str) : Bool := match ownOf olds q.1 with
 | none => true
 | some k => decide (goesTo ys k = some q.2)
def tmQ (ks2 : List Kn) (olds : List (Str × Str)) (q : Str × Str) : D := match ownOf olds q.1 with
 | none => nuT 7 ks2 q.2
 | some _ => tBox q.1
def okT (ys : List Wy) (news : List (Str × Str)) (p : Str × Str) : Bool := match ownOf news p.1 with
 | none => false
 | some g => decide (goesTo ys p.2 = some g)
def tagsD (k : Kn) : D := .tup (k.parts.map fun p => .tup [.str p.1, tTag k.name p.1 (tBox (S "it"))])
def howBy (ks2 : List Kn) (ys : List Wy) (k : Kn) : Option D := match kAt ks2 k.name with
  | none => none
  | some k2 => if k2.rc = k.rc then
      (if k.rc = true then (if k2.parts.all (okQ ys k.parts) = true then some (tRec k.name (k2.parts.map (tmQ ks2 k.parts))) else none)
       else (if k.parts.all (okT ys k2.parts) = true then some (tagsD k) else none))
    else none
def wStep (ks2 : List Kn) (ys : List Wy) (k : Kn) : List Wy := match wyAt ys k.name with
 | some _ => ys
 | none => match howBy ks2 ys k with
  | none => ys
  | some d => ys ++ [(k.name, k.name, d)]
def wMade (ks2 ks : List Kn) (told : List Wy) : List Wy := ks.foldl (wStep ks2) told
theorem wMade_snoc (ks2 ks : List Kn) (k : Kn) (told : List Wy) : wMade ks2 (ks ++ [k]) told = wStep ks2 (wMade ks2 ks told) k := by
 unfold wMade
 rw [List.foldl_append]
 rfl
theorem wMade_cat (ks2 as bs : List Kn) (told : List Wy) : wMade ks2 (as ++ bs) told = wMade ks2 bs (wMade ks2 as told) := by
 unfold wMade
 rw [List.foldl_append]
theorem wy_snoc (ys : List Wy) (y : Wy) (x : Str) : wyAt (ys ++ [y]) x = match wyAt ys x with
  | some z => some z
  | none => if y.1 = x then some y else none := by
 unfold wyAt
 rw [List.find?_append]
 cases h : ys.find? fun y => decide (y.1 = x) with
 | some z => rfl
 | none =>
  rw [Option.none_or, List.find?_cons]
  by_cases c : y.1 = x
  ·rw [decide_eq_true c, if_pos c]
  ·rw [decide_eq_false c, if_neg c]
   rfl
theorem wy_snoc_ne {ys : List Wy} {y : Wy} {x : Str} (h : y.1 ≠ x) : wyAt (ys ++ [y]) x = wyAt ys x := by
 rw [wy_snoc]
 cases wyAt ys x with
 | some z => rfl
 | none => rw [if_neg h]
theorem wy_name {ys : List Wy} {x : Str} {y : Wy} (h : wyAt ys x = some y) : y.1 = x ∧ y ∈ ys := by
 unfold wyAt at h
 have h2 := List.find?_some h
 exact ⟨of_decide_eq_true h2, List.mem_of_find?_eq_some h⟩
theorem wStep_ne {ks2 : List Kn} {ys : List Wy} {k : Kn} {x : Str} (h : k.name ≠ x) : wyAt (wStep ks2 ys k) x = wyAt ys x := by
 unfold wStep
 cases wyAt ys k.name with
 | some z => rfl
 | none =>
  cases howBy ks2 ys k with
  | none => rfl
  | some d => exact wy_snoc_ne h
theorem wMade_ne {ks2 : List Kn} {x : Str} : ∀ {ks : List Kn} {ys : List Wy}, (∀ k ∈ ks, k.name ≠ x) → wyAt (wMade ks2 ks ys) x = wyAt ys x
 | [], ys, _ => rfl
 | k :: ks, ys, h => by
  show wyAt (wMade ks2 ks (wStep ks2 ys k)) x = _
  rw [wMade_ne fun k' hk => h k' (by simp [hk]), wStep_ne (h k (by simp))]
theorem goes_congr {ys ys' : List Wy} {x : Str} (h : wyAt ys x = wyAt ys' x) : goesTo ys x = goesTo ys' x := by
 unfold goesTo
 rw [h]
theorem all_congr {α : Type} {f g : α → Bool} : ∀ {l : List α}, (∀ a ∈ l, f a = g a) → l.all f = l.all g
 | [], _ => rfl
 | a :: l, h => by rw [List.all_cons, List.all_cons, h a (by simp), all_congr fun b hb => h b (by simp [hb])]
theorem how_congr {ks2 : List Kn} {ys ys' : List Wy} {k : Kn} (h : ∀ p ∈ k.parts, goesTo ys p.2 = goesTo ys' p.2) : howBy ks2 ys k = howBy ks2 ys' k := by
 have hq : ∀ q, okQ ys k.parts q = okQ ys' k.parts q := fun q => by
  unfold okQ
  cases e : ownOf k.parts q.1 with
  | none => rfl
  | some z =>
   show decide (goesTo ys z = some q.2) = decide (goesTo ys' z = some q.2)
   rw [h _ (own_in e)]
 have ht : ∀ news, ∀ p ∈ k.parts, okT ys news p = okT ys' news p := fun news p hp => by
  unfold okT
  cases e : ownOf news p.1 with
  | none => rfl
  | some g =>
   show decide (goesTo ys p.2 = some g) = decide (goesTo ys' p.2 = some g)
   rw [h p hp]
 unfold howBy
 cases kAt ks2 k.name with
 | none => rfl
 | some k2 =>
  show (if k2.rc = k.rc then _ else _) = (if k2.rc = k.rc then _ else _)
  rw [all_congr (l := k2.parts) fun q _ => hq q, all_congr (l := k.parts) (ht k2.parts)]
theorem name_idx {ks : List Kn} (nd : (ks.map Kn.name).Nodup) {i j : Nat} {k k' : Kn} (hi : ks[i]? = some k) (hj : ks[j]? = some k') (e : k.name = k'.name) : i = j := by
 have h1 : (ks.map Kn.name)[i]? = some k.name := by rw [List.getElem?_map, hi]; rfl
 have h2 : (ks.map Kn.name)[j]? = some k.name := by rw [List.getElem?_map, hj, e]; rfl
 have hl := (List.getElem?_eq_some_iff.mp hi).1
 exact (List.getElem?_inj (by rw [List.length_map]; exact hl) nd).mp (h1.trans h2.symm)
def Before (ks : List Kn) (i : Nat) (x : Str) : Prop := x = S "num" ∨ ∃ j, ∃ k' : Kn, j < i ∧ ks[j]? = some k' ∧ k'.name = x
theorem goes_num (ys : List Wy) : goesTo ys (S "num") = some (S "num") := by unfold goesTo; rw [if_pos rfl]
theorem goes_take {ks : List Kn} (wf : KWf ks) {ks2 : List Kn} {told : List Wy} {i : Nat} {x : Str} (h : Before ks i x) : goesTo (wMade ks2 ks told) x = goesTo (wMade ks2 (ks.take i) told) x := by
 rcases h with rfl | ⟨j, k', hj, hk, rfl⟩
 ·rw [goes_num, goes_num]
 ·apply goes_congr
  conv => lhs; rw [← List.take_append_drop i ks]
  rw [wMade_cat]
  refine wMade_ne fun k hk2 e => ?_
  obtain ⟨l, hl, e2⟩ := List.mem_iff_getElem.mp hk2
  have h2 : ks[i + l]? = some k := by
   rw [← e2, List.getElem_drop]
   rw [List.length_drop] at hl
   exact List.getElem?_eq_getElem (by omega)
  have := name_idx wf.nd h2 hk e
  omega
theorem take_snoc {ks : List Kn} {i : Nat} {k : Kn} (h : ks[i]? = some k) : ks.take (i + 1) = ks.take i ++ [k] := by
 rw [List.take_add_one, h]
 rfl
theorem told_more {ks : List Kn} (wf : KWf ks) {ks2 : List Kn} {told : List Wy} {y : Wy} {i : Nat} {k0 : Kn} (h0 : ks[i]? = some k0) (hy : y.1 = k0.name) : ∀ j, j ≤ i → ∀ x, x ≠ y.1 → wyAt (wMade ks2 (ks.take j) (told ++ [y])) x = wyAt (wMade ks2 (ks.take j) told) x
 | 0, _, x, hx => by
  rw [List.take_zero]
  exact wy_snoc_ne (Ne.symm hx)
 | j + 1, hj, x, hx => by
  have ih := told_more wf (ks2 := ks2) (told := told) h0 hy j (by omega)
  have hi := (List.getElem?_eq_some_iff.mp h0).1
  obtain ⟨k, hk⟩ : ∃ k, ks[j]? = some k := ⟨ks[j], List.getElem?_eq_getElem (by omega)⟩
  have hkn : k.name ≠ y.1 := fun e => by
   have := name_idx wf.nd hk h0 (by rw [e, hy])
   omega
  rw [take_snoc hk, wMade_snoc, wMade_snoc]
  have hb : howBy ks2 (wMade ks2 (ks.take j) (told ++ [y])) k = howBy ks2 (wMade ks2 (ks.take j) told) k := how_congr fun p hp => by
   rcases wf.ref j k hk p hp with z | ⟨l, k', hl, hk', e⟩
   ·rw [z, goes_num, goes_num]
   ·refine goes_congr (ih p.2 fun e2 => ?_)
    have := name_idx wf.nd hk' h0 (by rw [e, e2, hy])
    omega
  have hw := ih k.name hkn
  have hx' := ih x hx
  unfold wStep
  rw [hw, hb]
  cases wyAt (wMade ks2 (ks.take j) told) k.name with
  | some z => exact hx'
  | none =>
   cases howBy ks2 (wMade ks2 (ks.take j) told) k with
   | none => exact hx'
   | some d =>
    show wyAt (_ ++ [_]) x = wyAt (_ ++ [_]) x
    rw [wy_snoc, wy_snoc, hx']
theorem goes_stay {ks : List Kn} (wf : KWf ks) {ks2 : List Kn} {told : List Wy} {y : Wy} {i : Nat} {k0 : Kn} (h0 : ks[i]? = some k0) (hy : y.1 = k0.name) {x : Str} (h : Before ks i x) : goesTo (wMade ks2 ks (told ++ [y])) x = goesTo (wMade ks2 ks told) x := by
 rw [goes_take wf h, goes_take wf h]
 rcases h with rfl | ⟨j, k', hj, hk, rfl⟩
 ·rw [goes_num, goes_num]
 ·refine goes_congr (told_more wf h0 hy i (Nat.le_refl _) _ fun e => ?_)
  have := name_idx wf.nd hk h0 (by rw [e, hy])
  omega
def overB (ys : List Wy) (ps : List (Str × Str)) : List (Str × Str) := ps.filterMap fun p => (goesTo ys p.2).map fun g => (p.1, g)
theorem over_congr {ys ys' : List Wy} : ∀ {ps : List (Str × Str)}, (∀ p ∈ ps, goesTo ys p.2 = goesTo ys' p.2) → overB ys ps = overB ys' ps
 | [], _ => rfl
 | p :: ps, h => by
  unfold overB
  rw [List.filterMap_cons, List.filterMap_cons, h p (by simp)]
  have := over_congr (ps := ps) fun q hq => h q (by simp [hq])
  unfold overB at this
  rw [this]
theorem over_in {ys : List Wy} {ps : List (Str × Str)} {p : Str × Str} {g : Str} (hp : p ∈ ps) (h : goesTo ys p.2 = some g) : (p.1, g) ∈ overB ys ps := by
 unfold overB
 exact List.mem_filterMap.mpr ⟨p, hp, by rw [h]; rfl⟩
theorem over_of {ys : List Wy} {ps : List (Str × Str)} {b : Str × Str} (h : b ∈ overB ys ps) : ∃ p ∈ ps, p.1 = b.1 ∧ goesTo ys p.2 = some b.2 := by
 unfold overB at h
 obtain ⟨p, hp, e⟩ := List.mem_filterMap.mp h
 obtain ⟨g, hg, rfl⟩ := Option.map_eq_some_iff.mp e
 exact ⟨p, hp, rfl, hg⟩
theorem over_names {ys : List Wy} : ∀ {ps : List (Str × Str)}, ((overB ys ps).map (·.1)).Sublist (ps.map (·.1))
 | [] => .slnil
 | p :: ps => by
  have ih := over_names (ys := ys) (ps := ps)
  unfold overB at ih ⊢
  rw [List.filterMap_cons]
  cases goesTo ys p.2 with
  | none => exact ih.cons _
  | some g => exact ih.cons₂ _
theorem over_nd {ys : List Wy} {ps : List (Str × Str)} (h : (ps.map (·.1)).Nodup) : ((overB ys ps).map (·.1)).Nodup := h.sublist over_names
theorem over_len {ys : List Wy} {ps : List (Str × Str)} : (overB ys ps).length ≤ ps.length := List.length_filterMap_le _ _
def dPr (e : Str × D) : D := .tup [.str e.1, e.2]
def HowOk (ks2 : List Kn) (ys : List Wy) (k : Kn) (g : Str) (d : D) : Prop :=
 (k.rc = true ∧ TmB ks2 22 (overB ys k.parts) d g) ∨
 (k.rc = false ∧ ∃ es : List (Str × D), d = .tup (es.map dPr) ∧ es.map (·.1) = k.parts.map (·.1) ∧ ∀ (i : Nat) e p, es[i]? = some e → k.parts[i]? = some p → TmB ks2 22 (overB ys [(S "it", p.2)]) e.2 g)
def WRight (ks ks2 : List Kn) (ys : List Wy) (y : Wy) : Prop := ∃ k, kAt ks y.1 = some k ∧ KIn ks2 6 y.2.1 ∧ HowOk ks2 ys k y.2.1 y.2.2
theorem HowOk.congr {ks2 : List Kn} {ys ys' : List Wy} {k : Kn} {g : Str} {d : D} (h : HowOk ks2 ys k g d) (c : ∀ p ∈ k.parts, goesTo ys p.2 = goesTo ys' p.2) : HowOk ks2 ys' k g d := by
 rcases h with ⟨hc, h⟩ | ⟨hc, es, e1, e2, h⟩
 ·exact .inl ⟨hc, by rw [← over_congr c]; exact h⟩
 ·refine .inr ⟨hc, es, e1, e2, fun i e p he hp => ?_⟩
  have := h i e p he hp
  rw [over_congr (ys := ys) (ys' := ys') (ps := [(S "it", p.2)]) fun q hq => by rw [List.mem_singleton.mp hq]; exact c p (List.mem_of_getElem? hp)] at this
  exact this
theorem tb_nu {ks : List Kn} (wf : KWf ks) {bs : List (Str × Str)} : ∀ (m : Nat) (x : Str), KIn ks m x → TmB ks m bs (nuT (m + 1) ks x) x
 | 0, x, h => by
  rcases h.nu wf with ⟨rfl, _, e, _⟩ | ⟨j, k, e, _⟩
  ·rw [e]; exact tb_num ⟨by decide, by decide⟩
  ·cases e
 | m + 1, x, h => by
  rcases h.nu wf with ⟨rfl, _, e, _⟩ | ⟨j, k, ej, hk, hn, hm, hp, _, ⟨hc, e, _⟩ | ⟨hc, p, r, er, e, _⟩⟩
  ·rw [e]; exact tb_num ⟨by decide, by decide⟩
  ·cases ej
   rw [e]
   refine tb_rec hk hc (by have := wf.pts k hm; omega) ?_
   have := all2_map (R := fun e (p : Str × Str) => TmB ks m bs e p.2) (f := fun p : Str × Str => nuT (m + 1) ks p.2) (g := fun p => p) (xs := k.parts) fun p hp' => tb_nu wf m p.2 (hp p hp')
   rw [List.map_id'] at this
   exact this
  ·cases ej
   rw [e]
   exact tb_tag wf hk hc (by rw [er]; simp) (tb_nu wf m p.2 (hp p (by rw [er]; simp)))
theorem evs_up' {ks : List Kn} : ∀ (n : Nat) (env : En) (d v : D), Evs ks n env d v → Evs ks (n + 1) env d v
 | 0, _, _, _, h => .inl h
 | n + 1, env, d, v, h => by
  rcases h with h | ⟨h, g⟩
  ·exact .inl h
  ·exact .inr ⟨h.mono (evs_up' n), g⟩
theorem evs_le' {ks : List Kn} {n m : Nat} (l : n ≤ m) {env : En} {d v : D} (h : Evs ks n env d v) : Evs ks m env d v := by
 obtain ⟨k, rfl⟩ : ∃ k, m = n + k := ⟨m - n, by omega⟩
 clear l
 induction k with
 | zero => exact h
 | succ k ih => exact evs_up' _ _ _ _ ih
theorem TmB.up {ks : List Kn} {n m : Nat} {bs : List (Str × Str)} {d : D} {x : Str} (h : TmB ks n bs d x) (l : n ≤ m) : TmB ks m bs d x := ⟨fun env hf => by
 obtain ⟨v, h1, h2⟩ := h.1 env hf
 exact ⟨v, evs_le' l h1, h2⟩, fun env hf => kd_le l (h.2 env hf)⟩
theorem kin_here {ks : List Kn} (wf : KWf ks) {x : Str} {k : Kn} (h : kAt ks x = some k) : KIn ks 6 x := by
 have hm := List.mem_of_find?_eq_some h
 have hx : k.name = x := by
  have := List.find?_some h
  exact of_decide_eq_true this
 exact (KIn.of (.inr ⟨k, hm, hx⟩)).mono wf.few
theorem kn_name {ks : List Kn} {x : Str} {k : Kn} (h : kAt ks x = some k) : k.name = x := by
 have := List.find?_some h
 exact of_decide_eq_true this
theorem kin_pt {ks : List Kn} (wf : KWf ks) {k : Kn} (h : k ∈ ks) {p : Str × Str} (hp : p ∈ k.parts) : KIn ks 6 p.2 := by
 obtain ⟨i, hi, e⟩ := List.mem_iff_getElem.mp h
 have := wf.few
 exact KIn.mono (n := i) (wf.ref i k (by rw [← e]; exact List.getElem?_eq_getElem hi) p hp) (by omega)
theorem how_right {ks2 : List Kn} (wf2 : KWf ks2) {ys : List Wy} {k : Kn} {d : D} (h : howBy ks2 ys k = some d) : KIn ks2 6 k.name ∧ HowOk ks2 ys k k.name d := by
 unfold howBy at h
 cases hk : kAt ks2 k.name with
 | none => rw [hk] at h; cases h
 | some k2 =>
  rw [hk] at h
  have hm := List.mem_of_find?_eq_some hk
  refine ⟨kin_here wf2 hk, ?_⟩
  by_cases hr : k2.rc = k.rc
  ·simp only [hr, if_true] at h
   cases hc : k.rc with
   | true =>
    simp only [hc, if_true] at h
    by_cases ha : k2.parts.all (okQ ys k.parts) = true
    ·rw [if_pos ha] at h
     cases h
     refine .inl ⟨hc, ?_⟩
     have h5 := wf2.pts k2 hm
     refine TmB.up (n := 7) (tb_rec (n := 6) hk (by rw [hr, hc]) (by omega) ?_) (by omega)
     have := all2_map (R := fun e (p : Str × Str) => TmB ks2 6 (overB ys k.parts) e p.2) (f := tmQ ks2 k.parts) (g := fun p => p) (xs := k2.parts) fun q hq => by
      have hok := List.all_eq_true.mp ha q hq
      unfold okQ at hok
      unfold tmQ
      cases ho : ownOf k.parts q.1 with
      | none => exact tb_nu wf2 6 q.2 (kin_pt wf2 hm hq)
      | some z =>
       rw [ho] at hok
       exact tb_box (over_in (p := (q.1, z)) (own_in ho) (of_decide_eq_true hok))
     rw [List.map_id'] at this
     exact this
    ·rw [if_neg ha] at h
     cases h
   | false =>
    rw [hc] at h
    simp only [Bool.false_eq_true, if_false] at h
    by_cases ha : k.parts.all (okT ys k2.parts) = true
    ·rw [if_pos ha] at h
     cases h
     refine .inr ⟨hc, k.parts.map fun p => (p.1, tTag k.name p.1 (tBox (S "it"))), ?_, ?_, fun i e p he hp => ?_⟩
     ·unfold tagsD
      rw [List.map_map]
      rfl
     ·rw [List.map_map]
      rfl
     ·rw [List.getElem?_map, hp] at he
      cases he
      have hpm := List.mem_of_getElem? hp
      have hok := List.all_eq_true.mp ha p hpm
      unfold okT at hok
      cases ho : ownOf k2.parts p.1 with
      | none => rw [ho] at hok; cases hok
      | some g =>
       rw [ho] at hok
       have hg := of_decide_eq_true hok
       refine TmB.up (n := 1) (tb_tag (n := 0) (p := (p.1, g)) wf2 hk (by rw [hr, hc]) (own_in ho) (tb_box ?_)) (by omega)
       exact over_in (p := (S "it", p.2)) (by simp) hg
    ·rw [if_neg ha] at h
     cases h
  ·simp only [if_neg hr] at h
   cases h
theorem made_of {ks2 : List Kn} : ∀ {ks : List Kn} {told : List Wy} {y : Wy}, y ∈ wMade ks2 ks told → y ∈ told ∨ ∃ i k d, ks[i]? = some k ∧ y = (k.name, k.name, d) ∧ howBy ks2 (wMade ks2 (ks.take i) told) k = some d
 | [], told, y, h => .inl h
 | k :: ks, told, y, h => by
  rcases made_of (ks := ks) (told := wStep ks2 told k) h with h | ⟨i, k', d, h1, h2, h3⟩
  ·unfold wStep at h
   cases hw : wyAt told k.name with
   | some z => rw [hw] at h; exact .inl h
   | none =>
    rw [hw] at h
    cases hb : howBy ks2 told k with
    | none => rw [hb] at h; exact .inl h
    | some d =>
     rw [hb] at h
     rcases List.mem_append.mp h with h | h
     ·exact .inl h
     ·exact .inr ⟨0, k, d, rfl, List.mem_singleton.mp h, hb⟩
  ·exact .inr ⟨i + 1, k', d, h1, h2, h3⟩
theorem part_before {ks : List Kn} (wf : KWf ks) {i : Nat} {k : Kn} (hk : ks[i]? = some k) {p : Str × Str} (hp : p ∈ k.parts) : Before ks i p.2 := wf.ref i k hk p hp
def ToldOk (ks ks2 : List Kn) (told : List Wy) : Prop := ∀ y ∈ told, WRight ks ks2 (wMade ks2 ks told) y
theorem made_right {ks ks2 : List Kn} (wf : KWf ks) (wf2 : KWf ks2) {told : List Wy} (h : ToldOk ks ks2 told) : ∀ y ∈ wMade ks2 ks told, WRight ks ks2 (wMade ks2 ks told) y := fun y hy => by
 rcases made_of hy with h1 | ⟨i, k, d, hk, rfl, hb⟩
 ·exact h y h1
 ·have hb' : howBy ks2 (wMade ks2 ks told) k = some d := by
   rw [how_congr (ys' := wMade ks2 (ks.take i) told) fun p hp => goes_take wf (part_before wf hk hp)]
   exact hb
  obtain ⟨h1, h2⟩ := how_right wf2 hb'
  exact ⟨k, kAt_self wf.nd (List.mem_of_getElem? hk), h1, h2⟩
theorem told_ok_snoc {ks ks2 : List Kn} (wf : KWf ks) {told : List Wy} {y : Wy} {i : Nat} {k0 : Kn} (h0 : ks[i]? = some k0) (hy : y.1 = k0.name) (h : ToldOk ks ks2 told) (hb : ∀ z ∈ told, ∃ j k, j < i ∧ ks[j]? = some k ∧ k.name = z.1) (hw : KIn ks2 6 y.2.1 ∧ HowOk ks2 (wMade ks2 ks told) k0 y.2.1 y.2.2) : ToldOk ks ks2 (told ++ [y]) := by
 have stay : ∀ x, Before ks i x → goesTo (wMade ks2 ks told) x = goesTo (wMade ks2 ks (told ++ [y])) x := fun x hx => (goes_stay wf h0 hy hx).symm
 intro z hz
 rcases List.mem_append.mp hz with hz | hz
 ·obtain ⟨k, h1, h2, h3⟩ := h z hz
  obtain ⟨j, k', hj, hk', e⟩ := hb z hz
  have ek : k = k' := by
   have := kAt_self wf.nd (List.mem_of_getElem? hk')
   rw [e, h1] at this
   exact Option.some.inj this
  subst ek
  refine ⟨k, h1, h2, h3.congr fun p hp => stay _ ?_⟩
  rcases wf.ref j k hk' p hp with z | ⟨l, k2, hl, z⟩
  ·exact .inl z
  ·exact .inr ⟨l, k2, by omega, z⟩
 ·rw [List.mem_singleton.mp hz]
  exact ⟨k0, by rw [hy]; exact kAt_self wf.nd (List.mem_of_getElem? h0), hw.1, hw.2.congr fun p hp => stay _ (part_before wf h0 hp)⟩
theorem wyAt_none {ys : List Wy} {x : Str} (h : wyAt ys x = none) : ∀ y ∈ ys, y.1 ≠ x := fun y hy e => by
 unfold wyAt at h
 have := List.find?_eq_none.mp h y hy
 exact this (decide_eq_true e)
theorem wyAt_self {ys : List Wy} (nd : (ys.map (·.1)).Nodup) {y : Wy} (hy : y ∈ ys) : wyAt ys y.1 = some y := by
 obtain ⟨i, hi, e⟩ := List.mem_iff_getElem.mp hy
 exact find_nodup (f := fun z : Wy => z.1) (xs := ys) (i := i) (a := y) nd (by rw [← e]; exact List.getElem?_eq_getElem hi)
theorem step_nd {ks2 : List Kn} {ys : List Wy} {k : Kn} (nd : (ys.map (·.1)).Nodup) : ((wStep ks2 ys k).map (·.1)).Nodup := by
 unfold wStep
 cases hw : wyAt ys k.name with
 | some z => exact nd
 | none =>
  cases howBy ks2 ys k with
  | none => exact nd
  | some d =>
   show ((ys ++ [(k.name, k.name, d)]).map (·.1)).Nodup
   rw [List.map_append]
   refine List.nodup_append.mpr ⟨nd, by simp, fun a ha b hb e => ?_⟩
   obtain ⟨y, hy, rfl⟩ := List.mem_map.mp ha
   have hb' : b = k.name := by simpa using hb
   exact wyAt_none hw y hy (by rw [e, hb'])
theorem made_nd {ks2 : List Kn} : ∀ {ks : List Kn} {ys : List Wy}, (ys.map (·.1)).Nodup → ((wMade ks2 ks ys).map (·.1)).Nodup
 | [], _, nd => nd
 | k :: ks, ys, nd => made_nd (ks := ks) (step_nd nd)
theorem step_len {ks2 : List Kn} {ys : List Wy} {k : Kn} : (wStep ks2 ys k).length ≤ ys.length + 1 := by
 unfold wStep
 cases wyAt ys k.name with
 | some z => show ys.length ≤ _; omega
 | none =>
  cases howBy ks2 ys k with
  | none => show ys.length ≤ _; omega
  | some d => show (ys ++ [_]).length ≤ _; simp
theorem made_len {ks2 : List Kn} : ∀ {ks : List Kn} {ys : List Wy}, (wMade ks2 ks ys).length ≤ ys.length + ks.length
 | [], ys => Nat.le_refl _
 | k :: ks, ys => by
  have h1 := made_len (ks2 := ks2) (ks := ks) (ys := wStep ks2 ys k)
  have h2 := step_len (ks2 := ks2) (ys := ys) (k := k)
  show (wMade ks2 ks (wStep ks2 ys k)).length ≤ ys.length + (ks.length + 1)
  omega
theorem goes_right {ks ks2 : List Kn} {ys : List Wy} (h : ∀ y ∈ ys, WRight ks ks2 ys y) {x g : Str} (hg : goesTo ys x = some g) : KIn ks2 6 g := by
 unfold goesTo at hg
 by_cases c : x = S "num"
 ·rw [if_pos c] at hg
  cases hg
  exact .inl rfl
 ·rw [if_neg c] at hg
  obtain ⟨y, hy, rfl⟩ := Option.map_eq_some_iff.mp hg
  obtain ⟨k, _, h2, _⟩ := h y (wy_name hy).2
  exact h2
end M
end
section
namespace M
open PySem L2
end M
end
section
namespace M
open PySem L2
def lk1 (ks2 : List Kn) (ys : List Wy) (k : Kn) : List Str := match wyAt ys k.name with
 | some _ => []
 | none => match howBy ks2 ys k with
  | none => [k.name]
  | some _ => []
def wLack (ks2 : List Kn) : List Kn → List Wy → List Str
 | [], _ => []
 | k :: ks, ys => lk1 ks2 ys k ++ wLack ks2 ks (wStep ks2 ys k)
theorem lack_snoc {ks2 : List Kn} {k : Kn} : ∀ {ks : List Kn} {ys : List Wy}, wLack ks2 (ks ++ [k]) ys = wLack ks2 ks ys ++ lk1 ks2 (wMade ks2 ks ys) k
 | [], ys => by
  show lk1 ks2 ys k ++ [] = [] ++ lk1 ks2 ys k
  rw [List.append_nil, List.nil_append]
 | k' :: ks, ys => by
  show lk1 ks2 ys k' ++ wLack ks2 (ks ++ [k]) (wStep ks2 ys k') = lk1 ks2 ys k' ++ wLack ks2 ks (wStep ks2 ys k') ++ lk1 ks2 (wMade ks2 ks (wStep ks2 ys k')) k
  rw [lack_snoc, List.append_assoc]
def dWay (ks2 : List Kn) (told ys : List Wy) (k : Kn) : Option Wy := match wyAt told k.name with
 | some y => some y
 | none => (howBy ks2 ys k).map fun d => (k.name, k.name, d)
def dStep (ks2 : List Kn) (told ys : List Wy) (k : Kn) : List Wy := match dWay ks2 told ys k with
 | some y => ys ++ [y]
 | none => ys
def wDue (ks2 : List Kn) (told : List Wy) (ks : List Kn) : List Wy := ks.foldl (dStep ks2 told) []
theorem due_snoc (ks2 : List Kn) (told : List Wy) (ks : List Kn) (k : Kn) : wDue ks2 told (ks ++ [k]) = dStep ks2 told (wDue ks2 told ks) k := by
 unfold wDue
 rw [List.foldl_append]
 rfl
def dL1 (ks2 : List Kn) (told ys : List Wy) (k : Kn) : List Str := match dWay ks2 told ys k with
 | some _ => []
 | none => [k.name]
theorem dway_name {ks2 : List Kn} {told ys : List Wy} {k : Kn} {y : Wy} (h : dWay ks2 told ys k = some y) : y.1 = k.name := by
 unfold dWay at h
 cases hw : wyAt told k.name with
 | some z =>
  rw [hw] at h
  cases h
  exact (wy_name hw).1
 | none =>
  rw [hw] at h
  obtain ⟨d, _, rfl⟩ := Option.map_eq_some_iff.mp h
  rfl
theorem dstep_at {ks2 : List Kn} {told ys : List Wy} {k : Kn} {x : Str} : wyAt (dStep ks2 told ys k) x = if wyAt ys x = none ∧ k.name = x then dWay ks2 told ys k else wyAt ys x := by
 unfold dStep
 cases hd : dWay ks2 told ys k with
 | none =>
  by_cases c : wyAt ys x = none ∧ k.name = x
  ·rw [if_pos c]; exact c.1
  ·rw [if_neg c]
 | some y =>
  show wyAt (ys ++ [y]) x = _
  rw [wy_snoc, dway_name hd]
  cases hx : wyAt ys x with
  | some z =>
   show some z = _
   rw [if_neg fun c => by cases c.1]
  | none =>
   show (if k.name = x then some y else none) = _
   by_cases c : k.name = x
   ·rw [if_pos c, if_pos ⟨rfl, c⟩]
   ·rw [if_neg c, if_neg fun z => c z.2]
theorem due_same {ks : List Kn} (wf : KWf ks) {ks2 : List Kn} {told : List Wy} : ∀ (i : Nat), i ≤ ks.length → (∀ (j : Nat) k, j < i → ks[j]? = some k → wyAt (wDue ks2 told (ks.take i)) k.name = wyAt (wMade ks2 (ks.take i) told) k.name) ∧ ∀ (j : Nat) k, i ≤ j → ks[j]? = some k → wyAt (wDue ks2 told (ks.take i)) k.name = none ∧ wyAt (wMade ks2 (ks.take i) told) k.name = wyAt told k.name
 | 0, _ => ⟨fun j k h => by omega, fun j k _ _ => ⟨rfl, rfl⟩⟩
 | i + 1, hi => by
  obtain ⟨ih1, ih2⟩ := due_same wf (ks2 := ks2) (told := told) i (by omega)
  obtain ⟨k0, h0⟩ : ∃ k, ks[i]? = some k := ⟨ks[i], List.getElem?_eq_getElem (by omega)⟩
  rw [take_snoc h0, due_snoc, wMade_snoc]
  obtain ⟨g1, g2⟩ := ih2 i k0 (Nat.le_refl _) h0
  have hb : howBy ks2 (wDue ks2 told (ks.take i)) k0 = howBy ks2 (wMade ks2 (ks.take i) told) k0 := how_congr fun p hp => by
   rcases wf.ref i k0 h0 p hp with z | ⟨l, k', hl, hk', e⟩
   ·rw [z, goes_num, goes_num]
   ·refine goes_congr ?_
    rw [← e]
    exact ih1 l k' hl hk'
  have heq : wyAt (dStep ks2 told (wDue ks2 told (ks.take i)) k0) k0.name = wyAt (wStep ks2 (wMade ks2 (ks.take i) told) k0) k0.name := by
   rw [dstep_at, if_pos ⟨g1, rfl⟩]
   unfold dWay wStep
   rw [g2]
   cases hw : wyAt told k0.name with
   | some y =>
    show some y = wyAt (wMade ks2 (ks.take i) told) k0.name
    rw [g2, hw]
   | none =>
    rw [hb]
    cases howBy ks2 (wMade ks2 (ks.take i) told) k0 with
    | none =>
     show none = wyAt (wMade ks2 (ks.take i) told) k0.name
     rw [g2, hw]
    | some d =>
     show some (k0.name, k0.name, d) = wyAt (wMade ks2 (ks.take i) told ++ [(k0.name, k0.name, d)]) k0.name
     rw [wy_snoc, g2, hw]
     show _ = if k0.name = k0.name then _ else _
     rw [if_pos rfl]
  have hne : ∀ (j : Nat) k, j ≠ i → ks[j]? = some k → k0.name ≠ k.name := fun j k hj hk e => hj (name_idx wf.nd hk h0 e.symm)
  refine ⟨fun j k hj hk => ?_, fun j k hj hk => ?_⟩
  ·by_cases c : j = i
   ·subst c
    rw [h0] at hk
    cases hk
    exact heq
   ·rw [dstep_at, if_neg fun z => hne j k c hk z.2, wStep_ne (hne j k c hk)]
    exact ih1 j k (by omega) hk
  ·have hn := hne j k (by omega) hk
   rw [dstep_at, if_neg fun z => hn z.2, wStep_ne hn]
   exact ih2 j k (by omega) hk
theorem lack_same {ks : List Kn} (wf : KWf ks) {ks2 : List Kn} {told : List Wy} {i : Nat} {k : Kn} (hk : ks[i]? = some k) : dL1 ks2 told (wDue ks2 told (ks.take i)) k = lk1 ks2 (wMade ks2 (ks.take i) told) k := by
 have hi := (List.getElem?_eq_some_iff.mp hk).1
 obtain ⟨ih1, ih2⟩ := due_same wf (ks2 := ks2) (told := told) i (by omega)
 obtain ⟨g1, g2⟩ := ih2 i k (Nat.le_refl _) hk
 have hb : howBy ks2 (wDue ks2 told (ks.take i)) k = howBy ks2 (wMade ks2 (ks.take i) told) k := how_congr fun p hp => by
  rcases wf.ref i k hk p hp with z | ⟨l, k', hl, hk', e⟩
  ·rw [z, goes_num, goes_num]
  ·refine goes_congr ?_
   rw [← e]
   exact ih1 l k' hl hk'
 unfold dL1 lk1 dWay
 rw [g2]
 cases wyAt told k.name with
 | some y => rfl
 | none =>
  rw [hb]
  cases howBy ks2 (wMade ks2 (ks.take i) told) k <;> rfl
theorem due_names {ks2 : List Kn} {told : List Wy} : ∀ {ks : List Kn} {y : Wy}, y ∈ wDue ks2 told ks → ∃ k ∈ ks, k.name = y.1 := by
 intro ks
 unfold wDue
 suffices h : ∀ (ks : List Kn) (ys : List Wy) (y : Wy), y ∈ ks.foldl (dStep ks2 told) ys → y ∈ ys ∨ ∃ k ∈ ks, k.name = y.1 by
  intro y hy
  rcases h ks [] y hy with h | h
  ·cases h
  ·exact h
 intro ks
 induction ks with
 | nil => intro ys y hy; exact .inl hy
 | cons k ks ih =>
  intro ys y hy
  rcases ih (dStep ks2 told ys k) y hy with h | ⟨k', hk', e⟩
  ·unfold dStep at h
   cases hd : dWay ks2 told ys k with
   | none => rw [hd] at h; exact .inl h
   | some z =>
    rw [hd] at h
    rcases List.mem_append.mp h with h | h
    ·exact .inl h
    ·rw [List.mem_singleton.mp h]
     exact .inr ⟨k, by simp, (dway_name hd).symm⟩
  ·exact .inr ⟨k', by simp [hk'], e⟩
theorem due_nd {ks : List Kn} (wf : KWf ks) {ks2 : List Kn} {told : List Wy} : ∀ (i : Nat), i ≤ ks.length → ((wDue ks2 told (ks.take i)).map (·.1)).Nodup
 | 0, _ => List.nodup_nil
 | i + 1, hi => by
  have ih := due_nd wf (ks2 := ks2) (told := told) i (by omega)
  obtain ⟨k0, h0⟩ : ∃ k, ks[i]? = some k := ⟨ks[i], List.getElem?_eq_getElem (by omega)⟩
  rw [take_snoc h0, due_snoc]
  unfold dStep
  cases hd : dWay ks2 told (wDue ks2 told (ks.take i)) k0 with
  | none => exact ih
  | some y =>
   show ((_ ++ [y]).map _).Nodup
   rw [List.map_append]
   refine List.nodup_append.mpr ⟨ih, by simp, fun a ha b hb e => ?_⟩
   obtain ⟨z, hz, rfl⟩ := List.mem_map.mp ha
   have hb' : b = y.1 := by simpa using hb
   have := ((due_same wf (ks2 := ks2) (told := told) i (by omega)).2 i k0 (Nat.le_refl _) h0).1
   exact wyAt_none this z hz (by rw [e, hb', dway_name hd])
theorem nodup_le : ∀ {as bs : List Str}, as.Nodup → (∀ x ∈ as, x ∈ bs) → as.length ≤ bs.length
 | [], _, _, _ => Nat.zero_le _
 | a :: as, bs, nd, h => by
  rw [List.nodup_cons] at nd
  obtain ⟨p, q, rfl⟩ := List.append_of_mem (h a (by simp))
  have := nodup_le (as := as) (bs := p ++ q) nd.2 fun x hx => by
   have hm := h x (by simp [hx])
   rcases List.mem_append.mp hm with h1 | h1
   ·exact List.mem_append.mpr (.inl h1)
   ·rcases List.mem_cons.mp h1 with h2 | h2
    ·rw [h2] at hx; exact absurd hx nd.1
    ·exact List.mem_append.mpr (.inr h2)
  simp only [List.length_append, List.length_cons] at this ⊢
  omega
theorem due_made {ks : List Kn} (wf : KWf ks) {ks2 : List Kn} {told : List Wy} (ht : ∀ y ∈ told, ∃ k ∈ ks, k.name = y.1) (x : Str) : wyAt (wDue ks2 told ks) x = wyAt (wMade ks2 ks told) x := by
 have h := due_same wf (ks2 := ks2) (told := told) ks.length (Nat.le_refl _)
 rw [List.take_length] at h
 by_cases c : ∃ k ∈ ks, k.name = x
 ·obtain ⟨k, hk, rfl⟩ := c
  obtain ⟨j, hj, e⟩ := List.mem_iff_getElem.mp hk
  exact h.1 j k hj (by rw [← e]; exact List.getElem?_eq_getElem hj)
 ·have e1 : wyAt (wDue ks2 told ks) x = none := by
   unfold wyAt
   refine List.find?_eq_none.mpr fun y hy z => c ?_
   obtain ⟨k, hk, e⟩ := due_names hy
   exact ⟨k, hk, e.trans (of_decide_eq_true z)⟩
  have e2 : wyAt (wMade ks2 ks told) x = none := by
   unfold wyAt
   refine List.find?_eq_none.mpr fun y hy z => c ?_
   rcases made_of hy with h1 | ⟨i, k, d, hk, rfl, _⟩
   ·obtain ⟨k, hk, e⟩ := ht y h1
    exact ⟨k, hk, e.trans (of_decide_eq_true z)⟩
   ·exact ⟨k, List.mem_of_getElem? hk, of_decide_eq_true z⟩
  rw [e1, e2]
theorem mem_at {ys : List Wy} {x : Str} : x ∈ ys.map (·.1) ↔ ∃ y, wyAt ys x = some y := by
 refine ⟨fun h => ?_, fun ⟨y, h⟩ => ?_⟩
 ·cases hw : wyAt ys x with
  | some y => exact ⟨y, rfl⟩
  | none =>
   obtain ⟨y, hy, e⟩ := List.mem_map.mp h
   exact absurd e (wyAt_none hw y hy)
 ·rw [← (wy_name h).1]
  exact List.mem_map_of_mem (wy_name h).2
theorem due_len {ks : List Kn} (wf : KWf ks) {ks2 : List Kn} {told : List Wy} (ht : ∀ y ∈ told, ∃ k ∈ ks, k.name = y.1) (hn : (told.map (·.1)).Nodup) : (wDue ks2 told ks).length = (wMade ks2 ks told).length := by
 have n1 := due_nd wf (ks2 := ks2) (told := told) ks.length (Nat.le_refl _)
 rw [List.take_length] at n1
 have n2 := made_nd (ks2 := ks2) (ks := ks) hn
 have h1 := nodup_le n1 (bs := (wMade ks2 ks told).map (·.1)) fun x hx => by
  rw [mem_at] at hx ⊢
  rw [← due_made wf ht]
  exact hx
 have h2 := nodup_le n2 (bs := (wDue ks2 told ks).map (·.1)) fun x hx => by
  rw [mem_at] at hx ⊢
  rw [due_made wf ht]
  exact hx
 rw [List.length_map, List.length_map] at h1 h2
 omega
theorem all2_fst {α β : Type} {R : α → β → Prop} : ∀ {as : List α} {bs : List β}, All2 R as bs → ∀ a ∈ as, ∃ b, R a b
 | _, _, .nil, a, h => nomatch h
 | _, _, .cons h t, a, ha => by
  rcases List.mem_cons.mp ha with rfl | ha
  ·exact ⟨_, h⟩
  ·exact all2_fst t a ha
theorem kd_deep {cs : Prop} {ks : List Kn} : ∀ (n : Nat) (env : En) (d : D) (x : Str), Kd cs ks n env d x → d.deep ≤ 3 * n + 1
 | n, env, d, x, h => by
  have leaf : LeafKd env d x → d.deep ≤ 3 * n + 1 := by
   rintro (⟨i, _, rfl, _⟩ | ⟨y, _, rfl⟩)
   ·show (max 0 (max 0 0)) + 1 ≤ _; omega
   ·show (max 0 (max 0 0)) + 1 ≤ _; omega
  cases n with
  | zero => exact leaf h
  | succ n =>
   rcases h with h | h
   ·exact leaf h
   ·have ih := fun env d x h => kd_deep (cs := cs) (ks := ks) n env d x h
    rcases h with ⟨s, a, b, h1, h2, rfl, _⟩ | ⟨es, kn, h1, h2, h3, rfl⟩ | ⟨a, k1, f, kn, h1, h2, h3, h4, rfl⟩ | ⟨t, a, kn, k1, h1, h2, h3, h4, rfl⟩ | ⟨hc, a, rs, k1, kn, h1, h2, h3, h4, h5, h6, h7, rfl⟩ | ⟨a, b, c, h1, h2, h3, rfl⟩
    ·have := ih _ _ _ h1
     have := ih _ _ _ h2
     show max 0 (max 0 (max a.deep (max b.deep 0))) + 1 ≤ _
     omega
    ·have := deeps_le (ds := es) (n := 3 * n + 1) fun e he => by
      obtain ⟨p, hp⟩ := all2_fst h3 e he
      exact ih _ _ _ hp
     show max 0 (max 0 (max (deeps es + 1) 0)) + 1 ≤ _
     omega
    ·have := ih _ _ _ h1
     show max 0 (max a.deep (max 0 0)) + 1 ≤ _
     omega
    ·have := ih _ _ _ h4
     show max 0 (max 0 (max 0 (max a.deep 0))) + 1 ≤ _
     omega
    ·have h8 := ih _ _ _ h1
     have := deeps_le (ds := rs.map dArm) (n := 3 * n + 2) fun e he => by
      obtain ⟨r, hr, rfl⟩ := List.mem_map.mp he
      obtain ⟨_, k2, _, g⟩ := h7 r hr
      have := ih _ _ _ g
      show max 0 (max 0 (max r.2.2.deep 0)) + 1 ≤ _
      omega
     show max 0 (max a.deep (max (deeps (rs.map dArm) + 1) 0)) + 1 ≤ _
     omega
    ·have := ih _ _ _ h1
     have := ih _ _ _ h2
     have := ih _ _ _ h3
     show max 0 (max a.deep (max b.deep (max c.deep 0))) + 1 ≤ _
     omega
theorem tmk_deep {ks : List Kn} {n : Nat} {bs : List (Str × Str)} {d : D} {x : Str} (nd : (bs.map (·.1)).Nodup) (h : TmK ks n bs d x) : d.deep ≤ 3 * n + 1 := by
 refine kd_deep n (fun y => (ownOf bs y).map D.str) d x (h _ ⟨fun p hp => ?_, fun z _ hz => ?_⟩)
 ·show (ownOf bs p.1).map D.str = _
  rw [own_at nd hp]
  rfl
 ·cases ho : ownOf bs z with
  | none => show (ownOf bs z).map D.str = _; rw [ho]; rfl
  | some k => exact absurd rfl (hz _ (own_in ho))
theorem wright_deep {ks ks2 : List Kn} (wf : KWf ks) {ys : List Wy} {y : Wy} (h : WRight ks ks2 ys y) : (wyD y).deep ≤ 100 := by
 obtain ⟨k, hk, _, how⟩ := h
 have hd : y.2.2.deep ≤ 80 := by
  rcases how with ⟨_, htm⟩ | ⟨_, es, e, hes, htm⟩
  ·have := tmk_deep (over_nd (wf.pnd k (List.mem_of_find?_eq_some hk))) htm.2
   omega
  ·rw [e]
   have := deeps_le (ds := es.map dPr) (n := 70) fun f hf => by
    obtain ⟨g, hg, rfl⟩ := List.mem_map.mp hf
    obtain ⟨i, hi, ei⟩ := List.mem_iff_getElem.mp hg
    have hl := congrArg List.length hes
    rw [List.length_map, List.length_map] at hl
    have := tmk_deep (over_nd (by simp)) (htm i g (k.parts[i]'(by omega)) (by rw [← ei]; exact List.getElem?_eq_getElem hi) (List.getElem?_eq_getElem (by omega))).2
    show max 0 (max g.2.deep 0) + 1 ≤ _
    omega
   show deeps (es.map dPr) + 1 ≤ _
   omega
 show max 0 (max y.2.2.deep 0) + 1 ≤ _
 omega
end M
end
section
namespace K41
open PySem L2 M
seal L2.PE L2.PA L2.PS L2.PSs L2.PT L2.PW L2.PI L2.PG L2.PJ L2.PTs
theorem val_own {olds : List (Str × Str)} (nd : (olds.map (·.1)).Nodup) (x : Str) : valV (mergeK [] (bKV olds)) (Sum.inr x) = (ownOf olds x).map V.str := by
 cases h : ownOf olds x with
 | some k => exact val_bs nd (own_in h) []
 | none =>
  rw [val_not]
  ·rfl
  ·intro b hb e
   have := own_at nd hb
   rw [e, h] at this
   cases this
theorem none_back {H H1 : Hp} {c : Addr} (s : Same H H1) (n : H1 c = none) : H c = none := none_of_same s n
theorem same_upd {H H1 : Hp} {c : Addr} (s : Same H H1) (n : H c = none) (o : HO) : Same H (upd H1 c o) := over_none s n o
theorem dk_tupsP {H : Hp} {p : Addr} {kvs : List (Key × V)} (h : H p = some (.dK kvs)) (o : HO) : ∀ b vs, H b = some (.tup vs) → upd H p o b = some (.tup vs) := fun b vs hb => by
 rw [upd_ne fun e => by rw [e, h] at hb; cases hb]
 exact hb
theorem put_new {k : Key} {v : V} : ∀ {kvs : List (Key × V)}, valV kvs k = none → putK kvs k v = kvs ++ [(k, v)] := fun {kvs} h => by
 unfold putK
 rw [if_neg fun z => ?_]
 obtain ⟨e, he, ek⟩ := List.any_eq_true.mp z
 unfold valV at h
 have := List.find?_eq_none.mp (Option.map_eq_none_iff.mp h) e he
 exact this ek
theorem scal_opt (o : Option Str) (x : Str) : scal (optV o) (.str x) = true := by cases o <;> rfl
theorem scal_opt' (o : Option Str) (x : Str) : scal (.str x) (optV o) = true := by cases o <;> rfl
theorem optV_eq {o : Option Str} {x : Str} : (optV o = V.str x) ↔ o = some x := by
 cases o with
 | none => exact ⟨(fun h => by cases h), (fun h => by cases h)⟩
 | some z => exact ⟨(fun h => by rw [V.str.inj h]), (fun h => by rw [Option.some.inj h]; rfl)⟩
theorem iteNT {c : Prop} [Decidable c] {A B : Prop} (h : ¬ c) (a : A) : if (!decide c) = true then A else B := by
 rw [decide_eq_false h]
 exact a
theorem iteNF {c : Prop} [Decidable c] {A B : Prop} (h : c) (b : B) : if (!decide c) = true then A else B := by
 rw [decide_eq_true h]
 exact b
theorem tup_ref {H : Hp} {u : V} {ds : List D} (h : RelD H u (.tup ds)) : ∃ b, u = .ref b := by
 obtain ⟨b, _, e, _⟩ := h
 exact ⟨b, e⟩
theorem how_ref {H : Hp} {u : V} {ks2 : List Kn} {ys : List Wy} {k : Kn} {d : D} (h : howBy ks2 ys k = some d) (r : RelD H u d) : ∃ b, u = .ref b := by
 unfold howBy at h
 split at h
 ·cases h
 ·split at h
  ·split at h
   ·split at h
    ·cases h
     exact tup_ref r
    ·cases h
   ·split at h
    ·cases h
     exact tup_ref r
    ·cases h
  ·cases h
theorem nu_ref {H : Hp} {u : V} {ks : List Kn} (wf : KWf ks) {m : Nat} {x : Str} (h : KIn ks m x) (r : RelD H u (nuT (m + 1) ks x)) : ∃ b, u = .ref b := by
 rcases h.nu wf with ⟨rfl, _, e, _⟩ | ⟨j, k, ej, hk, hn, hm, hp, _, ⟨hc, e, _⟩ | ⟨hc, p, rr, er, e, _⟩⟩ <;> (rw [e] at r; exact tup_ref r)
def optD (H : Hp) (u : V) : Option D → Prop
 | none => u = .non
 | some d => RelD H u d
def spGoes : Sp := fun vs H Q _ => ∃ (a : Addr) (ys : List Wy) (x : Str), vs = [.ref a, .str x] ∧ WaysAt H a ys ∧ Q (optV (goesTo ys x)) H
def spNu (F : Nat → List Kn → Str → D) (m : Nat) : Sp := fun vs H Q _ => ∃ v ks x, vs = [v, .str x] ∧ RelD H v (dKinds ks) ∧ KWf ks ∧ KIn ks m x ∧ ∀ u H', Same H H' → RelD H' u (F (m + 1) ks x) → Q u H'
def termsBy (ks2 : List Kn) (ys : List Wy) (olds news : List (Str × Str)) : Option D := if news.all (okQ ys olds) = true then some (.tup (news.map (tmQ ks2 olds))) else none
def tagsBy (ys : List Wy) (k k2 : Kn) : Option D := if k.parts.all (okT ys k2.parts) = true then some (tagsD k) else none
def spTermsBy : Sp := fun vs H Q _ => ∃ (kv : V) (wa : Addr) (ov nv : V) (ks2 : List Kn) (ys : List Wy) (os ps : List (Str × Str)), vs = [kv, .ref wa, ov, nv] ∧ RelD H kv (dKinds ks2) ∧ KWf ks2 ∧ WaysAt H wa ys ∧ RelD H ov (dParts os) ∧ RelD H nv (dParts ps) ∧ (os.map (·.1)).Nodup ∧ os.length ≤ 100 ∧ ps.length ≤ 100 ∧ (∀ p ∈ ps, KIn ks2 6 p.2) ∧ ∀ u H', Same H H' → optD H' u (termsBy ks2 ys os ps) → Q u H'
def spTagsBy : Sp := fun vs H Q _ => ∃ (kv : V) (wa : Addr) (dv : V) (ks2 : List Kn) (ys : List Wy) (k k2 : Kn), vs = [kv, .ref wa, dv] ∧ KsAt H kv ks2 ∧ WaysAt H wa ys ∧ RelD H dv k.d ∧ kAt ks2 k.name = some k2 ∧ (k2.parts.map (·.1)).Nodup ∧ k2.parts.length ≤ 100 ∧ k.parts.length ≤ 100 ∧
 ∀ u H', Same H H' → optD H' u (tagsBy ys k k2) → Q u H'
def spHow : Sp := fun vs H Q _ => ∃ (kv : V) (wa : Addr) (dv : V) (ks2 : List Kn) (ys : List Wy) (k : Kn), vs = [kv, .ref wa, dv] ∧ RelD H kv (dKinds ks2) ∧ KWf ks2 ∧ WaysAt H wa ys ∧ RelD H dv k.d ∧ (k.parts.map (·.1)).Nodup ∧ k.parts.length ≤ 100 ∧ ∀ u H', Same H H' → optD H' u (howBy ks2 ys k) → Q u H'
def spMade : Sp := fun vs H Q _ => ∃ (fa sa ta : Addr) (kv1 kv2 : V) (r1 r2 : List V) (ks ks2 : List Kn) (tkv : List (Key × V)) (told : List Wy), vs = [.ref fa, .ref sa, .ref ta] ∧ H fa = some (.tup (kv1 :: r1)) ∧ H sa = some (.tup (kv2 :: r2)) ∧ H ta = some (.dK tkv) ∧ WAll H tkv told ∧ told.length ≤ 100 ∧ RelD H kv1 (dKinds ks) ∧ KWf ks ∧ RelD H kv2 (dKinds ks2) ∧ KWf ks2 ∧
 ∀ r wa la kvs (ls : List Str) H', Same H H' → H r = none → H wa = none → H la = none → H' r = some (.tup [.ref wa, .ref la]) → H' wa = some (.dK kvs) → WAll H' kvs (wMade ks2 ks told) → H' la = some (.lst (ls.map V.str)) → ls.length ≤ 100 ∧ ls = wLack ks2 ks told → Q (.ref r) H'
section
variable {P : Program} {w : World} {K : PySem.W.Frag} {mg : Str → Option Value} {base : Heap} {n m : Nat}
theorem ok_goes_to (T : Tx K mg) : DefIs P w K mg base (n + 1) "goes_to" ["ways", "kind"] spGoes := by
 refine DefIs.of T.d_goes_to sc_goes_to (fun vs H Q E h => ?_) (fun f cdv A outer s H vs Q E hr h => ?_)
 ·obtain ⟨_, _, _, rfl, _⟩ := h
  rfl
 obtain ⟨a, ys, x, rfl, ⟨kvs, hd, hw⟩, q⟩ := h
 have nd := sc_goes_to.nd
 have hu := hu_of hr
 refine ⟨_, (pss_cons (ps_if (pt_cmpR op_eq (pv 1) pe_str (nomark _)) (pss_one (ps_ret pe_str)) pss_nil)
   (pss_cons (ps_if (pt_cmp (pc_din hu (pv 1) (pv 0))) (pss_one (ps_ret (pe_ix ix_tup (pe_dget hu (pv 0) (pv 1) (fun _ _ => rfl)) pe_int (fun _ _ => rfl)))) pss_nil)
   (pss_one (ps_ret pe_non)))), ?_⟩
 unfold goesTo at q
 refine ⟨_, rfl, rfl, _, rfl, ite2 (fun c => ?_) (fun c => ?_)⟩
 ·have e : x = S "num" := V.str.inj (of_decide_eq_true c)
  rw [if_pos e] at q
  exact q
 ·have e : ¬ x = S "num" := fun z => c (decide_eq_true (congrArg V.str z))
  rw [if_neg e] at q
  have hv := hw.val (x := x)
  cases hy : wyAt ys x with
  | none =>
   rw [hy] at q
   have h0 := hv.1 hy
   refine ⟨_, rfl, _, rfl, a, _, rfl, DGet.rd (k := Sum.inr x) hd, _, rfl, iteBF (by rw [h0]; rfl) ?_⟩
   exact q
  | some y =>
   rw [hy] at q
   obtain ⟨v, h1, h2⟩ := hv.2 y hy
   refine ⟨_, rfl, _, rfl, a, _, rfl, DGet.rd (k := Sum.inr x) hd, _, rfl, iteBT (by rw [h1]; rfl) ?_⟩
   obtain ⟨b, us, rfl, hb, v0, _, rfl, r0, v1, _, rfl, r1, rfl⟩ := h2
   obtain rfl : v0 = .str y.2.1 := r0
   have g : DGet H a (.str x) (some (.ref b)) := by
    have := DGet.rd (k := Sum.inr x) hd
    rw [h1] at this
    exact this
   exact ⟨_, rfl, _, rfl, a, _, rfl, g, b, _, _, _, rfl, rfl, SqT.of hb, rfl, q⟩
theorem ok_nought_term (T : Tx K mg) (spc : Sp) (D_parts_of : DefIs P w K mg base n "parts_of" ["kinds", "K"] spPartsOf) (D_sort_of : DefIs P w K mg base n "sort_of" ["kinds", "K"] spSortOf) (D_nought_term : DefIs P w K mg base n "nought_term" ["kinds", "kind"] spc) (hspc : ∀ j, m = j + 1 → spc = spNu nuT j) :
  DefIs P w K mg base (n + 1) "nought_term" ["kinds", "kind"] (spNu nuT m) := by
 refine DefIs.of T.d_nought_term sc_nought_term (fun vs H Q E h => ?_) (fun f cdv A outer s H vs Q E hr h => ?_)
 ·obtain ⟨_, _, _, rfl, _⟩ := h
  rfl
 obtain ⟨v, ks, x, rfl, hk, wf, hin, q⟩ := h
 have nd := sc_nought_term.nd
 refine ⟨_, (pss_cons (ps_if (pt_cmpR op_eq (pv 1) pe_str (nomark _)) (pss_one (ps_ret (pe_tup (pa_cons pe_str (pa_cons pe_int pa_nil star_const) star_const)))) pss_nil)
   (pss_cons (ps_set (i := 2) nd rfl (by first | exact Or.inl rfl | exact Or.inr rfl) (pe_dcall D_parts_of hr (pa_cons (pv 0) (pa_cons (pv 1) pa_nil star_name) star_name)))
   (pss_cons (ps_if (pt_cmpR op_eq (pe_dcall D_sort_of hr (pa_cons (pv 0) (pa_cons (pv 1) pa_nil star_name) star_name)) pe_str (nomark _)) (pss_one (ps_ret (pe_tup (pa_cons pe_str (pa_cons (pv 1) (pa_cons (pe_callTy call_tuple_of rfl T.z_tuple PyProof.Rows.boot_tuple (pa_cons (pe_comp ["part", "kinds"] [none, some 0] rfl (by kernel_rfl) (pi_tup (pv 2)) (fun _ _ _ _ => (pg_name (i := 0) (by show List.Nodup (["part", "kinds"] : List Str); decide +kernel) rfl (Or.inl rfl))) (fun _ _ _ _ => pts_nil) (fun _ _ _ _ => (pe_dcall D_nought_term hr (pa_cons (pv 1) (pa_cons (pe_ix (ix_tupC (K := K) rfl) (pv 0) pe_int (fun _ _ => rfl)) pa_nil star_sub) star_name)))) pa_nil star_comp)) pa_nil star_call) star_name) star_const)))) pss_nil)
   (pss_one (ps_ret (pe_tup (pa_cons pe_str (pa_cons (pv 1) (pa_cons (pe_ix ix_tup (pe_ix ix_tup (pv 2) pe_int (fun _ _ => rfl)) pe_int (fun _ _ => rfl)) (pa_cons (pe_dcall D_nought_term hr (pa_cons (pv 0) (pa_cons (pe_ix ix_tup (pe_ix ix_tup (pv 2) pe_int (fun _ _ => rfl)) pe_int (fun _ _ => rfl)) pa_nil star_sub) star_name)) pa_nil star_call) star_sub) star_name) star_const))))))), ?_⟩
 rcases hin.nu wf with ⟨rfl, _, e, _⟩ | ⟨j, k, rfl, hkx, hn, hm, hp, hne, hcase⟩
 ·refine ⟨_, rfl, rfl, _, rfl, iteKT (by decide +kernel) ?_⟩
  refine ⟨(by show 2 ≤ sizeLine; decide), fun t ht => ?_⟩
  rw [e] at q
  exact q _ _ (Same.new ht _) ⟨t, _, rfl, upd_same, _, _, rfl, rfl, _, _, rfl, rfl, rfl⟩
 ·have D' := hspc j rfl
  subst D'
  refine ⟨_, rfl, rfl, _, rfl, iteKF (decide_eq_false fun z => hne (V.str.inj z)) ?_⟩
  refine ⟨_, rfl, _, rfl, v, ks, x, rfl, wf.ksAt hk, fun u H1 s1 r1 => ?_⟩
  rw [hkx] at r1
  obtain ⟨a, us, rfl, ha, hus⟩ := r1
  have hl := hus.length
  rw [List.length_map] at hl
  have h5 := wf.pts k hm
  refine ⟨_, rfl, _, rfl, v, ks, x, rfl, wf.ksAt (hk.same s1 _), ?_⟩
  rw [hkx]
  rcases hcase with ⟨hc, e, _⟩ | ⟨hc, p, r, er, e, _⟩
  ·refine ⟨rfl, _, rfl, iteKT (decide_eq_true (by show V.str k.sort = _; rw [rec_sort hc]; rfl)) ?_⟩
   refine ⟨_, rfl, _, rfl, a, rfl, ⟨_, SqT.of ha⟩, ?_⟩
   refine comp_tup (j := 0) (xs := us) (fun i ys H' => Same H1 H' ∧ RelDs H' ys ((k.parts.take i).map fun p => nuT (j + 1) ks p.2)) (by rfl) ⟨Same.refl _, rfl⟩ (fitsLt (by omega)) (fun i ys H' _ p => SqT.of (p.1 _ _ ha)) ?_ ?_
   ·rintro i y ys H' hy hly ⟨sm, hys⟩
    obtain ⟨d, hd, rd⟩ := hus.get hy
    rw [List.getElem?_map] at hd
    obtain ⟨p, hp', rfl⟩ := Option.map_eq_some_iff.mp hd
    obtain ⟨b, ws, rfl, hb, _, _, rfl, rfl, _, _, rfl, rfl, rfl⟩ := rd
    have hi : i < us.length := (List.getElem?_eq_some_iff.mp hy).1
    refine ⟨_, rfl, _, rfl, b, _, _, _, rfl, rfl, SqT.of (sm _ _ hb), rfl, _, ks, p.2, rfl, hk.same (s1.trans sm) _, wf, hp p (List.mem_of_getElem? hp'), fun u H2 s2 r2 => nxt hi hly ⟨sm.trans s2, ?_⟩⟩
    rw [List.take_add_one, hp', List.map_append]
    exact (hys.same s2 _).append ⟨u, [], rfl, r2, rfl⟩
   ·rintro ys H' hly ⟨sm, hys⟩ D hD
    rw [List.take_of_length_le (by omega)] at hys
    refine ⟨D, ys, rfl, .inl ⟨SqL.of upd_same, fun l' hl' => ⟨(by show 3 ≤ sizeLine; decide), fun t ht => ?_⟩⟩⟩
    have s2 := Same.new hD (.lst ys)
    have s3 := Same.new hl' (.tup ys)
    have s4 := Same.new ht (.tup [.str (S "rec"), .str x, .ref l'])
    rw [e] at q
    exact q _ _ (s1.trans (sm.trans (s2.trans (s3.trans s4)))) ⟨t, _, rfl, upd_same, _, _, rfl, rfl, _, _, rfl, rfl, _, _, rfl, ⟨l', ys, rfl, s4 _ _ upd_same, hys.same (s2.trans (s3.trans s4)) _⟩, rfl⟩
  ·refine ⟨rfl, _, rfl, iteKF (decide_eq_false (by show ¬ V.str k.sort = _; rw [alt_sort hc]; decide +kernel)) ?_⟩
   rw [er] at hus
   obtain ⟨vp, rest, rfl, rp, _⟩ := hus
   obtain ⟨b, ws, rfl, hb, _, _, rfl, rfl, _, _, rfl, rfl, rfl⟩ := rp
   have hSa : SqT K H1 a (.ref b :: rest) := SqT.of ha
   have at0 : atI (V.ref b :: rest) 0 = some (.ref b) := atI_nat (j := 0) rfl
   refine ⟨_, rfl, _, rfl, a, _, _, _, rfl, rfl, hSa, at0, b, _, _, _, rfl, rfl, SqT.of hb, rfl, ?_⟩
   refine ⟨_, rfl, _, rfl, a, _, _, _, rfl, rfl, hSa, at0, b, _, _, _, rfl, rfl, SqT.of hb, rfl, ?_⟩
   refine ⟨_, ks, p.2, rfl, hk.same s1 _, wf, hp p (by rw [er]; simp), fun u H2 s2 r2 => ⟨(by show 4 ≤ sizeLine; decide), fun t ht => ?_⟩⟩
   have s3 := Same.new ht (.tup [.str (S "tag"), .str x, .str p.1, u])
   rw [e] at q
   exact q _ _ (s1.trans (s2.trans s3)) ⟨t, _, rfl, upd_same, _, _, rfl, rfl, _, _, rfl, rfl, _, _, rfl, rfl, _, _, rfl, r2.same s3 _, rfl⟩
theorem nought_is (T : Tx K mg) : ∀ m, DefIs P w K mg base (m + 2) "nought_term" ["kinds", "kind"] (spNu nuT m)
 | 0 => ok_nought_term (n := 1) T (fun _ _ _ _ => False) (ok_parts_of T) (ok_sort_of T) (DefIs.none T.d_nought_term fun _ _ _ _ h => h) (fun j e => by cases e)
 | m + 1 => ok_nought_term (n := m + 2) T (spNu nuT m) (ok_parts_of T) (ok_sort_of T) (nought_is T m) (fun j e => by cases e; rfl)
theorem ok_terms_by_rules (T : Tx K mg) (D_goes_to : DefIs P w K mg base n "goes_to" ["ways", "kind"] spGoes) (D_nought_term : DefIs P w K mg base n "nought_term" ["kinds", "kind"] (spNu nuT 6)) : DefIs P w K mg base (n + 1) "terms_by_rules" ["kinds", "ways", "olds", "news"] spTermsBy := by
 refine DefIs.of T.d_terms_by_rules sc_terms_by_rules (fun vs H Q E h => ?_) (fun f cdv A outer s H vs Q E hr h => ?_)
 ·obtain ⟨_, _, _, _, _, _, _, _, rfl, _⟩ := h
  rfl
 obtain ⟨kv, wa, ov, nv, ks2, ys, os, ps, rfl, hkv, wf2, hw, ho, hv, hnd, hl, hl2, hin, q⟩ := h
 have nd := sc_terms_by_rules.nd
 have hu := hu_of hr
 obtain ⟨oa, ous, rfl, hoa, hou⟩ := ho
 obtain ⟨na, nus, rfl, hna, hnu⟩ := hv
 have hnl := hnu.length
 rw [List.length_map] at hnl
 refine ⟨_, (pss_cons (ps_set (i := 4) nd rfl (by first | exact Or.inl rfl | exact Or.inr rfl) (pe_callTy (call_dictT rfl) rfl T.z_dict PyProof.Rows.boot_dict (pa_cons (pv 2) pa_nil star_name)))
   (pss_cons (ps_set (i := 5) nd rfl (by first | exact Or.inl rfl | exact Or.inr rfl) (pe_lst pa_nil))
   (pss_cons (ps_for PassesOwn.never rfl (pi_tup (pv 3)) (pg_tup rfl (pgs_cons (pg_name (i := 6) nd rfl (by first | exact Or.inl rfl | exact Or.inr rfl)) (pgs_cons (pg_name (i := 7) nd rfl (by first | exact Or.inl rfl | exact Or.inr rfl)) pgs_nil)))
   (pss_one (ps_if (pt_cmp (pc_dnotin hu (pv 6) (pv 4))) (pss_one (ps_expr (pe_bm PySem.F.plainAttrs_list PySem.F.slot_list_append PySem.F.type_list_append mt_append (pv 5) (pa_cons (pe_dcall D_nought_term hr (pa_cons (pv 0) (pa_cons (pv 7) pa_nil star_name) star_name)) pa_nil star_call)))) (pss_one (ps_if (pt_cmpR op_eq (pe_dcall D_goes_to hr (pa_cons (pv 1) (pa_cons (pe_dget hu (pv 4) (pv 6) (fun _ _ => rfl)) pa_nil star_sub) star_name)) (pv 7) (nomark _)) (pss_one (ps_expr (pe_bm PySem.F.plainAttrs_list PySem.F.slot_list_append PySem.F.type_list_append mt_append (pv 5) (pa_cons (pe_tup (pa_cons pe_str (pa_cons (pv 6) pa_nil star_name) star_const)) pa_nil star_tup)))) (pss_one (ps_ret pe_non)))))))
   (pss_one (ps_ret (pe_callTy call_tuple_of rfl T.z_tuple PyProof.Rows.boot_tuple (pa_cons (pv 5) pa_nil star_name))))))), ?_⟩
 refine ⟨_, rfl, oa, ous, bKV os, rfl, hoa, pairs_bs hou, fun dp hdp => ?_⟩
 have y1 := Same.new hdp (.dK (mergeK [] (bKV os)))
 refine ⟨(by show 0 ≤ sizeLine; decide), fun l hl' => ?_⟩
 have y2 := Same.new hl' (.lst [])
 have ne1 : dp ≠ l := ne_of_none upd_same hl'
 have nl : H l = none := none_back (y1) hl'
 refine ⟨_, rfl, na, rfl, ⟨_, SqT.of (y2 _ _ (y1 _ _ hna))⟩, ?_⟩
 refine for_tup (xs := nus) (fun i σ H' => ∃ o6 o7 us, σ = [some kv, some (.ref wa), some (.ref oa), some (.ref na), some (.ref dp), some (.ref l), o6, o7] ∧ Same H H' ∧ H' dp = some (.dK (mergeK [] (bKV os))) ∧ H' l = some (.lst us) ∧ RelDs H' us ((ps.take i).map (tmQ ks2 os)) ∧ (ps.take i).all (okQ ys os) = true) ⟨none, none, [], rfl, y1.trans y2, y2 _ _ upd_same, upd_same, rfl, rfl⟩ (fun i σ H' _ p => ?_) ?_ ?_
 ·obtain ⟨_, _, _, _, sm, _⟩ := p
  exact SqT.of (sm _ _ hna)
 ·rintro i v σ H' hv ⟨o6, o7, us, rfl, sm, hd, hll, hus, hall⟩
  obtain ⟨d, hd', rd⟩ := (hnu.same sm _).get hv
  rw [List.getElem?_map] at hd'
  obtain ⟨pr, hpr, rfl⟩ := Option.map_eq_some_iff.mp hd'
  obtain ⟨b, ws, rfl, hb, _, _, rfl, rfl, _, _, rfl, rfl, rfl⟩ := rd
  have hpm := List.mem_of_getElem? hpr
  have hval := val_own hnd pr.1
  have hlen := hus.length
  rw [List.length_map, List.length_take] at hlen
  have g : DGet H' dp (.str pr.1) ((ownOf os pr.1).map V.str) := by
   have := DGet.k (H := H') (a := dp) (k := Sum.inr pr.1) hd
   rw [hval] at this
   exact this
  have fin : ∀ (z : Addr) (dz : D) (H3 : Hp), Same H' H3 → RelD H3 (.ref z) dz → okQ ys os pr = true → tmQ ks2 os pr = dz → ∃ o6 o7 us', [some kv, some (.ref wa), some (.ref oa), some (.ref na), some (.ref dp), some (.ref l), some (.str pr.1), some (.str pr.2)] = [some kv, some (.ref wa), some (.ref oa), some (.ref na), some (.ref dp), some (.ref l), o6, o7] ∧ Same H (upd H3 l (.lst (us ++ [.ref z]))) ∧ upd H3 l (.lst (us ++ [.ref z])) dp = some (.dK (mergeK [] (bKV os))) ∧ upd H3 l (.lst (us ++ [.ref z])) l = some (.lst us') ∧ RelDs (upd H3 l (.lst (us ++ [.ref z]))) us' ((ps.take (i + 1)).map (tmQ ks2 os)) ∧ (ps.take (i + 1)).all (okQ ys os) = true := by
   intro z dz H3 s3 rz hok htm
   have tp := lst_tups (s3 _ _ hll) (.lst (us ++ [.ref z]))
   refine ⟨_, _, us ++ [.ref z], rfl, same_upd (sm.trans s3) nl _, by rw [upd_ne ne1]; exact s3 _ _ hd, upd_same, ?_, ?_⟩
   ·rw [List.take_add_one, hpr]
    show RelDs _ _ ((ps.take i ++ [pr]).map _)
    rw [List.map_append]
    have hb1 : RelDs H3 [.ref z] [tmQ ks2 os pr] := ⟨_, [], rfl, by rw [htm]; exact rz, rfl⟩
    exact ((hus.same s3 _).append hb1).tups tp _
   ·rw [List.take_add_one, hpr]
    show (ps.take i ++ [pr]).all _ = true
    rw [List.all_append, hall, List.all_cons, hok]
    rfl
  refine ⟨b, _, rfl, SqT.of hb, rfl, _, _, rfl, _, _, rfl, rfl, ?_⟩
  cases hown : ownOf os pr.1 with
  | none =>
   rw [hown] at g
   refine ⟨_, rfl, _, rfl, dp, _, rfl, g, _, rfl, iteT ?_⟩
   refine ⟨_, rfl, .inl ⟨rfl, _, SqL.of hll⟩, _, rfl, _, rfl, kv, ks2, pr.2, rfl, hkv.same sm _, wf2, hin pr hpm, fun u H3 s3 ru => ?_⟩
   obtain ⟨z, rfl⟩ : ∃ z, u = .ref z := nu_ref wf2 (hin pr hpm) ru
   refine ⟨l, us, _, rfl, rfl, s3 _ _ hll, fitsLt (by omega), ?_⟩
   exact fin z _ H3 s3 ru (by unfold okQ; rw [hown]) (by unfold tmQ; rw [hown])
  | some k =>
   rw [hown] at g
   refine ⟨_, rfl, _, rfl, dp, _, rfl, g, _, rfl, iteF ?_⟩
   refine ⟨_, rfl, _, rfl, _, rfl, dp, _, rfl, g, wa, ys, k, rfl, hw.same sm, ?_⟩
   refine ⟨_, rfl, scal_opt _ _, _, rfl, ?_⟩
   by_cases hg : goesTo ys k = some pr.2
   ·refine iteKT (decide_eq_true (optV_eq.mpr hg)) ?_
    refine ⟨_, rfl, .inl ⟨rfl, _, SqL.of hll⟩, _, rfl, (by show 2 ≤ sizeLine; decide), fun t ht => ⟨l, us, _, rfl, rfl, (Same.new ht _) _ _ hll, fitsLt (by omega), ?_⟩⟩
    exact fin t (tBox pr.1) _ (Same.new ht _) ⟨t, _, rfl, upd_same, _, _, rfl, rfl, _, _, rfl, rfl, rfl⟩ (by unfold okQ; rw [hown]; exact decide_eq_true hg) (by unfold tmQ; rw [hown])
   ·refine iteKF (decide_eq_false fun z => hg (optV_eq.mp z)) ?_
    refine q _ _ sm ?_
    unfold termsBy
    rw [if_neg]
    ·rfl
    ·intro z
     have := List.all_eq_true.mp z pr hpm
     unfold okQ at this
     rw [hown] at this
     exact hg (of_decide_eq_true this)
 ·rintro σ H' ⟨o6, o7, us, rfl, sm, hd, hll, hus, hall⟩
  rw [List.take_of_length_le (by omega)] at hus hall
  refine ⟨_, rfl, l, us, rfl, .inl ⟨SqL.of hll, fun t ht => ?_⟩⟩
  have y3 := Same.new ht (.tup us)
  refine q _ _ (sm.trans y3) ?_
  unfold termsBy
  rw [if_pos hall]
  exact ⟨t, us, rfl, upd_same, hus.same y3 _⟩
theorem ok_tags_by_rules (T : Tx K mg) (D_goes_to : DefIs P w K mg base n "goes_to" ["ways", "kind"] spGoes) (D_parts_of : DefIs P w K mg base n "parts_of" ["kinds", "K"] spPartsOf) : DefIs P w K mg base (n + 1) "tags_by_rules" ["kinds", "ways", "kind"] spTagsBy := by
 refine DefIs.of T.d_tags_by_rules sc_tags_by_rules (fun vs H Q E h => ?_) (fun f cdv A outer s H vs Q E hr h => ?_)
 ·obtain ⟨_, _, _, _, _, _, _, rfl, _⟩ := h
  rfl
 obtain ⟨kv, wa, dv, ks2, ys, k, k2, rfl, hk, hw, hdv, hkx, hnd, hl2, hl, q⟩ := h
 have nd := sc_tags_by_rules.nd
 have hu := hu_of hr
 obtain ⟨da, _, rfl, hda, _, _, rfl, rfl, _, _, rfl, rfl, pv', _, rfl, ⟨pa, pus, rfl, hpa, hpu⟩, rfl⟩ := hdv
 have hpl := hpu.length
 rw [List.length_map] at hpl
 refine ⟨_, (pss_cons (ps_set (i := 3) nd rfl (by first | exact Or.inl rfl | exact Or.inr rfl) (pe_ix ix_tup (pv 2) pe_int (fun _ _ => rfl)))
   (pss_cons (ps_set (i := 4) nd rfl (by first | exact Or.inl rfl | exact Or.inr rfl) (pe_callTy (call_dictT rfl) rfl T.z_dict PyProof.Rows.boot_dict (pa_cons (pe_dcall D_parts_of hr (pa_cons (pv 0) (pa_cons (pv 3) pa_nil star_name) star_name)) pa_nil star_call)))
   (pss_cons (ps_for PassesOwn.never rfl (pi_tup (pe_ix ix_tup (pv 2) pe_int (fun _ _ => rfl))) (pg_tup rfl (pgs_cons (pg_name (i := 5) nd rfl (by first | exact Or.inl rfl | exact Or.inr rfl)) (pgs_cons (pg_name (i := 6) nd rfl (by first | exact Or.inl rfl | exact Or.inr rfl)) pgs_nil)))
   (pss_one (ps_if (PW.pt (pw_or (pt_cmp (pc_dnotin hu (pv 5) (pv 4))) (pw_or1 (pt_cmpR op_ne (pe_dget hu (pv 4) (pv 5) (fun _ _ => rfl)) (pe_dcall D_goes_to hr (pa_cons (pv 1) (pa_cons (pv 6) pa_nil star_name) star_name)) (nomark _))))) (pss_one (ps_ret pe_non)) pss_nil)))
   (pss_one (ps_ret (pe_callTy call_tuple_of rfl T.z_tuple PyProof.Rows.boot_tuple (pa_cons (pe_comp ["tag", "inner", "K"] [none, none, some 3] rfl (by kernel_rfl) (pi_tup (pe_ix ix_tup (pv 2) pe_int (fun _ _ => rfl))) (fun _ _ _ _ => (pg_tupC (K := K) (n := 2) rfl rfl (pgs_cons (pg_name (i := 0) (by show List.Nodup (["tag", "inner", "K"] : List Str); decide +kernel) rfl (Or.inl rfl)) (pgs_cons (pg_name (i := 1) (by show List.Nodup (["tag", "inner", "K"] : List Str); decide +kernel) rfl (Or.inl rfl)) pgs_nil)))) (fun _ _ _ _ => pts_nil) (fun _ _ _ _ => (pe_tup (pa_cons (pv 0) (pa_cons (pe_tup (pa_cons pe_str (pa_cons (pv 2) (pa_cons (pv 0) (pa_cons (pe_tup (pa_cons pe_str (pa_cons pe_str pa_nil star_const) star_const)) pa_nil star_tup) star_name) star_name) star_const)) pa_nil star_tup) star_name)))) pa_nil star_comp))))))), ?_⟩
 refine ⟨_, rfl, da, _, _, _, rfl, rfl, SqT.of hda, rfl, ?_⟩
 refine ⟨_, rfl, _, rfl, kv, ks2, k.name, rfl, hk, fun u H1 s1 ru => ?_⟩
 rw [hkx] at ru
 obtain ⟨ta, tus, rfl, hta, htu⟩ := ru
 refine ⟨ta, tus, bKV k2.parts, rfl, hta, pairs_bs htu, fun dp hdp => ?_⟩
 have y1 := Same.new hdp (.dK (mergeK [] (bKV k2.parts)))
 have s2 := s1.trans y1
 have hda2 := s2 _ _ hda
 have hpa2 := s2 _ _ hpa
 have hd2 : upd H1 dp (.dK (mergeK [] (bKV k2.parts))) dp = some (.dK (mergeK [] (bKV k2.parts))) := upd_same
 have hpu2 := hpu.same s2 _
 have hw2 := hw.same s2
 generalize upd H1 dp (.dK (mergeK [] (bKV k2.parts))) = H2 at s2 hda2 hpa2 hd2 hpu2 hw2 ⊢
 refine ⟨_, rfl, da, _, _, _, rfl, rfl, SqT.of hda2, rfl, pa, rfl, ⟨_, SqT.of hpa2⟩, ?_⟩
 refine for_tup (xs := pus) (fun i σ H' => ∃ o5 o6, σ = [some kv, some (.ref wa), some (.ref da), some (.str k.name), some (.ref dp), o5, o6] ∧ H' = H2 ∧ (k.parts.take i).all (okT ys k2.parts) = true) ⟨none, none, rfl, rfl, rfl⟩ (fun i σ H' _ p => by obtain ⟨_, _, _, rfl, _⟩ := p; exact SqT.of hpa2) ?_ ?_
 ·rintro i v σ H' hv ⟨o5, o6, rfl, rfl, hall⟩
  obtain ⟨d, hd', rd⟩ := hpu2.get hv
  rw [List.getElem?_map] at hd'
  obtain ⟨pr, hpr, rfl⟩ := Option.map_eq_some_iff.mp hd'
  obtain ⟨b, ws, rfl, hb, _, _, rfl, rfl, _, _, rfl, rfl, rfl⟩ := rd
  have hpm := List.mem_of_getElem? hpr
  have hval := val_own hnd pr.1
  have g : DGet H' dp (.str pr.1) ((ownOf k2.parts pr.1).map V.str) := by
   have := DGet.k (H := H') (a := dp) (k := Sum.inr pr.1) hd2
   rw [hval] at this
   exact this
  have bad : okT ys k2.parts pr = false → Q .non H' := fun hb0 => by
   refine q _ _ s2 ?_
   unfold tagsBy
   rw [if_neg]
   ·rfl
   ·intro z
    have := List.all_eq_true.mp z pr hpm
    rw [hb0] at this
    cases this
  refine ⟨b, _, rfl, SqT.of hb, rfl, _, _, rfl, _, _, rfl, rfl, ?_⟩
  cases hown : ownOf k2.parts pr.1 with
  | none =>
   rw [hown] at g
   refine ⟨_, rfl, _, rfl, dp, _, rfl, g, _, rfl, iteT ?_⟩
   exact iteT (bad (by unfold okT; rw [hown]))
  | some gk =>
   rw [hown] at g
   refine ⟨_, rfl, _, rfl, dp, _, rfl, g, _, rfl, iteF ?_⟩
   refine ⟨_, rfl, _, rfl, dp, _, rfl, g, _, rfl, _, rfl, wa, ys, pr.2, rfl, hw2, ?_⟩
   refine ⟨scal_opt' _ _, _, rfl, ?_⟩
   by_cases hg : goesTo ys pr.2 = some gk
   ·refine iteNF (by rw [hg]; rfl) ⟨_, _, rfl, rfl, ?_⟩
    rw [List.take_add_one, hpr]
    show (k.parts.take i ++ [pr]).all _ = true
    rw [List.all_append, hall, List.all_cons]
    have : okT ys k2.parts pr = true := by unfold okT; rw [hown]; exact decide_eq_true hg
    rw [this]
    rfl
   ·refine iteNT (fun z => hg (optV_eq.mp z.symm)) (bad ?_)
    unfold okT
    rw [hown]
    exact decide_eq_false hg
 ·rintro σ H' ⟨o5, o6, rfl, rfl, hall⟩
  rw [List.take_of_length_le (by omega)] at hall
  refine ⟨_, rfl, da, _, _, _, rfl, rfl, SqT.of hda2, rfl, pa, rfl, ⟨_, SqT.of hpa2⟩, ?_⟩
  refine comp_tupG (xs := pus) (fun i zs H3 => Same H' H3 ∧ zs.length = i ∧ RelDs H3 zs ((k.parts.take i).map fun p => .tup [.str p.1, tTag k.name p.1 (tBox (S "it"))])) ⟨Same.refl _, rfl, rfl⟩ (fitsLt (by omega)) (fun i zs H3 _ p => SqT.of (p.1 _ _ hpa2)) ?_ ?_
  ·rintro i y zs H3 hy hi hly ⟨sm, hzl, hzs⟩
   obtain ⟨d, hd', rd⟩ := (hpu2.same sm _).get hy
   rw [List.getElem?_map] at hd'
   obtain ⟨pr, hpr, rfl⟩ := Option.map_eq_some_iff.mp hd'
   obtain ⟨b, ws, rfl, hb, _, _, rfl, rfl, _, _, rfl, rfl, rfl⟩ := rd
   refine ⟨b, _, rfl, SqT.of hb, rfl, _, _, rfl, _, _, rfl, rfl, ext2 rfl rfl, yes_go ?_⟩
   refine ⟨_, rfl, _, rfl, _, rfl, (by show 2 ≤ sizeLine; decide), fun t1 ht1 => ⟨(by show 4 ≤ sizeLine; decide), fun t2 ht2 => ⟨(by show 2 ≤ sizeLine; decide), fun t3 ht3 => ?_⟩⟩⟩
   have y1 := Same.new ht1 (.tup [.str (S "box"), .str (S "it")])
   have y2 := Same.new ht2 (.tup [.str (S "tag"), .str k.name, .str pr.1, .ref t1])
   have y3 := Same.new ht3 (.tup [.str pr.1, .ref t2])
   have y23 := y2.trans y3
   have y := y1.trans y23
   refine nxtG hi hly ⟨sm.trans y, by rw [List.length_append, List.length_singleton, hzl], ?_⟩
   rw [List.take_add_one, hpr]
   show RelDs _ _ ((k.parts.take i ++ [pr]).map _)
   rw [List.map_append]
   exact (hzs.same y _).append ⟨_, [], rfl, ⟨t3, _, rfl, upd_same, _, _, rfl, rfl, _, _, rfl, ⟨t2, _, rfl, y3 _ _ upd_same, _, _, rfl, rfl, _, _, rfl, rfl, _, _, rfl, rfl, _, _, rfl, ⟨t1, _, rfl, y23 _ _ upd_same, _, _, rfl, rfl, _, _, rfl, rfl, rfl⟩, rfl⟩, rfl⟩, rfl⟩
  ·rintro zs H3 hly ⟨sm, hzl, hzs⟩ D hD
   rw [List.take_of_length_le (by omega)] at hzs
   have y1 := Same.new hD (.lst zs)
   refine ⟨D, zs, rfl, .inl ⟨SqL.of upd_same, fun t ht => ?_⟩⟩
   have y2 := Same.new ht (.tup zs)
   have y := y1.trans y2
   refine q _ _ (s2.trans (sm.trans y)) ?_
   unfold tagsBy
   rw [if_pos hall]
   exact ⟨t, zs, rfl, upd_same, hzs.same y _⟩
theorem ok_how_by_rules (T : Tx K mg) (D_sort_of : DefIs P w K mg base n "sort_of" ["kinds", "K"] spSortOf) (D_parts_of : DefIs P w K mg base n "parts_of" ["kinds", "K"] spPartsOf) (D_tags_by_rules : DefIs P w K mg base n "tags_by_rules" ["kinds", "ways", "kind"] spTagsBy) (D_terms_by_rules : DefIs P w K mg base n "terms_by_rules" ["kinds", "ways", "olds", "news"] spTermsBy) : DefIs P w K mg base (n + 1) "how_by_rules" ["kinds", "ways", "kind"] spHow := by
 refine DefIs.of T.d_how_by_rules sc_how_by_rules (fun vs H Q E h => ?_) (fun f cdv A outer s H vs Q E hr h => ?_)
 ·obtain ⟨_, _, _, _, _, _, rfl, _⟩ := h
  rfl
 obtain ⟨kv, wa, dv, ks2, ys, k, rfl, hkv, wf2, hw, hdv, hnd, hl, q⟩ := h
 have nd := sc_how_by_rules.nd
 have hk := wf2.ksAt hkv
 have hdv' := hdv
 obtain ⟨da, _, rfl, hda, _, _, rfl, rfl, _, _, rfl, rfl, pv', _, rfl, hpv, rfl⟩ := hdv'
 refine ⟨_, (pss_cons (ps_set (i := 3) nd rfl (by first | exact Or.inl rfl | exact Or.inr rfl) (pe_ix ix_tup (pv 2) pe_int (fun _ _ => rfl)))
   (pss_cons (ps_if (pt_cmpR op_ne (pe_dcall D_sort_of hr (pa_cons (pv 0) (pa_cons (pv 3) pa_nil star_name) star_name)) (pe_ix ix_tup (pv 2) pe_int (fun _ _ => rfl)) (nomark _)) (pss_one (ps_ret pe_non)) pss_nil)
   (pss_cons (ps_if (pt_cmpR op_eq (pe_ix ix_tup (pv 2) pe_int (fun _ _ => rfl)) pe_str (nomark _)) (pss_one (ps_ret (pe_dcall D_tags_by_rules hr (pa_cons (pv 0) (pa_cons (pv 1) (pa_cons (pv 2) pa_nil star_name) star_name) star_name)))) pss_nil)
   (pss_cons (ps_set (i := 4) nd rfl (by first | exact Or.inl rfl | exact Or.inr rfl) (pe_dcall D_terms_by_rules hr (pa_cons (pv 0) (pa_cons (pv 1) (pa_cons (pe_ix ix_tup (pv 2) pe_int (fun _ _ => rfl)) (pa_cons (pe_dcall D_parts_of hr (pa_cons (pv 0) (pa_cons (pv 3) pa_nil star_name) star_name)) pa_nil star_call) star_sub) star_name) star_name)))
   (pss_cons (ps_if (pt_cmpR op_isN (pv 4) pe_non (nomark _)) (pss_one (ps_ret pe_non)) pss_nil)
   (pss_one (ps_ret (pe_tup (pa_cons pe_str (pa_cons (pv 3) (pa_cons (pv 4) pa_nil star_name) star_name) star_const))))))))), ?_⟩
 refine ⟨_, rfl, da, _, _, _, rfl, rfl, SqT.of hda, rfl, ?_⟩
 refine ⟨_, rfl, _, rfl, kv, ks2, k.name, rfl, hk, ?_⟩
 unfold howBy at q
 cases hkx : kAt ks2 k.name with
 | none =>
  rw [hkx] at q
  exact ⟨_, rfl, da, _, _, _, rfl, rfl, SqT.of hda, rfl, rfl, _, rfl, iteNT (fun z => by cases z) (q _ _ (Same.refl _) rfl)⟩
 | some k2 =>
  rw [hkx] at q
  have hm2 := List.mem_of_find?_eq_some hkx
  have h52 := wf2.pts k2 hm2
  by_cases hrc : k2.rc = k.rc
  ·have hss : k2.sort = k.sort := by unfold Kn.sort; rw [hrc]
   refine ⟨_, rfl, da, _, _, _, rfl, rfl, SqT.of hda, rfl, rfl, _, rfl, iteNF (by show V.str k2.sort = V.str k.sort; rw [hss]) ?_⟩
   change ∀ u H', Same H H' → optD H' u (if k2.rc = k.rc then _ else _) → Q u H' at q
   rw [if_pos hrc] at q
   cases hc : k.rc with
   | false =>
    rw [if_neg (by rw [hc]; decide)] at q
    refine ⟨_, rfl, da, _, _, _, rfl, rfl, SqT.of hda, rfl, rfl, _, rfl, iteKT (decide_eq_true (by rw [alt_sort hc]; rfl)) ?_⟩
    exact ⟨_, rfl, _, rfl, _, rfl, kv, wa, _, ks2, ys, k, k2, rfl, hk, hw, hdv, hkx, wf2.pnd k2 hm2, by omega, hl, q⟩
   | true =>
    rw [if_pos hc] at q
    refine ⟨_, rfl, da, _, _, _, rfl, rfl, SqT.of hda, rfl, rfl, _, rfl, iteKF (decide_eq_false (by rw [rec_sort hc]; decide +kernel)) ?_⟩
    refine ⟨_, rfl, _, rfl, _, rfl, da, _, _, _, rfl, rfl, SqT.of hda, rfl, _, rfl, _, rfl, kv, ks2, k.name, rfl, hk, fun u H1 s1 ru => ?_⟩
    rw [hkx] at ru
    refine ⟨kv, wa, _, u, ks2, ys, k.parts, k2.parts, rfl, hkv.same s1 _, wf2, hw.same s1, hpv.same s1 _, ru, hnd, hl, by omega, fun p hp => kin_pt wf2 hm2 hp, fun u2 H2 s2 ru2 => ?_⟩
    unfold termsBy at ru2
    by_cases ha : k2.parts.all (okQ ys k.parts) = true
    ·rw [if_pos ha] at q ru2
     obtain ⟨b, us, rfl, hb, hus⟩ := id ru2
     refine ⟨_, rfl, rfl, _, rfl, iteF ?_⟩
     refine ⟨_, rfl, _, rfl, (by show 3 ≤ sizeLine; decide), fun t ht => ?_⟩
     have y := Same.new ht (.tup [.str (S "rec"), .str k.name, .ref b])
     exact q _ _ (s1.trans (s2.trans y)) ⟨t, _, rfl, upd_same, _, _, rfl, rfl, _, _, rfl, rfl, _, _, rfl, (show RelD H2 _ (D.tup (k2.parts.map (tmQ ks2 k.parts))) from ru2).same y _, rfl⟩
    ·rw [if_neg ha] at q ru2
     obtain rfl : u2 = .non := ru2
     exact ⟨_, rfl, rfl, _, rfl, iteT (q _ _ (s1.trans s2) rfl)⟩
  ·have hss : ¬ k2.sort = k.sort := fun z => hrc (by
    unfold Kn.sort at z
    cases h1 : k2.rc <;> cases h2 : k.rc
    ·rfl
    ·rw [h1, h2] at z; exact absurd z (by decide +kernel)
    ·rw [h1, h2] at z; exact absurd z (by decide +kernel)
    ·rfl)
   change ∀ u H', Same H H' → optD H' u (if k2.rc = k.rc then _ else _) → Q u H' at q
   rw [if_neg hrc] at q
   exact ⟨_, rfl, da, _, _, _, rfl, rfl, SqT.of hda, rfl, rfl, _, rfl, iteNT (fun z => hss (V.str.inj z)) (q _ _ (Same.refl _) rfl)⟩
theorem ok_made_ways (T : Tx K mg) (D_how_by_rules : DefIs P w K mg base n "how_by_rules" ["kinds", "ways", "kind"] spHow) : DefIs P w K mg base (n + 1) "made_ways" ["first", "second", "told"] spMade := by
 refine DefIs.of T.d_made_ways sc_made_ways (fun vs H Q E h => ?_) (fun f cdv A outer s H vs Q E hr h => ?_)
 ·obtain ⟨_, _, _, _, _, _, _, _, _, _, _, rfl, _⟩ := h
  rfl
 obtain ⟨fa, sa, ta, kv1, kv2, r1, r2, ks, ks2, tkv, told, rfl, hfa, hsa, hta, htw, htl, hk1, wf, hk2, wf2, q⟩ := h
 have nd := sc_made_ways.nd
 have hu := hu_of hr
 have hk1' := hk1
 obtain ⟨ka, kus, rfl, hka, hku⟩ := hk1'
 have hkl := hku.length
 rw [List.length_map] at hkl
 have hfew := wf.few
 refine ⟨_, (pss_cons (ps_set (i := 3) nd rfl (by first | exact Or.inl rfl | exact Or.inr rfl) (pe_callTy call_dict1 rfl T.z_dict PyProof.Rows.boot_dict (pa_cons (pv 2) pa_nil star_name)))
   (pss_cons (ps_set (i := 4) nd rfl (by first | exact Or.inl rfl | exact Or.inr rfl) (pe_lst pa_nil))
   (pss_cons (ps_for PassesOwn.never rfl (pi_tup (pe_ix ix_tup (pv 0) pe_int (fun _ _ => rfl))) (pg_name (i := 5) nd rfl (by first | exact Or.inl rfl | exact Or.inr rfl))
   (pss_cons (ps_set (i := 6) nd rfl (by first | exact Or.inl rfl | exact Or.inr rfl) (pe_ix ix_tup (pv 5) pe_int (fun _ _ => rfl)))
   (pss_one (ps_if (pt_cmp (pc_dnotin hu (pv 6) (pv 3))) (pss_cons (ps_set (i := 7) nd rfl (by first | exact Or.inl rfl | exact Or.inr rfl) (pe_dcall D_how_by_rules hr (pa_cons (pe_ix ix_tup (pv 1) pe_int (fun _ _ => rfl)) (pa_cons (pv 3) (pa_cons (pv 5) pa_nil star_name) star_name) star_sub)))
   (pss_one (ps_if (pt_cmpR op_isN (pv 7) pe_non (nomark _)) (pss_one (ps_expr (pe_bm PySem.F.plainAttrs_list PySem.F.slot_list_append PySem.F.type_list_append mt_append (pv 4) (pa_cons (pv 6) pa_nil star_name)))) (pss_one (ps_dput hu (pv 3) (pv 6) (pe_tup (pa_cons (pv 6) (pa_cons (pv 7) pa_nil star_name) star_name)) rfl))))) pss_nil))))
   (pss_one (ps_ret (pe_tup (pa_cons (pv 3) (pa_cons (pv 4) pa_nil star_name) star_name))))))), ?_⟩
 refine ⟨_, rfl, ta, tkv, rfl, hta, fun wa hwa => ?_⟩
 have y1 := Same.new hwa (.dK tkv)
 refine ⟨(by show 0 ≤ sizeLine; decide), fun la hla => ?_⟩
 have y2 := Same.new hla (.lst [])
 have wl : wa ≠ la := ne_of_none upd_same hla
 have nla : H la = none := none_back y1 hla
 have y12 := y1.trans y2
 refine ⟨_, rfl, fa, _, _, _, rfl, rfl, SqT.of (y12 _ _ hfa), atI_nat (j := 0) rfl, ka, rfl, ⟨_, SqT.of (y12 _ _ hka)⟩, ?_⟩
 refine for_tup (xs := kus) (fun i σ H' => ∃ o5 o6 o7 kvs, ∃ ls : List Str, σ = [some (.ref fa), some (.ref sa), some (.ref ta), some (.ref wa), some (.ref la), o5, o6, o7] ∧ Same H H' ∧ H' wa = some (.dK kvs) ∧ WAll H' kvs (wMade ks2 (ks.take i) told) ∧ H' la = some (.lst (ls.map V.str)) ∧ ls.length ≤ i ∧ ls = wLack ks2 (ks.take i) told)
  ⟨none, none, none, tkv, [], rfl, y12, y2 _ _ upd_same, htw.tups fun b us e => y12 _ _ e, upd_same, Nat.le_refl _, rfl⟩ (fun i σ H' _ p => ?_) ?_ ?_
 ·obtain ⟨_, _, _, _, _, _, sm, _⟩ := p
  exact SqT.of (sm _ _ hka)
 ·rintro i v σ H' hv ⟨o5, o6, o7, kvs, ls, rfl, sm, hw, hwl, hll, hlsl, hlk⟩
  obtain ⟨d, hd', rd⟩ := (hku.same sm _).get hv
  rw [List.getElem?_map] at hd'
  obtain ⟨k, hk, rfl⟩ := Option.map_eq_some_iff.mp hd'
  have hkm := List.mem_of_getElem? hk
  have rd' := rd
  obtain ⟨da, _, rfl, hda, _, _, rfl, rfl, _, _, rfl, rfl, pv', _, rfl, hpv, rfl⟩ := rd'
  have hil : i < ks.length := (List.getElem?_eq_some_iff.mp hk).1
  have hlen := hwl.len
  have hwn : kvs.length ≤ 200 := by
   have h1 := made_len (ks2 := ks2) (ks := ks.take i) (ys := told)
   rw [List.length_take] at h1
   omega
  rw [take_snoc hk, wMade_snoc, lack_snoc]
  unfold lk1
  refine ⟨_, rfl, da, _, _, _, rfl, rfl, SqT.of hda, rfl, ?_⟩
  have hv' := hwl.val (x := k.name)
  unfold wStep
  cases hny : wyAt (wMade ks2 (ks.take i) told) k.name with
  | some y =>
   obtain ⟨v, h1, h2⟩ := hv'.2 y hny
   have g0 : DGet H' wa (.str k.name) (some v) := by
    have := DGet.k (H := H') (a := wa) (k := Sum.inr k.name) hw
    rw [h1] at this
    exact this
   exact ⟨_, rfl, _, rfl, wa, _, rfl, g0, _, rfl, iteF ⟨_, _, _, kvs, ls, rfl, sm, hw, hwl, hll, by omega, by rw [hlk]; exact (List.append_nil _).symm⟩⟩
  | none =>
   have hnv : valV kvs (Sum.inr k.name : Key) = none := hv'.1 hny
   have g0 : DGet H' wa (.str k.name) none := by
    have := DGet.k (H := H') (a := wa) (k := Sum.inr k.name) hw
    rw [hnv] at this
    exact this
   refine ⟨_, rfl, _, rfl, wa, _, rfl, g0, _, rfl, iteT ?_⟩
   refine ⟨_, rfl, sa, _, _, _, rfl, rfl, SqT.of (sm _ _ hsa), atI_nat (j := 0) rfl, _, rfl, _, rfl, kv2, wa, _, ks2, _, k, rfl, hk2.same sm _, wf2, ⟨kvs, .inl hw, hwl⟩, rd, wf.pnd k hkm, by have := wf.pts k hkm; omega, fun u H1 s1 ru => ?_⟩
   cases hb : howBy ks2 (wMade ks2 (ks.take i) told) k with
   | none =>
    rw [hb] at ru
    obtain rfl : u = .non := ru
    refine ⟨_, rfl, rfl, _, rfl, iteT ?_⟩
    have hll1 := s1 _ _ hll
    refine ⟨_, rfl, .inl ⟨rfl, _, SqL.of hll1⟩, _, rfl, la, _, _, rfl, rfl, hll1, fitsLt (by rw [List.length_map]; omega), ?_⟩
    have tp := lst_tups hll1 (.lst (ls.map V.str ++ [.str k.name]))
    refine ⟨_, _, _, kvs, ls ++ [k.name], rfl, same_upd (sm.trans s1) nla _, by rw [upd_ne wl]; exact s1 _ _ hw, (hwl.tups fun b us e => s1 _ _ e).tups tp, by rw [List.map_append]; exact upd_same, by rw [List.length_append, List.length_singleton]; omega, by rw [hlk]⟩
   | some d =>
    rw [hb] at ru
    have ru' : RelD H1 u d := ru
    obtain ⟨hb', rfl⟩ : ∃ b, u = .ref b := how_ref hb ru'
    refine ⟨_, rfl, rfl, _, rfl, iteF ?_⟩
    refine ⟨_, rfl, _, rfl, (by show 2 ≤ sizeLine; decide), fun t ht => ?_⟩
    have y := Same.new ht (.tup [.str k.name, .ref hb'])
    have s3 := s1.trans y
    have hw3 := s3 _ _ hw
    refine ⟨_, rfl, _, rfl, wa, _, rfl, DPut.k (k := Sum.inr k.name) hw3 (fitsLt (by omega)), ?_⟩
    rw [put_new hnv]
    have tp := dk_tupsP hw3 (.dK (kvs ++ [(Sum.inr k.name, .ref t)]))
    have hway : RelD (upd H1 t (.tup [.str k.name, .ref hb'])) (.ref t) (wyD (k.name, k.name, d)) := ⟨t, _, rfl, upd_same, _, _, rfl, rfl, _, _, rfl, ru'.same y _, rfl⟩
    refine ⟨_, _, _, _, ls, rfl, same_upd (sm.trans s3) hwa _, upd_same, ((hwl.tups fun b us e => s3 _ _ e).snoc (kv := (Sum.inr k.name, .ref t)) (y := (k.name, k.name, d)) ⟨rfl, hway⟩).tups tp, ?_, by omega, by rw [hlk]; exact (List.append_nil _).symm⟩
    rw [upd_ne (Ne.symm wl)]
    exact s3 _ _ hll
 ·rintro σ H' ⟨o5, o6, o7, kvs, ls, rfl, sm, hw, hwl, hll, hlsl, hlk⟩
  rw [List.take_of_length_le (by omega)] at hwl hlk
  refine ⟨_, rfl, _, rfl, (by show 2 ≤ sizeLine; decide), fun r hr' => ?_⟩
  have y := Same.new hr' (.tup [.ref wa, .ref la])
  exact q r wa la kvs ls _ (sm.trans y) (none_back sm hr') hwa nla upd_same (y _ _ hw) (hwl.tups fun b us e => y _ _ e) (y _ _ hll) ⟨by omega, hlk⟩
theorem made_is (T : Tx K mg) : DefIs P w K mg base 30 "made_ways" ["first", "second", "told"] spMade :=
 ok_made_ways (n := 29) T (ok_how_by_rules (n := 28) T (ok_sort_of T) (ok_parts_of T) (ok_tags_by_rules (n := 27) T (ok_goes_to T) (ok_parts_of T)) (ok_terms_by_rules (n := 27) T (ok_goes_to T) ((nought_is T 6).mono (by omega))))
end
end K41
end
section
namespace K41
open PySem L2 M
seal L2.PE L2.PA L2.PS L2.PSs L2.PT L2.PW L2.PI L2.PG L2.PJ L2.PTs
theorem rd_fed {H H' : Hp} {f a : Addr} {p q : Int} {u : List (Key × V)} (hf : H f = some (.lst [.int p, .int q])) (h : Rd H a (.dK u)) (F : Fed f H H') : Rd H' a (.dK u) := by
 rcases h with h | ⟨o, h⟩
 ·exact .inl (F.1 _ _ h fun e => by rw [e, hf] at h; cases h)
 ·exact .inr ⟨o, F.1 _ _ h fun e => by rw [e, hf] at h; cases h⟩
theorem ways_fed {H H' : Hp} {f a : Addr} {p q : Int} {ys : List Wy} (hf : H f = some (.lst [.int p, .int q])) (h : WaysAt H a ys) (F : Fed f H H') : WaysAt H' a ys := by
 obtain ⟨kvs, h1, h2⟩ := h
 exact ⟨kvs, rd_fed hf h1 F, h2.tups (fed_tups ⟨p, q, hf⟩ F)⟩
theorem over_snoc {ys : List Wy} {ps : List (Str × Str)} {p : Str × Str} : overB ys (ps ++ [p]) = overB ys ps ++ (match goesTo ys p.2 with | some g => [(p.1, g)] | none => []) := by
 unfold overB
 rw [List.filterMap_append]
 congr 1
 rw [List.filterMap_cons]
 cases goesTo ys p.2 <;> rfl
theorem it_nb (j : Nat) : S "it" ≠ byN j := fun e => by
 have := congrArg L e
 unfold byN at this
 rw [L_ofL, show L (S "it") = [105, 116] by decide +kernel] at this
 simp at this
theorem bs_tin {H : Hp} {f : Addr} {p q : Int} {kv : V} {bl : Addr} {us : List V} {ks2 : List Kn} {bs : List (Str × Str)} (hf : H f = some (.lst [.int p, .int q])) (hk : RelD H kv (dKinds ks2)) (wf : KWf ks2) (nb : PNB ks2) (hbl : H bl = some (.lst us)) (hus : RelDs H us (bs.map dPart)) (nd : (bs.map (·.1)).Nodup) (hl : bs.length ≤ 20) (hn : ∀ b ∈ bs, NoBy b.1) (hg : ∀ b ∈ bs, KIn ks2 6 b.2) : TIn H f kv (.ref bl) ks2 bs 3 :=
 ⟨⟨p, q, hf⟩, hk, wf, nb, ⟨bl, us, rfl, hbl, hus, fun e => by
  rw [e, hf] at hbl
  have e2 := Option.some.inj hbl
  injection e2 with e3
  rw [← e3] at hus
  cases bs with
  | nil =>
   have : [V.int p, V.int q] = [] := hus
   cases this
  | cons b bs =>
   obtain ⟨v, r, e4, h1, _⟩ := hus
   injection e4 with e5 _
   rw [← e5] at h1
   obtain ⟨_, _, e6, _⟩ := h1
   cases e6⟩, nd, by omega, fun b hb j _ => hn b hb j, hg⟩
def spWay : Sp := fun vs H Q _ => ∃ (f fa wa : Addr) (kv1 kv2 : V) (r1 : List V) (p q : Int) (ks ks2 : List Kn) (ys : List Wy) (k : Kn), vs = [.ref f, .ref fa, kv2, .ref wa, .str k.name] ∧ H f = some (.lst [.int p, .int q]) ∧ H fa = some (.tup (kv1 :: r1)) ∧ RelD H kv1 (dKinds ks) ∧ KWf ks ∧ RelD H kv2 (dKinds ks2) ∧ KWf ks2 ∧ PNB ks2 ∧ WaysAt H wa ys ∧ kAt ks k.name = some k ∧ (∀ p ∈ k.parts, NoBy p.1) ∧ (∀ x g, goesTo ys x = some g → KIn ks2 6 g) ∧
 ∀ t g d H', Fed f H H' → RelD H' (.ref t) (.tup [.str g, d]) → KIn ks2 6 g → HowOk ks2 ys k g d → Q (.ref t) H'
section
variable {P : Program} {w : World} {K : PySem.W.Frag} {mg : Str → Option Value} {base : Heap} {n m : Nat}
theorem ok__law_way (T : Tx K mg) (D__law_sort_of : DefIs P w K mg base n "_law_sort_of" ["_law_kinds_here", "_law_kind"] spLSort) (D__law_any_kind : DefIs P w K mg base n "_law_any_kind" ["_law_feed_here", "_law_kinds_here"] spAny) (D_goes_to : DefIs P w K mg base n "goes_to" ["ways", "kind"] spGoes) (D__law_new_term : DefIs P w K mg base n "_law_new_term" ["_law_feed_here", "_law_kinds_here", "_law_boxes", "_law_kind"] spNewT) : DefIs P w K mg base (n + 1) "_law_way" ["_law_feed_here", "_law_first", "_law_kinds_here", "_law_ways", "_law_name"] spWay := by
 refine DefIs.of T.d__law_way sc__law_way (fun vs H Q E h => ?_) (fun f cdv A outer s H vs Q E hr h => ?_)
 ·obtain ⟨_, _, _, _, _, _, _, _, _, _, _, _, rfl, _⟩ := h
  rfl
 obtain ⟨f', fa, wa, kv1, kv2, r1, p0, q0, ks, ks2, ys, k, rfl, hf, hfa, hk1, wf, hk2, wf2, pnb, hw, hkx, hnb, hgo, q⟩ := h
 have nd := sc__law_way.nd
 have hkm := List.mem_of_find?_eq_some hkx
 have h5 := wf.pts k hkm
 have hpnd := wf.pnd k hkm
 refine ⟨_, (pss_cons (ps_asg (pe_dcall D__law_sort_of hr (pa_cons (pe_ix ix_tup (pv 1) pe_int (fun _ _ => rfl)) (pa_cons (pv 4) pa_nil star_name) star_sub)) (pg_tup rfl (pgs_cons (pg_name (i := 5) nd rfl (by first | exact Or.inl rfl | exact Or.inr rfl)) (pgs_cons (pg_name (i := 6) nd rfl (by first | exact Or.inl rfl | exact Or.inr rfl)) pgs_nil))))
   (pss_cons (ps_set (i := 7) nd rfl (by first | exact Or.inl rfl | exact Or.inr rfl) (pe_dcall D__law_any_kind hr (pa_cons (pv 0) (pa_cons (pv 2) pa_nil star_name) star_name)))
   (pss_cons (ps_if (pt_cmpR op_eq (pv 5) pe_str (nomark _)) (pss_cons (ps_setComp (i := 8) ["_law_f", "_law_part", "_law_ways"] [none, none, some 3] rfl (by kernel_rfl) nd rfl (by first | exact Or.inl rfl | exact Or.inr rfl) (pi_tup (pv 6)) (fun _ _ _ _ => (pg_tupC (K := K) (n := 2) rfl rfl (pgs_cons (pg_name (i := 0) (by show List.Nodup (["_law_f", "_law_part", "_law_ways"] : List Str); decide +kernel) rfl (Or.inl rfl)) (pgs_cons (pg_name (i := 1) (by show List.Nodup (["_law_f", "_law_part", "_law_ways"] : List Str); decide +kernel) rfl (Or.inl rfl)) pgs_nil)))) (fun _ _ _ _ => (pts_one (pt_cmpR op_notN (pe_dcall D_goes_to hr (pa_cons (pv 2) (pa_cons (pv 1) pa_nil star_name) star_name)) pe_non (nomark _)))) (fun _ _ _ _ => (pe_tup (pa_cons (pv 0) (pa_cons (pe_dcall D_goes_to hr (pa_cons (pv 2) (pa_cons (pv 1) pa_nil star_name) star_name)) pa_nil star_call) star_name))))
   (pss_one (ps_ret (pe_tup (pa_cons (pv 7) (pa_cons (pe_dcall D__law_new_term hr (pa_cons (pv 0) (pa_cons (pv 2) (pa_cons (pv 8) (pa_cons (pv 7) pa_nil star_name) star_name) star_name) star_name)) pa_nil star_call) star_name))))) pss_nil)
   (pss_cons (ps_set (i := 9) nd rfl (by first | exact Or.inl rfl | exact Or.inr rfl) (pe_lst pa_nil))
   (pss_cons (ps_for PassesOwn.never rfl (pi_tup (pv 6)) (pg_tup rfl (pgs_cons (pg_name (i := 10) nd rfl (by first | exact Or.inl rfl | exact Or.inr rfl)) (pgs_cons (pg_name (i := 11) nd rfl (by first | exact Or.inl rfl | exact Or.inr rfl)) pgs_nil)))
   (pss_cons (ps_setComp (i := 8) ["_law_goes_here"] [none] rfl (by kernel_rfl) nd rfl (by first | exact Or.inl rfl | exact Or.inr rfl) (pi_list (pe_lst (pa_cons (pe_dcall D_goes_to hr (pa_cons (pv 3) (pa_cons (pv 11) pa_nil star_name) star_name)) pa_nil star_call))) (fun _ _ _ _ => (pg_name (i := 0) (by show List.Nodup (["_law_goes_here"] : List Str); decide +kernel) rfl (Or.inl rfl))) (fun _ _ _ _ => (pts_one (pt_cmpR op_notN (pv 0) pe_non (nomark _)))) (fun _ _ _ _ => (pe_tup (pa_cons pe_str (pa_cons (pv 0) pa_nil star_name) star_const))))
   (pss_one (ps_expr (pe_bm PySem.F.plainAttrs_list PySem.F.slot_list_append PySem.F.type_list_append mt_append (pv 9) (pa_cons (pe_tup (pa_cons (pv 10) (pa_cons (pe_dcall D__law_new_term hr (pa_cons (pv 0) (pa_cons (pv 2) (pa_cons (pv 8) (pa_cons (pv 7) pa_nil star_name) star_name) star_name) star_name)) pa_nil star_call) star_name)) pa_nil star_tup))))))
   (pss_one (ps_ret (pe_tup (pa_cons (pv 7) (pa_cons (pe_callTy call_tuple_of rfl T.z_tuple PyProof.Rows.boot_tuple (pa_cons (pv 9) pa_nil star_name)) pa_nil star_call) star_name))))))))), seq_cut fun R1 hR1 => ?_⟩
 refine ⟨_, rfl, fa, _, _, _, rfl, rfl, SqT.of hfa, atI_nat (j := 0) rfl, _, rfl, kv1, ks, k.name, rfl, (wf.ksAt hk1).seq, fun t pv' H1 s1 ht rp => ?_⟩
 refine ⟨t, _, rfl, SqT.of ht, rfl, _, _, rfl, _, _, rfl, rfl, ?_⟩
 refine hR1 _ _ (seq_cut fun R2 hR2 => ?_)
 rw [hkx] at rp
 obtain ⟨pa, pus, rfl, hpa, hpu⟩ := rp
 have hpl := hpu.length
 rw [List.length_map] at hpl
 obtain ⟨ka2, kus2, rfl, hka2, hku2⟩ := id hk2
 have hss : sortS (kAt ks k.name) = k.sort := by rw [hkx]; rfl
 refine ⟨_, rfl, _, rfl, f', ka2, p0, q0, kus2, ks2, rfl, s1 _ _ hf, .inr (s1 _ _ hka2), hku2.same s1 _, wf2.few, fun g H2 hg f2 => ?_⟩
 have hg6 := hg.mono wf2.few
 have F2 : Fed f' H H2 := ((Fed.refl hf).same s1).trans f2
 have tp2 := fed_tups ⟨p0, q0, s1 _ _ hf⟩ f2
 have hpa2 := tp2 _ _ hpa
 have hpu2 := hpu.tups tp2 _
 have hw2 := ways_fed (s1 _ _ hf) (hw.same s1) f2
 have hk22 := (hk2.same s1 _).tups tp2 _
 obtain ⟨p2, q2, h2⟩ := F2.2
 refine hR2 _ _ (seq_cut fun R3 hR3 => ?_)
 cases hc : k.rc with
 | true =>
  refine ⟨_, rfl, rfl, _, rfl, iteKT (decide_eq_true (by rw [hss, rec_sort hc]; rfl)) ?_⟩
  refine seq_cut fun R4 hR4 => ?_
  refine ⟨_, rfl, pa, rfl, ⟨_, SqT.of hpa2⟩, ?_⟩
  refine comp_tupG (xs := pus) (fun i zs H3 => Same H2 H3 ∧ RelDs H3 zs ((overB ys (k.parts.take i)).map dPart)) ⟨Same.refl _, rfl⟩ (fitsLt (by omega)) (fun i zs H3 _ p => SqT.of (p.1 _ _ hpa2)) ?_ ?_
  ·rintro i y zs H3 hy hi hly ⟨sm, hzs⟩
   obtain ⟨d, hd', rd⟩ := (hpu2.same sm _).get hy
   rw [List.getElem?_map] at hd'
   obtain ⟨pr, hpr, rfl⟩ := Option.map_eq_some_iff.mp hd'
   obtain ⟨b, ws, rfl, hb, _, _, rfl, rfl, _, _, rfl, rfl, rfl⟩ := rd
   have etk : overB ys (k.parts.take (i + 1)) = overB ys (k.parts.take i) ++ (match goesTo ys pr.2 with | some g => [(pr.1, g)] | none => []) := by
    rw [List.take_add_one, hpr]
    exact over_snoc
   refine ⟨b, _, rfl, SqT.of hb, rfl, _, _, rfl, _, _, rfl, rfl, ext2 rfl rfl, ?_⟩
   refine ⟨_, rfl, _, rfl, wa, ys, pr.2, rfl, hw2.same sm, ?_⟩
   cases hgp : goesTo ys pr.2 with
   | none =>
    rw [hgp] at etk
    refine ⟨rfl, _, rfl, iteF (nxtN hi hly ⟨sm, ?_⟩)⟩
    rw [etk, List.append_nil]
    exact hzs
   | some g' =>
    rw [hgp] at etk
    refine ⟨rfl, _, rfl, iteT ?_⟩
    refine ⟨_, rfl, _, rfl, _, rfl, wa, ys, pr.2, rfl, hw2.same sm, ?_⟩
    rw [hgp]
    refine ⟨(by show 2 ≤ sizeLine; decide), fun t2 ht2 => ?_⟩
    have y1 := Same.new ht2 (.tup [.str pr.1, .str g'])
    refine nxtG hi hly ⟨sm.trans y1, ?_⟩
    rw [etk, List.map_append]
    exact (hzs.same y1 _).append ⟨_, [], rfl, ⟨t2, _, rfl, upd_same, _, _, rfl, rfl, _, _, rfl, rfl, rfl⟩, rfl⟩
  rintro zs H3 hly ⟨sm, hzs⟩ D hD
  rw [List.take_of_length_le (by omega)] at hzs
  have sD := Same.new hD (.lst zs)
  have s3 := sm.trans sD
  have hol := over_len (ys := ys) (ps := k.parts)
  refine hR4 _ _ ?_
  refine ⟨_, rfl, _, rfl, _, rfl, _, rfl, _, rfl, f', .ref ka2, .ref D, ks2, overB ys k.parts, g, rfl, bs_tin (s3 _ _ h2) (hk22.same s3 _) wf2 pnb upd_same (hzs.same sD _) (over_nd hpnd) (by omega) (fun b hb => ?_) (fun b hb => ?_), hg6, fun a d H4 f4 ra hb => ⟨(by show 2 ≤ sizeLine; decide), fun t4 ht4 => ?_⟩⟩
  ·obtain ⟨p, hp, e, _⟩ := over_of hb
   rw [← e]
   exact hnb p hp
  ·obtain ⟨p, hp, _, e⟩ := over_of hb
   exact hgo _ _ e
  have st := Same.new ht4 (.tup [.str g, .ref a])
  exact q _ g d _ (((F2.same s3).trans f4).same st) ⟨t4, _, rfl, upd_same, _, _, rfl, rfl, _, _, rfl, ra.same st _, rfl⟩ hg6 (.inl ⟨hc, hb.up (by omega)⟩)
 | false =>
  refine ⟨_, rfl, rfl, _, rfl, iteKF (decide_eq_false (by rw [hss, alt_sort hc]; decide +kernel)) ?_⟩
  refine hR3 _ _ (seq_cut fun R5 hR5 => ?_)
  refine ⟨(by show 0 ≤ sizeLine; decide), fun al hal => ?_⟩
  refine hR5 _ _ (seq_cut fun R6 hR6 => ?_)
  have s3 := Same.new hal (.lst [])
  have alf : al ≠ f' := Ne.symm (ne_of_none h2 hal)
  have hpa3 := s3 _ _ hpa2
  have F3 := F2.same s3
  have hw3 := hw2.same s3
  have hk23 := hk22.same s3 _
  have h3 := s3 _ _ h2
  have hpu3 := hpu2.same s3 _
  have hal3 : upd H2 al (.lst []) al = some (.lst []) := upd_same
  generalize upd H2 al (.lst []) = H3 at s3 hpa3 F3 hw3 hk23 h3 hpu3 hal3 ⊢
  refine ⟨_, rfl, pa, rfl, ⟨_, SqT.of hpa3⟩, ?_⟩
  refine for_tup (xs := pus) (fun i σ H' => ∃ (ws : List V) (es : List (Str × D)) (o8 o10 o11 : Option V), σ = [some (.ref f'), some (.ref fa), some (.ref ka2), some (.ref wa), some (.str k.name), some (.str (sortS (kAt ks k.name))), some (.ref pa), some (.str g), o8, some (.ref al), o10, o11] ∧ Fed f' H2 H' ∧ H' al = some (.lst ws) ∧ RelDs H' ws (es.map dPr) ∧ es.map (·.1) = (k.parts.take i).map (·.1) ∧ ∀ (j : Nat) e p, es[j]? = some e → k.parts[j]? = some p → TmB ks2 22 (overB ys [(S "it", p.2)]) e.2 g)
   ⟨[], [], none, none, none, rfl, (Fed.refl h2).same s3, hal3, rfl, rfl, fun j e p he => by simp at he⟩ (fun i σ H' _ p => ?_) ?_ ?_
  ·obtain ⟨_, _, _, _, _, _, F, _⟩ := p
   exact SqT.of (fed_tups ⟨p2, q2, h2⟩ F _ _ hpa2)
  ·rintro i vv σ H4 hvv ⟨ws, es, o8, o10, o11, rfl, F4, hws, rws, hes, hall⟩
   have tp4 := fed_tups ⟨p2, q2, h2⟩ F4
   obtain ⟨d, hd', rd⟩ := (hpu2.tups tp4 _).get hvv
   rw [List.getElem?_map] at hd'
   obtain ⟨pr, hpr, rfl⟩ := Option.map_eq_some_iff.mp hd'
   obtain ⟨b, wz, rfl, hb, _, _, rfl, rfl, _, _, rfl, rfl, rfl⟩ := rd
   have hi : i < k.parts.length := (List.getElem?_eq_some_iff.mp hpr).1
   have hel : es.length = i := by
    have := congrArg List.length hes
    rw [List.length_map, List.length_map, List.length_take] at this
    omega
   have hwl := rws.length
   rw [List.length_map] at hwl
   have hw4 := ways_fed h2 hw2 F4
   obtain ⟨p4, q4, h4⟩ := F4.2
   refine ⟨b, _, rfl, SqT.of hb, rfl, _, _, rfl, _, _, rfl, rfl, seq_cut fun R7 hR7 => ?_⟩
   refine ⟨_, rfl, _, rfl, wa, ys, pr.2, rfl, hw4, (by show 1 ≤ sizeLine; decide), fun l0 hl0 => ?_⟩
   have y0 := Same.new hl0 (.lst [optV (goesTo ys pr.2)])
   refine ⟨l0, rfl, ⟨_, SqL.of upd_same⟩, ?_⟩
   have hl0' : upd H4 l0 (.lst [optV (goesTo ys pr.2)]) l0 = some (.lst [optV (goesTo ys pr.2)]) := upd_same
   generalize upd H4 l0 (.lst [optV (goesTo ys pr.2)]) = H40 at y0 hl0' ⊢
   refine comp_listG (xs := [optV (goesTo ys pr.2)]) (fun i2 zs H5 => Same H40 H5 ∧ RelDs H5 zs ((overB ys ([(S "it", pr.2)].take i2)).map dPart)) ⟨Same.refl _, rfl⟩ (fitsLt (by show 1 ≤ 4000000; decide)) (fun i2 zs H5 _ p => SqL.of (p.1 _ _ hl0')) ?_ ?_
   ·rintro i2 y zs H5 hy hi2 hly ⟨sm, hzs⟩
    have h0 : i2 = 0 := by
     have : i2 < 1 := hi2
     omega
    subst h0
    have ey : y = optV (goesTo ys pr.2) := by
     simp at hy
     exact hy.symm
    subst ey
    obtain rfl : zs = [] := hzs
    refine ⟨ext_set rfl, ?_⟩
    have etk : overB ys ([(S "it", pr.2)].take (0 + 1)) = (match goesTo ys pr.2 with | some g => [(S "it", g)] | none => []) := by
     have := over_snoc (ys := ys) (ps := []) (p := (S "it", pr.2))
     rw [List.nil_append] at this
     exact this
    cases hgp : goesTo ys pr.2 with
    | none =>
     rw [hgp] at etk
     refine ⟨_, rfl, rfl, _, rfl, iteF (nxtN hi2 hly ⟨sm, ?_⟩)⟩
     rw [etk]
     rfl
    | some g' =>
     rw [hgp] at etk
     refine ⟨_, rfl, rfl, _, rfl, iteT ?_⟩
     refine ⟨_, rfl, (by show 2 ≤ sizeLine; decide), fun t2 ht2 => ?_⟩
     have y1 := Same.new ht2 (.tup [.str (S "it"), .str g'])
     refine nxtG hi2 hly ⟨sm.trans y1, ?_⟩
     rw [etk]
     exact ⟨_, [], rfl, ⟨t2, _, rfl, upd_same, _, _, rfl, rfl, _, _, rfl, rfl, rfl⟩, rfl⟩
   rintro zs H5 hly ⟨sm, hzs⟩ D hD
   have hzs' : RelDs H5 zs ((overB ys [(S "it", pr.2)]).map dPart) := hzs
   have sD := Same.new hD (.lst zs)
   have s5 := y0.trans (sm.trans sD)
   have hol := over_len (ys := ys) (ps := [(S "it", pr.2)])
   refine hR7 _ _ ?_
   refine ⟨_, rfl, .inl ⟨rfl, _, SqL.of (s5 _ _ hws)⟩, _, rfl, _, rfl, _, rfl, _, rfl, _, rfl, f', .ref ka2, .ref D, ks2, overB ys [(S "it", pr.2)], g, rfl, bs_tin (s5 _ _ h4) ((hk22.tups tp4 _).same s5 _) wf2 pnb upd_same (hzs'.same sD _) (over_nd (by simp)) (by simp at hol; omega) (fun b hb => ?_) (fun b hb => ?_), hg6, fun a d H6 f6 ra hb => ⟨(by show 2 ≤ sizeLine; decide), fun t4 ht4 => ?_⟩⟩
   ·obtain ⟨p, hp, e, _⟩ := over_of hb
    rw [← e, List.mem_singleton.mp hp]
    exact it_nb
   ·obtain ⟨p, hp, _, e⟩ := over_of hb
    exact hgo _ _ e
   have st := Same.new ht4 (.tup [.str pr.1, .ref a])
   have hws6 := st _ _ (f6.1 _ _ (s5 _ _ hws) alf)
   have rws6 := ((rws.same s5 _).tups (fed_tups ⟨p4, q4, s5 _ _ h4⟩ f6) _).same st _
   refine ⟨al, ws, _, rfl, rfl, hws6, fitsLt (by omega), ?_⟩
   refine ⟨_, es ++ [(pr.1, d)], _, _, _, rfl, ?_, upd_same, ?_, ?_, fun j e p he hp => ?_⟩
   ·exact Fed.put ((F4.same s5).trans (f6.same st)) hal alf _
   ·rw [List.map_append]
    exact (rws6.tups (lst_tups hws6 _) _).append ⟨_, [], rfl, ⟨t4, _, rfl, lst_tups hws6 _ _ _ upd_same, _, _, rfl, rfl, _, _, rfl, (ra.same st _).tups (lst_tups hws6 _) _, rfl⟩, rfl⟩
   ·rw [List.map_append, hes, List.take_add_one, hpr, List.map_append]
    rfl
   ·rw [List.getElem?_append] at he
    split at he
    ·exact hall j e p he hp
    ·have hj : j = i := by
      have := (List.getElem?_eq_some_iff.mp he).1
      simp at this
      omega
     subst hj
     rw [hel, Nat.sub_self] at he
     cases he
     rw [hpr] at hp
     cases hp
     exact hb.up (by omega)
  ·rintro σ H4 ⟨ws, es, o8, o10, o11, rfl, F4, hws, rws, hes, hall⟩
   rw [List.take_of_length_le (by omega)] at hes
   refine hR6 _ _ ?_
   refine ⟨_, rfl, _, rfl, al, ws, rfl, .inl ⟨SqL.of hws, fun t4 ht4 => ⟨(by show 2 ≤ sizeLine; decide), fun t5 ht5 => ?_⟩⟩⟩
   have y1 := Same.new ht4 (.tup ws)
   have y2 := Same.new ht5 (.tup [.str g, .ref t4])
   exact q _ g (.tup (es.map dPr)) _ ((F2.trans F4).same (y1.trans y2)) ⟨t5, _, rfl, upd_same, _, _, rfl, rfl, _, _, rfl, ⟨t4, ws, rfl, y2 _ _ upd_same, rws.same (y1.trans y2) _⟩, rfl⟩ hg6 (.inr ⟨hc, es, rfl, hes, hall⟩)
end
end K41
end
section
namespace K41
open PySem L2 M
seal L2.PE L2.PA L2.PS L2.PSs L2.PT L2.PW L2.PI L2.PG L2.PJ L2.PTs
theorem merge1 (Pq : Hp → Prop) {R : Hp → Prop} {A : Prop} (h : (∀ H, Pq H → R H) → A) (r : ∀ H, Pq H → R H) : A := h r
def spTold : Sp := fun vs H Q _ => ∃ (f fa : Addr) (kv1 kv2 : V) (r1 : List V) (p q : Int) (ks ks2 : List Kn), vs = [.ref f, .ref fa, kv2] ∧ H f = some (.lst [.int p, .int q]) ∧ H fa = some (.tup (kv1 :: r1)) ∧ RelD H kv1 (dKinds ks) ∧ KWf ks ∧ PNB ks ∧ RelD H kv2 (dKinds ks2) ∧ KWf ks2 ∧ PNB ks2 ∧
 ∀ r ta wa tkv kvs told H', Fed f H H' → H' r = some (.tup [.ref ta, .ref wa]) → H' ta = some (.dK tkv) → WAll H' tkv told → H' wa = some (.dK kvs) → WAll H' kvs (wMade ks2 ks told) → ToldOk ks ks2 told → (told.map (·.1)).Nodup → told.length ≤ 6 → Q (.ref r) H'
section
variable {P : Program} {w : World} {K : PySem.W.Frag} {mg : Str → Option Value} {base : Heap} {n m : Nat}
theorem ok__law_told (T : Tx K mg) (D__law_take : DefIs P w K mg base n "_law_take" ["_law_feed_here", "_law_many"] spTake) (D_made_ways : DefIs P w K mg base n "made_ways" ["first", "second", "told"] spMade) (D__law_way : DefIs P w K mg base n "_law_way" ["_law_feed_here", "_law_first", "_law_kinds_here", "_law_ways", "_law_name"] spWay) : DefIs P w K mg base (n + 1) "_law_told" ["_law_feed_here", "_law_first", "_law_kinds_here"] spTold := by
 refine DefIs.of T.d__law_told sc__law_told (fun vs H Q E h => ?_) (fun f cdv A outer s H vs Q E hr h => ?_)
 ·obtain ⟨_, _, _, _, _, _, _, _, _, rfl, _⟩ := h
  rfl
 obtain ⟨f', fa, kv1, kv2, r1, p0, q0, ks, ks2, rfl, hf, hfa, hk1, wf, pnb1, hk2, wf2, pnb2, q⟩ := h
 have nd := sc__law_told.nd
 have hu := hu_of hr
 have hfew := wf.few
 obtain ⟨ka, kus, rfl, hka, hku⟩ := id hk1
 have hkl := hku.length
 rw [List.length_map] at hkl
 refine ⟨_, (pss_cons (ps_set (i := 3) nd rfl (by first | exact Or.inl rfl | exact Or.inr rfl) pe_dnewK)
   (pss_cons (ps_for PassesOwn.never rfl (pi_tup (pe_ix ix_tup (pv 1) pe_int (fun _ _ => rfl))) (pg_tup rfl (pgs_cons (pg_name (i := 4) nd rfl (by first | exact Or.inl rfl | exact Or.inr rfl)) (pgs_cons (pg_name (i := 5) nd rfl (by first | exact Or.inl rfl | exact Or.inr rfl)) (pgs_cons (pg_name (i := 6) nd rfl (by first | exact Or.inl rfl | exact Or.inr rfl)) pgs_nil))))
   (pss_cons (ps_asg (pe_dcall D_made_ways hr (pa_cons (pv 1) (pa_cons (pe_tup (pa_cons (pv 2) (pa_cons (pe_tup pa_nil) (pa_cons (pe_tup pa_nil) pa_nil star_tup) star_tup) star_name)) (pa_cons (pv 3) pa_nil star_name) star_tup) star_name)) (pg_tup rfl (pgs_cons (pg_name (i := 7) nd rfl (by first | exact Or.inl rfl | exact Or.inr rfl)) (pgs_cons (pg_name (i := 8) nd rfl (by first | exact Or.inl rfl | exact Or.inr rfl)) pgs_nil))))
   (pss_one (ps_if (PW.pt (pw_or (PW.pt (pw_and (pt_cmpR op_in_seq (pv 4) (pv 8) (by with_unfolding_all rfl)) (pw_and1 (pt_cmpR op_eq (pe_dcall D__law_take hr (pa_cons (pv 0) (pa_cons pe_int pa_nil star_const) star_name)) pe_int (nomark _))))) (pw_or1 (pt_cmpR op_eq (pe_dcall D__law_take hr (pa_cons (pv 0) (pa_cons pe_int pa_nil star_const) star_name)) pe_int (nomark _))))) (pss_one (ps_dput hu (pv 3) (pv 4) (pe_dcall D__law_way hr (pa_cons (pv 0) (pa_cons (pv 1) (pa_cons (pv 2) (pa_cons (pv 7) (pa_cons (pv 4) pa_nil star_name) star_name) star_name) star_name) star_name)) rfl)) pss_nil))))
   (pss_one (ps_ret (pe_tup (pa_cons (pv 3) (pa_cons (pe_ix ix_tup (pe_dcall D_made_ways hr (pa_cons (pv 1) (pa_cons (pe_tup (pa_cons (pv 2) (pa_cons (pe_tup pa_nil) (pa_cons (pe_tup pa_nil) pa_nil star_tup) star_tup) star_name)) (pa_cons (pv 3) pa_nil star_name) star_tup) star_name)) pe_int (fun _ _ => rfl)) pa_nil star_sub) star_name)))))), seq_cut fun R1 hR1 => ?_⟩
 refine fun ta hta => ?_
 refine hR1 _ _ (seq_cut fun R2 hR2 => ?_)
 have s0 := Same.new hta (.dK [])
 have taf : ta ≠ f' := Ne.symm (ne_of_none hf hta)
 refine ⟨_, rfl, fa, _, _, _, rfl, rfl, SqT.of (s0 _ _ hfa), atI_nat (j := 0) rfl, ka, rfl, ⟨_, SqT.of (s0 _ _ hka)⟩, ?_⟩
 refine for_tup (xs := kus) (fun i σ H' => ∃ (tkv : List (Key × V)) (told : List Wy) (o4 o5 o6 o7 o8 : Option V), σ = [some (.ref f'), some (.ref fa), some kv2, some (.ref ta), o4, o5, o6, o7, o8] ∧ Fed f' H H' ∧ H' ta = some (.dK tkv) ∧ WAll H' tkv told ∧ ToldOk ks ks2 told ∧ (∀ z ∈ told, ∃ j k, j < i ∧ ks[j]? = some k ∧ k.name = z.1) ∧ (told.map (·.1)).Nodup ∧ told.length ≤ i)
  ⟨[], [], none, none, none, none, none, rfl, (Fed.refl hf).same s0, upd_same, trivial, (fun _ h => nomatch h), (fun _ h => nomatch h), List.nodup_nil, Nat.le_refl _⟩ (fun i σ H' _ p => ?_) ?_ ?_
 ·obtain ⟨_, _, _, _, _, _, _, _, F, _⟩ := p
  exact SqT.of (fed_tups ⟨p0, q0, hf⟩ F _ _ hka)
 ·rintro i vv σ H1 hvv ⟨tkv, told, o4, o5, o6, o7, o8, rfl, F, hta1, htw, htok, hbef, hnd, htl⟩
  have tp := fed_tups ⟨p0, q0, hf⟩ F
  obtain ⟨d, hd, rd⟩ := (hku.tups tp _).get hvv
  rw [List.getElem?_map] at hd
  obtain ⟨k, hk, rfl⟩ := Option.map_eq_some_iff.mp hd
  obtain ⟨b, _, rfl, hb, _, _, rfl, rfl, v2, _, rfl, e2, v3, _, rfl, r3, rfl⟩ := rd
  have hi : i < ks.length := (List.getElem?_eq_some_iff.mp hk).1
  have hkm := List.mem_of_getElem? hk
  refine ⟨b, _, rfl, SqT.of hb, rfl, _, _, rfl, _, _, rfl, _, _, rfl, rfl, seq_cut fun R3 hR3 => ?_⟩
  obtain ⟨p1, q1, h1⟩ := F.2
  have hfa1 := tp _ _ hfa
  have hk11 := hk1.tups tp _
  have hk21 := hk2.tups tp _
  refine ⟨_, rfl, _, rfl, (by show 0 ≤ sizeLine; decide), fun e1 he1 => ⟨(by show 0 ≤ sizeLine; decide), fun e2' he2 => ⟨(by show 3 ≤ sizeLine; decide), fun sa hsa => ?_⟩⟩⟩
  have y := (Same.new he1 (.tup [])).trans ((Same.new he2 (.tup [])).trans (Same.new hsa (.tup [kv2, .ref e1, .ref e2'])))
  refine ⟨_, rfl, fa, sa, ta, .ref ka, kv2, r1, [.ref e1, .ref e2'], ks, ks2, tkv, told, rfl, y _ _ hfa1, upd_same, y _ _ hta1, htw.tups fun b us e => y _ _ e, by omega, hk11.same y _, wf, hk21.same y _, wf2, fun r wa la kvs ls H3 s3 nr nwa nla hr3 hwa3 hww hla3 hls => ?_⟩
  refine ⟨r, _, rfl, SqT.of hr3, rfl, _, _, rfl, _, _, rfl, rfl, ?_⟩
  refine hR3 _ _ ?_
  have s13 := y.trans s3
  have F3 := F.same s13
  have hta3 := s13 _ _ hta1
  have htw3 := htw.tups fun b us e => s13 _ _ e
  have h3 := s13 _ _ h1
  have right := made_right wf wf2 htok
  have stay : ∀ H', Fed f' H3 H' → Fed f' H H' ∧ H' ta = some (.dK tkv) ∧ WAll H' tkv told ∧ ToldOk ks ks2 told ∧ (∀ z ∈ told, ∃ j k, j < i + 1 ∧ ks[j]? = some k ∧ k.name = z.1) ∧ (told.map (·.1)).Nodup ∧ told.length ≤ i + 1 := fun H' f' => ⟨F3.trans f', f'.1 _ _ hta3 taf, htw3.tups (fed_tups ⟨p1, q1, h3⟩ f'), htok, fun z hz => by
   obtain ⟨j, k, hj, h'⟩ := hbef z hz
   exact ⟨j, k, by omega, h'⟩, hnd, by omega⟩
  apply merge1 (Fed f' H3)
  ·intro key
   apply merge1 (Fed f' H3)
   ·intro key2
    refine ⟨_, rfl, _, rfl, la, _, rfl, .inl (SqL.of hla3), rfl, flat_strs _, _, rfl, ?_⟩
    rw [if_neg (by decide)]
    refine ite2 (fun c1 => ?_) (fun c1 => iteF ?_)
    ·refine ⟨_, rfl, f', p1, q1, _, rfl, h3, by decide, by decide, fun ra H4 ra0 ra1 f4 => ⟨rfl, _, rfl, ite2 (fun c2 => iteT (key H4 f4)) (fun c2 => key2 H4 f4)⟩⟩
    ·generalize eH : H3 = H4
     exact key2 H4 (by rw [← eH]; exact Fed.refl h3)
   intro H4 f4
   obtain ⟨p4, q4, h4⟩ := f4.2
   refine ⟨_, rfl, f', p4, q4, _, rfl, h4, by decide, by decide, fun ra H5 ra0 ra1 f5 => ⟨rfl, _, rfl, ite2 (fun c2 => key H5 (f4.trans f5)) (fun c2 => ?_)⟩⟩
   obtain ⟨g1, g2, g3, g4, g5, g6, g7⟩ := stay H5 (f4.trans f5)
   exact ⟨tkv, told, _, _, _, _, _, rfl, g1, g2, g3, g4, g5, g6, g7⟩
  intro H4 f4
  obtain ⟨p4, q4, h4⟩ := f4.2
  obtain ⟨F4, hta4, htw4, _, _, _, _⟩ := stay H4 f4
  have tp4 := fed_tups ⟨p0, q0, hf⟩ F4
  have hwa4 : H4 wa = some (.dK kvs) := f4.1 _ _ hwa3 fun e => by rw [e, h3] at hwa3; cases hwa3
  have hww4 := hww.tups (fed_tups ⟨p1, q1, h3⟩ f4)
  refine ⟨_, rfl, _, rfl, _, rfl, _, rfl, _, rfl, f', fa, wa, .ref ka, kv2, r1, p4, q4, ks, ks2, wMade ks2 ks told, k, rfl, h4, tp4 _ _ hfa, hk1.tups tp4 _, wf, hk2.tups tp4 _, wf2, pnb2, ⟨kvs, .inl hwa4, hww4⟩, kAt_self wf.nd hkm, pnb1 k hkm, fun x g hg => goes_right right hg, fun t g d' H5 f5 rt hg hh => ?_⟩
  have hta5 := f5.1 _ _ hta4 taf
  have htw5 := htw4.tups (fed_tups ⟨p4, q4, h4⟩ f5)
  have hlen := htw.len
  have hnone : wyAt told k.name = none := by
   unfold wyAt
   refine List.find?_eq_none.mpr fun z hz c => ?_
   obtain ⟨j, k', hj, hk', e⟩ := hbef z hz
   have := name_idx wf.nd hk' hk (e.trans (of_decide_eq_true c))
   omega
  have hnv : valV tkv (Sum.inr k.name : Key) = none := (htw5.val (x := k.name)).1 hnone
  refine ⟨_, rfl, _, rfl, ta, _, rfl, DPut.k (k := Sum.inr k.name) hta5 (fitsLt (by omega)), ?_⟩
  rw [put_new hnv]
  have tpD := dk_tupsP hta5 (.dK (tkv ++ [(Sum.inr k.name, .ref t)]))
  refine ⟨_, told ++ [(k.name, g, d')], _, _, _, _, _, rfl, Fed.put (F4.trans f5) hta taf _, upd_same, ?_, told_ok_snoc wf hk rfl htok hbef ⟨hg, hh⟩, fun z hz => ?_, ?_, by rw [List.length_append, List.length_singleton]; omega⟩
  ·exact (htw5.snoc (kv := (Sum.inr k.name, .ref t)) (y := (k.name, g, d')) ⟨rfl, rt⟩).tups tpD
  ·rcases List.mem_append.mp hz with hz | hz
   ·obtain ⟨j, k', hj, h'⟩ := hbef z hz
    exact ⟨j, k', by omega, h'⟩
   ·rw [List.mem_singleton.mp hz]
    exact ⟨i, k, by omega, hk, rfl⟩
  ·rw [List.map_append]
   refine List.nodup_append.mpr ⟨hnd, by simp, fun a ha b hb e => ?_⟩
   obtain ⟨z, hz, rfl⟩ := List.mem_map.mp ha
   have hb' : b = k.name := by simpa using hb
   exact wyAt_none hnone z hz (by rw [e, hb'])
 ·rintro σ H1 ⟨tkv, told, o4, o5, o6, o7, o8, rfl, F, hta1, htw, htok, hbef, hnd, htl⟩
  have tp := fed_tups ⟨p0, q0, hf⟩ F
  refine hR2 _ _ ?_
  refine ⟨_, rfl, _, rfl, _, rfl, (by show 0 ≤ sizeLine; decide), fun e1 he1 => ⟨(by show 0 ≤ sizeLine; decide), fun e2' he2 => ⟨(by show 3 ≤ sizeLine; decide), fun sa hsa => ?_⟩⟩⟩
  have y := (Same.new he1 (.tup [])).trans ((Same.new he2 (.tup [])).trans (Same.new hsa (.tup [kv2, .ref e1, .ref e2'])))
  refine ⟨_, rfl, fa, sa, ta, .ref ka, kv2, r1, [.ref e1, .ref e2'], ks, ks2, tkv, told, rfl, y _ _ (tp _ _ hfa), upd_same, y _ _ hta1, htw.tups fun b us e => y _ _ e, by omega, (hk1.tups tp _).same y _, wf, (hk2.tups tp _).same y _, wf2, fun r wa la kvs ls H3 s3 nr nwa nla hr3 hwa3 hww hla3 hls => ?_⟩
  refine ⟨r, _, _, _, rfl, rfl, SqT.of hr3, atI_nat (j := 0) rfl, (by show 2 ≤ sizeLine; decide), fun t ht => ?_⟩
  have z := Same.new ht (.tup [.ref ta, .ref wa])
  have s13 := y.trans (s3.trans z)
  exact q t ta wa tkv kvs told _ (F.same s13) upd_same (s13 _ _ hta1) (htw.tups fun b us e => s13 _ _ e) (z _ _ hwa3) (hww.tups fun b us e => z _ _ e) htok hnd (by omega)
end
end K41
end
section
namespace L2
open PySem PySem.Spec PySem.W PyProof.Rows M
def tDClear (td : TE) : TE := fun σ H Q => td σ H fun x H1 => ∃ a, ∃ kvs : List (Key × V), x = .ref a ∧ H1 a = some (.dK kvs) ∧ Q .non (upd H1 a (.dK []))
section
variable {X : Cx} {o : Expr} {td : TE} {apos cpos : Pos}
theorem pe_dclear (ho : PE X o td) (hb : attributeBase o "clear" X.env (eval o X.env) = eval o X.env := by rfl) (hl : (apos.endLine == cpos.line) = true := by rfl) : PE X (.Call (.Attribute o "clear" apos) [] [] cpos) (tDClear td) := by
 intro pins s σ H Q I h
 refine wpAny_Call_method0_late hb hl (thn (ho pins s σ H _ I h) fun v s1 ⟨x, H1, I1, r1, a, kvs, ex, ha, q⟩ => ?_)
 subst ex
 obtain rfl : v = .ref a := r1
 obtain ⟨t1, t2, _⟩ := isD_at I1 (.inl ⟨kvs, .inl ha⟩)
 obtain ⟨z, hd, vs, rel, dd⟩ := dk_of I1.hok ha
 refine ⟨"dict", "dict.clear", PySem.F.plainAttrs_dict, PySem.F.slot_dict_clear, PySem.F.type_dict_clear, t1, t2, Calls.callWith_builtin rfl (PySem.evalArgs_none ?_)⟩
 refine call_meetsIn PySem.F.slot_dict_clear dd.typeIs PySem.F.entry_dict_clear (PySem.F.args_dict_clear_1 _) (meets_dict_clear (knd := mixKind X.prog X.w) a) ⟨vs, dd, by rw [← rel.length]; exact z, fun h' dd' hs => ?_⟩
 exact ⟨.non, _, d_write I1 (by rw [ha]; exact True.intro) hs (let ⟨q, _, _, hq, _⟩ := dd'; ⟨q, hq⟩) (dk_new (kvs := []) (Nat.zero_le _) hd .nil dd'), rfl, q⟩
end
def EqW (P : Program) (w : World) (A : Around) (s : Shared) (y x : Value) : Prop := ∀ (E : Value → Shared → Prop) (Q : Bool → Shared → Prop), Q true s → wpAny (model P w) A (eqBool y x) Q E s
theorem tup_neW {P : Program} {w : World} {l b : Addr} {us zs : Array Value} {n m : Nat} {d1 d2 : Option Addr} {s1 s2 : Array (Option Value)} (hz : us.size = zs.size) :
  MeetsIn P w (Builtin.«tuple.__ne__» ⟨[.ref l, .ref b], []⟩) (fun A R s => s.heap.get? l = some { cls := .type "tuple", dict := d1, data := .seq us n, slots := s1 } ∧ s.heap.get? b = some { cls := .type "tuple", dict := d2, data := .seq zs m, slots := s2 } ∧
   (∀ p ∈ us.toList.zip zs.toList, EqW P w A.in1 s p.1 p.2) ∧ R (.ok (.ret (.bool false))) s) :=
 .of_wp fun A R s h => by
  obtain ⟨h0, g0, d0, t0, o0⟩ := s
  obtain ⟨hl, hb, he, h⟩ := h
  have f2 := AutoSeq1.sub_tuple_tuple
  wp_walk using AutoSeq1.wpAny_loadPart' hl, AutoSeq1.wpAny_loadPart' hb, wpAny_forIn_list _ (fun rest c s' => c.1 = none ∧ s' = ⟨h0, g0, d0, t0, o0⟩ ∧ ∀ p ∈ rest, p ∈ us.toList.zip zs.toList) _
  case turn =>
   rintro ⟨y, x⟩ rest c s' ⟨hc, rfl, hm⟩
   refine wpAny_bind (he (y, x) (hm _ (by simp)) _ _ ?_)
   wp_walk
   exact ⟨rfl, rfl, fun p hp => hm p (by simp [hp])⟩
  case fin =>
   rintro ⟨c1, c2⟩ s' ⟨hc, rfl, _⟩
   simp only at hc
   subst hc
   wp_walk
   exact ⟨_, rfl, by simpa [Builtin.Tuple.tupleCompareSizes, bne, hz] using h⟩
  case h => exact ⟨rfl, rfl, fun p hp => hp⟩
section
variable {X : Cx}
def rNeDL : R2 := fun x y H Q => ∃ (a b d1 d2 l1 l2 : Addr) (k1 k2 : List (Key × V)) (ls : List Str), x = .ref a ∧ y = .ref b ∧ H a = some (.tup [.ref d1, .ref l1]) ∧ H b = some (.tup [.ref d2, .ref l2]) ∧ H d1 = some (.dK k1) ∧ H d2 = some (.dK k2) ∧ k1.length = k2.length ∧
 (∀ p ∈ k1, ∃ v d, valV k2 p.1 = some v ∧ RelD H p.2 d ∧ RelD H v d ∧ d.deep ≤ 150) ∧ H l1 = some (.lst (ls.map V.str)) ∧ H l2 = some (.lst (ls.map V.str)) ∧ Q (.bl false) H
theorem eqW_of {P : Program} {w : World} {A : Around} {s : Shared} {y x : Value} (h : SeqAt.EqAt A s y x true) : EqW P w A s y x := fun E Q q => h P w E Q q
theorem kv_hits {H : Hp} {pins : List (Addr × Obj)} {σ : St} {s : Shared} (I : Inv X pins σ H s) {A : Around} (hA : A.units + 160 < cLine) {k2 : List (Key × V)} {vs2 : List (Key × Value)} (r2 : KV k2 vs2) : ∀ (ks : List (Key × V)) (us : List (Key × Value)), KV ks us → (∀ p ∈ ks, ∃ v d, valV k2 p.1 = some v ∧ RelD H p.2 d ∧ RelD H v d ∧ d.deep ≤ 150) → KeqHits A s vs2 us true
 | [], us, r, _ => by cases r; exact .nil
 | k :: ks, us, r, hd => by
  cases r with
  | @cons _ u1 _ us' h1 t1 =>
   obtain ⟨v, d, e1, rd, rd2, hdd⟩ := hd k (by simp)
   have hv := r2.val k.1
   rw [e1] at hv
   cases hy : valueAt vs2 k.1 with
   | none => rw [hy] at hv; exact hv.elim
   | some y =>
    rw [hy] at hv
    obtain ⟨uk, uv⟩ := u1
    obtain ⟨rfl, h2⟩ := h1
    have := KeqHits.hit (e := true) (b := true) hy (eq_at I 150 d hdd rd rd2 h2 hv (by omega)) (kv_hits I hA r2 ks us' t1 fun p hp => hd p (List.mem_cons_of_mem _ hp))
    exact this
theorem op_neDL (hu : X.A.units + 200 < cLine) : OpR X (compareOp .NotEq) rNeDL := by
 intro pins s σ H x y v u Q I rx ry h
 obtain ⟨a, b, d1, d2, l1, l2, k1, k2, ls, rfl, rfl, ha, hb, hd1, hd2, hl, hp, hl1, hl2, q⟩ := h
 obtain rfl : v = .ref a := rx
 obtain rfl : u = .ref b := ry
 obtain ⟨its, r1, p1, _⟩ := I.tuple (SqT.of (K := X.K) ha)
 obtain ⟨its2, r2, p2, _⟩ := I.tuple (SqT.of (K := X.K) hb)
 obtain rfl : its = [.ref d1, .ref l1] := by
  cases r1 with
  | cons e t => cases t with
   | cons e2 t2 => cases t2; rw [show _ = Value.ref d1 from e, show _ = Value.ref l1 from e2]
 obtain rfl : its2 = [.ref d2, .ref l2] := by
  cases r2 with
  | cons e t => cases t with
   | cons e2 t2 => cases t2; rw [show _ = Value.ref d2 from e, show _ = Value.ref l2 from e2]
 obtain ⟨⟨c1, n1, a1, s1⟩, ho, hc, m1, hd⟩ := p1
 obtain ⟨⟨c2, n2, a2, s2⟩, ho2, hc2, m2, hdd2⟩ := p2
 simp only at hc hd hc2 hdd2
 subst hc hd hc2 hdd2
 have hne : Value.bool false ≠ Value.notImplemented := fun x => nomatch x
 refine wpAny_richCompare_same_room (op := .NotEq) ⟨_, ho, rfl⟩ ⟨_, ho2, rfl⟩ PySem.F.slot_tuple_ne (call_meetsIn PySem.F.slot_tuple_ne ⟨_, ho, rfl⟩ PySem.F.entry_tuple_ne (PySem.F.args_tuple_ne_2 _ _) (tup_neW (us := #[.ref d1, .ref l1]) (zs := #[.ref d2, .ref l2]) rfl) ⟨ho, ho2, fun p hpp => ?_, hne, .bl false, H, I, rfl, q⟩) (by omega)
 have hpp' : p = (.ref d1, .ref d2) ∨ p = (.ref l1, .ref l2) := by simpa using hpp
 rcases hpp' with rfl | rfl
 ·by_cases hab : d1 = d2
  ·subst hab
   exact eqW_of (SeqAt.EqAt.same _)
  intro E R hq
  obtain ⟨z, hda, vs, rel, dd⟩ := dk_of I.hok hd1
  obtain ⟨z2, hdb, vs2, rel2, dd2⟩ := dk_of I.hok hd2
  have e1 := rel.length
  have e2 := rel2.length
  unfold eqBool
  refine wpAny_holding ?_
  refine wpAny_ite_split (fun c => absurd (by have := eq_of_beq c; injection this) hab) (fun _ => ?_)
  refine wpAny_bind (keq_eq hda hdb dd dd2 (by show X.A.units + 1 < cLine; omega) (fun _ => kv_hits I (by show X.A.units + 1 + 1 + 160 < cLine; omega) rel2 k1 vs rel hp) ?_)
  rw [show vs.length = vs2.length by omega]
  exact wpAny_truthy_bool (by simpa using hq)
 ·by_cases hab : l1 = l2
  ·subst hab
   exact eqW_of (SeqAt.EqAt.same _)
  obtain ⟨i1, q1, o1, _⟩ := I.list (SqL.of (K := X.K) hl1)
  obtain ⟨i2, q2, o2, _⟩ := I.list (SqL.of (K := X.K) hl2)
  have e1 := q1.length
  have e2 := q2.length
  have := SeqAt.EqAt.of_refs hab (SeqAt.RcAt.lists (A := X.A.in1) (e := fun _ => true) o1.isList o2.isList (by simp only [List.size_toArray]; omega) (by show X.A.units + 1 < cLine; omega) fun j h1 h2 => ?_)
  ·have e : (List.range i1.toArray.size).all (fun _ => true) = true := by simp
   rw [e] at this
   exact eqW_of this
  ·obtain ⟨x1, f1, g1⟩ := its_at q1 h1
   obtain ⟨x2, f2, g2⟩ := its_at q2 h2
   rw [f1] at f2
   cases f2
   rw [List.getElem?_map] at f1
   obtain ⟨z, _, rfl⟩ := Option.map_eq_some_iff.mp f1
   exact eq_at I 0 (.str z) (Nat.le_refl _) rfl rfl g1 g2 (by show X.A.units + 1 + 1 + 0 < cLine; omega)
end
end L2
end
section
namespace K41
open PySem L2 M
seal L2.PE L2.PA L2.PS L2.PSs L2.PT L2.PW L2.PI L2.PG L2.PJ L2.PTs
theorem if_test {t : TT} {a b : TS} {D : Ends} {σ : St} {H : Hp} (c : Bool) (ht : ∀ Q : Bool → Hp → Prop, Q c H → t σ H Q) (h : if c = true then a D σ H else b D σ H) : tIfS t a b D σ H := ht _ h
theorem if_testS {t : TT} {a b : TS} {D : Ends} {σ : St} {H : Hp} (c : Bool) (ht : ∀ Q : Bool → Hp → Prop, (∀ H', Same H H' → Q c H') → t σ H Q) (h : ∀ H', Same H H' → if c = true then a D σ H' else b D σ H') : tIfS t a b D σ H := ht _ h
def wayD (k : Kn) (d : D) : D := .tup [.str k.name, d]
def spRule : Sp := fun vs H Q _ => ∃ (kv : V) (wa : Addr) (dv : V) (ks2 : List Kn) (ys : List Wy) (k : Kn), vs = [kv, dv, .ref wa] ∧ RelD H kv (dKinds ks2) ∧ KWf ks2 ∧ WaysAt H wa ys ∧ RelD H dv k.d ∧ (k.parts.map (·.1)).Nodup ∧ k.parts.length ≤ 100 ∧ ∀ u H', Same H H' → optD H' u ((howBy ks2 ys k).map (wayD k)) → Q u H'
section
variable {P : Program} {w : World} {K : PySem.W.Frag} {mg : Str → Option Value} {base : Heap} {n m : Nat}
theorem ok__law_goes (T : Tx K mg) : DefIs P w K mg base (n + 1) "_law_goes" ["_law_ways", "_law_kind"] spGoes := by
 refine DefIs.of T.d__law_goes sc__law_goes (fun vs H Q E h => ?_) (fun f cdv A outer s H vs Q E hr h => ?_)
 ·obtain ⟨_, _, _, rfl, _⟩ := h
  rfl
 obtain ⟨a, ys, x, rfl, ⟨kvs, hd, hw⟩, q⟩ := h
 have nd := sc__law_goes.nd
 have hu := hu_of hr
 refine ⟨_, (pss_cons (ps_if (pt_cmpR op_eq (pv 1) pe_str (nomark _)) (pss_one (ps_ret (pv 1))) pss_nil)
   (pss_cons (ps_if (pt_cmp (pc_din hu (pv 1) (pv 0))) (pss_one (ps_ret (pe_ix ix_tup (pe_dget hu (pv 0) (pv 1) (fun _ _ => rfl)) pe_int (fun _ _ => rfl)))) pss_nil)
   (pss_one (ps_ret pe_non)))), ?_⟩
 unfold goesTo at q
 refine ⟨_, rfl, rfl, _, rfl, ite2 (fun c => ?_) (fun c => ?_)⟩
 ·have e : x = S "num" := V.str.inj (of_decide_eq_true c)
  rw [if_pos e] at q
  refine ⟨_, rfl, ?_⟩
  rw [e]
  exact q
 ·have e : ¬ x = S "num" := fun z => c (decide_eq_true (congrArg V.str z))
  rw [if_neg e] at q
  have hv := hw.val (x := x)
  cases hy : wyAt ys x with
  | none =>
   rw [hy] at q
   have h0 := hv.1 hy
   exact ⟨_, rfl, _, rfl, a, _, rfl, DGet.rd (k := Sum.inr x) hd, _, rfl, iteBF (by rw [h0]; rfl) q⟩
  | some y =>
   rw [hy] at q
   obtain ⟨v, h1, h2⟩ := hv.2 y hy
   refine ⟨_, rfl, _, rfl, a, _, rfl, DGet.rd (k := Sum.inr x) hd, _, rfl, iteBT (by rw [h1]; rfl) ?_⟩
   obtain ⟨b, us, rfl, hb, v0, _, rfl, r0, v1, _, rfl, r1, rfl⟩ := h2
   obtain rfl : v0 = .str y.2.1 := r0
   have g : DGet H a (.str x) (some (.ref b)) := by
    have := DGet.rd (k := Sum.inr x) hd
    rw [h1] at this
    exact this
   exact ⟨_, rfl, _, rfl, a, _, rfl, g, b, _, _, _, rfl, rfl, SqT.of hb, atI_nat (j := 0) rfl, q⟩
theorem ok__law_nought (T : Tx K mg) (spc : Sp) (D__law_sort_of : DefIs P w K mg base n "_law_sort_of" ["_law_kinds_here", "_law_kind"] spLSort) (D__law_nought : DefIs P w K mg base n "_law_nought" ["_law_kinds_here", "_law_kind"] spc) (hspc : ∀ j, m = j + 1 → spc = spNu nuT j) :
  DefIs P w K mg base (n + 1) "_law_nought" ["_law_kinds_here", "_law_kind"] (spNu nuT m) := by
 refine DefIs.of T.d__law_nought sc__law_nought (fun vs H Q E h => ?_) (fun f cdv A outer s H vs Q E hr h => ?_)
 ·obtain ⟨_, _, _, rfl, _⟩ := h
  rfl
 obtain ⟨v, ks, x, rfl, hk, wf, hin, q⟩ := h
 have nd := sc__law_nought.nd
 refine ⟨_, (pss_cons (ps_asg (pe_dcall D__law_sort_of hr (pa_cons (pv 0) (pa_cons (pv 1) pa_nil star_name) star_name)) (pg_tup rfl (pgs_cons (pg_name (i := 2) nd rfl (by first | exact Or.inl rfl | exact Or.inr rfl)) (pgs_cons (pg_name (i := 3) nd rfl (by first | exact Or.inl rfl | exact Or.inr rfl)) pgs_nil))))
   (pss_cons (ps_if (pt_cmpR op_eq (pv 2) pe_str (nomark _)) (pss_one (ps_ret (pe_tup (pa_cons pe_str (pa_cons pe_int pa_nil star_const) star_const)))) pss_nil)
   (pss_cons (ps_if (pt_cmpR op_eq (pv 2) pe_str (nomark _)) (pss_one (ps_ret (pe_tup (pa_cons pe_str (pa_cons (pv 1) (pa_cons (pe_ix ix_tup (pe_ix ix_tup (pv 3) pe_int (fun _ _ => rfl)) pe_int (fun _ _ => rfl)) (pa_cons (pe_dcall D__law_nought hr (pa_cons (pv 0) (pa_cons (pe_ix ix_tup (pe_ix ix_tup (pv 3) pe_int (fun _ _ => rfl)) pe_int (fun _ _ => rfl)) pa_nil star_sub) star_name)) pa_nil star_call) star_sub) star_name) star_const)))) pss_nil)
   (pss_one (ps_ret (pe_tup (pa_cons pe_str (pa_cons (pv 1) (pa_cons (pe_callTy call_tuple_of rfl T.z_tuple PyProof.Rows.boot_tuple (pa_cons (pe_comp ["_law_name", "_law_part", "_law_kinds_here"] [none, none, some 0] rfl (by kernel_rfl) (pi_tup (pv 3)) (fun _ _ _ _ => (pg_tupC (K := K) (n := 2) rfl rfl (pgs_cons (pg_name (i := 0) (by show List.Nodup (["_law_name", "_law_part", "_law_kinds_here"] : List Str); decide +kernel) rfl (Or.inl rfl)) (pgs_cons (pg_name (i := 1) (by show List.Nodup (["_law_name", "_law_part", "_law_kinds_here"] : List Str); decide +kernel) rfl (Or.inl rfl)) pgs_nil)))) (fun _ _ _ _ => pts_nil) (fun _ _ _ _ => (pe_dcall D__law_nought hr (pa_cons (pv 2) (pa_cons (pv 1) pa_nil star_name) star_name)))) pa_nil star_comp)) pa_nil star_call) star_name) star_const))))))), seq_cut fun R1 hR1 => ?_⟩
 refine ⟨_, rfl, _, rfl, v, ks, x, rfl, (wf.ksAt hk).seq, fun t pv' H1 s1 ht rp => ?_⟩
 refine ⟨t, _, rfl, SqT.of ht, rfl, _, _, rfl, _, _, rfl, rfl, hR1 _ _ (seq_cut fun R2 hR2 => ?_)⟩
 rcases hin.nu wf with ⟨rfl, _, e, _⟩ | ⟨j, k, rfl, hkx, hn, hm, hp, hne, hcase⟩
 ·refine ⟨_, rfl, rfl, _, rfl, iteKT (decide_eq_true (by rw [wf.num]; rfl)) ?_⟩
  refine ⟨(by show 2 ≤ sizeLine; decide), fun t ht => ?_⟩
  rw [e] at q
  exact q _ _ (s1.trans (Same.new ht _)) ⟨t, _, rfl, upd_same, _, _, rfl, rfl, _, _, rfl, rfl, rfl⟩
 ·have D' := hspc j rfl
  subst D'
  have hss : sortS (kAt ks x) = k.sort := by rw [hkx]; rfl
  refine ⟨_, rfl, rfl, _, rfl, iteKF (decide_eq_false (by
   rw [hss]
   unfold Kn.sort
   cases k.rc <;> decide +kernel)) ?_⟩
  rw [hkx] at rp
  obtain ⟨a, us, rfl, ha, hus⟩ := rp
  have hl := hus.length
  rw [List.length_map] at hl
  have h5 := wf.pts k hm
  refine hR2 _ _ (seq_cut fun R3 hR3 => ?_)
  rcases hcase with ⟨hc, e, _⟩ | ⟨hc, p, r, er, e, _⟩
  ·refine ⟨_, rfl, rfl, _, rfl, iteKF (decide_eq_false (by rw [hss, rec_sort hc]; decide +kernel)) (hR3 _ _ ?_)⟩
   refine ⟨_, rfl, _, rfl, a, rfl, ⟨_, SqT.of ha⟩, ?_⟩
   refine comp_tupG (xs := us) (fun i ys H' => Same H1 H' ∧ RelDs H' ys ((k.parts.take i).map fun p => nuT (j + 1) ks p.2)) ⟨Same.refl _, rfl⟩ (fitsLt (by omega)) (fun i ys H' _ p => SqT.of (p.1 _ _ ha)) ?_ ?_
   ·rintro i y ys H' hy hi hly ⟨sm, hys⟩
    obtain ⟨d, hd, rd⟩ := hus.get hy
    rw [List.getElem?_map] at hd
    obtain ⟨p, hp', rfl⟩ := Option.map_eq_some_iff.mp hd
    obtain ⟨b, ws, rfl, hb, _, _, rfl, rfl, _, _, rfl, rfl, rfl⟩ := rd
    refine ⟨b, _, rfl, SqT.of (sm _ _ hb), rfl, _, _, rfl, _, _, rfl, rfl, ext2 rfl rfl, yes_go ?_⟩
    refine ⟨_, rfl, _, rfl, _, ks, p.2, rfl, hk.same (s1.trans sm) _, wf, hp p (List.mem_of_getElem? hp'), fun u H2 s2 r2 => nxtG hi hly ⟨sm.trans s2, ?_⟩⟩
    rw [List.take_add_one, hp', List.map_append]
    exact (hys.same s2 _).append ⟨u, [], rfl, r2, rfl⟩
   ·rintro ys H' hly ⟨sm, hys⟩ D hD
    rw [List.take_of_length_le (by omega)] at hys
    refine ⟨D, ys, rfl, .inl ⟨SqL.of upd_same, fun l' hl' => ⟨(by show 3 ≤ sizeLine; decide), fun t ht => ?_⟩⟩⟩
    have s2 := Same.new hD (.lst ys)
    have s3 := Same.new hl' (.tup ys)
    have s4 := Same.new ht (.tup [.str (S "rec"), .str x, .ref l'])
    rw [e] at q
    exact q _ _ (s1.trans (sm.trans (s2.trans (s3.trans s4)))) ⟨t, _, rfl, upd_same, _, _, rfl, rfl, _, _, rfl, rfl, _, _, rfl, ⟨l', ys, rfl, s4 _ _ upd_same, hys.same (s2.trans (s3.trans s4)) _⟩, rfl⟩
  ·refine ⟨_, rfl, rfl, _, rfl, iteKT (decide_eq_true (by rw [hss, alt_sort hc]; rfl)) ?_⟩
   rw [er] at hus
   obtain ⟨vp, rest, rfl, rp, _⟩ := hus
   obtain ⟨b, ws, rfl, hb, _, _, rfl, rfl, _, _, rfl, rfl, rfl⟩ := rp
   have hSa : SqT K H1 a (.ref b :: rest) := SqT.of ha
   have at0 : atI (V.ref b :: rest) 0 = some (.ref b) := atI_nat (j := 0) rfl
   refine ⟨_, rfl, _, rfl, a, _, _, _, rfl, rfl, hSa, at0, b, _, _, _, rfl, rfl, SqT.of hb, atI_nat (j := 0) rfl, ?_⟩
   refine ⟨_, rfl, _, rfl, a, _, _, _, rfl, rfl, hSa, at0, b, _, _, _, rfl, rfl, SqT.of hb, rfl, ?_⟩
   refine ⟨_, ks, p.2, rfl, hk.same s1 _, wf, hp p (by rw [er]; simp), fun u H2 s2 r2 => ⟨(by show 4 ≤ sizeLine; decide), fun t ht => ?_⟩⟩
   have s3 := Same.new ht (.tup [.str (S "tag"), .str x, .str p.1, u])
   rw [e] at q
   exact q _ _ (s1.trans (s2.trans s3)) ⟨t, _, rfl, upd_same, _, _, rfl, rfl, _, _, rfl, rfl, _, _, rfl, rfl, _, _, rfl, r2.same s3 _, rfl⟩
theorem lnought_is (T : Tx K mg) : ∀ m, DefIs P w K mg base (m + 3) "_law_nought" ["_law_kinds_here", "_law_kind"] (spNu nuT m)
 | 0 => ok__law_nought (n := 2) T (fun _ _ _ _ => False) (ok__law_sort_of T) (DefIs.none T.d__law_nought fun _ _ _ _ h => h) (fun j e => by cases e)
 | m + 1 => ok__law_nought (n := m + 3) T (spNu nuT m) (ok__law_sort_of T) (lnought_is T m) (fun j e => by cases e; rfl)
theorem ok__law_rule (T : Tx K mg) (D__law_sort_of : DefIs P w K mg base n "_law_sort_of" ["_law_kinds_here", "_law_kind"] spLSort) (D__law_goes : DefIs P w K mg base n "_law_goes" ["_law_ways", "_law_kind"] spGoes) (D__law_nought : DefIs P w K mg base n "_law_nought" ["_law_kinds_here", "_law_kind"] (spNu nuT 6)) : DefIs P w K mg base (n + 1) "_law_rule" ["_law_kinds_here", "_law_row", "_law_ways"] spRule := by
 refine DefIs.of T.d__law_rule sc__law_rule (fun vs H Q E h => ?_) (fun f cdv A outer s H vs Q E hr h => ?_)
 ·obtain ⟨_, _, _, _, _, _, rfl, _⟩ := h
  rfl
 obtain ⟨kv, wa, dv, ks2, ys, k, rfl, hkv, wf2, hw, hdv, hnd, hl, q⟩ := h
 have nd := sc__law_rule.nd
 have hu := hu_of hr
 obtain ⟨da, _, rfl, hda, _, _, rfl, rfl, _, _, rfl, rfl, _, _, rfl, ⟨pa, pus, rfl, hpa, hpu⟩, rfl⟩ := hdv
 have hpl := hpu.length
 rw [List.length_map] at hpl
 refine ⟨_, (pss_cons (ps_asg (pv 1) (pg_tup rfl (pgs_cons (pg_name (i := 3) nd rfl (by first | exact Or.inl rfl | exact Or.inr rfl)) (pgs_cons (pg_name (i := 4) nd rfl (by first | exact Or.inl rfl | exact Or.inr rfl)) (pgs_cons (pg_name (i := 5) nd rfl (by first | exact Or.inl rfl | exact Or.inr rfl)) pgs_nil)))))
   (pss_cons (ps_asg (pe_dcall D__law_sort_of hr (pa_cons (pv 0) (pa_cons (pv 3) pa_nil star_name) star_name)) (pg_tup rfl (pgs_cons (pg_name (i := 6) nd rfl (by first | exact Or.inl rfl | exact Or.inr rfl)) (pgs_cons (pg_name (i := 7) nd rfl (by first | exact Or.inl rfl | exact Or.inr rfl)) pgs_nil))))
   (pss_cons (ps_if (pt_cmpR op_ne (pv 6) (pv 4) (nomark _)) (pss_one (ps_ret pe_non)) pss_nil)
   (pss_cons (ps_set (i := 8) nd rfl (by first | exact Or.inl rfl | exact Or.inr rfl) (pe_callTy (call_dictT rfl) rfl T.z_dict PyProof.Rows.boot_dict (pa_cons (pv 5) pa_nil star_name)))
   (pss_cons (ps_if (pt_cmpR op_eq (pv 4) pe_str (nomark _)) (pss_cons (ps_for PassesOwn.never rfl (pi_tup (pv 5)) (pg_tup rfl (pgs_cons (pg_name (i := 9) nd rfl (by first | exact Or.inl rfl | exact Or.inr rfl)) (pgs_cons (pg_name (i := 10) nd rfl (by first | exact Or.inl rfl | exact Or.inr rfl)) pgs_nil)))
   (pss_one (ps_if (PW.pt (pw_or (pt_cmpR op_isN (pe_dget1 hu (pe_callTy (call_dictT rfl) rfl T.z_dict PyProof.Rows.boot_dict (pa_cons (pv 7) pa_nil star_name)) (pv 9) ⟨rfl, rfl, rfl, rfl⟩) pe_non (nomark _)) (pw_or1 (pt_cmpR op_ne (pe_dcall D__law_goes hr (pa_cons (pv 2) (pa_cons (pv 10) pa_nil star_name) star_name)) (pe_dget hu (pe_callTy (call_dictT rfl) rfl T.z_dict PyProof.Rows.boot_dict (pa_cons (pv 7) pa_nil star_name)) (pv 9) (fun _ _ => rfl)) (nomark _))))) (pss_one (ps_ret pe_non)) pss_nil)))
   (pss_one (ps_ret (pe_tup (pa_cons (pv 3) (pa_cons (pe_callTy call_tuple_of rfl T.z_tuple PyProof.Rows.boot_tuple (pa_cons (pe_comp ["_law_t", "_law_part", "_law_name"] [none, none, some 3] rfl (by kernel_rfl) (pi_tup (pv 5)) (fun _ _ _ _ => (pg_tupC (K := K) (n := 2) rfl rfl (pgs_cons (pg_name (i := 0) (by show List.Nodup (["_law_t", "_law_part", "_law_name"] : List Str); decide +kernel) rfl (Or.inl rfl)) (pgs_cons (pg_name (i := 1) (by show List.Nodup (["_law_t", "_law_part", "_law_name"] : List Str); decide +kernel) rfl (Or.inl rfl)) pgs_nil)))) (fun _ _ _ _ => pts_nil) (fun _ _ _ _ => (pe_tup (pa_cons (pv 0) (pa_cons (pe_tup (pa_cons pe_str (pa_cons (pv 2) (pa_cons (pv 0) (pa_cons (pe_tup (pa_cons pe_str (pa_cons pe_str pa_nil star_const) star_const)) pa_nil star_tup) star_name) star_name) star_const)) pa_nil star_tup) star_name)))) pa_nil star_comp)) pa_nil star_call) star_name))))) pss_nil)
   (pss_cons (ps_set (i := 11) nd rfl (by first | exact Or.inl rfl | exact Or.inr rfl) (pe_lst pa_nil))
   (pss_cons (ps_for PassesOwn.never rfl (pi_tup (pv 7)) (pg_tup rfl (pgs_cons (pg_name (i := 12) nd rfl (by first | exact Or.inl rfl | exact Or.inr rfl)) (pgs_cons (pg_name (i := 10) nd rfl (by first | exact Or.inl rfl | exact Or.inr rfl)) pgs_nil)))
   (pss_cons (ps_if (PW.pt (pw_and (pt_cmp (pc_din hu (pv 12) (pv 8))) (pw_and1 (pt_cmpR op_ne (pe_dcall D__law_goes hr (pa_cons (pv 2) (pa_cons (pe_dget hu (pv 8) (pv 12) (fun _ _ => rfl)) pa_nil star_sub) star_name)) (pv 10) (nomark _))))) (pss_one (ps_ret pe_non)) pss_nil)
   (pss_one (ps_expr (pe_bm PySem.F.plainAttrs_list PySem.F.slot_list_append PySem.F.type_list_append mt_append (pv 11) (pa_cons (pe_ix ix_list (pe_lst (pa_cons (pe_dcall D__law_nought hr (pa_cons (pv 0) (pa_cons (pv 10) pa_nil star_name) star_name)) (pa_cons (pe_tup (pa_cons pe_str (pa_cons (pv 12) pa_nil star_name) star_const)) pa_nil star_tup) star_call)) (pe_callTy call_int1 rfl T.z_int PyProof.Rows.boot_int (pa_cons (pe_cmp (pc_din hu (pv 12) (pv 8))) pa_nil star_cmp)) (fun _ _ => rfl)) pa_nil star_sub))))))
   (pss_one (ps_ret (pe_tup (pa_cons (pv 3) (pa_cons (pe_tup (pa_cons pe_str (pa_cons (pv 3) (pa_cons (pe_callTy call_tuple_of rfl T.z_tuple PyProof.Rows.boot_tuple (pa_cons (pv 11) pa_nil star_name)) pa_nil star_call) star_name) star_const)) pa_nil star_tup) star_name))))))))))), seq_cut fun R1 hR1 => ?_⟩
 refine ⟨_, rfl, da, _, rfl, SqT.of hda, rfl, _, _, rfl, _, _, rfl, _, _, rfl, rfl, hR1 _ _ (seq_cut fun R2 hR2 => ?_)⟩
 refine ⟨_, rfl, _, rfl, kv, ks2, k.name, rfl, (wf2.ksAt hkv).seq, fun t gv H1 s1 ht rp => ?_⟩
 refine ⟨t, _, rfl, SqT.of ht, rfl, _, _, rfl, _, _, rfl, rfl, hR2 _ _ (seq_cut fun R3 hR3 => ?_)⟩
 have hret : ∀ H', Same H H' → howBy ks2 ys k = none → Q .non H' := fun H' s' e => q _ _ s' (by rw [e]; rfl)
 cases hk2 : kAt ks2 k.name with
 | none =>
  refine ⟨_, rfl, _, rfl, rfl, _, rfl, iteNT (fun z => ?_) (hret _ s1 (by unfold howBy; rw [hk2]))⟩
  have z' : S "num" = k.sort := V.str.inj z
  unfold Kn.sort at z'
  cases h1 : k.rc <;> rw [h1] at z' <;> exact absurd z' (by decide +kernel)
 | some k2 =>
  by_cases hrc : k2.rc = k.rc
  case neg =>
   refine ⟨_, rfl, _, rfl, rfl, _, rfl, iteNT (fun z => hrc ?_) (hret _ s1 (by unfold howBy; rw [hk2]; exact if_neg hrc))⟩
   have z' : k2.sort = k.sort := V.str.inj z
   unfold Kn.sort at z'
   cases h1 : k2.rc <;> cases h2 : k.rc
   ·rfl
   ·rw [h1, h2] at z'; exact absurd z' (by decide +kernel)
   ·rw [h1, h2] at z'; exact absurd z' (by decide +kernel)
   ·rfl
  have hsk : k2.sort = k.sort := by unfold Kn.sort; rw [hrc]
  refine ⟨_, rfl, _, rfl, rfl, _, rfl, iteNF (by show V.str k2.sort = V.str k.sort; rw [hsk]) ?_⟩
  have hm2 := List.mem_of_find?_eq_some hk2
  have hnd2 := wf2.pnd k2 hm2
  have h52 := wf2.pts k2 hm2
  rw [hk2] at rp
  obtain ⟨ga, gus, rfl, hga, hgu⟩ := rp
  have hgl := hgu.length
  rw [List.length_map] at hgl
  refine hR3 _ _ (seq_cut fun R4 hR4 => ?_)
  refine ⟨_, rfl, pa, pus, bKV k.parts, rfl, s1 _ _ hpa, pairs_bs (hpu.same s1 _), fun dp hdp => ?_⟩
  have y1 := Same.new hdp (.dK (mergeK [] (bKV k.parts)))
  have hdp2 : upd H1 dp (.dK (mergeK [] (bKV k.parts))) dp = some (.dK (mergeK [] (bKV k.parts))) := upd_same
  have s2 := s1.trans y1
  have hga2 := y1 _ _ hga
  have hgu2 := hgu.same y1 _
  refine hR4 _ _ (seq_cut fun R5 hR5 => ?_)
  generalize upd H1 dp (.dK (mergeK [] (bKV k.parts))) = H2 at y1 hdp2 s2 hga2 hgu2 ⊢
  have hpa2 := s2 _ _ hpa
  cases hc : k.rc with
  | false =>
   have ehow : howBy ks2 ys k = if k.parts.all (okT ys k2.parts) = true then some (tagsD k) else none := by
    unfold howBy
    rw [hk2]
    show (if k2.rc = k.rc then _ else _) = _
    rw [if_pos hrc, hc]
    rfl
   refine ⟨_, rfl, rfl, _, rfl, iteKT (decide_eq_true (by rw [alt_sort hc]; rfl)) (seq_cut fun R6 hR6 => ?_)⟩
   refine ⟨_, rfl, pa, rfl, ⟨_, SqT.of hpa2⟩, ?_⟩
   refine for_tup (xs := pus) (fun i σ H' => ∃ o9 o10, σ = [some kv, some (.ref da), some (.ref wa), some (.str k.name), some (.str k.sort), some (.ref pa), some (.str k2.sort), some (.ref ga), some (.ref dp), o9, o10, none, none] ∧ Same H2 H' ∧ (k.parts.take i).all (okT ys k2.parts) = true) ⟨none, none, rfl, Same.refl _, rfl⟩ (fun i σ H' _ p => by obtain ⟨_, _, _, sm, _⟩ := p; exact SqT.of (sm _ _ hpa2)) ?_ ?_
   ·rintro i v σ H' hv ⟨o9, o10, rfl, sm, hall⟩
    have s3 := s2.trans sm
    obtain ⟨d, hd', rd⟩ := (hpu.same s3 _).get hv
    rw [List.getElem?_map] at hd'
    obtain ⟨pr, hpr, rfl⟩ := Option.map_eq_some_iff.mp hd'
    obtain ⟨b, ws, rfl, hb, _, _, rfl, rfl, _, _, rfl, rfl, rfl⟩ := rd
    have hval := val_own hnd2 pr.1
    refine ⟨b, _, rfl, SqT.of hb, rfl, _, _, rfl, _, _, rfl, rfl, ?_⟩
    refine if_testS (!okT ys k2.parts pr) (fun Q hQ => ?_) (fun H3 s4 => ?_)
    ·refine ⟨_, rfl, ga, gus, bKV k2.parts, rfl, sm _ _ hga2, pairs_bs (hgu2.same sm _), fun d1 hd1 => ?_⟩
     have z1 := Same.new hd1 (.dK (mergeK [] (bKV k2.parts)))
     have g1 : DGet (upd H' d1 (.dK (mergeK [] (bKV k2.parts)))) d1 (.str pr.1) ((ownOf k2.parts pr.1).map V.str) := by
      have := DGet.k (H := upd H' d1 (.dK (mergeK [] (bKV k2.parts)))) (a := d1) (k := Sum.inr pr.1) upd_same
      rw [hval] at this
      exact this
     refine ⟨d1, rfl, .inl ⟨_, .inl upd_same⟩, _, rfl, _, g1, rfl, _, rfl, ?_⟩
     cases ho : ownOf k2.parts pr.1 with
     | none =>
      have e0 : okT ys k2.parts pr = false := by unfold okT; rw [ho]
      rw [e0] at hQ
      exact iteT (hQ _ z1)
     | some g =>
      have e0 : okT ys k2.parts pr = decide (goesTo ys pr.2 = some g) := by unfold okT; rw [ho]
      rw [e0] at hQ
      refine iteF ⟨_, rfl, _, rfl, wa, ys, pr.2, rfl, hw.same (s3.trans z1), ?_⟩
      refine ⟨_, rfl, ga, gus, bKV k2.parts, rfl, (sm.trans z1) _ _ hga2, pairs_bs (hgu2.same (sm.trans z1) _), fun d2 hd2 => ?_⟩
      have z2 := Same.new hd2 (.dK (mergeK [] (bKV k2.parts)))
      have g2 : DGet (upd (upd H' d1 (.dK (mergeK [] (bKV k2.parts)))) d2 (.dK (mergeK [] (bKV k2.parts)))) d2 (.str pr.1) (some (.str g)) := by
       have := DGet.k (H := upd (upd H' d1 (.dK (mergeK [] (bKV k2.parts)))) d2 (.dK (mergeK [] (bKV k2.parts)))) (a := d2) (k := Sum.inr pr.1) upd_same
       rw [hval, ho] at this
       exact this
      refine ⟨_, rfl, d2, _, rfl, g2, scal_opt _ _, _, rfl, ?_⟩
      have e1 : decide (optV (goesTo ys pr.2) = V.str g) = decide (goesTo ys pr.2 = some g) := by
       by_cases c : goesTo ys pr.2 = some g
       ·rw [decide_eq_true c, decide_eq_true (optV_eq.mpr c)]
       ·rw [decide_eq_false c, decide_eq_false fun z => c (optV_eq.mp z)]
      rw [e1]
      exact hQ _ (z1.trans z2)
    ·cases ho : okT ys k2.parts pr with
     | false =>
      refine iteT (hret _ (s3.trans s4) ?_)
      rw [ehow, if_neg]
      intro z
      have := List.all_eq_true.mp z pr (List.mem_of_getElem? hpr)
      rw [ho] at this
      cases this
     | true =>
      refine iteF ⟨_, _, rfl, sm.trans s4, ?_⟩
      rw [List.take_add_one, hpr]
      show (k.parts.take i ++ [pr]).all _ = true
      rw [List.all_append, hall, List.all_cons, ho]
      rfl
   ·rintro σ H' ⟨o9, o10, rfl, sm, hall⟩
    rw [List.take_of_length_le (by omega)] at hall
    refine hR6 _ _ ?_
    have s3 := s2.trans sm
    refine ⟨_, rfl, _, rfl, pa, rfl, ⟨_, SqT.of (sm _ _ hpa2)⟩, ?_⟩
    refine comp_tupG (xs := pus) (fun i zs H3 => Same H' H3 ∧ RelDs H3 zs ((k.parts.take i).map fun p => .tup [.str p.1, tTag k.name p.1 (tBox (S "it"))])) ⟨Same.refl _, rfl⟩ (fitsLt (by omega)) (fun i zs H3 _ p => SqT.of (p.1 _ _ (sm _ _ hpa2))) ?_ ?_
    ·rintro i y zs H3 hy hi hly ⟨sm3, hzs⟩
     obtain ⟨d, hd', rd⟩ := (hpu.same (s3.trans sm3) _).get hy
     rw [List.getElem?_map] at hd'
     obtain ⟨pr, hpr, rfl⟩ := Option.map_eq_some_iff.mp hd'
     obtain ⟨b, ws, rfl, hb, _, _, rfl, rfl, _, _, rfl, rfl, rfl⟩ := rd
     refine ⟨b, _, rfl, SqT.of hb, rfl, _, _, rfl, _, _, rfl, rfl, ext2 rfl rfl, yes_go ?_⟩
     refine ⟨_, rfl, _, rfl, _, rfl, (by show 2 ≤ sizeLine; decide), fun t1 ht1 => ⟨(by show 4 ≤ sizeLine; decide), fun t2 ht2 => ⟨(by show 2 ≤ sizeLine; decide), fun t3 ht3 => ?_⟩⟩⟩
     have x1 := Same.new ht1 (.tup [.str (Str.ofString "box"), .str (Str.ofString "it")])
     have x2 := Same.new ht2 (.tup [.str (Str.ofString "tag"), .str k.name, .str pr.1, .ref t1])
     have x3 := Same.new ht3 (.tup [.str pr.1, .ref t2])
     refine nxtG hi hly ⟨sm3.trans (x1.trans (x2.trans x3)), ?_⟩
     rw [List.take_add_one, hpr, List.map_append]
     exact (hzs.same (x1.trans (x2.trans x3)) _).append ⟨_, [], rfl, ⟨t3, _, rfl, upd_same, _, _, rfl, rfl, _, _, rfl, ⟨t2, _, rfl, x3 _ _ upd_same, _, _, rfl, rfl, _, _, rfl, rfl, _, _, rfl, rfl, _, _, rfl, ⟨t1, _, rfl, (x2.trans x3) _ _ upd_same, _, _, rfl, rfl, _, _, rfl, rfl, rfl⟩, rfl⟩, rfl⟩, rfl⟩
    rintro zs H3 hly ⟨sm3, hzs⟩ LD hD
    rw [List.take_of_length_le (by omega)] at hzs
    refine ⟨LD, zs, rfl, .inl ⟨SqL.of upd_same, fun l' hl' => ⟨(by show 2 ≤ sizeLine; decide), fun t5 ht5 => ?_⟩⟩⟩
    have x1 := Same.new hD (.lst zs)
    have x2 := Same.new hl' (.tup zs)
    have x3 := Same.new ht5 (.tup [.str k.name, .ref l'])
    refine q _ _ (s3.trans (sm3.trans (x1.trans (x2.trans x3)))) ?_
    rw [ehow, if_pos hall]
    exact ⟨t5, _, rfl, upd_same, _, _, rfl, rfl, _, _, rfl, ⟨l', zs, rfl, x3 _ _ upd_same, hzs.same (x1.trans (x2.trans x3)) _⟩, rfl⟩
  | true =>
   have ehow : howBy ks2 ys k = if k2.parts.all (okQ ys k.parts) = true then some (tRec k.name (k2.parts.map (tmQ ks2 k.parts))) else none := by
    unfold howBy
    rw [hk2]
    show (if k2.rc = k.rc then _ else _) = _
    rw [if_pos hrc, hc]
    rfl
   refine ⟨_, rfl, rfl, _, rfl, iteKF (decide_eq_false (by rw [rec_sort hc]; decide +kernel)) (hR5 _ _ (seq_cut fun R6 hR6 => ?_))⟩
   refine ⟨(by show 0 ≤ sizeLine; decide), fun l hl' => hR6 _ _ (seq_cut fun R7 hR7 => ?_)⟩
   have y2 := Same.new hl' (.lst [])
   have nl : H2 l = none := hl'
   have ne1 : dp ≠ l := ne_of_none hdp2 hl'
   refine ⟨_, rfl, ga, rfl, ⟨_, SqT.of (y2 _ _ hga2)⟩, ?_⟩
   refine for_tup (xs := gus) (fun i σ H' => ∃ o10 o12 us, σ = [some kv, some (.ref da), some (.ref wa), some (.str k.name), some (.str k.sort), some (.ref pa), some (.str k2.sort), some (.ref ga), some (.ref dp), none, o10, some (.ref l), o12] ∧ Same H2 H' ∧ H' l = some (.lst us) ∧ RelDs H' us ((k2.parts.take i).map (tmQ ks2 k.parts)) ∧ (k2.parts.take i).all (okQ ys k.parts) = true) ⟨none, none, [], rfl, y2, upd_same, rfl, rfl⟩ (fun i σ H' _ p => by obtain ⟨_, _, _, _, sm, _⟩ := p; exact SqT.of (sm _ _ hga2)) ?_ ?_
   ·rintro i v σ H' hv ⟨o10, o12, us, rfl, sm, hll, hus, hall⟩
    have s3 := s2.trans sm
    obtain ⟨d, hd', rd⟩ := (hgu2.same sm _).get hv
    rw [List.getElem?_map] at hd'
    obtain ⟨pr, hpr, rfl⟩ := Option.map_eq_some_iff.mp hd'
    obtain ⟨b, ws, rfl, hb, _, _, rfl, rfl, _, _, rfl, rfl, rfl⟩ := rd
    have hpm := List.mem_of_getElem? hpr
    have hval := val_own hnd pr.1
    have hlen := hus.length
    rw [List.length_map, List.length_take] at hlen
    have g : DGet H' dp (.str pr.1) ((ownOf k.parts pr.1).map V.str) := by
     have := DGet.k (H := H') (a := dp) (k := Sum.inr pr.1) (sm _ _ hdp2)
     rw [hval] at this
     exact this
    refine ⟨b, _, rfl, SqT.of hb, rfl, _, _, rfl, _, _, rfl, rfl, seq_cut fun S1 hS1 => ?_⟩
    refine if_test (!okQ ys k.parts pr) (fun Q hQ => ?_) ?_
    ·refine ⟨_, rfl, _, rfl, dp, _, rfl, g, _, rfl, ?_⟩
     cases ho : ownOf k.parts pr.1 with
     | none =>
      have e0 : okQ ys k.parts pr = true := by unfold okQ; rw [ho]
      rw [e0] at hQ
      exact hQ
     | some g0 =>
      rw [ho] at g
      have e0 : okQ ys k.parts pr = decide (goesTo ys g0 = some pr.2) := by unfold okQ; rw [ho]
      rw [e0] at hQ
      refine iteT ⟨_, rfl, _, rfl, _, rfl, dp, _, rfl, g, wa, ys, g0, rfl, hw.same s3, ?_⟩
      refine ⟨_, rfl, scal_opt _ _, _, rfl, ?_⟩
      have e1 : decide (optV (goesTo ys g0) = V.str pr.2) = decide (goesTo ys g0 = some pr.2) := by
       by_cases c : goesTo ys g0 = some pr.2
       ·rw [decide_eq_true c, decide_eq_true (optV_eq.mpr c)]
       ·rw [decide_eq_false c, decide_eq_false fun z => c (optV_eq.mp z)]
      rw [e1]
      exact hQ
    cases ho : okQ ys k.parts pr with
    | false =>
     refine iteT (hret _ s3 ?_)
     rw [ehow, if_neg]
     intro z
     have := List.all_eq_true.mp z pr hpm
     rw [ho] at this
     cases this
    | true =>
     refine iteF (hS1 _ _ ?_)
     refine ⟨_, rfl, .inl ⟨rfl, _, SqL.of hll⟩, ?_⟩
     refine ⟨_, rfl, _, rfl, kv, ks2, pr.2, rfl, hkv.same s3 _, wf2, kin_pt wf2 hm2 hpm, fun u H3 s4 ru => ?_⟩
     refine ⟨_, rfl, (by show 2 ≤ sizeLine; decide), fun t1 ht1 => ⟨(by show 2 ≤ sizeLine; decide), fun t2 ht2 => ?_⟩⟩
     have x1 := Same.new ht1 (.tup [.str (Str.ofString "box"), .str pr.1])
     have x2 := Same.new ht2 (.lst [u, .ref t1])
     have x12 := s4.trans (x1.trans x2)
     have g4 : DGet (upd (upd H3 t1 (.tup [.str (Str.ofString "box"), .str pr.1])) t2 (.lst [u, .ref t1])) dp (.str pr.1) ((ownOf k.parts pr.1).map V.str) := by
      have := DGet.k (H := upd (upd H3 t1 (.tup [.str (Str.ofString "box"), .str pr.1])) t2 (.lst [u, .ref t1])) (a := dp) (k := Sum.inr pr.1) (x12 _ _ (sm _ _ hdp2))
      rw [hval] at this
      exact this
     have hit : ∃ z, atI [u, V.ref t1] (if ((ownOf k.parts pr.1).map V.str).isSome = true then 1 else 0) = some z ∧ RelD (upd (upd H3 t1 (.tup [.str (Str.ofString "box"), .str pr.1])) t2 (.lst [u, .ref t1])) z (tmQ ks2 k.parts pr) := by
      unfold tmQ
      cases ownOf k.parts pr.1 with
      | none => exact ⟨u, atI_nat (j := 0) rfl, ru.same (x1.trans x2) _⟩
      | some g0 => exact ⟨.ref t1, atI_nat (j := 1) rfl, t1, _, rfl, x2 _ _ upd_same, _, _, rfl, rfl, _, _, rfl, rfl, rfl⟩
     obtain ⟨z, hz1, hz2⟩ := hit
     have hll4 := x12 _ _ hll
     refine ⟨_, rfl, _, rfl, dp, _, rfl, g4, .inr ⟨_, rfl, t2, _, _, _, rfl, rfl, SqL.of upd_same, hz1, l, us, z, rfl, rfl, hll4, fitsLt (by omega), ?_⟩⟩
     have tp := lst_tups hll4 (.lst (us ++ [z]))
     refine ⟨_, _, us ++ [z], rfl, same_upd (sm.trans x12) nl _, upd_same, ?_, ?_⟩
     ·rw [List.take_add_one, hpr]
      show RelDs _ _ ((k2.parts.take i ++ [pr]).map _)
      rw [List.map_append]
      have hz3 : RelDs (upd (upd H3 t1 (.tup [.str (Str.ofString "box"), .str pr.1])) t2 (.lst [u, .ref t1])) [z] [tmQ ks2 k.parts pr] := ⟨z, [], rfl, hz2, rfl⟩
      exact ((hus.same x12 _).append hz3).tups tp _
     ·rw [List.take_add_one, hpr]
      show (k2.parts.take i ++ [pr]).all _ = true
      rw [List.all_append, hall, List.all_cons, ho]
      rfl
   ·rintro σ H' ⟨o10, o12, us, rfl, sm, hll, hus, hall⟩
    rw [List.take_of_length_le (by omega)] at hus hall
    refine hR7 _ _ ?_
    refine ⟨_, rfl, _, rfl, _, rfl, l, us, rfl, .inl ⟨SqL.of hll, fun t4 ht4 => ⟨(by show 3 ≤ sizeLine; decide), fun t5 ht5 => ⟨(by show 2 ≤ sizeLine; decide), fun t6 ht6 => ?_⟩⟩⟩⟩
    have x1 := Same.new ht4 (.tup us)
    have x2 := Same.new ht5 (.tup [.str (Str.ofString "rec"), .str k.name, .ref t4])
    have x3 := Same.new ht6 (.tup [.str k.name, .ref t5])
    refine q _ _ (s2.trans (sm.trans (x1.trans (x2.trans x3)))) ?_
    rw [ehow, if_pos hall]
    exact ⟨t6, _, rfl, upd_same, _, _, rfl, rfl, _, _, rfl, ⟨t5, _, rfl, x3 _ _ upd_same, _, _, rfl, rfl, _, _, rfl, rfl, _, _, rfl, ⟨t4, us, rfl, (x2.trans x3) _ _ upd_same, hus.same (x1.trans (x2.trans x3)) _⟩, rfl⟩, rfl⟩
end
end K41
end
section
namespace K41
open PySem L2 M
seal L2.PE L2.PA L2.PS L2.PSs L2.PT L2.PW L2.PI L2.PG L2.PJ L2.PTs
def spDue : Sp := fun vs H Q _ => ∃ (ta : Addr) (kv1 kv2 : V) (ks ks2 : List Kn) (tkv : List (Key × V)) (told : List Wy), vs = [kv1, kv2, .ref ta] ∧ H ta = some (.dK tkv) ∧ WAll H tkv told ∧ told.length ≤ 100 ∧ RelD H kv1 (dKinds ks) ∧ KWf ks ∧ RelD H kv2 (dKinds ks2) ∧ KWf ks2 ∧
 ∀ r wa la kvs (ls : List Str) H', Same H H' → H' r = some (.tup [.ref wa, .ref la]) → H' wa = some (.dK kvs) → WAll H' kvs (wDue ks2 told ks) → H' la = some (.lst (ls.map V.str)) → ls = wLack ks2 ks told → H la = none → H wa = none → Q (.ref r) H'
theorem due_len1 {ks2 : List Kn} {told : List Wy} : ∀ {ks : List Kn}, (wDue ks2 told ks).length ≤ ks.length := by
 intro ks
 unfold wDue
 suffices h : ∀ (ks : List Kn) (ys : List Wy), (ks.foldl (dStep ks2 told) ys).length ≤ ys.length + ks.length by
  have := h ks []
  simpa using this
 intro ks
 induction ks with
 | nil => intro ys; exact Nat.le_refl _
 | cons k ks ih =>
  intro ys
  have h1 := ih (dStep ks2 told ys k)
  have h2 : (dStep ks2 told ys k).length ≤ ys.length + 1 := by
   unfold dStep
   cases dWay ks2 told ys k with
   | none => show ys.length ≤ _; omega
   | some y => show (ys ++ [y]).length ≤ _; simp
  show ((ks.foldl (dStep ks2 told) (dStep ks2 told ys k))).length ≤ ys.length + (ks.length + 1)
  omega
section
variable {P : Program} {w : World} {K : PySem.W.Frag} {mg : Str → Option Value} {base : Heap} {n m : Nat}
theorem ok__law_due (T : Tx K mg) (D__law_rule : DefIs P w K mg base n "_law_rule" ["_law_kinds_here", "_law_row", "_law_ways"] spRule) : DefIs P w K mg base (n + 1) "_law_due" ["_law_kinds_here", "_law_more", "_law_told_here"] spDue := by
 refine DefIs.of T.d__law_due sc__law_due (fun vs H Q E h => ?_) (fun f cdv A outer s H vs Q E hr h => ?_)
 ·obtain ⟨_, _, _, _, _, _, _, rfl, _⟩ := h
  rfl
 obtain ⟨ta, kv1, kv2, ks, ks2, tkv, told, rfl, hta, htw, htl, hk1, wf, hk2, wf2, q⟩ := h
 have nd := sc__law_due.nd
 have hu := hu_of hr
 obtain ⟨ka, kus, rfl, hka, hku⟩ := id hk1
 have hkl := hku.length
 rw [List.length_map] at hkl
 have hfew := wf.few
 refine ⟨_, (pss_cons (ps_set (i := 3) nd rfl (by first | exact Or.inl rfl | exact Or.inr rfl) pe_dnewK)
   (pss_cons (ps_set (i := 4) nd rfl (by first | exact Or.inl rfl | exact Or.inr rfl) (pe_lst pa_nil))
   (pss_cons (ps_for PassesOwn.never rfl (pi_tup (pv 0)) (pg_name (i := 5) nd rfl (by first | exact Or.inl rfl | exact Or.inr rfl))
   (pss_cons (ps_set (i := 6) nd rfl (by first | exact Or.inl rfl | exact Or.inr rfl) (pe_dget1 hu (pv 2) (pe_ix ix_tup (pv 5) pe_int (fun _ _ => rfl)) ⟨rfl, rfl, rfl, rfl⟩))
   (pss_cons (ps_if (pt_cmp (pc_dnotin hu (pe_ix ix_tup (pv 5) pe_int (fun _ _ => rfl)) (pv 2))) (pss_one (ps_set (i := 6) nd rfl (by first | exact Or.inl rfl | exact Or.inr rfl) (pe_dcall D__law_rule hr (pa_cons (pv 1) (pa_cons (pv 5) (pa_cons (pv 3) pa_nil star_name) star_name) star_name)))) pss_nil)
   (pss_one (ps_if (pt_cmpR op_isN (pv 6) pe_non (nomark _)) (pss_one (ps_expr (pe_bm PySem.F.plainAttrs_list PySem.F.slot_list_append PySem.F.type_list_append mt_append (pv 4) (pa_cons (pe_ix ix_tup (pv 5) pe_int (fun _ _ => rfl)) pa_nil star_sub)))) (pss_one (ps_dput hu (pv 3) (pe_ix ix_tup (pv 5) pe_int (fun _ _ => rfl)) (pv 6) rfl)))))))
   (pss_one (ps_ret (pe_tup (pa_cons (pv 3) (pa_cons (pv 4) pa_nil star_name) star_name))))))), seq_cut fun R1 hR1 => ?_⟩
 refine fun wa hwa => hR1 _ _ (seq_cut fun R2 hR2 => ?_)
 have y1 := Same.new hwa (.dK [])
 refine ⟨(by show 0 ≤ sizeLine; decide), fun la hla => hR2 _ _ (seq_cut fun R3 hR3 => ?_)⟩
 have y2 := Same.new hla (.lst [])
 have wl : wa ≠ la := ne_of_none upd_same hla
 have nla : H la = none := none_back y1 hla
 have y12 := y1.trans y2
 refine ⟨_, rfl, ka, rfl, ⟨_, SqT.of (y12 _ _ hka)⟩, ?_⟩
 refine for_tup (xs := kus) (fun i σ H' => ∃ o5 o6 kvs, ∃ ls : List Str, σ = [some (.ref ka), some kv2, some (.ref ta), some (.ref wa), some (.ref la), o5, o6] ∧ Same H H' ∧ H' wa = some (.dK kvs) ∧ WAll H' kvs (wDue ks2 told (ks.take i)) ∧ H' la = some (.lst (ls.map V.str)) ∧ ls = wLack ks2 (ks.take i) told ∧ ls.length ≤ i)
  ⟨none, none, [], [], rfl, y12, y2 _ _ upd_same, trivial, upd_same, rfl, Nat.le_refl _⟩ (fun i σ H' _ p => ?_) ?_ ?_
 ·obtain ⟨_, _, _, _, _, sm, _⟩ := p
  exact SqT.of (sm _ _ hka)
 ·rintro i v σ H' hv ⟨o5, o6, kvs, ls, rfl, sm, hw, hwl, hll, hlk, hlsl⟩
  obtain ⟨d, hd', rd⟩ := (hku.same sm _).get hv
  rw [List.getElem?_map] at hd'
  obtain ⟨k, hk, rfl⟩ := Option.map_eq_some_iff.mp hd'
  have hkm := List.mem_of_getElem? hk
  have rd' := rd
  obtain ⟨da, _, rfl, hda, _, _, rfl, rfl, _, _, rfl, rfl, pv', _, rfl, hpv, rfl⟩ := rd'
  have hil : i < ks.length := (List.getElem?_eq_some_iff.mp hk).1
  have hlen := hwl.len
  have hdl := due_len1 (ks2 := ks2) (told := told) (ks := ks.take i)
  rw [List.length_take] at hdl
  have hnone := ((due_same wf (ks2 := ks2) (told := told) i (by omega)).2 i k (Nat.le_refl _) hk).1
  have hnv : valV kvs (Sum.inr k.name : Key) = none := (hwl.val (x := k.name)).1 hnone
  have hlack := lack_same wf (ks2 := ks2) (told := told) hk
  have htv := (htw.tups fun b us e => sm _ _ e).val (x := k.name)
  have hget := DGet.k (H := H') (a := ta) (k := Sum.inr k.name) (sm _ _ hta)
  refine seq_cut fun S1 hS1 => ?_
  have key1 : ∀ (wv : V), wv = ((valV tkv (Sum.inr k.name : Key)).getD .non) → S1 [some (.ref ka), some kv2, some (.ref ta), some (.ref wa), some (.ref la), some (.ref da), some wv] H' := by
   intro wv hwv
   refine hS1 _ _ (seq_cut fun S2 hS2 => ?_)
   have key : ∀ (wv : V) (H1 : Hp), Same H' H1 → optD H1 wv ((dWay ks2 told (wDue ks2 told (ks.take i)) k).map wyD) → S2 [some (.ref ka), some kv2, some (.ref ta), some (.ref wa), some (.ref la), some (.ref da), some wv] H1 := by
    intro wv H1 s1 hop
    refine hS2 _ _ ?_
    rw [take_snoc hk, due_snoc, lack_snoc, ← hlack]
    unfold dStep dL1
    cases hdw : dWay ks2 told (wDue ks2 told (ks.take i)) k with
    | none =>
     rw [hdw] at hop
     obtain rfl : wv = .non := hop
     refine ⟨_, rfl, rfl, _, rfl, iteT ?_⟩
     have hll1 := s1 _ _ hll
     refine ⟨_, rfl, .inl ⟨rfl, _, SqL.of hll1⟩, _, rfl, da, _, _, _, rfl, rfl, SqT.of (s1 _ _ hda), atI_nat (j := 0) rfl, la, _, _, rfl, rfl, hll1, fitsLt (by rw [List.length_map]; omega), ?_⟩
     have tp := lst_tups hll1 (.lst (ls.map V.str ++ [.str k.name]))
     exact ⟨_, _, kvs, ls ++ [k.name], rfl, same_upd (sm.trans s1) nla _, by rw [upd_ne wl]; exact s1 _ _ hw, (hwl.tups fun b us e => s1 _ _ e).tups tp, by rw [List.map_append]; exact upd_same, by rw [hlk], by rw [List.length_append, List.length_singleton]; omega⟩
    | some y =>
     rw [hdw] at hop
     have hop' : RelD H1 wv (wyD y) := hop
     obtain ⟨wb, rfl⟩ := tup_ref hop'
     refine ⟨_, rfl, rfl, _, rfl, iteF ?_⟩
     have hw1 := s1 _ _ hw
     refine ⟨_, rfl, _, rfl, _, rfl, da, _, _, _, rfl, rfl, SqT.of (s1 _ _ hda), atI_nat (j := 0) rfl, wa, _, rfl, DPut.k (k := Sum.inr k.name) hw1 (fitsLt (by omega)), ?_⟩
     rw [put_new hnv]
     have tp := dk_tupsP hw1 (.dK (kvs ++ [(Sum.inr k.name, .ref wb)]))
     refine ⟨_, _, _, ls, rfl, same_upd (sm.trans s1) hwa _, upd_same, ((hwl.tups fun b us e => s1 _ _ e).snoc (kv := (Sum.inr k.name, .ref wb)) (y := y) ⟨by rw [dway_name hdw], hop'⟩).tups tp, ?_, by rw [hlk]; exact (List.append_nil _).symm, by omega⟩
     rw [upd_ne (Ne.symm wl)]
     exact s1 _ _ hll
   refine if_test ((wyAt told k.name).isNone) (fun Q hQ => ?_) ?_
   ·refine ⟨_, rfl, da, _, _, _, rfl, rfl, SqT.of hda, atI_nat (j := 0) rfl, _, rfl, ta, _, rfl, hget, _, rfl, ?_⟩
    cases hwt : wyAt told k.name with
    | none =>
     rw [hwt] at hQ
     rw [htv.1 hwt]
     exact hQ
    | some y =>
     rw [hwt] at hQ
     obtain ⟨v', h1, _⟩ := htv.2 y hwt
     rw [h1]
     exact hQ
   cases hwt : wyAt told k.name with
   | some y =>
    obtain ⟨v', h1, h2⟩ := htv.2 y hwt
    refine iteF (key _ _ (Same.refl _) ?_)
    rw [hwv, h1]
    unfold dWay
    rw [hwt]
    exact h2
   | none =>
    refine iteT ⟨_, rfl, _, rfl, _, rfl, kv2, wa, .ref da, ks2, _, k, rfl, hk2.same sm _, wf2, ⟨kvs, .inl hw, hwl⟩, rd, wf.pnd k hkm, by have := wf.pts k hkm; omega, fun u H1 s1 ru => key _ _ s1 ?_⟩
    unfold dWay
    rw [hwt]
    cases hb : howBy ks2 (wDue ks2 told (ks.take i)) k with
    | none => rw [hb] at ru; exact ru
    | some d => rw [hb] at ru; exact ru
  refine ⟨_, rfl, ta, rfl, .inl ⟨_, .inl (sm _ _ hta)⟩, _, rfl, da, _, _, _, rfl, rfl, SqT.of hda, atI_nat (j := 0) rfl, _, hget, key1 _ rfl⟩
 ·rintro σ H' ⟨o5, o6, kvs, ls, rfl, sm, hw, hwl, hll, hlk, hlsl⟩
  rw [List.take_of_length_le (by omega)] at hwl hlk
  refine hR3 _ _ ⟨_, rfl, _, rfl, (by show 2 ≤ sizeLine; decide), fun r hr' => ?_⟩
  have y := Same.new hr' (.tup [.ref wa, .ref la])
  exact q r wa la kvs ls _ (sm.trans y) upd_same (y _ _ hw) (hwl.tups fun b us e => y _ _ e) (y _ _ hll) hlk nla hwa
theorem due_is (T : Tx K mg) : DefIs P w K mg base 12 "_law_due" ["_law_kinds_here", "_law_more", "_law_told_here"] spDue :=
 ok__law_due (n := 11) T (ok__law_rule (n := 10) T (ok__law_sort_of T) (ok__law_goes T) ((lnought_is T 6).mono (by omega)))
end
end K41
end
section
namespace L2
open PySem PySem.Spec PyProof.Rows
section
variable {X : Cx}
theorem call_sumA (hc : X.calm = true) : CallR X (.builtin "sum") (fun xs H Q => ∃ p, ∃ ns : List Int, xs = [.ref p] ∧ SqL X.K H p (ns.map V.int) ∧ Q (.int ns.sum) H) := by
 intro pins s σ H xs us Q I r h
 obtain ⟨p, ns, rfl, hq, q⟩ := h
 obtain ⟨u, rfl, ru⟩ := vals1 r
 cases ru
 obtain ⟨its, rv, pl, hz⟩ := I.list hq
 have hi := intsAre_of rv
 obtain ⟨xs, e⟩ := hi.allInts.items
 have hns : ns = xs.toList.map (·.1) := by rw [← hi.numsOf, ← nums_intItems, ← e]
 have hl := pl.isList
 rw [e] at hl
 have hsz : xs.size = ns.length := by rw [hns, List.length_map, Array.length_toList]
 refine sum_intListG (I.ok.hd hc) hl fun h' tk t' k => ⟨.int ns.sum, H, I.kept k, ?_, q⟩
 refine ⟨t', ?_⟩
 rw [preSum_eq, ← hns, List.take_of_length_le (by omega)]
end
end L2
end
section
namespace K41
open PySem L2 M
seal L2.PE L2.PA L2.PS L2.PSs L2.PT L2.PW L2.PI L2.PG L2.PJ L2.PTs
theorem cut01 (ns : List Int) : cutV (ns.map V.int) none (some 1) = (ns.take 1).map V.int := by
 unfold cutV
 rw [HT.sIx_none, show ((1 : Int)) = ((1 : Nat) : Int) from rfl, HT.sIx_nat]
 cases ns with
 | nil => rfl
 | cons n ns => simp
theorem kbes_over {nms : List Str} {ks : List Kn} (h : KOver nms ks) : KBes nms ks := ⟨h.1, h.2.1, fun k hk p hp => by
 have h9 := (h.2.2.2 k hk).2
 have h10 : p.1 ∈ k.parts.map (·.1) := List.mem_map_of_mem hp
 rw [h9] at h10
 exact List.mem_of_mem_drop (List.mem_of_mem_take (List.mem_of_mem_take h10))⟩
def spLaw (K : PySem.W.Frag) : Sp := fun vs H Q _ => ∃ (a : Addr) (ns : List Int), vs = [.ref a] ∧ SqL K H a (ns.map V.int) ∧ ns.length ≤ 63 ∧ ∀ H', Q (.bl true) H'
section
variable {P : Program} {w : World} {K : PySem.W.Frag} {mg : Str → Option Value} {base : Heap} {n m : Nat}
theorem ok_law (T : Tx K mg) (D__law_feed : DefIs P w K mg base n "_law_feed" ["_law_script", "_law_k"] (spFeed K)) (D__law_names : DefIs P w K mg base n "_law_names" ["_law_cell", "_law_many"] spNames) (D__law_kinds : DefIs P w K mg base n "_law_kinds" ["_law_feed_here", "_law_names_here"] spKinds) (D__law_beside : DefIs P w K mg base n "_law_beside" ["_law_feed_here", "_law_kinds_here", "_law_names_here"] spBes) (D__law_told : DefIs P w K mg base n "_law_told" ["_law_feed_here", "_law_first", "_law_kinds_here"] spTold) (D__law_due : DefIs P w K mg base n "_law_due" ["_law_kinds_here", "_law_more", "_law_told_here"] spDue) (D__law_goes : DefIs P w K mg base n "_law_goes" ["_law_ways", "_law_kind"] spGoes) (D_made_ways : DefIs P w K mg base n "made_ways" ["first", "second", "told"] spMade) (D_goes_to : DefIs P w K mg base n "goes_to" ["ways", "kind"] spGoes) :
  DefIs P w K mg base (n + 1) "law" ["_law_script"] (spLaw K) := by
 refine DefIs.of T.d_law sc_law (fun vs H Q E h => ?_) (fun f cdv A outer s H vs Q E hr h => ?_)
 ·obtain ⟨_, _, rfl, _⟩ := h
  rfl
 obtain ⟨a, ns, rfl, hS, h63, k⟩ := h
 have nd := sc_law.nd
 have hu := hu_of hr
 have hu2 := hu2_of hr
 refine ⟨_, (pss_cons (ps_set (i := 1) nd rfl (by first | exact Or.inl rfl | exact Or.inr rfl) (pe_dcall D__law_names hr (pa_cons (pe_op op_fdivB (pe_callB (call_sumA rfl) rfl T.z_sum PyProof.Rows.boot_sum (pa_cons (pe_slice sl_list (pv 0) po_none (po_some pe_int)) pa_nil star_sub)) pe_int) (pa_cons pe_int pa_nil star_const) star_bin)))
   (pss_cons (ps_set (i := 2) nd rfl (by first | exact Or.inl rfl | exact Or.inr rfl) (pe_dcall D__law_kinds hr (pa_cons (pe_dcall D__law_feed hr (pa_cons (pv 0) (pa_cons pe_int pa_nil star_const) star_name)) (pa_cons (pv 1) pa_nil star_name) star_call)))
   (pss_cons (ps_set (i := 3) nd rfl (by first | exact Or.inl rfl | exact Or.inr rfl) (pe_tup (pa_cons (pv 2) (pa_cons (pe_tup pa_nil) (pa_cons (pe_tup pa_nil) pa_nil star_tup) star_tup) star_name)))
   (pss_cons (ps_set (i := 4) nd rfl (by first | exact Or.inl rfl | exact Or.inr rfl) (pe_tup (pa_cons (pe_dcall D__law_beside hr (pa_cons (pe_dcall D__law_feed hr (pa_cons (pv 0) (pa_cons pe_int pa_nil star_const) star_name)) (pa_cons (pv 2) (pa_cons (pv 1) pa_nil star_name) star_name) star_call)) (pa_cons (pe_tup pa_nil) (pa_cons (pe_tup pa_nil) pa_nil star_tup) star_tup) star_call)))
   (pss_cons (ps_set (i := 5) nd rfl (by first | exact Or.inl rfl | exact Or.inr rfl) (pe_ix ix_tup (pe_dcall D__law_told hr (pa_cons (pe_dcall D__law_feed hr (pa_cons (pv 0) (pa_cons pe_int pa_nil star_const) star_name)) (pa_cons (pv 3) (pa_cons (pe_ix ix_tup (pv 4) pe_int (fun _ _ => rfl)) pa_nil star_sub) star_name) star_call)) pe_int (fun _ _ => rfl)))
   (pss_cons (ps_for PassesOwn.never rfl (pi_list (pe_lst (pa_cons pe_dnewK (pa_cons (pv 5) pa_nil star_name) star_dict))) (pg_name (i := 6) nd rfl (by first | exact Or.inl rfl | exact Or.inr rfl))
   (pss_cons (ps_set (i := 7) nd rfl (by first | exact Or.inl rfl | exact Or.inr rfl) (pe_callTy call_dict1 rfl T.z_dict PyProof.Rows.boot_dict (pa_cons (pv 6) pa_nil star_name)))
   (pss_cons (ps_set (i := 8) nd rfl (by first | exact Or.inl rfl | exact Or.inr rfl) (pe_dcall D__law_due hr (pa_cons (pv 2) (pa_cons (pe_ix ix_tup (pv 4) pe_int (fun _ _ => rfl)) (pa_cons (pv 6) pa_nil star_name) star_sub) star_name)))
   (pss_cons (ps_set (i := 9) nd rfl (by first | exact Or.inl rfl | exact Or.inr rfl) (pe_dcall D_made_ways hr (pa_cons (pv 3) (pa_cons (pv 4) (pa_cons (pv 7) pa_nil star_name) star_name) star_name)))
   (pss_cons (ps_if (PW.pt (pw_or (pt_not (pt_val (pe_callB call_isinst rfl T.z_isinstance PyProof.Rows.boot_isinstance (pa_cons (pv 9) (pa_cons (pe_gty T.z_tuple PyProof.Rows.boot_tuple) pa_nil star_name) star_name)))) (pw_or (pt_cmpR (op_neDL hu2) (pv 9) (pv 8) (nomark _)) (pw_or (pt_cmpR (op_neK hu2) (pv 7) (pv 6) (nomark _)) (pw_or1 (pt_not (pt_val (pe_callB call_isinst rfl T.z_isinstance PyProof.Rows.boot_isinstance (pa_cons (pe_ix ix_tup (pv 9) pe_int (fun _ _ => rfl)) (pa_cons (pe_gty T.z_list PyProof.Rows.boot_list) pa_nil star_name) star_sub))))))))) (pss_one (ps_ret pe_bl)) pss_nil)
   (pss_cons (ps_for PassesOwn.never rfl (pi_list (pe_op op_cat (pe_lst (pa_cons pe_str pa_nil star_const)) (pe_comp ["_law_row"] [none] rfl (by kernel_rfl) (pi_tup (pv 2)) (fun _ _ _ _ => (pg_name (i := 0) (by show List.Nodup (["_law_row"] : List Str); decide +kernel) rfl (Or.inl rfl))) (fun _ _ _ _ => pts_nil) (fun _ _ _ _ => (pe_ix (ix_tupC (K := K) rfl) (pv 0) pe_int (fun _ _ => rfl)))))) (pg_name (i := 10) nd rfl (by first | exact Or.inl rfl | exact Or.inr rfl))
   (pss_one (ps_if (pt_cmpR op_ne (pe_dcall D_goes_to hr (pa_cons (pe_ix ix_tup (pv 9) pe_int (fun _ _ => rfl)) (pa_cons (pv 10) pa_nil star_name) star_sub)) (pe_dcall D__law_goes hr (pa_cons (pe_ix ix_tup (pv 8) pe_int (fun _ _ => rfl)) (pa_cons (pv 10) pa_nil star_name) star_sub)) (nomark _)) (pss_one (ps_ret pe_bl)) pss_nil)))
   (pss_cons (ps_expr (pe_dclear (pe_ix ix_tup (pv 9) pe_int (fun _ _ => rfl))))
   (pss_cons (ps_expr (pe_bm PySem.F.plainAttrs_list PySem.F.slot_list_append PySem.F.type_list_append mt_append (pe_ix ix_tup (pv 9) pe_int (fun _ _ => rfl)) (pa_cons pe_str pa_nil star_const)))
   (pss_one (ps_if (pt_cmpR (op_neDL hu2) (pe_dcall D_made_ways hr (pa_cons (pv 3) (pa_cons (pv 4) (pa_cons (pv 7) pa_nil star_name) star_name) star_name)) (pv 8) (nomark _)) (pss_one (ps_ret pe_bl)) pss_nil))))))))))
   (pss_one (ps_ret pe_bl)))))))), seq_cut fun R1 hR1 => ?_⟩
 refine ⟨_, rfl, _, rfl, a, _, rfl, hS, fun c0 hc0 => ?_⟩
 rw [cut01]
 have s0 := Same.new hc0 (.lst ((ns.take 1).map V.int))
 refine ⟨c0, ns.take 1, rfl, SqL.of upd_same, _, _, rfl, rfl, ⟨by decide, by decide⟩, _, rfl, fun b H1 nms s1 hb0 hb hok hby => ?_⟩
 have s01 := s0.trans s1
 refine hR1 _ _ (seq_cut fun R2 hR2 => ?_)
 refine ⟨_, rfl, a, ns, 1, rfl, s01.seq hS, h63, by decide, fun r p q nr => ?_⟩
 have sr := Same.new nr (.lst [.int p, .int q])
 have br : b ≠ r := ne_of_none hb nr
 refine ⟨_, rfl, r, b, p, q, nms, rfl, upd_same, sr _ _ hb, hok, br, fun kv ks H2 f2 hk hK hfit => ?_⟩
 have hKo := hK
 obtain ⟨wf, h4, hkn, hKp⟩ := hK
 have sH2 : Same H1 H2 := Fed.back nr sr f2
 have hb2 := sH2 _ _ hb
 have s02 := s01.trans sH2
 obtain ⟨ka, kus, rfl, hka, hku⟩ := id hk
 refine hR2 _ _ (seq_cut fun R3 hR3 => ?_)
 refine ⟨_, rfl, (by show 0 ≤ sizeLine; decide), fun e1 he1 => ⟨(by show 0 ≤ sizeLine; decide), fun e2 he2 => ⟨(by show 3 ≤ sizeLine; decide), fun fa hfa => ?_⟩⟩⟩
 have sF := (Same.new he1 (.tup [])).trans ((Same.new he2 (.tup [])).trans (Same.new hfa (.tup [.ref ka, .ref e1, .ref e2])))
 have hfa3 : upd (upd (upd H2 e1 (.tup [])) e2 (.tup [])) fa (.tup [.ref ka, .ref e1, .ref e2]) fa = some (.tup [.ref ka, .ref e1, .ref e2]) := upd_same
 have s03 := s02.trans sF
 have hb3 := sF _ _ hb2
 have hk3 := hk.same sF _
 clear sr f2 hfit
 generalize upd (upd (upd H2 e1 (.tup [])) e2 (.tup [])) fa (.tup [.ref ka, .ref e1, .ref e2]) = H3 at sF hfa3 s03 hb3 hk3 ⊢
 refine hR3 _ _ (seq_cut fun R4 hR4 => ?_)
 refine ⟨_, rfl, a, ns, 2, rfl, s03.seq hS, h63, by decide, fun r2 p2 q2 nr2 => ?_⟩
 have sr2 := Same.new nr2 (.lst [.int p2, .int q2])
 have br2 : b ≠ r2 := ne_of_none hb3 nr2
 refine ⟨_, rfl, _, rfl, r2, b, .ref ka, p2, q2, ks, nms, rfl, upd_same, hk3.same sr2 _, hKo, sr2 _ _ hb3, hok, br2, fun mv ks2 H4 f4 rmv hbes => ?_⟩
 have s34 : Same H3 H4 := Fed.back nr2 sr2 f4
 obtain ⟨wf2, hl2, hpn2⟩ := hbes
 refine ⟨(by show 0 ≤ sizeLine; decide), fun e3 he3 => ⟨(by show 0 ≤ sizeLine; decide), fun e4 he4 => ⟨(by show 3 ≤ sizeLine; decide), fun sa hsa => ?_⟩⟩⟩
 have sS := (Same.new he3 (.tup [])).trans ((Same.new he4 (.tup [])).trans (Same.new hsa (.tup [mv, .ref e3, .ref e4])))
 have hsa5 : upd (upd (upd H4 e3 (.tup [])) e4 (.tup [])) sa (.tup [mv, .ref e3, .ref e4]) sa = some (.tup [mv, .ref e3, .ref e4]) := upd_same
 have s35 := s34.trans sS
 have hk25 := rmv.same sS _
 clear sr2
 generalize upd (upd (upd H4 e3 (.tup [])) e4 (.tup [])) sa (.tup [mv, .ref e3, .ref e4]) = H5 at sS hsa5 s35 hk25 ⊢
 have hfa5 := s35 _ _ hfa3
 have hk15 := hk3.same s35 _
 have pnb1 : PNB ks := fun kk hkk p hp => (hby _ ((kbes_over hKo).2.2 kk hkk p hp)).1
 have pnb2 : PNB ks2 := fun kk hkk p hp => (hby _ (hpn2 kk hkk p hp)).1
 refine hR4 _ _ (seq_cut fun R5 hR5 => ?_)
 refine ⟨_, rfl, a, ns, 3, rfl, (s03.trans s35).seq hS, h63, by decide, fun r3 p3 q3 nr3 => ?_⟩
 have sr3 := Same.new nr3 (.lst [.int p3, .int q3])
 refine ⟨_, rfl, _, rfl, sa, _, _, _, rfl, rfl, SqT.of (sr3 _ _ hsa5), atI_nat (j := 0) rfl, r3, fa, .ref ka, mv, _, p3, q3, ks, ks2, rfl, upd_same, sr3 _ _ hfa5, hk15.same sr3 _, wf, pnb1, hk25.same sr3 _, wf2, pnb2, fun rr ta wa tkv kvs told H6 f6 hrr hta htw hwa hww htok htnd htl => ?_⟩
 have s56 : Same H5 H6 := Fed.back nr3 sr3 f6
 refine ⟨rr, _, _, _, rfl, rfl, SqT.of hrr, atI_nat (j := 0) rfl, ?_⟩
 have hnm : ∀ y ∈ told, ∃ k ∈ ks, k.name = y.1 := fun y hy => by
  obtain ⟨k, hk, _⟩ := htok y hy
  exact ⟨k, List.mem_of_find?_eq_some hk, kn_name hk⟩
 have s06 := (s03.trans s35).trans s56
 refine hR5 _ _ (seq_cut fun R6 hR6 => ?_)
 refine fun e0 he0 => ⟨_, rfl, (by show 2 ≤ sizeLine; decide), fun L hL => ?_⟩
 have y1 := Same.new he0 (.dK [])
 have y2 := Same.new hL (.lst [.ref e0, .ref ta])
 have hL7 : upd (upd H6 e0 (.dK [])) L (.lst [.ref e0, .ref ta]) L = some (.lst [.ref e0, .ref ta]) := upd_same
 have he7 := y2 _ _ (show upd H6 e0 (.dK []) e0 = some (.dK []) from upd_same)
 have s67 := y1.trans y2
 have hta7 := s67 _ _ hta
 have htw7 := htw.tups fun b us e => s67 _ _ e
 have s57 := s56.trans s67
 generalize upd (upd H6 e0 (.dK [])) L (.lst [.ref e0, .ref ta]) = H7 at hL7 he7 s67 hta7 htw7 s57 ⊢
 have hfa7 := s57 _ _ hfa5
 have hsa7 := s57 _ _ hsa5
 have hk17 := hk15.same s57 _
 have hk27 := hk25.same s57 _
 refine ⟨L, rfl, ⟨_, SqL.of hL7⟩, ?_⟩
 refine for_list (xs := [.ref e0, .ref ta]) (fun i σ HX => ∃ o6 o7 o8 o9 o10, σ = [some (.ref a), some (.ref b), some (.ref ka), some (.ref fa), some (.ref sa), some (.ref ta), o6, o7, o8, o9, o10] ∧ Same H7 HX) ⟨none, none, none, none, none, rfl, Same.refl _⟩ (fun i σ HX _ p => by obtain ⟨_, _, _, _, _, _, sX⟩ := p; exact SqL.of (sX _ _ hL7)) ?_ ?_
 ·rintro i gv σ HX hgv ⟨o6, o7, o8, o9, o10, rfl, sX⟩
  obtain ⟨ga, gkv, told', rfl, hga, hgw, hgl, hgn, hgd, hgm⟩ : ∃ (ga : Addr) (gkv : List (Key × V)) (told' : List Wy), gv = .ref ga ∧ HX ga = some (.dK gkv) ∧ WAll HX gkv told' ∧ told'.length ≤ 6 ∧ (told'.map (·.1)).Nodup ∧ ToldOk ks ks2 told' ∧ ∀ y ∈ told', ∃ k ∈ ks, k.name = y.1 := by
   match i, hgv with
   | 0, hgv =>
    cases hgv
    exact ⟨e0, [], [], rfl, sX _ _ he7, trivial, by simp, List.nodup_nil, (fun _ h => nomatch h), (fun _ h => nomatch h)⟩
   | 1, hgv =>
    cases hgv
    exact ⟨ta, tkv, told, rfl, sX _ _ hta7, htw7.tups fun b us e => sX _ _ e, htl, htnd, htok, hnm⟩
  refine seq_cut fun S1 hS1 => ?_
  refine ⟨_, rfl, ga, gkv, rfl, hga, fun hc hhc => ?_⟩
  have yh := Same.new hhc (.dK gkv)
  have right := made_right wf wf2 hgd
  have hcY : upd HX hc (.dK gkv) hc = some (.dK gkv) := upd_same
  have hgaY := yh _ _ hga
  have hgwY := hgw.tups fun b us e => yh _ _ e
  have sY := sX.trans yh
  refine hS1 _ _ (seq_cut fun S2 hS2 => ?_)
  generalize upd HX hc (.dK gkv) = HY at yh hcY hgaY hgwY sY ⊢
  refine ⟨_, rfl, _, rfl, sa, _, _, _, rfl, rfl, SqT.of (sY _ _ hsa7), atI_nat (j := 0) rfl, _, rfl, ga, .ref ka, mv, ks, ks2, gkv, told', rfl, hgaY, hgwY, by omega, hk17.same sY _, wf, hk27.same sY _, wf2, fun d1 wa la kvs ls H8 s8 hd1 hwa hwd hla hls nla nwa => ?_⟩
  refine hS2 _ _ (seq_cut fun S3 hS3 => ?_)
  have sY8 := sY.trans s8
  have hc8 := s8 _ _ hcY
  have hg8 := hgwY.tups fun b us e => s8 _ _ e
  refine ⟨_, rfl, _, rfl, _, rfl, fa, sa, hc, .ref ka, mv, _, _, ks, ks2, gkv, told', rfl, sY8 _ _ hfa7, sY8 _ _ hsa7, hc8, hg8, by omega, hk17.same sY8 _, wf, hk27.same sY8 _, wf2, fun r2 wa2 la2 kvs2 ls2 H9 s9 nr2 nwa2 nla2 hr2 hwa2 hwd2 hla2 hls2 => ?_⟩
  refine hS3 _ _ (seq_cut fun S4 hS4 => ?_)
  have sY9 := sY8.trans s9
  have hkl : kvs2.length = kvs.length := by rw [hwd.len, hwd2.len, due_len wf hgm hgn]
  have hll : ls2 = ls := by rw [hls2.2, hls]
  subst hll
  have hcmp : ∀ {HZ : Hp} {kvsZ : List (Key × V)}, WAll HZ kvsZ (wMade ks2 ks told') → WAll HZ kvs (wDue ks2 told' ks) → ∀ p ∈ kvsZ, ∃ v d, valV kvs p.1 = some v ∧ RelD HZ p.2 d ∧ RelD HZ v d ∧ d.deep ≤ 150 := by
   intro HZ kvsZ h1 h2 p hp
   obtain ⟨j, hj, ej⟩ := List.mem_iff_getElem.mp hp
   obtain ⟨y, hy, e1, e2⟩ := h1.get (i := j) (kv := p) (by rw [← ej]; exact List.getElem?_eq_getElem hj)
   have hym := List.mem_of_getElem? hy
   have hya : wyAt (wDue ks2 told' ks) y.1 = some y := by
    rw [due_made wf hgm]
    exact wyAt_self (made_nd hgn) hym
   obtain ⟨v, g1, g2⟩ := (h2.val (x := y.1)).2 y hya
   refine ⟨v, wyD y, by rw [e1]; exact g1, e2, g2, ?_⟩
   have := wright_deep wf (right y hym)
   omega
  have hwd9 := hwd.tups fun b us e => s9 _ _ e
  have hgoes : ∀ x, goesTo (wMade ks2 ks told') x = goesTo (wDue ks2 told' ks) x := fun x => goes_congr (due_made wf hgm x).symm
  refine if_test false (fun Q hQ => ?_) (iteF ?_)
  ·refine ⟨_, rfl, _, _, _, _, _, rfl, fun u hu' => hu', TyOf.tup hr2, rfl, _, rfl, ?_⟩
   refine iteF ⟨_, rfl, _, rfl, r2, d1, wa2, wa, la2, la, kvs2, kvs, ls2, rfl, rfl, hr2, s9 _ _ hd1, hwa2, s9 _ _ hwa, hkl, hcmp hwd2 hwd9, hla2, s9 _ _ hla, _, rfl, iteF ?_⟩
   refine ⟨_, rfl, _, rfl, hc, ga, gkv, rfl, rfl, s9 _ _ hc8, s9 _ _ (s8 _ _ hgaY), fun p hp => ?_, _, rfl, iteF ?_⟩
   ·obtain ⟨j, hj, ej⟩ := List.mem_iff_getElem.mp hp
    obtain ⟨y, hy, e1, e2⟩ := (hg8.tups fun b us e => s9 _ _ e).get (i := j) (kv := p) (by rw [← ej]; exact List.getElem?_eq_getElem hj)
    have := wright_deep wf (hgd y (List.mem_of_getElem? hy))
    exact ⟨wyD y, e2, by omega⟩
   ·exact ⟨_, rfl, r2, _, _, _, rfl, rfl, SqT.of hr2, atI_nat (j := 1) rfl, _, _, _, _, _, rfl, fun u hu' => hu', TyOf.lst hla2, rfl, _, rfl, hQ⟩
  refine hS4 _ _ (seq_cut fun S5 hS5 => ?_)
  have hka9 := sY9 _ _ (s57 _ _ (s35 _ _ (sF _ _ hka)))
  have hku9 := (((hku.same sF _).same s35 _).same s57 _).same sY9 _
  have hkul := hku.length
  rw [List.length_map] at hkul
  have hfew := wf.few
  refine ⟨(by show 1 ≤ sizeLine; decide), fun l3 hl3 => ?_⟩
  have y3 := Same.new hl3 (.lst [.str (Str.ofString "num")])
  have hl33 : upd H9 l3 (.lst [.str (Str.ofString "num")]) l3 = some (.lst [.str (Str.ofString "num")]) := upd_same
  generalize upd H9 l3 (.lst [.str (Str.ofString "num")]) = HA at y3 hl33 ⊢
  refine ⟨_, rfl, ka, rfl, ⟨_, SqT.of (y3 _ _ hka9)⟩, ?_⟩
  refine comp_tupG (xs := kus) (fun i zs HB => HB = HA ∧ zs = (ks.take i).map fun k => V.str k.name) ⟨rfl, rfl⟩ (fitsLt (by omega)) (fun i zs HB _ p => by obtain ⟨rfl, _⟩ := p; exact SqT.of (y3 _ _ hka9)) ?_ ?_
  ·rintro i y zs HB hy hi hly ⟨rfl, rfl⟩
   obtain ⟨d, hd', rd⟩ := (hku9.same y3 _).get hy
   rw [List.getElem?_map] at hd'
   obtain ⟨kk, hk, rfl⟩ := Option.map_eq_some_iff.mp hd'
   obtain ⟨b9, _, rfl, hb9, _, _, rfl, rfl, _, _, rfl, rfl, v3, _, rfl, r3, rfl⟩ := rd
   refine ⟨ext_set rfl, yes_go ⟨_, rfl, b9, _, _, _, rfl, rfl, SqT.of hb9, atI_nat (j := 0) rfl, nxtG hi hly ⟨rfl, ?_⟩⟩⟩
   rw [take_snoc hk, List.map_append]
   rfl
  rintro zs HB hly ⟨rfl, rfl⟩ l4 hl4
  rw [List.take_of_length_le (by omega)]
  have y4 := Same.new hl4 (.lst (ks.map fun k => V.str k.name))
  refine ⟨l3, l4, _, _, rfl, rfl, y4 _ _ hl33, upd_same, fits (by rw [List.length_map]; show 1 + _ ≤ _; omega), fun l5 hl5 => ?_⟩
  have y5 := Same.new hl5 (.lst ([.str (Str.ofString "num")] ++ ks.map fun k => V.str k.name))
  have hl55 : upd (upd HB l4 (.lst (ks.map fun k => V.str k.name))) l5 (.lst ([.str (Str.ofString "num")] ++ ks.map fun k => V.str k.name)) l5 = some (.lst ([.str (Str.ofString "num")] ++ ks.map fun k => V.str k.name)) := upd_same
  have s9C := y3.trans (y4.trans y5)
  generalize upd (upd HB l4 (.lst (ks.map fun k => V.str k.name))) l5 (.lst ([.str (Str.ofString "num")] ++ ks.map fun k => V.str k.name)) = HC at hl55 s9C ⊢
  have hr2C := s9C _ _ hr2
  have hwa2C := s9C _ _ hwa2
  have hla2C := s9C _ _ hla2
  have hd1C := s9C _ _ (s9 _ _ hd1)
  have hwaC := s9C _ _ (s9 _ _ hwa)
  have hlaC := s9C _ _ (s9 _ _ hla)
  have hwdC := hwd9.tups fun b us e => s9C _ _ e
  have hwd2C := hwd2.tups fun b us e => s9C _ _ e
  refine ⟨l5, rfl, ⟨_, SqL.of hl55⟩, ?_⟩
  refine for_list (xs := [V.str (Str.ofString "num")] ++ ks.map fun k => V.str k.name) (fun i σ HD => ∃ o10, σ = [some (.ref a), some (.ref b), some (.ref ka), some (.ref fa), some (.ref sa), some (.ref ta), some (.ref ga), some (.ref hc), some (.ref d1), some (.ref r2), o10] ∧ HD = HC) ⟨_, rfl, rfl⟩ (fun i σ HD _ p => by obtain ⟨_, _, rfl⟩ := p; exact SqL.of hl55) ?_ ?_
  ·rintro i xv σ HD hxv ⟨o10, rfl, rfl⟩
   obtain ⟨x, rfl⟩ : ∃ x, xv = .str x := by
    rcases List.mem_append.mp (List.mem_of_getElem? hxv) with h | h
    ·rw [List.mem_singleton.mp h]; exact ⟨_, rfl⟩
    ·obtain ⟨kk, _, rfl⟩ := List.mem_map.mp h
     exact ⟨_, rfl⟩
   refine ⟨_, rfl, r2, _, _, _, rfl, rfl, SqT.of hr2C, atI_nat (j := 0) rfl, _, rfl, wa2, wMade ks2 ks told', x, rfl, ⟨kvs2, .inl hwa2C, hwd2C⟩, ?_⟩
   refine ⟨_, rfl, d1, _, _, _, rfl, rfl, SqT.of hd1C, atI_nat (j := 0) rfl, _, rfl, wa, wDue ks2 told' ks, x, rfl, ⟨kvs, .inl hwaC, hwdC⟩, ?_⟩
   rw [hgoes x]
   refine ⟨by cases goesTo (wDue ks2 told' ks) x <;> rfl, _, rfl, iteNF rfl ⟨_, rfl, rfl⟩⟩
  rintro σ HD ⟨o10, rfl, rfl⟩
  refine hS5 _ _ (seq_cut fun S6 hS6 => ?_)
  refine ⟨_, rfl, r2, _, _, _, rfl, rfl, SqT.of hr2C, atI_nat (j := 0) rfl, wa2, kvs2, rfl, hwa2C, hS6 _ _ (seq_cut fun S7 hS7 => ?_)⟩
  have nwl : la2 ≠ wa2 := fun e => by rw [e, hwa2] at hla2; cases hla2
  have hla2' : upd HD wa2 (.dK []) la2 = some (.lst (ls2.map V.str)) := by rw [upd_ne nwl]; exact hla2C
  refine ⟨_, rfl, r2, _, _, _, rfl, rfl, SqT.of (dk_tupsP hwa2C _ _ _ hr2C), atI_nat (j := 1) rfl, .inl ⟨rfl, _, SqL.of hla2'⟩, la2, _, _, rfl, rfl, hla2', fitsLt (by rw [List.length_map]; have := hls2.1; omega), hS7 _ _ ?_⟩
  have sL : Same H8 (upd (upd HD wa2 (.dK [])) la2 (.lst (ls2.map V.str ++ [.str (Str.ofString "num")]))) := same_upd (same_upd (s9.trans s9C) nwa2 _) nla2 _
  generalize upd (upd HD wa2 (.dK [])) la2 (.lst (ls2.map V.str ++ [.str (Str.ofString "num")])) = HE at sL ⊢
  have sYE := sY8.trans sL
  refine ⟨_, rfl, _, rfl, _, rfl, fa, sa, hc, .ref ka, mv, _, _, ks, ks2, gkv, told', rfl, sYE _ _ hfa7, sYE _ _ hsa7, sL _ _ hc8, hg8.tups fun b us e => sL _ _ e, by omega, hk17.same sYE _, wf, hk27.same sYE _, wf2, fun r3 wa3 la3 kvs3 ls3 HF s12 _ _ _ hr3 hwa3 hwd3 hla3 hls3 => ?_⟩
  have sLF := sL.trans s12
  have hll3 : ls3 = ls2 := by rw [hls3.2, hls2.2]
  subst hll3
  have hwdF := hwd.tups fun b us e => sLF _ _ e
  refine ⟨_, rfl, r3, d1, wa3, wa, la3, la, kvs3, kvs, ls3, rfl, rfl, hr3, sLF _ _ hd1, hwa3, sLF _ _ hwa, by rw [hwd.len, hwd3.len, due_len wf hgm hgn], hcmp hwd3 hwdF, hla3, sLF _ _ hla, _, rfl, iteF ?_⟩
  exact ⟨_, _, _, _, _, rfl, sYE.trans s12⟩
 ·rintro σ HX ⟨o6, o7, o8, o9, o10, rfl, sX⟩
  exact hR6 _ _ (k HX)
theorem law_is (T : Tx K mg) : DefIs P w K mg base 100 "law" ["_law_script"] (spLaw K) := by
 have take : ∀ k, DefIs P w K mg base (k + 1) "_law_take" ["_law_feed_here", "_law_many"] spTake := fun k => ok__law_take T
 have size : DefIs P w K mg base 28 "_law_size" ["_law_kinds_here", "_law_kind"] (spSize 6) := (size_is T 6 (by omega)).mono (by omega)
 have parts : DefIs P w K mg base 30 "_law_parts" ["_law_feed_here", "_law_kinds_here", "_law_sort", "_law_names_here"] spParts := ok__law_parts T (take 28) (size.mono (by omega))
 have made : DefIs P w K mg base 90 "made_ways" ["first", "second", "told"] spMade := (made_is T).mono (by omega)
 have anyk : ∀ k, DefIs P w K mg base (k + 2) "_law_any_kind" ["_law_feed_here", "_law_kinds_here"] spAny := fun k => ok__law_any_kind T (take k)
 have way : DefIs P w K mg base 90 "_law_way" ["_law_feed_here", "_law_first", "_law_kinds_here", "_law_ways", "_law_name"] spWay := ok__law_way (n := 89) T (ok__law_sort_of T) (anyk 87) (ok_goes_to T) ((new_term_is T).mono (by omega))
 have told : DefIs P w K mg base 91 "_law_told" ["_law_feed_here", "_law_first", "_law_kinds_here"] spTold := ok__law_told (n := 90) T (take 89) made way
 have bes : DefIs P w K mg base 40 "_law_beside" ["_law_feed_here", "_law_kinds_here", "_law_names_here"] spBes := ok__law_beside (n := 39) T (take 38) (ok__law_beside_parts (n := 38) T (take 37) (anyk 36)) (parts.mono (by omega)) (size.mono (by omega))
 exact ok_law (n := 99) T (ok__law_feed T) (ok__law_names T) ((ok__law_kinds T (take 29) parts).mono (by omega)) (bes.mono (by omega)) (told.mono (by omega)) ((due_is T).mono (by omega)) (ok__law_goes T) (made.mono (by omega)) (ok_goes_to T)
end
end K41
end
noncomputable def PySem.W.Fast.tw8769170564027391905 : Nat := 0
noncomputable def PySem.W.Fast.tw2485361868525448796 : Nat := 0
noncomputable def PySem.W.Fast.tw9692853051134241626 : Nat := 0
noncomputable def PySem.W.Fast.tw6333391323057324443 : Nat := 0
noncomputable def PySem.W.Fast.tw5385073866655698635 : Nat := 0
noncomputable def PySem.W.Fast.tw5122244482794042160 : Nat := 0
noncomputable def PySem.W.Fast.tw16441184360566977430 : Nat := 0
noncomputable def PySem.W.Fast.tw1320487378639937720 : Nat := 0
noncomputable def PySem.W.Fast.tw3412596607412085651 : Nat := 0
noncomputable def PySem.W.Fast.tw16795934845111163656 : Nat := 0
noncomputable def PySem.W.Fast.tw16196944308798031759 : Nat := 0
noncomputable def PySem.W.Fast.tw608477065041680138 : Nat := 0
noncomputable def PySem.W.Fast.tw14192347924806960168 : Nat := 0
noncomputable def PySem.W.Fast.tw1308493366791640844 : Nat := 0
noncomputable def PySem.W.Fast.tw2617210129891651717 : Nat := 0
noncomputable def PySem.W.Fast.tw15073793004965014135 : Nat := 0
noncomputable def PySem.W.Fast.tw15210866170365291567 : Nat := 0
noncomputable def PySem.W.Fast.tw717972245584051220 : Nat := 0
noncomputable def PySem.W.Fast.tw10434761904987986752 : Nat := 0
noncomputable def PySem.W.Fast.tw2547741257925023488 : Nat := 0
noncomputable def PySem.W.Fast.tw16394333023730207127 : Nat := 0
noncomputable def PySem.W.Fast.tw2687145880706192068 : Nat := 0
noncomputable def PySem.W.Fast.tw159482667766390680 : Nat := 0
noncomputable def PySem.W.Fast.tw8125457337756330199 : Nat := 0
noncomputable def PySem.W.Fast.tw1093195582611212522 : Nat := 0
noncomputable def PySem.W.Fast.tw15712743421754804457 : Nat := 0
noncomputable def PySem.W.Fast.tw9336141606010715500 : Nat := 0
noncomputable def PySem.W.Fast.tw11972841133067777012 : Nat := 0
noncomputable def PySem.W.Fast.tw14801194586098923754 : Nat := 0
open PySem PySem.W PyProof.Rows
set_option maxRecDepth 100000 in
set_option maxHeartbeats 0 in
theorem PySem.Challenge.cw_swapstride_k41_ways_by_rules_holds : PySem.Challenge.rw_swapstride_k41_ways_by_rules.Holds := by
 w_on; o_law; k_head; (case hw => w_witness2)
 k_fill
 refine L2.walk_of (l := PySem.Challenge.rw_swapstride_k41_ways_by_rules) (n := 63) (k := 100) (x := "_law_script") (CX := fun _ => L2.CX0) (sp := fun _ => K41.spLaw _) rfl (by decide) rfl ⟨rfl, by decide, by decide⟩ (fun w h Y => PySem.W.kIn_of Y) ?F (fun _ _ a ns hl _ hS => ⟨a, ns, rfl, hS, hl, fun _ => rfl⟩) fun _ _ _ _ _ z => z
 case F =>
  intro w mg fa h KX G hmg
  have d_sort_of : L2.DefTx (L2.KOf KX) mg "sort_of" K41.s_sort_of ["kinds", "K"] := by
   dsimp only [L2.KOf]
   refine' L2.deftx_mk KX G ?a ?l ?c ?k ?b
   (case a => k_is); (case l => k_is); (case c => k_is); (case k => k_is)
   (case b => exact fun _ _ _ _ _ _ us hl => match us, hl with | [_, _], _ => rfl)
  have d_parts_of : L2.DefTx (L2.KOf KX) mg "parts_of" K41.s_parts_of ["kinds", "K"] := by
   dsimp only [L2.KOf]
   refine' L2.deftx_mk KX G ?a ?l ?c ?k ?b
   (case a => k_is); (case l => k_is); (case c => k_is); (case k => k_is)
   (case b => exact fun _ _ _ _ _ _ us hl => match us, hl with | [_, _], _ => rfl)
  have d_nought_term : L2.DefTx (L2.KOf KX) mg "nought_term" K41.s_nought_term ["kinds", "kind"] := by
   dsimp only [L2.KOf]
   refine' L2.deftx_mk KX G ?a ?l ?c ?k ?b
   (case a => k_is); (case l => k_is); (case c => k_is); (case k => k_is)
   (case b => exact fun _ _ _ _ _ _ us hl => match us, hl with | [_, _], _ => rfl)
  have d_goes_to : L2.DefTx (L2.KOf KX) mg "goes_to" K41.s_goes_to ["ways", "kind"] := by
   dsimp only [L2.KOf]
   refine' L2.deftx_mk KX G ?a ?l ?c ?k ?b
   (case a => k_is); (case l => k_is); (case c => k_is); (case k => k_is)
   (case b => exact fun _ _ _ _ _ _ us hl => match us, hl with | [_, _], _ => rfl)
  have d_made_ways : L2.DefTx (L2.KOf KX) mg "made_ways" K41.s_made_ways ["first", "second", "told"] := by
   dsimp only [L2.KOf]
   refine' L2.deftx_mk KX G ?a ?l ?c ?k ?b
   (case a => k_is); (case l => k_is); (case c => k_is); (case k => k_is)
   (case b => exact fun _ _ _ _ _ _ us hl => match us, hl with | [_, _, _], _ => rfl)
  have d_how_by_rules : L2.DefTx (L2.KOf KX) mg "how_by_rules" K41.s_how_by_rules ["kinds", "ways", "kind"] := by
   dsimp only [L2.KOf]
   refine' L2.deftx_mk KX G ?a ?l ?c ?k ?b
   (case a => k_is); (case l => k_is); (case c => k_is); (case k => k_is)
   (case b => exact fun _ _ _ _ _ _ us hl => match us, hl with | [_, _, _], _ => rfl)
  have d_terms_by_rules : L2.DefTx (L2.KOf KX) mg "terms_by_rules" K41.s_terms_by_rules ["kinds", "ways", "olds", "news"] := by
   dsimp only [L2.KOf]
   refine' L2.deftx_mk KX G ?a ?l ?c ?k ?b
   (case a => k_is); (case l => k_is); (case c => k_is); (case k => k_is)
   (case b => exact fun _ _ _ _ _ _ us hl => match us, hl with | [_, _, _, _], _ => rfl)
  have d_tags_by_rules : L2.DefTx (L2.KOf KX) mg "tags_by_rules" K41.s_tags_by_rules ["kinds", "ways", "kind"] := by
   dsimp only [L2.KOf]
   refine' L2.deftx_mk KX G ?a ?l ?c ?k ?b
   (case a => k_is); (case l => k_is); (case c => k_is); (case k => k_is)
   (case b => exact fun _ _ _ _ _ _ us hl => match us, hl with | [_, _, _], _ => rfl)
  have d__law_feed : L2.DefTx (L2.KOf KX) mg "_law_feed" K41.s__law_feed ["_law_script", "_law_k"] := by
   dsimp only [L2.KOf]
   refine' L2.deftx_mk KX G ?a ?l ?c ?k ?b
   (case a => k_is); (case l => k_is); (case c => k_is); (case k => k_is)
   (case b => exact fun _ _ _ _ _ _ us hl => match us, hl with | [_, _], _ => rfl)
  have d__law_take : L2.DefTx (L2.KOf KX) mg "_law_take" K41.s__law_take ["_law_feed_here", "_law_many"] := by
   dsimp only [L2.KOf]
   refine' L2.deftx_mk KX G ?a ?l ?c ?k ?b
   (case a => k_is); (case l => k_is); (case c => k_is); (case k => k_is)
   (case b => exact fun _ _ _ _ _ _ us hl => match us, hl with | [_, _], _ => rfl)
  have d__law_names : L2.DefTx (L2.KOf KX) mg "_law_names" K41.s__law_names ["_law_cell", "_law_many"] := by
   dsimp only [L2.KOf]
   refine' L2.deftx_mk KX G ?a ?l ?c ?k ?b
   (case a => k_is); (case l => k_is); (case c => k_is); (case k => k_is)
   (case b => exact fun _ _ _ _ _ _ us hl => match us, hl with | [_, _], _ => rfl)
  have d__law_number : L2.DefTx (L2.KOf KX) mg "_law_number" K41.s__law_number ["_law_feed_here"] := by
   dsimp only [L2.KOf]
   refine' L2.deftx_mk KX G ?a ?l ?c ?k ?b
   (case a => k_is); (case l => k_is); (case c => k_is); (case k => k_is)
   (case b => exact fun _ _ _ _ _ _ us hl => match us, hl with | [_], _ => rfl)
  have d__law_sort_of : L2.DefTx (L2.KOf KX) mg "_law_sort_of" K41.s__law_sort_of ["_law_kinds_here", "_law_kind"] := by
   dsimp only [L2.KOf]
   refine' L2.deftx_mk KX G ?a ?l ?c ?k ?b
   (case a => k_is); (case l => k_is); (case c => k_is); (case k => k_is)
   (case b => exact fun _ _ _ _ _ _ us hl => match us, hl with | [_, _], _ => rfl)
  have d__law_size : L2.DefTx (L2.KOf KX) mg "_law_size" K41.s__law_size ["_law_kinds_here", "_law_kind"] := by
   dsimp only [L2.KOf]
   refine' L2.deftx_mk KX G ?a ?l ?c ?k ?b
   (case a => k_is); (case l => k_is); (case c => k_is); (case k => k_is)
   (case b => exact fun _ _ _ _ _ _ us hl => match us, hl with | [_, _], _ => rfl)
  have d__law_small : L2.DefTx (L2.KOf KX) mg "_law_small" K41.s__law_small ["_law_kinds_here", "_law_kind"] := by
   dsimp only [L2.KOf]
   refine' L2.deftx_mk KX G ?a ?l ?c ?k ?b
   (case a => k_is); (case l => k_is); (case c => k_is); (case k => k_is)
   (case b => exact fun _ _ _ _ _ _ us hl => match us, hl with | [_, _], _ => rfl)
  have d__law_parts : L2.DefTx (L2.KOf KX) mg "_law_parts" K41.s__law_parts ["_law_feed_here", "_law_kinds_here", "_law_sort", "_law_names_here"] := by
   dsimp only [L2.KOf]
   refine' L2.deftx_mk KX G ?a ?l ?c ?k ?b
   (case a => k_is); (case l => k_is); (case c => k_is); (case k => k_is)
   (case b => exact fun _ _ _ _ _ _ us hl => match us, hl with | [_, _, _, _], _ => rfl)
  have d__law_kinds : L2.DefTx (L2.KOf KX) mg "_law_kinds" K41.s__law_kinds ["_law_feed_here", "_law_names_here"] := by
   dsimp only [L2.KOf]
   refine' L2.deftx_mk KX G ?a ?l ?c ?k ?b
   (case a => k_is); (case l => k_is); (case c => k_is); (case k => k_is)
   (case b => exact fun _ _ _ _ _ _ us hl => match us, hl with | [_, _], _ => rfl)
  have d__law_boxed : L2.DefTx (L2.KOf KX) mg "_law_boxed" K41.s__law_boxed ["_law_feed_here", "_law_some"] := by
   dsimp only [L2.KOf]
   refine' L2.deftx_mk KX G ?a ?l ?c ?k ?b
   (case a => k_is); (case l => k_is); (case c => k_is); (case k => k_is)
   (case b => exact fun _ _ _ _ _ _ us hl => match us, hl with | [_, _], _ => rfl)
  have d__law_arms : L2.DefTx (L2.KOf KX) mg "_law_arms" K41.s__law_arms ["_law_feed_here", "_law_kinds_here", "_law_boxes", "_law_parts_here", "_law_kind", "_law_room", "_law_deep"] := by
   dsimp only [L2.KOf]
   refine' L2.deftx_mk KX G ?a ?l ?c ?k ?b
   (case a => k_is); (case l => k_is); (case c => k_is); (case k => k_is)
   (case b => exact fun _ _ _ _ _ _ us hl => match us, hl with | [_, _, _, _, _, _, _], _ => rfl)
  have d__law_whole_term : L2.DefTx (L2.KOf KX) mg "_law_whole_term" K41.s__law_whole_term ["_law_feed_here", "_law_kinds_here", "_law_boxes", "_law_kind", "_law_room", "_law_deep"] := by
   dsimp only [L2.KOf]
   refine' L2.deftx_mk KX G ?a ?l ?c ?k ?b
   (case a => k_is); (case l => k_is); (case c => k_is); (case k => k_is)
   (case b => exact fun _ _ _ _ _ _ us hl => match us, hl with | [_, _, _, _, _, _], _ => rfl)
  have d__law_term : L2.DefTx (L2.KOf KX) mg "_law_term" K41.s__law_term ["_law_feed_here", "_law_kinds_here", "_law_boxes", "_law_kind", "_law_room", "_law_deep"] := by
   dsimp only [L2.KOf]
   refine' L2.deftx_mk KX G ?a ?l ?c ?k ?b
   (case a => k_is); (case l => k_is); (case c => k_is); (case k => k_is)
   (case b => exact fun _ _ _ _ _ _ us hl => match us, hl with | [_, _, _, _, _, _], _ => rfl)
  have d__law_new_term : L2.DefTx (L2.KOf KX) mg "_law_new_term" K41.s__law_new_term ["_law_feed_here", "_law_kinds_here", "_law_boxes", "_law_kind"] := by
   dsimp only [L2.KOf]
   refine' L2.deftx_mk KX G ?a ?l ?c ?k ?b
   (case a => k_is); (case l => k_is); (case c => k_is); (case k => k_is)
   (case b => exact fun _ _ _ _ _ _ us hl => match us, hl with | [_, _, _, _], _ => rfl)
  have d__law_any_kind : L2.DefTx (L2.KOf KX) mg "_law_any_kind" K41.s__law_any_kind ["_law_feed_here", "_law_kinds_here"] := by
   dsimp only [L2.KOf]
   refine' L2.deftx_mk KX G ?a ?l ?c ?k ?b
   (case a => k_is); (case l => k_is); (case c => k_is); (case k => k_is)
   (case b => exact fun _ _ _ _ _ _ us hl => match us, hl with | [_, _], _ => rfl)
  have d__law_beside_parts : L2.DefTx (L2.KOf KX) mg "_law_beside_parts" K41.s__law_beside_parts ["_law_feed_here", "_law_kinds_here", "_law_sort", "_law_parts_here", "_law_names_here"] := by
   dsimp only [L2.KOf]
   refine' L2.deftx_mk KX G ?a ?l ?c ?k ?b
   (case a => k_is); (case l => k_is); (case c => k_is); (case k => k_is)
   (case b => exact fun _ _ _ _ _ _ us hl => match us, hl with | [_, _, _, _, _], _ => rfl)
  have d__law_beside : L2.DefTx (L2.KOf KX) mg "_law_beside" K41.s__law_beside ["_law_feed_here", "_law_kinds_here", "_law_names_here"] := by
   dsimp only [L2.KOf]
   refine' L2.deftx_mk KX G ?a ?l ?c ?k ?b
   (case a => k_is); (case l => k_is); (case c => k_is); (case k => k_is)
   (case b => exact fun _ _ _ _ _ _ us hl => match us, hl with | [_, _, _], _ => rfl)
  have d__law_way : L2.DefTx (L2.KOf KX) mg "_law_way" K41.s__law_way ["_law_feed_here", "_law_first", "_law_kinds_here", "_law_ways", "_law_name"] := by
   dsimp only [L2.KOf]
   refine' L2.deftx_mk KX G ?a ?l ?c ?k ?b
   (case a => k_is); (case l => k_is); (case c => k_is); (case k => k_is)
   (case b => exact fun _ _ _ _ _ _ us hl => match us, hl with | [_, _, _, _, _], _ => rfl)
  have d__law_told : L2.DefTx (L2.KOf KX) mg "_law_told" K41.s__law_told ["_law_feed_here", "_law_first", "_law_kinds_here"] := by
   dsimp only [L2.KOf]
   refine' L2.deftx_mk KX G ?a ?l ?c ?k ?b
   (case a => k_is); (case l => k_is); (case c => k_is); (case k => k_is)
   (case b => exact fun _ _ _ _ _ _ us hl => match us, hl with | [_, _, _], _ => rfl)
  have d__law_goes : L2.DefTx (L2.KOf KX) mg "_law_goes" K41.s__law_goes ["_law_ways", "_law_kind"] := by
   dsimp only [L2.KOf]
   refine' L2.deftx_mk KX G ?a ?l ?c ?k ?b
   (case a => k_is); (case l => k_is); (case c => k_is); (case k => k_is)
   (case b => exact fun _ _ _ _ _ _ us hl => match us, hl with | [_, _], _ => rfl)
  have d__law_nought : L2.DefTx (L2.KOf KX) mg "_law_nought" K41.s__law_nought ["_law_kinds_here", "_law_kind"] := by
   dsimp only [L2.KOf]
   refine' L2.deftx_mk KX G ?a ?l ?c ?k ?b
   (case a => k_is); (case l => k_is); (case c => k_is); (case k => k_is)
   (case b => exact fun _ _ _ _ _ _ us hl => match us, hl with | [_, _], _ => rfl)
  have d__law_rule : L2.DefTx (L2.KOf KX) mg "_law_rule" K41.s__law_rule ["_law_kinds_here", "_law_row", "_law_ways"] := by
   dsimp only [L2.KOf]
   refine' L2.deftx_mk KX G ?a ?l ?c ?k ?b
   (case a => k_is); (case l => k_is); (case c => k_is); (case k => k_is)
   (case b => exact fun _ _ _ _ _ _ us hl => match us, hl with | [_, _, _], _ => rfl)
  have d__law_due : L2.DefTx (L2.KOf KX) mg "_law_due" K41.s__law_due ["_law_kinds_here", "_law_more", "_law_told_here"] := by
   dsimp only [L2.KOf]
   refine' L2.deftx_mk KX G ?a ?l ?c ?k ?b
   (case a => k_is); (case l => k_is); (case c => k_is); (case k => k_is)
   (case b => exact fun _ _ _ _ _ _ us hl => match us, hl with | [_, _, _], _ => rfl)
  have d_law : L2.DefTx (L2.KOf KX) mg "law" K41.s_law ["_law_script"] := by
   dsimp only [L2.KOf]
   refine' L2.deftx_mk KX G ?a ?l ?c ?k ?b
   (case a => k_is); (case l => k_is); (case c => k_is); (case k => k_is)
   (case b => exact fun _ _ _ _ _ _ us hl => match us, hl with | [_], _ => rfl)
  have z_dict : mg "dict" = none := by
   refine' PySem.W.mg_none_of KX G ?a
   (case a => k_is)
  have z_int : mg "int" = none := by
   refine' PySem.W.mg_none_of KX G ?a
   (case a => k_is)
  have z_isinstance : mg "isinstance" = none := by
   refine' PySem.W.mg_none_of KX G ?a
   (case a => k_is)
  have z_len : mg "len" = none := by
   refine' PySem.W.mg_none_of KX G ?a
   (case a => k_is)
  have z_list : mg "list" = none := by
   refine' PySem.W.mg_none_of KX G ?a
   (case a => k_is)
  have z_max : mg "max" = none := by
   refine' PySem.W.mg_none_of KX G ?a
   (case a => k_is)
  have z_range : mg "range" = none := by
   refine' PySem.W.mg_none_of KX G ?a
   (case a => k_is)
  have z_sum : mg "sum" = none := by
   refine' PySem.W.mg_none_of KX G ?a
   (case a => k_is)
  have z_tuple : mg "tuple" = none := by
   refine' PySem.W.mg_none_of KX G ?a
   (case a => k_is)
  have T : K41.Tx (L2.KOf KX) mg := ⟨d_sort_of, d_parts_of, d_nought_term, d_goes_to, d_made_ways, d_how_by_rules, d_terms_by_rules, d_tags_by_rules, d__law_feed, d__law_take, d__law_names, d__law_number, d__law_sort_of, d__law_size, d__law_small, d__law_parts, d__law_kinds, d__law_boxed, d__law_arms, d__law_whole_term, d__law_term, d__law_new_term, d__law_any_kind, d__law_beside_parts, d__law_beside, d__law_way, d__law_told, d__law_goes, d__law_nought, d__law_rule, d__law_due, d_law, z_dict, z_int, z_isinstance, z_len, z_list, z_max, z_range, z_sum, z_tuple⟩
  exact L2.law_top d_law hmg fun base => K41.law_is T
