import PyProof.Rows.All
import Wide.All
import OpenK.AllK
import Wide.FinOn
import Lean
import PyProof.EqAt
import PyProof.EqKinds
import PyProof.TupleCall
import PyProof.ZipIter
import PyProof.ListNew
import PyProof.TupleIter
import PyProof.WalksMore
import KE.KIntText
import PyProof.Rows.EqBoolInt
import PyProof.Rows.ZipGen
import PyProof.ExcInit
import PyProof.InstStoreFacts
import PyProof.ExcArgsOwn
import PyProof.ExcAttrAll.ValueError
import PyProof.ExcBaseAll.ValueError
import PyProof.EnumMake
import PyProof.Rows.EnumRows
import PySem.Str
import PyProof.StrLawsTight
import PyProof.StrLawsIdx
import PyProof.StrLawsIn
import PyProof.StationsW
import PyProof.RulesAs
import PyProof.NsDelKeeps
import PyProof.AutoSeq1
import PyProof.Rows.SetFrom
import KE.KDictSum
import PyProof.Rows.SortWalk
import PyProof.NeKinds
import KE.KDictList
import KE.KRevIter
import PyProof.ConsumeWalk
import PyProof.AttrMissHeap
import KE.KItemsList
import KE.KEqDict
import PySem.Challenge.RW_swapstride_k04_whole_makes_written_and_r
set_option Elab.async false
set_option linter.all false
set_option maxRecDepth 100000
set_option maxHeartbeats 4000000
local macro_rules | `(tactic| walk_at "o") => `(tactic| first | exact Or.inl rfl | exact Or.inr rfl)
local macro_rules | `(tactic| walk_at "q") => `(tactic| exact ⟨rfl, rfl, rfl, by decide +kernel, rfl, by decide +kernel, by decide +kernel⟩)
local macro_rules | `(tactic| walk_at "k") => `(tactic| decide +kernel)
local macro_rules | `(tactic| walk_at "c") => `(tactic| ((case a => k_is); (case l => k_is); (case c => k_is); (case k => k_is)))
namespace L2
open PySem PySem.Spec PyProof.Rows
abbrev Key := Sum Int Str
def keyIs : Key -> Value -> Bool
 | .inl k, v => Value.isInt k v
 | .inr x, v => Value.isStrOf x v
def keyH (w : World) : Key -> Int
 | .inl k => hashInt k
 | .inr x => hashStr w x
theorem keyIs_shape : ∀ {k : Key} {v : Value}, keyIs k v = true -> (∃ i t, k = Sum.inl i /\ v = Value.int i t) \/ (∃ x t, k = Sum.inr x /\ v = Value.str x t)
 | .inl i, v, h => by
  obtain ⟨t, e⟩ := Value.isInt_shape (k := i) (v := v) h
  exact .inl ⟨i, t, rfl, e⟩
 | .inr x, v, h => by
  obtain ⟨t, e⟩ := Value.isStrOf_shape (x := x) (v := v) h
  exact .inr ⟨x, t, rfl, e⟩
theorem key_ll (a b : Int) : decide ((Sum.inl a : Key) = Sum.inl b) = (a == b) := by
 by_cases e : a = b
 ·subst e; simp
 ·have h : ¬ (Sum.inl a : Key) = Sum.inl b := fun q => e (Sum.inl.inj q)
  rw [decide_eq_false h]
  exact (beq_eq_false_iff_ne.mpr e).symm
theorem key_rr (a b : Str) : decide ((Sum.inr a : Key) = Sum.inr b) = decide (a = b) := by
 by_cases e : a = b
 ·subst e; simp
 ·have h : ¬ (Sum.inr a : Key) = Sum.inr b := fun q => e (Sum.inr.inj q)
  rw [decide_eq_false h, decide_eq_false e]
theorem key_lr (a : Int) (b : Str) : decide ((Sum.inl a : Key) = Sum.inr b) = false := decide_eq_false (fun q => nomatch q)
theorem key_rl (a : Str) (b : Int) : decide ((Sum.inr a : Key) = Sum.inl b) = false := decide_eq_false (fun q => nomatch q)
def mixKind (prog : Program) (w : World) : PySem.KeyKind prog w Key where
 is := keyIs
 hash := keyH w
 inj := fun v a b ha hb => by
  rcases keyIs_shape ha with ⟨i, t, rfl, rfl⟩ | ⟨x, t, rfl, rfl⟩
  ·rcases keyIs_shape hb with ⟨j, u, rfl, e⟩ | ⟨y, u, rfl, e⟩
   ·injection e with e1 _; rw [e1]
   ·exact nomatch e
  ·rcases keyIs_shape hb with ⟨j, u, rfl, e⟩ | ⟨y, u, rfl, e⟩
   ·exact nomatch e
   ·injection e with e1 _; rw [e1]
 byValue := fun k v h => by
  rcases keyIs_shape h with ⟨i, t, rfl, rfl⟩ | ⟨x, t, rfl, rfl⟩ <;> rfl
 pyHash := fun hv h => by
  rcases keyIs_shape hv with ⟨i, t, rfl, rfl⟩ | ⟨x, t, rfl, rfl⟩
  ·exact wpAny_pyHash_int h
  ·exact wpAny_pyHash_str h
 eqBool := fun hu hv h => by
  rcases keyIs_shape hu with ⟨i, t, rfl, rfl⟩ | ⟨x, t, rfl, rfl⟩
  ·rcases keyIs_shape hv with ⟨j, u, rfl, rfl⟩ | ⟨y, u, rfl, rfl⟩
   ·rw [key_ll] at h; exact wpAny_eqBool_int h
   ·rw [key_lr] at h; exact SeqAt.EqAt.int_str i t y u _ _ _ _ h
  ·rcases keyIs_shape hv with ⟨j, u, rfl, rfl⟩ | ⟨y, u, rfl, rfl⟩
   ·rw [key_rl] at h; exact SeqAt.EqAt.str_int x t j u _ _ _ _ h
   ·rw [key_rr] at h; exact wpAny_eqBool_str h
 «strs» := fun k x t v h => by
  rcases keyIs_shape h with ⟨i, u, rfl, e⟩ | ⟨y, u, rfl, e⟩
  ·exact nomatch e
  ·injection e with e1 _
   subst e1
   cases v <;> rfl
end L2
namespace L2
open PySem PySem.Spec PyProof.Rows
inductive V where
 | non | bl (b : Bool) | int (i : Int) | str (x : Str) | byt (b : Array UInt8) | flt (b : UInt64) | ref (a : Addr) | ty (n : String)
 deriving DecidableEq
def RelV : V -> Value -> Prop
 | .non, u => u = Value.none
 | .bl b, u => u = Value.bool b
 | .int i, u => ∃ t, u = Value.int i t
 | .str x, u => ∃ t, u = Value.str x t
 | .byt b, u => ∃ t, u = Value.bytes b t
 | .flt b, u => ∃ t, u = Value.float b t
 | .ref a, u => u = Value.ref a
 | .ty n, u => u = Value.type n
abbrev Vals : List V -> List Value -> Prop := Paired RelV
theorem Vals.length {xs : List V} {us : List Value} (r : Vals xs us) : xs.length = us.length := Paired.length r
theorem Vals.get : ∀ {xs : List V} {us : List Value} {i : Nat} {x : V}, Vals xs us -> xs[i]? = some x -> ∃ u, us[i]? = some u /\ RelV x u
 | _, _, _, _, .nil, e => by simp at e
 | _, _, 0, _, .cons r _, e => by simp at e; subst e; exact ⟨_, rfl, r⟩
 | _, _, i + 1, x, .cons _ t, e => by
  obtain ⟨u, h1, h2⟩ := Vals.get (i := i) (x := x) t (by simpa using e)
  exact ⟨u, by simpa using h1, h2⟩
theorem Vals.set {x : V} {u : Value} (r : RelV x u) : ∀ {xs : List V} {us : List Value} (i : Nat), Vals xs us -> Vals (xs.set i x) (us.set i u)
 | _, _, _, .nil => .nil
 | _, _, 0, .cons _ t => .cons r t
 | _, _, i + 1, .cons q t => .cons q (Vals.set r i t)
theorem Vals.append : ∀ {xs ys : List V} {us ws : List Value}, Vals xs us -> Vals ys ws -> Vals (xs ++ ys) (us ++ ws)
 | _, _, _, _, .nil, s => s
 | _, _, _, _, .cons r t, s => .cons r (Vals.append t s)
theorem Vals.take : ∀ {xs : List V} {us : List Value} (n : Nat), Vals xs us -> Vals (xs.take n) (us.take n)
 | _, _, 0, _ => .nil
 | _, _, _ + 1, .nil => .nil
 | _, _, n + 1, .cons r t => .cons r (Vals.take n t)
theorem Vals.drop : ∀ {xs : List V} {us : List Value} (n : Nat), Vals xs us -> Vals (xs.drop n) (us.drop n)
 | _, _, 0, r => r
 | _, _, _ + 1, .nil => .nil
 | _, _, n + 1, .cons _ t => Vals.drop n t
def RelO : Option V -> Option Value -> Prop
 | some v, some u => RelV v u
 | none, none => True
 | _, _ => False
def KV {κ : Type} : List (κ × V) -> List (κ × Value) -> Prop := Paired fun (p : κ × V) (q : κ × Value) => p.1 = q.1 /\ RelV p.2 q.2
def kV : Key -> V
 | .inl i => .int i
 | .inr x => .str x
inductive HO where
 | lst (xs : List V)
 | tup (xs : List V)
 | dK (kvs : List (Key × V)) | dT (kvs : List (List Key × V))
 | set (S : Int -> Bool) (n : Nat)
 | ins (C dx : Addr) (fs : List (Str × V))
 | own (x : Addr)
 | xd (fs : List (Str × V))
 | met (f x : Addr)
 | rng (lo hi : Int)
 | frz (o : Obj) (u : HO)
 | tbl (ps : Array Value)
 | ext (φ : Heap -> Prop)
abbrev Hp := Addr -> Option HO
def upd (H : Hp) (a : Addr) (o : HO) : Hp := fun b => if b = a then some o else H b
theorem ups {H : Hp} {a : Addr} {o : HO} : upd H a o a = some o := by unfold upd; rw [if_pos rfl]
theorem upd_ne {H : Hp} {a b : Addr} {o : HO} (h : b ≠ a) : upd H a o b = H b := by unfold upd; rw [if_neg h]
theorem neN {H : Hp} {a b : Addr} {o : HO} (h : H a = some o) (h' : H b = none) : a ≠ b := by
 intro e; subst e; rw [h] at h'; cases h'
section
variable (P : Program) (w : World)
def ObjOk (H : Hp) (h : Heap) (a : Addr) : HO -> Prop
 | .lst xs => xs.length <= sizeLine /\ ∃ (its : List Value) (n : Nat), Vals xs its /\ h.get? a = some { cls := .type "list", data := .seq its.toArray n }
 | .tup xs => xs.length <= sizeLine /\ ∃ its : List Value, Vals xs its /\ IsTup h a its.toArray
 | .dK kvs => kvs.length <= sizeLine /\ (a == sysModules) = false /\ ∃ vs, KV kvs vs /\ h.DictOf (mixKind P w) a vs
 | .dT kvs => kvs.length <= sizeLine /\ (a == sysModules) = false /\ ∃ xs : List (List Key × Addr × Value),
   Paired (fun (p : List Key × V) (q : List Key × Addr × Value) => p.1 = q.1 /\ H q.2.1 = some (.tup (p.1.map kV)) /\ RelV p.2 q.2.2) kvs xs ∧
   ∃ o es ep, h.get? a = some o /\ o.ExactDict /\ o.data = .dict es ep /\ es.toList = xs.map (entryOfKey (tupleKind (mixKind P w))) /\ (xs.map (·.1)).Nodup
 | .set S n => h.SetOf (intKind P w) a S n
 | .ins C dx fs => H dx = some (.own a) /\ fs.length <= 1000 /\ dx ≠ a /\ h.get? a = some (PySem.W.instObj C dx) ∧
   ∃ mA, h.Ns1 dx mA /\ (∀ f, RelO (fs.lookup f) (mA f)) /\ PySem.Within mA (fs.map (·.1))
 | .own _ => ∃ o, h.get? a = some o
 | .xd fs => ∃ mA, h.Ns1 a mA /\ ∀ f, RelO (fs.lookup f) (mA f)
 | .rng lo hi => ∃ t u v, h.get? a = some { cls := .type "range", data := .fields #[.int lo t, .int hi u, .int 1 v] }
 | .frz o u => h.get? a = some o /\ ObjOk H h a u
 | .tbl ps => h.get? a = some { cls := .none, data := .fields ps }
 | .met f x => h.get? a = some (PySem.W.methodObj (.ref f) (.ref x))
 | .ext φ => φ h /\ (∃ o, h.get? a = some o) /\ ∀ h1 h2 : Heap, φ h1 -> (∀ o, h1.get? a = some o -> h2.get? a = some o) -> φ h2
def HOk (H : Hp) (h : Heap) : Prop := ∀ a o, H a = some o -> ObjOk P w H h a o
end
section
variable {P : Program} {w : World} {H H' : Hp} {h h' : Heap} {a : Addr} {o : HO}
theorem ObjOk.lt (x : ObjOk P w H h a o) : a < h.objs.size := by
 cases o with
 | lst xs => obtain ⟨_, _, _, _, e⟩ := x; exact Heap.lt_size e
 | tup xs => obtain ⟨_, _, _, p⟩ := x; exact p.lt
 | dK kvs => obtain ⟨_, _, _, _, o, _, _, e, _⟩ := x; exact Heap.lt_size e
 | dT kvs => obtain ⟨_, _, _, _, o, _, _, e, _⟩ := x; exact Heap.lt_size e
 | set S n => obtain ⟨o, _, _, _, e, _⟩ := x; exact Heap.lt_size e
 | ins C dx fs => obtain ⟨_, _, _, e, _⟩ := x; exact Heap.lt_size e
 | own y => obtain ⟨_, e⟩ := x; exact Heap.lt_size e
 | xd fs => obtain ⟨_, ⟨_, _, _, e, _⟩, _⟩ := x; exact Heap.lt_size e
 | rng lo hi => obtain ⟨_, _, _, e⟩ := x; exact Heap.lt_size e
 | frz ob u => obtain ⟨e, _⟩ := x; exact Heap.lt_size e
 | tbl ps => exact Heap.lt_size (show h.get? a = some _ from x)
 | met f y => exact Heap.lt_size (show h.get? a = some _ from x)
 | ext φ => obtain ⟨_, ⟨_, e⟩, _⟩ := x; exact Heap.lt_size e
theorem Paired.mapP {α β : Type} {F G : α -> β -> Prop} : ∀ {l₁ : List α} {l₂ : List β}, Paired F l₁ l₂ -> (∀ a b, F a b -> G a b) -> Paired G l₁ l₂
 | _, _, .nil, _ => .nil
 | _, _, .cons r t, f => .cons (f _ _ r) (Paired.mapP t f)
theorem ObjOk.stay (x : ObjOk P w H h a o) (k : ∀ b u, (b = a \/ H b = some (.own a)) -> h.get? b = some u -> h'.get? b = some u)
  (ho : ∀ b, H b = some (.own a) -> H' b = some (.own a)) (ht : ∀ b xs, H b = some (.tup xs) -> H' b = some (.tup xs)) : ObjOk P w H' h' a o := by
 induction o with
 | lst xs => obtain ⟨z, its, n, r, e⟩ := x; exact ⟨z, its, n, r, k _ _ (.inl rfl) e⟩
 | tup xs => obtain ⟨z, its, r, ob, e, c⟩ := x; exact ⟨z, its, r, ob, k _ _ (.inl rfl) e, c⟩
 | dK kvs => obtain ⟨z, y, vs, r, ob, es, ep, e, c⟩ := x; exact ⟨z, y, vs, r, ob, es, ep, k _ _ (.inl rfl) e, c⟩
 | dT kvs =>
  obtain ⟨z, y, xs, r, ob, es, ep, e, c⟩ := x
  exact ⟨z, y, xs, Paired.mapP r fun p q z => ⟨z.1, ht _ _ z.2.1, z.2.2⟩, ob, es, ep, k _ _ (.inl rfl) e, c⟩
 | set S n => obtain ⟨ob, es, ep, t, e, c⟩ := x; exact ⟨ob, es, ep, t, k _ _ (.inl rfl) e, c⟩
 | ins C dx fs =>
  obtain ⟨d, z, ne, e, mA, ⟨od, es, ep, e2, c⟩, r⟩ := x
  exact ⟨ho _ d, z, ne, k _ _ (.inl rfl) e, mA, ⟨od, es, ep, k _ _ (.inr d) e2, c⟩, r⟩
 | own y => obtain ⟨ob, e⟩ := x; exact ⟨ob, k _ _ (.inl rfl) e⟩
 | xd fs => obtain ⟨mA, ⟨od, es, ep, e, c⟩, r⟩ := x; exact ⟨mA, ⟨od, es, ep, k _ _ (.inl rfl) e, c⟩, r⟩
 | rng lo hi => obtain ⟨t, u, v, e⟩ := x; exact ⟨t, u, v, k _ _ (.inl rfl) e⟩
 | frz ob u ih => obtain ⟨e, q⟩ := x; exact ⟨k _ _ (.inl rfl) e, ih q⟩
 | tbl ps =>
  have e : h.get? a = some { cls := .none, data := .fields ps } := x
  show h'.get? a = some { cls := .none, data := .fields ps }
  exact k a _ (.inl rfl) e
 | met f y =>
  have e : h.get? a = some (PySem.W.methodObj (.ref f) (.ref y)) := x
  show h'.get? a = some (PySem.W.methodObj (.ref f) (.ref y))
  exact k a _ (.inl rfl) e
 | ext φ => obtain ⟨p, ⟨o, e⟩, st⟩ := x; exact ⟨st _ _ p fun o q => k _ _ (.inl rfl) q, ⟨o, k _ _ (.inl rfl) e⟩, st⟩
theorem HOk.lt (x : HOk P w H h) (e : H a = some o) : a < h.objs.size := (x a o e).lt
theorem HOk.fresh (x : HOk P w H h) (e : h.objs.size <= a) : H a = none := by
 cases q : H a with
 | none => rfl
 | some u => exact absurd (Nat.lt_of_lt_of_le (x.lt q) e) (Nat.lt_irrefl _)
theorem HOk.kept (x : HOk P w H h) (k : ∀ b u, h.get? b = some u -> h'.get? b = some u) : HOk P w H h' := fun a o e =>
 (x a o e).stay (fun b u _ q => k b u q) (fun _ q => q) fun _ _ q => q
theorem HOk.laid (x : HOk P w H h) (k : ∀ b u, h.get? b = some u -> h'.get? b = some u) (hp : h.objs.size <= a) (new : ObjOk P w (upd H a o) h' a o) : HOk P w (upd H a o) h' := fun b u e => by
 have hn := x.fresh hp
 by_cases hb : b = a
 ·subst hb; rw [ups] at e; cases e; exact new
 ·rw [upd_ne hb] at e
  exact (x b u e).stay (fun c v _ q => k c v q) (fun c q => by rw [upd_ne (neN q hn)]; exact q) fun c xs q => by rw [upd_ne (neN q hn)]; exact q
end
def Rd (H : Hp) (a : Addr) (u : HO) : Prop := H a = some u \/ ∃ o, H a = some (.frz o u)
theorem Rd.ok {P : Program} {w : World} {H : Hp} {h : Heap} {a : Addr} {u : HO} (r : Rd H a u) (x : HOk P w H h) : ObjOk P w H h a u := by
 rcases r with r | ⟨o, r⟩
 ·exact x a u r
 ·obtain ⟨_, q⟩ := x a _ r
  exact q
def Mut : Option HO -> Prop
 | some (.lst _) => True
 | some (.dK _) => True
 | some (.dT _) => True
 | some (.set _ _) => True
 | some (.ins _ _ _) => True
 | some (.ext _) => True
 | _ => False
section
variable {P : Program} {w : World} {H : Hp} {h h' : Heap} {x e : Addr} {o' : HO}
theorem HOk.write (ok : HOk P w H h) (mu : Mut (H x)) (he : e = x \/ H e = some (.own x)) (k : ∀ b u, b ≠ e -> h.get? b = some u -> h'.get? b = some u) (heo : ∃ u, h'.get? e = some u)
  (new : ObjOk P w (upd H x o') h' x o') : HOk P w (upd H x o') h' := fun b u q => by
 have nown : ∀ c y, H c = some (.own y) -> c ≠ x := fun c y r z => by subst z; rw [r] at mu; exact mu
 have ntup : ∀ c xs, H c = some (.tup xs) -> c ≠ x := fun c xs r z => by subst z; rw [r] at mu; exact mu
 by_cases hb : b = x
 ·subst hb; rw [ups] at q; cases q; exact new
 ·rw [upd_ne hb] at q
  by_cases hbe : b = e
  ·have q' : H b = some (.own x) := by
    rcases he with z | z
    ·exact absurd (hbe.trans z) hb
    ·rw [hbe]; exact z
   rw [q] at q'; cases q'
   obtain ⟨v, hv⟩ := heo
   exact ⟨v, by rw [hbe]; exact hv⟩
  ·refine (ok b u q).stay (fun c v hc r => k c v ?_ r) (fun c r => by rw [upd_ne (nown c b r)]; exact r) fun c xs r => by rw [upd_ne (ntup c xs r)]; exact r
   rcases hc with rfl | hc
   ·exact hbe
   ·rintro rfl
    rcases he with z | z
    ·exact nown c b hc z
    ·rw [hc] at z; cases z; exact hb rfl
end
structure Un (fs ex : List Addr) (H H' : Hp) (h h' : Heap) : Prop where
 keep : ∀ b o, h.get? b = some o -> H b = none -> b ∉ fs -> b ∉ ex -> h'.get? b = some o
 slot : ∀ b o, h.get? b = some o -> H b = none -> b ∈ fs -> b ∉ ex -> ∃ sl, h'.get? b = some { o with slots := sl }
 free : ∀ b o, h.get? b = some o -> H b = none -> b ∉ ex -> H' b = none
 there : ∀ b o, h.get? b = some o -> b ∉ ex -> ∃ o', h'.get? b = some o'
 tups : ∀ b xs, H b = some (.tup xs) -> H' b = some (.tup xs)
 frzs : ∀ b o u, H b = some (.frz o u) -> H' b = some (.frz o u)
 tbls : ∀ b ps, H b = some (.tbl ps) -> ∃ more, H' b = some (.tbl (ps ++ more))
section
variable {fs fs' ex ex' : List Addr} {H H1 H2 : Hp} {h h1 h2 h' : Heap} {a x e : Addr} {o : HO}
theorem Un.any (u : Un fs ex H H1 h h1) {b : Addr} {ob : Obj} (q : h.get? b = some ob) (n : H b = none) (hx : b ∉ ex) : ∃ sl, h1.get? b = some { ob with slots := sl } := by
 by_cases hb : b ∈ fs
 ·exact u.slot b ob q n hb hx
 ·exact ⟨ob.slots, u.keep b ob q n hb hx⟩
theorem Un.kept (k : ∀ b u, h.get? b = some u -> h'.get? b = some u) : Un fs ex H H h h' :=
 ⟨fun b ob q _ _ _ => k b ob q, fun b ob q _ _ _ => ⟨ob.slots, k b ob q⟩, fun _ _ _ n _ => n, fun b ob q _ => ⟨ob, k b ob q⟩, fun _ _ q => q, fun _ _ _ q => q, fun _ ps q => ⟨#[], by rw [q]; simp⟩⟩
theorem Un.refl : Un fs ex H H h h := Un.kept fun _ _ q => q
theorem Un.laid (k : ∀ b u, h.get? b = some u -> h'.get? b = some u) (hp : h.objs.size <= a) (hn : H a = none) : Un fs ex H (upd H a o) h h' where
 keep := fun b u q _ _ _ => k b u q
 slot := fun b u q _ _ _ => ⟨u.slots, k b u q⟩
 free := fun b u q n _ => by rw [upd_ne (Nat.ne_of_lt (Nat.lt_of_lt_of_le (Heap.lt_size q) hp))]; exact n
 there := fun b u q _ => ⟨u, k b u q⟩
 tups := fun b xs q => by rw [upd_ne (neN q hn)]; exact q
 frzs := fun b u xs q => by rw [upd_ne (neN q hn)]; exact q
 tbls := fun b ps q => ⟨#[], by rw [upd_ne (neN q hn), q]; simp⟩
theorem Un.write (mu : Mut (H x)) (he : e = x \/ H e = some (.own x)) (k : ∀ b u, b ≠ e -> h.get? b = some u -> h'.get? b = some u) (heo : ∃ u, h'.get? e = some u) : Un fs ex H (upd H x o) h h' := by
 have hx : ∀ b, H b = none -> b ≠ x := fun b n z => by subst z; rw [n] at mu; exact mu
 have hb : ∀ b, H b = none -> b ≠ e := fun b n z => by
  subst z
  rcases he with r | r
  ·exact hx b n r
  ·rw [n] at r; cases r
 have hm : ∀ b u, H b = some u -> ¬ Mut (some u) -> b ≠ x := fun b u q nm z => by subst z; rw [q] at mu; exact nm mu
 refine ⟨fun b u q n _ _ => k b u (hb b n) q, fun b u q n _ _ => ⟨u.slots, k b u (hb b n) q⟩, fun b u q n _ => by rw [upd_ne (hx b n)]; exact n, fun b u q _ => ?_,
  fun b xs q => by rw [upd_ne (hm b _ q fun z => z)]; exact q, fun b u xs q => by rw [upd_ne (hm b _ q fun z => z)]; exact q, fun b ps q => ⟨#[], by rw [upd_ne (hm b _ q fun z => z), q]; simp⟩⟩
 by_cases hbe : b = e
 ·subst hbe; exact heo
 ·exact ⟨u, k b u hbe q⟩
end
def trk (h : Heap) (H : Hp) : List Addr := (List.range h.objs.size).filter fun a => (H a).isSome
def hidT (h : Heap) (H : Hp) : Heap := PySem.W.hideAll h (trk h H)
theorem hidT_size (h : Heap) (H : Hp) : (hidT h H).objs.size = h.objs.size := PySem.W.hideAll_size _ _
theorem hidT_get {h : Heap} {H : Hp} {b : Addr} {o : Obj} (e : h.get? b = some o) (n : H b = none) : (hidT h H).get? b = some o :=
 PySem.W.hideAll_get _ e fun hm => by
  have q : (H b).isSome = true := (List.mem_filter.mp hm).2
  rw [n] at q; simp at q
theorem of_hidT {h : Heap} {H : Hp} {b : Addr} {o : Obj} (e : (hidT h H).get? b = some o) : h.get? b = some o /\ H b = none := by
 have e' : h.get? b = some o := PySem.W.of_hideAll (trk h H) e
 refine ⟨e', ?_⟩
 cases q : H b with
 | none => rfl
 | some x =>
  have hm : b ∈ trk h H := List.mem_filter.mpr ⟨List.mem_range.mpr (Heap.lt_size e'), by simp [q]⟩
  have z : (hidT h H).get? b = none := PySem.W.hideAll_none (trk h H) hm
  rw [z] at e; cases e
end L2
namespace L2
open PySem PySem.Spec PyProof.Rows
structure Mod (K : PySem.W.Frag) (mg : Str -> Option Value) (base : Heap) : Prop where
 kin : K.In base
 glob : base.Ns mainGlobals mg
 blt : ∃ mb, base.Ns builtinsNs mb /\ ∀ x : Str, x ≠ "__name__" -> mb x = bootBuiltins x
 nolimit : base.NoLimit
structure Cx where
 prog : Program
 w : World
 K : PySem.W.Frag
 mg : Str -> Option Value
 base : Heap
 A : Around
 N : List Str
 s₀ : Shared
 H₀ : Hp
 env : Env
 outer : List Env
 stack : List Env
 ex : List Addr
 fn : Str -> Bool
 calm : Bool
 pn : List (Addr × Obj)
 xe : Value -> Shared -> Prop
def frs (l : List Env) : List Addr := l.filterMap (·.frame)
abbrev Cx.fs (X : Cx) : List Addr := frs X.outer
def Vis (sc : Scope) (x : Str) : Prop := sc.names.lookup x = some .local \/ sc.names.lookup x = some .cell \/ sc.names.lookup x = some .free
def Loc (sc : Scope) (x : Str) : Prop := sc.names.lookup x = some .local \/ sc.names.lookup x = some .cell
def Look (env : Env) (h : Heap) (m : Str -> Option Value) (x : Str) (u : Value) : Prop :=
 (env.kindOf x = some .local /\ m x = some u) \/ ((env.kindOf x = some .cell \/ env.kindOf x = some .free) /\ ∃ c, env.cells.lookup x = some c /\ h.IsCell c (some u))
structure Cx.Ok (X : Cx) : Prop where
 mod : Mod X.K X.mg X.base
 kind : X.env.scope.kind = .function
 glob : X.env.globals = mainGlobals
 blt : X.env.builtins = builtinsNs
 above : X.s₀.heap.objs.size <= X.env.locals
 inj : ∀ x y c, X.env.cells.lookup x = some c -> X.env.cells.lookup y = some c -> x = y
 has : ∀ x, (X.env.kindOf x = some .cell \/ X.env.kindOf x = some .free) -> ∃ c, X.env.cells.lookup x = some c
 cab : ∀ x c, X.fn x = true -> X.env.cells.lookup x = some c -> X.s₀.heap.objs.size <= c
 hd : X.calm = true -> X.A.handled = none
 frames : X.A.frames = some X.stack
 stk : X.stack = X.outer \/ (X.stack = X.env :: X.outer /\ X.env.frame = some X.env.locals)
 exf : ∀ b ∈ X.ex, b ≠ X.env.locals /\ ∀ x c, X.env.cells.lookup x = some c -> c ≠ b
 bs : ∀ b o, X.base.get? b = some o -> X.s₀.heap.get? b = some o /\ X.H₀ b = none
 bsz : X.base.objs.size <= X.s₀.heap.objs.size
 noex : ∀ b o, X.base.get? b = some o -> b ∉ X.ex
 exfs : ∀ b ∈ X.ex, b ∉ X.fs
 funs : X.s₀.heap.FunFrames X.base X.outer
 frf : ∀ b ∈ X.fs, X.H₀ b = none
structure Inv (X : Cx) (pins : List (Addr × Obj)) (σ : List (Option V)) (H : Hp) (s : Shared) : Prop where
 ok : X.Ok
 os : s.os = X.s₀.os
 bare : AllBare s.gens
 base : Un X.fs X.ex X.H₀ H X.s₀.heap s.heap
 loc : ∃ m, s.heap.Ns X.env.locals m /\ ∀ (i : Nat) (x : Str) (v : V), X.N[i]? = some x -> σ[i]? = some (some v) -> Vis X.env.scope x -> ∃ u, RelV v u /\ Look X.env s.heap m x u
 cell : ∀ x c, X.env.cells.lookup x = some c -> ∃ v, s.heap.IsCell c v
 free : H X.env.locals = none
 freeC : ∀ x c, X.env.cells.lookup x = some c -> H c = none
 pin : ∀ p ∈ X.pn ++ pins, s.heap.get? p.1 = some p.2 /\ H p.1 = none /\ p.1 ≠ X.env.locals /\ p.1 ∉ X.fs /\ ∀ v, p.2.data ≠ .cell v
 hok : HOk X.prog X.w H s.heap
 len : σ.length = X.N.length
section
variable {X : Cx} {pins : List (Addr × Obj)} {σ : List (Option V)} {H H' : Hp} {s : Shared} {h' : Heap}
theorem Cx.Ok.nofr (ok : X.Ok) {b : Addr} {o : Obj} (e : X.base.get? b = some o) : b ∉ X.fs := fun hb => by
 have := (ok.funs.mem hb).1
 rw [e] at this; cases this
theorem Inv.bs (I : Inv X pins σ H s) : ∀ b o, X.base.get? b = some o -> s.heap.get? b = some o /\ H b = none := fun b o e =>
 ⟨I.base.keep b o (I.ok.bs b o e).1 (I.ok.bs b o e).2 (I.ok.nofr e) (I.ok.noex b o e), I.base.free b o (I.ok.bs b o e).1 (I.ok.bs b o e).2 (I.ok.noex b o e)⟩
theorem Inv.bk (I : Inv X pins σ H s) : ∀ b o, X.base.get? b = some o -> s.heap.get? b = some o := fun b o e => (I.bs b o e).1
theorem Inv.mod (I : Inv X pins σ H s) : Mod X.K X.mg X.base := I.ok.mod
theorem Inv.kIn (I : Inv X pins σ H s) : X.K.In s.heap := I.ok.mod.kin.keeps I.bk
theorem Inv.lt (I : Inv X pins σ H s) : X.env.locals < s.heap.objs.size := let ⟨_, hn, _⟩ := I.loc; hn.lt
theorem Inv.sz (I : Inv X pins σ H s) : X.s₀.heap.objs.size <= s.heap.objs.size := Nat.le_trans I.ok.above (Nat.le_of_lt I.lt)
theorem Inv.nofs (I : Inv X pins σ H s) {a : Addr} (h : s.heap.objs.size <= a) : a ∉ X.fs := fun hb => by
 obtain ⟨_, o, ho, _⟩ := I.ok.funs.mem hb
 exact absurd (Nat.lt_of_lt_of_le (Heap.lt_size ho) (Nat.le_trans I.sz h)) (Nat.lt_irrefl _)
theorem Inv.cne (I : Inv X pins σ H s) : ∀ x c, X.env.cells.lookup x = some c -> c ≠ X.env.locals := fun x c e z => by
 obtain ⟨v, o, ho, hd⟩ := I.cell x c e
 obtain ⟨m, ⟨o', es, ep, ho', hd', _⟩, _⟩ := I.loc
 rw [z, ho'] at ho; cases ho; rw [hd'] at hd; cases hd
theorem Inv.funs (I : Inv X pins σ H s) : s.heap.FunFrames X.base X.outer := by
 have all : ∀ (l : List Env), (∀ b ∈ frs l, b ∈ X.fs) -> X.s₀.heap.FunFrames X.base l -> s.heap.FunFrames X.base l := by
  intro l
  induction l with
  | nil => intro _ _; trivial
  | cons env r ih =>
   intro hs hl
   obtain ⟨hk, ⟨L, o, hf, hn, ho, hd⟩, hr⟩ := hl
   have hL : L ∈ X.fs := hs L (by unfold frs; rw [List.filterMap_cons, hf]; exact List.mem_cons_self)
   obtain ⟨sl, e⟩ := I.base.slot L o ho (I.ok.frf L hL) hL fun z => I.ok.exfs L z hL
   exact ⟨hk, ⟨L, _, hf, hn, e, hd⟩, ih (fun b hb => hs b (by unfold frs; rw [List.filterMap_cons, hf]; exact List.mem_cons_of_mem _ hb)) hr⟩
 exact all X.outer (fun _ hb => hb) I.ok.funs
theorem Inv.stack (I : Inv X pins σ H s) : s.heap.FunFrames X.base X.stack := by
 rcases I.ok.stk with e | ⟨e, hf⟩
 ·rw [e]; exact I.funs
 ·rw [e]
  obtain ⟨m, hn, _⟩ := I.loc
  refine .cons (by rw [I.ok.kind]; decide) hf hn ?_ I.funs
  exact Heap.get?_none_of_le (Nat.le_trans I.ok.bsz I.ok.above)
theorem Inv.stkSub (I : Inv X pins σ H s) : ∀ b ∈ frs X.stack, b ∈ X.env.locals :: X.fs := fun b hb => by
 rcases I.ok.stk with e | ⟨e, hf⟩
 ·rw [e] at hb; exact List.mem_cons_of_mem _ hb
 ·rw [e] at hb
  unfold frs at hb
  rw [List.filterMap_cons, hf] at hb
  exact hb
theorem Inv.stkFree (I : Inv X pins σ H s) : ∀ b ∈ frs X.stack, H b = none := fun b hb => by
 rcases List.mem_cons.mp (I.stkSub b hb) with e | hb
 ·rw [e]; exact I.free
 ·obtain ⟨_, o, ho, _⟩ := I.ok.funs.mem hb
  exact I.base.free b o ho (I.ok.frf b hb) fun z => I.ok.exfs b z hb
theorem Inv.step {g' : Array GenState} {t' : Nat} {d' : Drawn} {ch : List Addr} (I : Inv X pins σ H s)
  (hch : ∀ b ∈ ch, (b ∈ X.ex \/ X.s₀.heap.objs.size <= b) /\ b ≠ X.env.locals /\ (∀ x c, X.env.cells.lookup x = some c -> c ≠ b) /\ ∀ p ∈ X.pn ++ pins, p.1 ≠ b)
  (keep : ∀ b o, b ≠ X.env.locals -> b ∉ X.fs -> b ∉ ch -> s.heap.get? b = some o -> H b = none -> h'.get? b = some o)
  (slot : ∀ b o, b ≠ X.env.locals -> b ∈ X.fs -> b ∉ ch -> s.heap.get? b = some o -> H b = none -> ∃ sl, h'.get? b = some { o with slots := sl }) (free : ∀ b o, b ∉ ch -> s.heap.get? b = some o -> H b = none -> H' b = none)
  (there : ∀ b o, b ∉ ch -> s.heap.get? b = some o -> ∃ o', h'.get? b = some o')
  (tups : ∀ b xs, H b = some (.tup xs) -> H' b = some (.tup xs)) (frzs : ∀ b o u, H b = some (.frz o u) -> H' b = some (.frz o u)) (tbls : ∀ b ps, H b = some (.tbl ps) -> ∃ more, H' b = some (.tbl (ps ++ more)))
  (ns : ∀ m, s.heap.Ns X.env.locals m -> h'.Ns X.env.locals m) (hok : HOk X.prog X.w H' h') (hg : AllBare g') :
  Inv X pins σ H' { s with heap := h', gens := g', drawn := d', toks := t' } := by
 have neL : ∀ b o, X.s₀.heap.get? b = some o -> b ≠ X.env.locals := fun b o e => Nat.ne_of_lt (Nat.lt_of_lt_of_le (Heap.lt_size e) I.ok.above)
 have neC : ∀ b o, X.s₀.heap.get? b = some o -> b ∉ X.ex -> b ∉ ch := fun b o e hx hb => by
  rcases (hch b hb).1 with z | z
  ·exact hx z
  ·exact absurd (Nat.lt_of_lt_of_le (Heap.lt_size e) z) (Nat.lt_irrefl _)
 have cellK : ∀ x c, X.env.cells.lookup x = some c -> ∀ v, s.heap.IsCell c v -> h'.IsCell c v := fun x c e v ⟨o, ho, hd⟩ => by
  have nch : c ∉ ch := fun z => (hch c z).2.2.1 x c e rfl
  by_cases hc : c ∈ X.fs
  ·obtain ⟨sl, q⟩ := slot c o (I.cne x c e) hc nch ho (I.freeC x c e)
   exact ⟨_, q, hd⟩
  ·exact ⟨o, keep c o (I.cne x c e) hc nch ho (I.freeC x c e), hd⟩
 refine ⟨I.ok, I.os, hg, ⟨fun b o e n hb hx => ?_, fun b o e n hb hx => ?_, fun b o e n hx => ?_, fun b o e hx => ?_, fun b xs e => tups b xs (I.base.tups b xs e), fun b o xs e => frzs b o xs (I.base.frzs b o xs e), fun b ps e => ?_⟩, ?_, fun x c e => ?_, ?_, fun x c e => ?_, fun p hp => ?_, hok, I.len⟩
 ·exact keep b o (neL b o e) hb (neC b o e hx) (I.base.keep b o e n hb hx) (I.base.free b o e n hx)
 ·obtain ⟨sl, e1⟩ := I.base.slot b o e n hb hx
  obtain ⟨sl', e2⟩ := slot b _ (neL b o e) hb (neC b o e hx) e1 (I.base.free b o e n hx)
  exact ⟨sl', e2⟩
 ·obtain ⟨o', e1⟩ := I.base.there b o e hx
  exact free b o' (neC b o e hx) e1 (I.base.free b o e n hx)
 ·obtain ⟨o', e1⟩ := I.base.there b o e hx
  exact there b o' (neC b o e hx) e1
 ·obtain ⟨m1, e1⟩ := I.base.tbls b ps e
  obtain ⟨m2, e2⟩ := tbls b _ e1
  exact ⟨m1 ++ m2, by rw [e2, Array.append_assoc]⟩
 ·obtain ⟨m, hn, hl⟩ := I.loc
  refine ⟨m, ns m hn, fun i x v e1 e2 e3 => ?_⟩
  obtain ⟨u, r, l⟩ := hl i x v e1 e2 e3
  refine ⟨u, r, ?_⟩
  rcases l with l | ⟨k, c, e, z⟩
  ·exact .inl l
  ·exact .inr ⟨k, c, e, cellK x c e _ z⟩
 ·obtain ⟨v, z⟩ := I.cell x c e
  exact ⟨v, cellK x c e v z⟩
 ·obtain ⟨m, ⟨o, _, _, ho, _⟩, _⟩ := I.loc
  exact free _ o (fun z => (hch _ z).2.1 rfl) ho I.free
 ·obtain ⟨v, o, ho, hd⟩ := I.cell x c e
  exact free c o (fun z => (hch c z).2.2.1 x c e rfl) ho (I.freeC x c e)
 ·obtain ⟨e, n, ne, nf, d⟩ := I.pin p hp
  have nch : p.1 ∉ ch := fun z => (hch p.1 z).2.2.2 p hp rfl
  exact ⟨keep p.1 p.2 ne nf nch e n, free p.1 p.2 nch e n, ne, nf, d⟩
theorem Inv.un {t' : Nat} (I : Inv X pins σ H s) (u : Un X.fs [] H H' s.heap h') (hok : HOk X.prog X.w H' h') : Inv X pins σ H' { s with heap := h', toks := t' } := by
 obtain ⟨m, ⟨o, es, ep, ho, r⟩, _⟩ := id I.loc
 obtain ⟨sl, hL⟩ := u.any ho I.free (by simp)
 exact I.step (g' := s.gens) (d' := s.drawn) (ch := []) (fun _ z => nomatch z) (fun b o _ hb _ e n => u.keep b o e n hb (by simp)) (fun b o _ hb _ e n => u.slot b o e n hb (by simp)) (fun b o _ e n => u.free b o e n (by simp)) (fun b o _ e => u.there b o e (by simp)) u.tups u.frzs u.tbls (fun m' hm => by
  obtain ⟨o', es', ep', ho', r'⟩ := hm
  rw [ho] at ho'; cases ho'
  exact ⟨_, es', ep', hL, r'⟩) hok I.bare
theorem Inv.call {g' : Array GenState} {t' : Nat} {d' : Drawn} {ch : List Addr} (I : Inv X pins σ H s) (u : Un (frs X.stack) ch H H' s.heap h') (hok : HOk X.prog X.w H' h') (hg : AllBare g')
  (hch : ∀ b ∈ ch, (b ∈ X.ex \/ X.s₀.heap.objs.size <= b) /\ b ≠ X.env.locals /\ (∀ x c, X.env.cells.lookup x = some c -> c ≠ b) /\ ∀ p ∈ X.pn ++ pins, p.1 ≠ b) :
  Inv X pins σ H' { s with heap := h', gens := g', drawn := d', toks := t' } := by
 obtain ⟨m, ⟨o, es, ep, ho, r⟩, _⟩ := id I.loc
 obtain ⟨sl, hL⟩ := u.any ho I.free fun z => (hch _ z).2.1 rfl
 exact I.step (ch := ch) hch (fun b o hL hb hc e n => u.keep b o e n (fun z => (List.mem_cons.mp (I.stkSub b z)).elim hL hb) hc) (fun b o _ _ hc e n => u.any e n hc) (fun b o hc e n => u.free b o e n hc) (fun b o hc e => u.there b o e hc) u.tups u.frzs u.tbls (fun m' hm => by
  obtain ⟨o', es', ep', ho', r'⟩ := hm
  rw [ho] at ho'; cases ho'
  exact ⟨_, es', ep', hL, r'⟩) hok hg
theorem Inv.turned {t' : Nat} {it : Addr} (I : Inv X pins σ H s) (k : ∀ b o, b ≠ it -> s.heap.get? b = some o -> h'.get? b = some o) (hn : H it = none) (hL : it ≠ X.env.locals)
  (h1 : it ∈ X.ex \/ X.s₀.heap.objs.size <= it) (h2 : ∀ x c, X.env.cells.lookup x = some c -> c ≠ it) (h3 : ∀ p ∈ X.pn ++ pins, p.1 ≠ it) : Inv X pins σ H { s with heap := h', toks := t' } := by
 have nit : ∀ b u, H b = some u -> b ≠ it := fun b u e z => by rw [z, hn] at e; cases e
 refine I.step (g' := s.gens) (d' := s.drawn) (ch := [it]) (fun b hb => ?_) (fun b o _ _ hc e _ => k b o (fun z => hc (by simp [z])) e) (fun b o _ _ hc e _ => ⟨o.slots, k b o (fun z => hc (by simp [z])) e⟩) (fun _ _ _ _ n => n)
  (fun b o hc e => ⟨o, k b o (fun z => hc (by simp [z])) e⟩) (fun _ _ e => e) (fun _ _ _ e => e) (fun b ps e => ⟨#[], by rw [e]; simp⟩) (fun m hm => ?_) (fun b u e => ?_) I.bare
 ·have e : b = it := by simpa using hb
  subst e
  exact ⟨h1, hL, h2, h3⟩
 ·obtain ⟨o, es, ep, ho, r⟩ := hm
  exact ⟨o, es, ep, k _ o (Ne.symm hL) ho, r⟩
 ·refine (I.hok b u e).stay (fun c v hc q => k c v ?_ q) (fun _ q => q) fun _ _ q => q
  rcases hc with z | z
  ·rw [z]; exact nit b u e
  ·exact nit c _ z
theorem Inv.tok (I : Inv X pins σ H s) (t : Nat) : Inv X pins σ H { s with toks := t } := I.un (h' := s.heap) (t' := t) Un.refl I.hok
theorem Inv.kept {t' : Nat} (I : Inv X pins σ H s) (k : ∀ b u, s.heap.get? b = some u -> h'.get? b = some u) : Inv X pins σ H { s with heap := h', toks := t' } := I.un (Un.kept k) (I.hok.kept k)
theorem Inv.laid {a : Addr} {o : HO} {t' : Nat} (I : Inv X pins σ H s) (k : ∀ b u, s.heap.get? b = some u -> h'.get? b = some u) (hp : s.heap.objs.size <= a) (new : ObjOk X.prog X.w (upd H a o) h' a o) :
  Inv X pins σ (upd H a o) { s with heap := h', toks := t' } := I.un (Un.laid k hp (I.hok.fresh hp)) (I.hok.laid k hp new)
theorem Inv.write {x e : Addr} {o : HO} {t' : Nat} (I : Inv X pins σ H s) (mu : Mut (H x)) (he : e = x \/ H e = some (.own x)) (k : ∀ b u, b ≠ e -> s.heap.get? b = some u -> h'.get? b = some u) (heo : ∃ u, h'.get? e = some u)
  (new : ObjOk X.prog X.w (upd H x o) h' x o) : Inv X pins σ (upd H x o) { s with heap := h', toks := t' } := I.un (Un.write mu he k heo) (I.hok.write mu he k heo new)
theorem Inv.weak {σ' : List (Option V)} (I : Inv X pins σ H s) (hl : σ'.length = σ.length) (w : ∀ (i : Nat) v, σ'[i]? = some (some v) -> σ[i]? = some (some v)) : Inv X pins σ' H s :=
 ⟨I.ok, I.os, I.bare, I.base, let ⟨m, hn, hl'⟩ := I.loc; ⟨m, hn, fun i x v e1 e2 e3 => hl' i x v e1 (w i v e2) e3⟩, I.cell, I.free, I.freeC, I.pin, I.hok, hl.trans I.len⟩
theorem Inv.pins_of {pins' : List (Addr × Obj)} (I : Inv X pins σ H s) (h : ∀ p ∈ pins', s.heap.get? p.1 = some p.2 /\ H p.1 = none /\ p.1 ≠ X.env.locals /\ p.1 ∉ X.fs /\ ∀ v, p.2.data ≠ .cell v) : Inv X pins' σ H s :=
 ⟨I.ok, I.os, I.bare, I.base, I.loc, I.cell, I.free, I.freeC, fun p hp => (List.mem_append.mp hp).elim (fun z => I.pin p (List.mem_append_left _ z)) (h p), I.hok, I.len⟩
theorem nodup_ix {N : List Str} (hN : N.Nodup) {i j : Nat} {x : Str} (a : N[i]? = some x) (b : N[j]? = some x) : i = j := by
 obtain ⟨h1, e1⟩ := List.getElem?_eq_some_iff.mp a
 obtain ⟨h2, e2⟩ := List.getElem?_eq_some_iff.mp b
 exact (List.getElem_inj hN).mp (e1.trans e2.symm)
theorem store_ok2 {M : Model} {A : Around} {E : Value -> Shared -> Prop} {i : Nat} {x : Str} {v : V} {u : Value} {Q : Unit -> Shared -> Prop} (I : Inv X pins σ H s) (hN : X.N.Nodup) (hi : X.N[i]? = some x) (hx : Loc X.env.scope x) (r : RelV v u)
  (h : ∀ s', Inv X pins (σ.set i (some v)) H s' -> (∃ a, Heap.SameBut a s.heap s'.heap /\ (a = X.env.locals \/ X.env.cells.lookup x = some a)) -> Q () s') (hf : X.fn x = true \/ X.env.scope.names.lookup x = some .local := by first | exact .inl rfl | exact .inr rfl | assumption) : wpAny M A (storeName X.env x u) Q E s := by
 obtain ⟨m, hn, hl⟩ := id I.loc
 have hcls : (X.env.scope.kind == .class || (X.env.scope.kind == .module && X.env.locals != X.env.globals)) = false := by rw [I.ok.kind]; rfl
 have hiσ : i < σ.length := by rw [I.len]; exact (List.getElem?_eq_some_iff.mp hi).1
 have cne := I.cne
 have tracked : ∀ {a : Addr} {h' : Heap}, (∃ o, s.heap.get? a = some o /\ H a = none) -> Heap.SameBut a s.heap h' -> HOk X.prog X.w H h' := fun {a h'} ha hs b ob e => by
  obtain ⟨_, _, hfree⟩ := ha
  refine (I.hok b ob e).stay (fun c w' hc q => (hs.2 c ?_).trans q) (fun _ q => q) fun _ _ q => q
  rintro rfl
  rcases hc with rfl | hc
  ·rw [hfree] at e; cases e
  ·rw [hfree] at hc; cases hc
 rcases hx with hk | hk
 ·refine wpAny_storeName_local hk hn (fun h' hn' hs => ?_) hcls
  obtain ⟨oL, _, _, hoL, _⟩ := id hn
  refine h _ ⟨I.ok, I.os, I.bare, ⟨fun b o e n hb hx => ?_, fun b o e n hb hx => ?_, I.base.free, fun b o e hx => ?_, I.base.tups, I.base.frzs, I.base.tbls⟩, ⟨_, hn', fun j y v' e1 e2 e3 => ?_⟩, fun y c e => ?_, I.free, I.freeC, fun p hp => ?_, tracked ⟨oL, hoL, I.free⟩ hs, by simpa using I.len⟩ ⟨_, hs, .inl rfl⟩
  ·exact (hs.2 b (Nat.ne_of_lt (Nat.lt_of_lt_of_le (Heap.lt_size e) I.ok.above))).trans (I.base.keep b o e n hb hx)
  ·obtain ⟨sl, e1⟩ := I.base.slot b o e n hb hx
   exact ⟨sl, (hs.2 b (Nat.ne_of_lt (Nat.lt_of_lt_of_le (Heap.lt_size e) I.ok.above))).trans e1⟩
  ·obtain ⟨o', e1⟩ := I.base.there b o e hx
   exact ⟨o', (hs.2 b (Nat.ne_of_lt (Nat.lt_of_lt_of_le (Heap.lt_size e) I.ok.above))).trans e1⟩
  ·by_cases hj : j = i
   ·subst hj
    rw [hi] at e1; cases e1
    rw [List.getElem?_set_self hiσ] at e2
    cases e2
    exact ⟨u, r, .inl ⟨hk, by simp⟩⟩
   ·rw [List.getElem?_set_ne (Ne.symm hj)] at e2
    obtain ⟨u', r', q⟩ := hl j y v' e1 e2 e3
    refine ⟨u', r', ?_⟩
    rcases q with ⟨k, e⟩ | ⟨k, c, e, z⟩
    ·refine .inl ⟨k, ?_⟩
     have : y ≠ x := fun e => hj (nodup_ix hN e1 (e ▸ hi))
     simp [this, e]
    ·exact .inr ⟨k, c, e, z.sameBut hs (cne y c e)⟩
  ·obtain ⟨w', z⟩ := I.cell y c e
   exact ⟨w', z.sameBut hs (cne y c e)⟩
  ·obtain ⟨e, n, ne, nf, d⟩ := I.pin p hp
   exact ⟨(hs.2 p.1 ne).trans e, n, ne, nf, d⟩
 ·have hfn : X.fn x = true := by
   rcases hf with z | z
   ·exact z
   ·rw [z] at hk; cases hk
  obtain ⟨c, hc⟩ := I.ok.has x (.inl hk)
  obtain ⟨w', z⟩ := I.cell x c hc
  refine wpAny_storeName_cell I.ok.kind hk hc z (fun h' hc' hs => ?_)
  obtain ⟨oc, hoc, hocd⟩ := id z
  refine h { s with heap := h' } ⟨I.ok, I.os, I.bare, ⟨fun b o e n hb hx => ?_, fun b o e n hb hx => ?_, I.base.free, fun b o e hx => ?_, I.base.tups, I.base.frzs, I.base.tbls⟩, ⟨m, hn.sameBut hs (Ne.symm (cne x c hc)), fun j y v' e1 e2 e3 => ?_⟩, fun y c' e => ?_, I.free, I.freeC, fun p hp => ?_, tracked ⟨oc, hoc, I.freeC x c hc⟩ hs, by simpa using I.len⟩ ⟨c, hs, .inr hc⟩
  ·exact (hs.2 b (Nat.ne_of_lt (Nat.lt_of_lt_of_le (Heap.lt_size e) (I.ok.cab x c hfn hc)))).trans (I.base.keep b o e n hb hx)
  ·obtain ⟨sl, e1⟩ := I.base.slot b o e n hb hx
   exact ⟨sl, (hs.2 b (Nat.ne_of_lt (Nat.lt_of_lt_of_le (Heap.lt_size e) (I.ok.cab x c hfn hc)))).trans e1⟩
  ·obtain ⟨o', e1⟩ := I.base.there b o e hx
   exact ⟨o', (hs.2 b (Nat.ne_of_lt (Nat.lt_of_lt_of_le (Heap.lt_size e) (I.ok.cab x c hfn hc)))).trans e1⟩
  ·by_cases hj : j = i
   ·subst hj
    rw [hi] at e1; cases e1
    rw [List.getElem?_set_self hiσ] at e2
    cases e2
    exact ⟨u, r, .inr ⟨.inl hk, c, hc, hc'⟩⟩
   ·rw [List.getElem?_set_ne (Ne.symm hj)] at e2
    obtain ⟨u', r', q⟩ := hl j y v' e1 e2 e3
    refine ⟨u', r', ?_⟩
    rcases q with q | ⟨k, c', e, z'⟩
    ·exact .inl q
    ·refine .inr ⟨k, c', e, z'.sameBut hs ?_⟩
     rintro rfl
     exact hj (nodup_ix hN e1 (I.ok.inj _ _ _ e hc ▸ hi))
  ·by_cases hcc : c' = c
   ·subst hcc; exact ⟨_, hc'⟩
   ·obtain ⟨w2, z2⟩ := I.cell y c' e
    exact ⟨w2, z2.sameBut hs hcc⟩
  ·obtain ⟨e, n, ne, nf, d⟩ := I.pin p hp
   refine ⟨(hs.2 p.1 ?_).trans e, n, ne, nf, d⟩
   intro q
   rw [q, hoc] at e
   have q' : oc = p.2 := Option.some.inj e
   exact d w' (by rw [<- q']; exact hocd)
theorem store_ok {M : Model} {A : Around} {E : Value -> Shared -> Prop} {i : Nat} {x : Str} {v : V} {u : Value} {Q : Unit -> Shared -> Prop} (I : Inv X pins σ H s) (hN : X.N.Nodup) (hi : X.N[i]? = some x) (hx : Loc X.env.scope x) (r : RelV v u)
  (h : ∀ s', Inv X pins (σ.set i (some v)) H s' -> Q () s') (hf : X.fn x = true \/ X.env.scope.names.lookup x = some .local := by first | exact .inl rfl | exact .inr rfl | assumption) : wpAny M A (storeName X.env x u) Q E s :=
 store_ok2 I hN hi hx r (fun s' I' _ => h s' I') hf
theorem Inv.call' {s' : Shared} {ch : List Addr} (I : Inv X pins σ H s) (ho : s'.os = s.os) (u : Un (frs X.stack) ch H H' s.heap s'.heap) (hok : HOk X.prog X.w H' s'.heap) (hg : AllBare s'.gens)
  (hch : ∀ b ∈ ch, (b ∈ X.ex \/ X.s₀.heap.objs.size <= b) /\ b ≠ X.env.locals /\ (∀ x c, X.env.cells.lookup x = some c -> c ≠ b) /\ ∀ p ∈ X.pn ++ pins, p.1 ≠ b) : Inv X pins σ H' s' := by
 obtain ⟨h', g', d', t', o'⟩ := s'
 have e : o' = s.os := ho
 subst e
 exact I.call (g' := g') (t' := t') (d' := d') u hok hg hch
end
abbrev XK := Value -> Option Addr -> Hp -> Prop
abbrev St := List (Option V)
abbrev VK := V -> Hp -> Prop
abbrev TE := St -> Hp -> VK -> Prop
abbrev TT := St -> Hp -> (Bool -> Hp -> Prop) -> Prop
abbrev TA := St -> Hp -> (List V -> Hp -> Prop) -> Prop
structure Ends where
 nx : St -> Hp -> Prop
 rt : VK
 bk : St -> Hp -> Prop := fun _ _ => False
 ct : St -> Hp -> Prop := fun _ _ => False
abbrev TS := Ends -> St -> Hp -> Prop
def EP (X : Cx) (pins : List (Addr × Obj)) (σ : St) (Q : VK) (u : Value) (s' : Shared) : Prop := ∃ v H', Inv X pins σ H' s' /\ RelV v u /\ Q v H'
def TP (X : Cx) (pins : List (Addr × Obj)) (σ : St) (Q : Bool -> Hp -> Prop) (b : Bool) (s' : Shared) : Prop := ∃ H', Inv X pins σ H' s' /\ Q b H'
def AP (X : Cx) (pins : List (Addr × Obj)) (σ : St) (Q : List V -> Hp -> Prop) (us : List Value) (s' : Shared) : Prop := ∃ vs H', Inv X pins σ H' s' /\ Vals vs us /\ Q vs H'
def SP (X : Cx) (pins : List (Addr × Obj)) (D : Ends) (f : Flow) (s' : Shared) : Prop :=
 match f with
 | .next => ∃ σ' H', Inv X pins σ' H' s' /\ D.nx σ' H'
 | .brk => ∃ σ' H', Inv X pins σ' H' s' /\ D.bk σ' H'
 | .cont => ∃ σ' H', Inv X pins σ' H' s' /\ D.ct σ' H'
 | .ret u => ∃ v σ' H', Inv X pins σ' H' s' /\ RelV v u /\ D.rt v H'
def PE (X : Cx) (e : Expr) (t : TE) : Prop :=
 ∀ (pins : List (Addr × Obj)) (s : Shared) (σ : St) (H : Hp) (Q : VK), Inv X pins σ H s -> t σ H Q -> wpAny (model X.prog X.w) X.A (eval e X.env) (EP X pins σ Q) X.xe s
def PT (X : Cx) (e : Expr) (t : TT) : Prop :=
 ∀ (pins : List (Addr × Obj)) (s : Shared) (σ : St) (H : Hp) (Q : Bool -> Hp -> Prop), Inv X pins σ H s -> t σ H Q -> wpAny (model X.prog X.w) X.A (isTrue e X.env (eval e X.env)) (TP X pins σ Q) X.xe s
def PW (X : Cx) (e : Expr) (t : TT) : Prop :=
 ∀ (whole : Sem Value) (pins : List (Addr × Obj)) (s : Shared) (σ : St) (H : Hp) (Q : Bool -> Hp -> Prop), Inv X pins σ H s -> t σ H Q -> wpAny (model X.prog X.w) X.A (isTrue e X.env whole) (TP X pins σ Q) X.xe s
theorem PW.pt {X : Cx} {e : Expr} {t : TT} (h : PW X e t) : PT X e t := h _
def PA (X : Cx) (es : List Expr) (t : TA) : Prop :=
 ∀ (pos : Pos) (pins : List (Addr × Obj)) (s : Shared) (σ : St) (H : Hp) (Q : List V -> Hp -> Prop), Inv X pins σ H s -> t σ H Q -> wpAny (model X.prog X.w) X.A (spliced (backTo pos (starEach es X.env))) (AP X pins σ Q) X.xe s
def PS (X : Cx) (st : Stmt) (t : TS) : Prop :=
 ∀ (pins : List (Addr × Obj)) (s : Shared) (σ : St) (H : Hp) (D : Ends), Inv X pins σ H s -> t D σ H -> wpAny (model X.prog X.w) X.A (exec st X.env) (SP X pins D) X.xe s
def PSs (X : Cx) (st : List Stmt) (t : TS) : Prop :=
 ∀ (pins : List (Addr × Obj)) (s : Shared) (σ : St) (H : Hp) (D : Ends), Inv X pins σ H s -> t D σ H -> wpAny (model X.prog X.w) X.A (execs st X.env) (SP X pins D) X.xe s
theorem thn {α : Type} {t : Sem α} {Q Q' : α -> Shared -> Prop} {M : Model} {A : Around} {E : Value -> Shared -> Prop} {s : Shared} (h : wpAny M A t Q E s) (hQ : ∀ a s, Q a s -> Q' a s) : wpAny M A t Q' E s := wpAny_mono h hQ fun _ _ x => x
end L2
namespace L2
open PySem PySem.Spec PyProof.Rows
section
variable {X : Cx}
def tVar (i : Nat) : TE := fun σ H Q => ∃ v, σ[i]? = some (some v) /\ Q v H
def tC (v : V) : TE := fun _ H Q => Q v H
theorem pe_var {i : Nat} {x : Str} {pos : Pos} (hN : X.N[i]? = some x) (hv : Vis X.env.scope x) (hd : (x == ("__debug__" : Str)) = false := by decide) (hcd : (x == ("__classdict__" : Str)) = false := by decide) : PE X (.Name x pos) (tVar i) := by
 intro pins s σ H Q I h
 obtain ⟨v, e, h⟩ := h
 obtain ⟨m, hn, hl⟩ := I.loc
 obtain ⟨u, r, l⟩ := hl i x v hN e hv
 have fin : EP X pins σ Q u s := ⟨v, H, I, r, h⟩
 rcases l with ⟨hk, hm⟩ | ⟨hk, c, hc, hcell⟩
 ·exact wpAny_Name (wpAny_loadName_local I.ok.kind hk hn hm fin) hd
 ·rcases hk with hk | hk
  ·exact wpAny_Name (wpAny_loadName_cell I.ok.kind hk hc hcell fin) hd
  ·exact wpAny_Name (wpAny_loadName_free I.ok.kind hk hc hcell fin hcd) hd
theorem pe_int {i j pos} : PE X (.Constant (.int i) j pos) (tC (.int i)) := fun _ _ _ H _ I h => wpAny_Constant_int ⟨.int i, H, I.tok _, ⟨_, rfl⟩, h⟩
theorem pe_bl {b j pos} : PE X (.Constant (.bool b) j pos) (tC (.bl b)) := fun _ _ _ H _ I h => Constant_bool ⟨.bl b, H, I, rfl, h⟩
theorem pe_str {x j pos} : PE X (.Constant (.str x) j pos) (tC (.str x)) := fun _ _ _ H _ I h => Calls.Constant_str ⟨.str x, H, I.tok _, ⟨_, rfl⟩, h⟩
def Gl (X : Cx) (x : Str) : Prop := X.env.kindOf x = some .globalImplicit
theorem ld_glob {E : Value -> Shared -> Prop} {pins : List (Addr × Obj)} {s : Shared} {σ : St} {H : Hp} {x : Str} {u : Value} {pos : Pos} {Q : Value -> Shared -> Prop} (I : Inv X pins σ H s) (hg : Gl X x) (hm : X.mg x = some u) (h : Q u s)
  (hd : (x == ("__debug__" : Str)) = false := by decide) : wpAny (model X.prog X.w) X.A (eval (.Name x pos) X.env) Q E s :=
 Calls.Name_function_global I.ok.kind hg (Calls.loadGlobal_global (by rw [I.ok.glob]; exact I.mod.glob.keeps I.bk) hm h) hd
theorem ld_blt {E : Value -> Shared -> Prop} {pins : List (Addr × Obj)} {s : Shared} {σ : St} {H : Hp} {x : Str} {u : Value} {pos : Pos} {Q : Value -> Shared -> Prop} (I : Inv X pins σ H s) (hg : Gl X x) (hm : X.mg x = none) (hv : bootBuiltins x = some u) (h : Q u s)
  (hn : x ≠ "__name__" := by decide) (hd : (x == ("__debug__" : Str)) = false := by decide) : wpAny (model X.prog X.w) X.A (eval (.Name x pos) X.env) Q E s := by
 obtain ⟨mb, h1, h2⟩ := I.mod.blt
 exact Calls.Name_function_global I.ok.kind hg (Calls.loadGlobal_builtin (by rw [I.ok.glob]; exact I.mod.glob.keeps I.bk) hm (by rw [I.ok.blt]; exact h1.keeps I.bk) ((h2 x hn).trans hv) h) hd
theorem pe_glob {x : Str} {v : V} {u : Value} {pos : Pos} (hg : Gl X x) (hm : X.mg x = some u) (r : RelV v u) (hd : (x == ("__debug__" : Str)) = false := by decide) : PE X (.Name x pos) (tC v) :=
 fun _ _ _ H _ I h => ld_glob I hg hm ⟨v, H, I, r, h⟩ hd
theorem pe_bltn {x : Str} {v : V} {u : Value} {pos : Pos} (hg : Gl X x) (hm : X.mg x = none) (hv : bootBuiltins x = some u) (r : RelV v u) (hn : x ≠ "__name__" := by decide) (hd : (x == ("__debug__" : Str)) = false := by decide) : PE X (.Name x pos) (tC v) :=
 fun _ _ _ H _ I h => ld_blt I hg hm hv ⟨v, H, I, r, h⟩ hn hd
variable {a b : Expr} {ta tb : TE} {pos : Pos}
def tB (t : TE) : TT := fun σ H Q => t σ H fun x H1 => ∃ c, x = .bl c /\ Q c H1
theorem pt_val {e : Expr} {t : TE} (h : PE X e t) (he : ∀ whole, isTrue e X.env whole = (do let v <- whole; standAt e.pos; holding [v] (truthy v)) := by intro _; rfl) : PT X e (tB t) := by
 intro pins s σ H Q I hw
 refine isTrue_plain (thn (h pins s σ H _ I hw) fun v s1 ⟨x, H1, I1, r1, q1⟩ => ?_) (he _)
 obtain ⟨d, rfl, q⟩ := q1
 cases r1
 exact wpAny_truthy_bool ⟨H1, I1, q⟩
variable {tA tB' : TT} {rest : List Expr}
def tAnd (t u : TT) : TT := fun σ H Q => t σ H fun c H1 => if c = true then u σ H1 Q else Q false H1
def tOr (t u : TT) : TT := fun σ H Q => t σ H fun c H1 => if c = true then Q true H1 else u σ H1 Q
def tNot (t : TT) : TT := fun σ H Q => t σ H fun c H1 => Q (!c) H1
theorem pw_and1 (ha : PT X a tA) : PW X (.BoolOp .And [a] pos) tA := by
 intro wh pins s σ H Q I h
 refine isTrue_and (thn (ha pins s σ H Q I h) fun c s1 e => ?_)
 cases c with
 | true => exact isTrue_and_nil e
 | false => exact e
theorem pw_or1 (ha : PT X a tA) : PW X (.BoolOp .Or [a] pos) tA := by
 intro wh pins s σ H Q I h
 refine isTrue_or (thn (ha pins s σ H Q I h) fun c s1 e => ?_)
 cases c with
 | false => exact isTrue_or_nil e
 | true => exact e
theorem pw_and (ha : PT X a tA) (hb : PW X (.BoolOp .And (b :: rest) pos) tB') : PW X (.BoolOp .And (a :: b :: rest) pos) (tAnd tA tB') := by
 intro wh pins s σ H Q I h
 refine isTrue_and (thn (ha pins s σ H _ I h) fun c s1 ⟨H1, I1, q1⟩ => ?_)
 cases c with
 | true => exact hb wh pins s1 σ H1 Q I1 q1
 | false => exact ⟨H1, I1, q1⟩
theorem pw_or (ha : PT X a tA) (hb : PW X (.BoolOp .Or (b :: rest) pos) tB') : PW X (.BoolOp .Or (a :: b :: rest) pos) (tOr tA tB') := by
 intro wh pins s σ H Q I h
 refine isTrue_or (thn (ha pins s σ H _ I h) fun c s1 ⟨H1, I1, q1⟩ => ?_)
 cases c with
 | true => exact ⟨H1, I1, q1⟩
 | false => exact hb wh pins s1 σ H1 Q I1 q1
theorem pt_not (ha : PT X a tA) : PT X (.UnaryOp .Not a pos) (tNot tA) := by
 intro pins s σ H Q I h
 exact isTrue_not (ha pins s σ H (fun c H1 => Q (!c) H1) I h)
def tAndV (ta tb : TE) : TE := fun σ H Q => ta σ H fun x H1 => ∃ c, x = .bl c /\ if c = true then tb σ H1 Q else Q (.bl false) H1
def tOrV (ta tb : TE) : TE := fun σ H Q => ta σ H fun x H1 => ∃ c, x = .bl c /\ if c = true then Q (.bl true) H1 else tb σ H1 Q
theorem pe_one {op} {t : TE} (h : PE X a t) : PE X (.BoolOp op [a] pos) t := fun pins s σ H Q I hw => BoolOp_one (h pins s σ H Q I hw)
theorem pe_and (ha : PE X a ta) (hb : PE X (.BoolOp .And (b :: rest) pos) tb) : PE X (.BoolOp .And (a :: b :: rest) pos) (tAndV ta tb) := by
 intro pins s σ H Q I h
 refine BoolOp_and (thn (ha pins s σ H _ I h) fun v s1 ⟨x, H1, I1, r1, q1⟩ => ?_)
 obtain ⟨c, rfl, q1⟩ := q1
 cases r1
 refine wpAny_truthy_bool ?_
 cases c with
 | true => exact hb pins s1 σ H1 Q I1 q1
 | false => exact ⟨.bl false, H1, I1, rfl, q1⟩
theorem pe_or (ha : PE X a ta) (hb : PE X (.BoolOp .Or (b :: rest) pos) tb) : PE X (.BoolOp .Or (a :: b :: rest) pos) (tOrV ta tb) := by
 intro pins s σ H Q I h
 refine BoolOp_or (thn (ha pins s σ H _ I h) fun v s1 ⟨x, H1, I1, r1, q1⟩ => ?_)
 obtain ⟨c, rfl, q1⟩ := q1
 cases r1
 refine wpAny_truthy_bool ?_
 cases c with
 | false => exact hb pins s1 σ H1 Q I1 q1
 | true => exact ⟨.bl true, H1, I1, rfl, q1⟩
def tIf (t : TT) (ta tb : TE) : TE := fun σ H Q => t σ H fun c H1 => if c = true then ta σ H1 Q else tb σ H1 Q
theorem pe_ifExp {c : Expr} (hc : PT X c tA) (ha : PE X a ta) (hb : PE X b tb) : PE X (.IfExp c a b pos) (tIf tA ta tb) := by
 intro pins s σ H Q I h
 refine wpAny_IfExp (thn (hc pins s σ H _ I h) fun d s1 ⟨H1, I1, q1⟩ => ?_)
 cases d with
 | true => exact ha pins s1 σ H1 Q I1 q1
 | false => exact hb pins s1 σ H1 Q I1 q1
end
end L2
namespace L2
open PySem PySem.Spec PyProof.Rows
def SqL (K : PySem.W.Frag) (H : Hp) (a : Addr) (xs : List V) : Prop :=
 Rd H a (.lst xs) ∨
  ∃ (o : Obj) (its : Array Value) (n : Nat), K.lookup a = some o /\ o.cls = .type "list" /\ o.dict = none /\ o.data = .seq its n /\ its.size <= sizeLine /\ Vals xs its.toList
def SqT (K : PySem.W.Frag) (H : Hp) (a : Addr) (xs : List V) : Prop :=
 Rd H a (.tup xs) ∨
  ∃ (o : Obj) (its : Array Value) (n : Nat), K.lookup a = some o /\ o.cls = .type "tuple" /\ o.data = .seq its n /\ its.size <= sizeLine /\ Vals xs its.toList
def absV : Value -> Option V
 | .none => some .non
 | .bool b => some (.bl b)
 | .int i _ => some (.int i)
 | .str x _ => some (.str x)
 | .bytes b _ => some (.byt b)
 | .float b _ => some (.flt b)
 | .ref a => some (.ref a)
 | .type n => some (.ty n)
 | _ => none
theorem RelV.abs {x : V} {u : Value} (r : RelV x u) : absV u = some x := by
 cases x with
 | non => cases r; rfl
 | bl _ => cases r; rfl
 | int _ => obtain ⟨t, rfl⟩ := r; rfl
 | str _ => obtain ⟨t, rfl⟩ := r; rfl
 | byt _ => obtain ⟨t, rfl⟩ := r; rfl
 | flt _ => obtain ⟨t, rfl⟩ := r; rfl
 | ref _ => cases r; rfl
 | ty _ => cases r; rfl
theorem RelV.inj {x y : V} {u : Value} (r : RelV x u) (q : RelV y u) : x = y := Option.some.inj (r.abs.symm.trans q.abs)
theorem Vals.inj : ∀ {xs ys : List V} {us : List Value}, Vals xs us -> Vals ys us -> xs = ys
 | _, _, _, .nil, .nil => rfl
 | _, _, _, .cons r t, .cons r' t' => by rw [r.inj r', Vals.inj t t']
section
variable {X : Cx} {pins : List (Addr × Obj)} {σ : St} {H : Hp} {s : Shared} {a : Addr} {xs ys : List V}
theorem SqL.of {K : PySem.W.Frag} (h : H a = some (.lst xs)) : SqL K H a xs := .inl (.inl h)
theorem SqT.of {K : PySem.W.Frag} (h : H a = some (.tup xs)) : SqT K H a xs := .inl (.inl h)
theorem Inv.list (I : Inv X pins σ H s) (h : SqL X.K H a xs) : ∃ its : List Value, Vals xs its /\ PlainL s.heap a its.toArray /\ xs.length <= sizeLine := by
 rcases h with h | ⟨o, its, n, hk, hc, hd, hs, hz, r⟩
 ·obtain ⟨z, its, n, r, e⟩ := h.ok I.hok
  exact ⟨its, r, ⟨_, n, e, rfl, rfl, rfl⟩, z⟩
 ·refine ⟨its.toList, r, ⟨o, n, I.kIn a o hk, hc, hd, by simpa using hs⟩, ?_⟩
  have e := r.length
  simp only [Array.length_toList] at e
  omega
theorem Inv.tuple (I : Inv X pins σ H s) (h : SqT X.K H a xs) : ∃ its : List Value, Vals xs its /\ IsTup s.heap a its.toArray /\ xs.length <= sizeLine := by
 rcases h with h | ⟨o, its, n, hk, hc, hs, hz, r⟩
 ·obtain ⟨z, its, r, p⟩ := h.ok I.hok
  exact ⟨its, r, p, z⟩
 ·refine ⟨its.toList, r, ⟨o, I.kIn a o hk, hc, n, by simpa using hs⟩, ?_⟩
  have e := r.length
  simp only [Array.length_toList] at e
  omega
theorem Inv.list_inj (I : Inv X pins σ H s) (h : SqL X.K H a xs) (h' : SqL X.K H a ys) : xs = ys := by
 obtain ⟨its, r, ⟨o, n, e, _, _, d⟩, _⟩ := I.list h
 obtain ⟨its', r', ⟨o', n', e', _, _, d'⟩, _⟩ := I.list h'
 rw [e] at e'; cases e'
 rw [d] at d'
 injection d' with d1 _
 have : its = its' := by simpa using congrArg Array.toList d1
 subst this
 exact r.inj r'
theorem Inv.tuple_inj (I : Inv X pins σ H s) (h : SqT X.K H a xs) (h' : SqT X.K H a ys) : xs = ys := by
 obtain ⟨its, r, ⟨o, e, _, n, d⟩, _⟩ := I.tuple h
 obtain ⟨its', r', ⟨o', e', _, n', d'⟩, _⟩ := I.tuple h'
 rw [e] at e'; cases e'
 rw [d] at d'
 injection d' with d1 _
 have : its = its' := by simpa using congrArg Array.toList d1
 subst this
 exact r.inj r'
end
abbrev Cx.wish (X : Cx) (E : Value -> Shared -> Prop) : Cx := { X with xe := E }
abbrev Cx.nox (X : Cx) : Cx := X.wish fun _ _ => False
theorem Cx.Ok.wish {X : Cx} (ok : X.Ok) (E : Value -> Shared -> Prop) : (X.wish E).Ok :=
 ⟨ok.mod, ok.kind, ok.glob, ok.blt, ok.above, ok.inj, ok.has, ok.cab, ok.hd, ok.frames, ok.stk, ok.exf, ok.bs, ok.bsz, ok.noex, ok.exfs, ok.funs, ok.frf⟩
theorem Cx.Ok.unwish {X : Cx} {E : Value -> Shared -> Prop} (ok : (X.wish E).Ok) : X.Ok :=
 ⟨ok.mod, ok.kind, ok.glob, ok.blt, ok.above, ok.inj, ok.has, ok.cab, ok.hd, ok.frames, ok.stk, ok.exf, ok.bs, ok.bsz, ok.noex, ok.exfs, ok.funs, ok.frf⟩
section
variable {X : Cx} {pins : List (Addr × Obj)} {σ : St} {H : Hp} {s : Shared} {E : Value -> Shared -> Prop}
theorem Inv.wish (I : Inv X pins σ H s) (E : Value -> Shared -> Prop) : Inv (X.wish E) pins σ H s := ⟨I.ok.wish E, I.os, I.bare, I.base, I.loc, I.cell, I.free, I.freeC, I.pin, I.hok, I.len⟩
theorem Inv.unwish (I : Inv (X.wish E) pins σ H s) : Inv X pins σ H s := ⟨I.ok.unwish, I.os, I.bare, I.base, I.loc, I.cell, I.free, I.freeC, I.pin, I.hok, I.len⟩
theorem SP.unwish {D : Ends} {f : Flow} {s' : Shared} (h : SP (X.wish E) pins D f s') : SP X pins D f s' := by
 cases f with
 | next => obtain ⟨σ', H', I, q⟩ := h; exact ⟨σ', H', I.unwish, q⟩
 | brk => obtain ⟨σ', H', I, q⟩ := h; exact ⟨σ', H', I.unwish, q⟩
 | cont => obtain ⟨σ', H', I, q⟩ := h; exact ⟨σ', H', I.unwish, q⟩
 | ret u => obtain ⟨v, σ', H', I, r, q⟩ := h; exact ⟨v, σ', H', I.unwish, r, q⟩
theorem PSs.nox {st : List Stmt} {t : TS} (h : PSs X.nox st t) : PSs X st t := fun pins s σ H D I hw =>
 wpAny_mono (h pins s σ H D (I.wish _) hw) (fun _ _ q => q.unwish) fun _ _ z => False.elim z
end
section
variable {X : Cx} {st : Stmt} {rest : List Stmt} {t u : TS} {e : Expr} {te : TE} {pos : Pos}
def tNext : TS := fun D σ H => D.nx σ H
def tSeq (t u : TS) : TS := fun D σ H => t { D with nx := u D } σ H
theorem pss_nil : PSs X [] tNext := fun _ _ σ H _ I h => wpAny_execs_nil ⟨σ, H, I, h⟩
theorem zpn (h1 : PS X st t) (h2 : PSs X rest u) : PSs X (st :: rest) (tSeq t u) := by
 intro pins s σ H D I h
 refine wpAny_execs_cons (thn (h1 pins s σ H { D with nx := u D } I h) fun f s1 q => ?_)
 cases f with
 | next =>
  obtain ⟨σ', H', I', q⟩ := q
  exact h2 pins s1 σ' H' D I' q
 | ret v => exact q
 | brk => exact q
 | cont => exact q
theorem zpo (h1 : PS X st t) : PSs X [st] t := by
 intro pins s σ H D I h
 refine wpAny_execs_cons (thn (h1 pins s σ H D I h) fun f s1 q => ?_)
 cases f with
 | next => exact wpAny_execs_nil q
 | ret v => exact q
 | brk => exact q
 | cont => exact q
theorem Inv.quiet {pins : List (Addr × Obj)} {σ : St} {H : Hp} {s : Shared} (I : Inv X pins σ H s) : interactive X.env = false := by simp [interactive, I.ok.kind]
def tDrop (te : TE) : TS := fun D σ H => te σ H fun _ H1 => D.nx σ H1
theorem ps_expr (he : PE X e te) (hs : swapsWith e none pos.line X.env = pure false := by rfl) : PS X (.Expr e pos) (tDrop te) := by
 intro pins s σ H D I h
 exact wpAny_Expr_any (thn (he pins s σ H _ I h) fun v s1 ⟨x, H1, I1, r1, q1⟩ => ⟨σ, H1, I1, q1⟩) I.quiet hs
def tRet (te : TE) : TS := fun D σ H => te σ H D.rt
theorem ps_ret (he : PE X e te) : PS X (.Return (some e) pos) (tRet te) := by
 intro pins s σ H D I h
 exact wpAny_Return_some (thn (he pins s σ H _ I h) fun v s1 ⟨x, H1, I1, r1, q1⟩ => ⟨x, σ, H1, I1, r1, q1⟩)
def tIfS (c : TT) (t u : TS) : TS := fun D σ H => c σ H fun b H1 => if b = true then t D σ H1 else u D σ H1
theorem ps_if {c : Expr} {a b : List Stmt} {tc : TT} (hc : PT X c tc) (ha : PSs X a t) (hb : PSs X b u) : PS X (.If c a b pos) (tIfS tc t u) := by
 intro pins s σ H D I h
 refine wpAny_If (thn (hc pins s σ H _ I h) fun d s1 ⟨H1, I1, q1⟩ => ?_)
 cases d with
 | true => exact ha pins s1 σ H1 D I1 q1
 | false => exact hb pins s1 σ H1 D I1 q1
def tNever : TS := fun _ _ _ => False
theorem ps_never : PS X st tNever := fun _ _ _ _ _ _ h => h.elim
end
abbrev TG := V -> St -> Hp -> (St -> Hp -> Prop) -> Prop
abbrev TGs := List V -> St -> Hp -> (St -> Hp -> Prop) -> Prop
def PG (X : Cx) (target : Expr) (t : TG) : Prop :=
 ∀ (pins : List (Addr × Obj)) (s : Shared) (σ : St) (H : Hp) (v : V) (u : Value) (Q : St -> Hp -> Prop), Inv X pins σ H s -> RelV v u -> t v σ H Q ->
  wpAny (model X.prog X.w) X.A (assign target X.env u) (fun _ s' => ∃ σ' H', Inv X pins σ' H' s' /\ Q σ' H') X.xe s
def PGs (X : Cx) (ts : List Expr) (t : TGs) : Prop :=
 ∀ (pins : List (Addr × Obj)) (s : Shared) (σ : St) (H : Hp) (vs : List V) (us : List Value) (Q : St -> Hp -> Prop), Inv X pins σ H s -> Vals vs us -> t vs σ H Q ->
  wpAny (model X.prog X.w) X.A (assignInOrder ((assignEach ts X.env).map (·.2)) us) (fun _ s' => ∃ σ' H', Inv X pins σ' H' s' /\ Q σ' H') X.xe s
abbrev TSet := V -> V -> V -> Hp -> (Hp -> Prop) -> Prop
def PSet (X : Cx) (t : TSet) : Prop :=
 ∀ (pins : List (Addr × Obj)) (s : Shared) (σ : St) (H : Hp) (o i v : V) (ov iv u : Value) (Q : Hp -> Prop), Inv X pins σ H s -> RelV o ov -> RelV i iv -> RelV v u -> t o i v H Q ->
  wpAny (model X.prog X.w) X.A (setItem ov iv u) (fun _ s' => ∃ H', Inv X pins σ H' s' /\ Q H') X.xe s
section
variable {X : Cx} {pos : Pos}
def gName (i : Nat) : TG := fun v σ H Q => Q (σ.set i (some v)) H
theorem pg_name {i : Nat} {x : Str} (hN : X.N.Nodup) (hi : X.N[i]? = some x) (hx : Loc X.env.scope x) (hf : X.fn x = true \/ X.env.scope.names.lookup x = some .local := by first | exact .inl rfl | exact .inr rfl | assumption) : PG X (.Name x pos) (gName i) := by
 intro pins s σ H v u Q I r h
 exact wpAny_assign_Name (store_ok I hN hi hx r (fun s' I' => ⟨_, H, I', h⟩) hf)
def gNil : TGs := fun vs σ H Q => vs = [] /\ Q σ H
def gCons (t : TG) (u : TGs) : TGs := fun vs σ H Q => ∃ v r, vs = v :: r /\ t v σ H fun σ' H' => u r σ' H' Q
theorem pgs_nil : PGs X [] gNil := by
 intro pins s σ H vs us Q I r h
 obtain ⟨e, h⟩ := h
 subst e
 cases r
 exact assignInOrder_nil ⟨σ, H, I, h⟩
theorem pgs_cons {e : Expr} {es : List Expr} {t : TG} {u : TGs} (h1 : PG X e t) (h2 : PGs X es u)
  (hs : (assignEach (e :: es) X.env).map (·.2) = assign e X.env :: (assignEach es X.env).map (·.2) := by rfl) : PGs X (e :: es) (gCons t u) := by
 intro pins s σ H vs us Q I r h
 obtain ⟨v, vr, e1, h⟩ := h
 subst e1
 cases r with
 | cons r rr =>
  rw [hs]
  refine assignInOrder_cons (thn (h1 pins s σ H _ _ _ I r h) fun _ s1 ⟨σ1, H1, I1, q1⟩ => ?_)
  exact h2 pins s1 σ1 H1 _ _ Q I1 rr q1
def gTup (K : PySem.W.Frag) (n : Nat) (t : TGs) : TG := fun v σ H Q => ∃ a xs, v = .ref a /\ SqT K H a xs /\ xs.length = n /\ t xs σ H Q
theorem pg_tup {es : List Expr} {k : Nat} {t : TGs} {n : Nat} (hc : X.calm = true) (h : PGs X es t)
  (hn : (assignEach es X.env).length = n := by rfl) (hst : (assignEach es X.env).findIdx? (·.1) = none := by rfl) : PG X (.Tuple es k pos) (gTup X.K n t) := by
 intro pins s σ H v u Q I r hw
 obtain ⟨a, xs, e1, hq, hl, hw⟩ := hw
 subst e1
 cases r
 obtain ⟨its, rv, ht, hz⟩ := I.tuple hq
 refine assign_Tuple_tuple (I.ok.hd hc) ht (by simp [hn, <- hl, rv.length]) hst fun h' hx => ?_
 have I1 : Inv X pins σ H { s with heap := h' } := I.kept (t' := s.toks) fun b o e => hx b o (Nat.ne_of_lt (Heap.lt_size e)) e
 exact h pins _ σ H xs _ Q I1 (by simpa using rv) hw
def gSub (to ti : TE) (t : TSet) : TG := fun v σ H Q => to σ H fun o H1 => ti σ H1 fun i H2 => t o i v H2 fun H3 => Q σ H3
theorem pg_sub {o i : Expr} {to ti : TE} {t : TSet} (ho : PE X o to) (hi : PE X i ti) (hs : PSet X t)
  (ha : ∀ v, assign (.Subscript o i pos) X.env v = (do
   let ov <- holding [v] (eval o X.env)
   let iv <- holding [v, ov] (eval i X.env)
   standAt pos
   holding [v, ov, iv] (setItem ov iv v)
   release [v, ov, iv] []) := by intro _; rfl) : PG X (.Subscript o i pos) (gSub to ti t) := by
 intro pins s σ H v u Q I r h
 rw [ha]
 refine wpAny_bind (wpAny_holding (thn (ho pins s σ H _ I h) fun ov s1 ⟨x, H1, I1, r1, q1⟩ => ?_))
 refine wpAny_bind (wpAny_holding (thn (hi pins s1 σ H1 _ I1 q1) fun iv s2 ⟨y, H2, I2, r2, q2⟩ => ?_))
 refine wpAny_bind (wpAny_standAt (wpAny_bind (wpAny_holding (thn (hs pins s2 σ H2 x y v ov iv u _ I2 r1 r2 r q2) fun _ s3 ⟨H3, I3, q3⟩ => ?_))))
 exact wpAny_release ⟨σ, H3, I3, q3⟩
def tAsg (te : TE) (g : TG) : TS := fun D σ H => te σ H fun x H1 => g x σ H1 D.nx
theorem ps_asg {tg e : Expr} {te : TE} {g : TG} (he : PE X e te) (hg : PG X tg g) (hs : swapsWithSole [tg] e pos.line X.env = pure false := by rfl) (hw : swappedStores [tg] e X.env = pure none := by rfl)
  (h1 : (assignEach [tg] X.env).map (·.2) = [assign tg X.env] := by rfl) : PS X (.Assign [tg] e pos) (tAsg te g) := by
 intro pins s σ H D I h
 refine wpAny_Assign_stores (thn (he pins s σ H _ I h) fun v s1 ⟨x, H1, I1, r1, q1⟩ => ?_) hs hw
 rw [h1]
 exact thn (hg pins s1 σ H1 x v _ I1 r1 q1) fun _ s2 q => q
theorem ps_set {i : Nat} {x : Str} {e : Expr} {te : TE} {pos' : Pos} (hN : X.N.Nodup) (hi : X.N[i]? = some x) (hx : Loc X.env.scope x) (he : PE X e te) (hs : swapsWith e (some (.Name x pos')) pos.line X.env = pure false := by rfl) (hf : X.fn x = true \/ X.env.scope.names.lookup x = some .local := by first | exact .inl rfl | exact .inr rfl | assumption) :
  PS X (.Assign [.Name x pos'] e pos) (tAsg te (gName i)) := by
 intro pins s σ H D I h
 refine wpAny_Assign_Name (thn (he pins s σ H _ I h) fun v s1 ⟨y, H1, I1, r1, q1⟩ => ?_) hs
 exact store_ok I1 hN hi hx r1 (fun s2 I2 => ⟨_, H1, I2, q1⟩) hf
end
section
variable {X : Cx} {pos : Pos}
def tWhile (c : TT) (tb : TS) : TS := fun D σ H => ∃ W : Nat -> St -> Hp -> Prop, (∃ m, W m σ H) /\ ∀ m σ H, W m σ H ->
 c σ H fun b H1 => if b = true then ∃ N : St -> Hp -> Prop, (∀ σ' H', N σ' H' -> ∃ m', m' < m /\ W m' σ' H') /\ tb { D with nx := N, ct := N, bk := D.nx } σ H1 else D.nx σ H1
theorem ps_while {c : Expr} {body : List Stmt} {tc : TT} {tb : TS} (hp : PassesOwn (model X.prog X.w) X.A X.env X.xe) (hc : PT X c tc) (hb : PSs X body tb) : PS X (.While c body [] pos) (tWhile tc tb) := by
 intro pins s σ H D I h
 obtain ⟨W, ⟨m0, w0⟩, turn⟩ := h
 refine wpAny_While (codeAny_whileLoop (fun n s' => ∃ σ' H', Inv X pins σ' H' s' /\ W n σ' H') ?_ m0 ⟨σ, H, I, w0⟩)
 rintro n s1 ⟨σ1, H1, I1, w1⟩
 refine wpAny_passesOwn hp (thn (hc pins s1 σ1 H1 _ I1 (turn n σ1 H1 w1)) fun b s2 ⟨H2, I2, q2⟩ => ?_)
 cases b with
 | true =>
  obtain ⟨N, hN, q2⟩ := q2
  rw [if_pos rfl]
  refine wpAny_passesOwn hp (thn (hb pins s2 σ1 H2 _ I2 q2) fun f s3 q3 => ?_)
  cases f with
  | next =>
   obtain ⟨σ3, H3, I3, n3⟩ := q3
   obtain ⟨m', hm, w3⟩ := hN σ3 H3 n3
   exact ⟨m', hm, σ3, H3, I3, w3⟩
  | cont =>
   obtain ⟨σ3, H3, I3, n3⟩ := q3
   obtain ⟨m', hm, w3⟩ := hN σ3 H3 n3
   exact ⟨m', hm, σ3, H3, I3, w3⟩
  | brk => exact q3
  | ret v => exact q3
 | false =>
  rw [if_neg Bool.false_ne_true]
  exact wpAny_execs_nil ⟨σ1, H2, I2, q2⟩
end
structure It where
 go : Nat -> Hp -> Prop
 yld : Nat -> Hp -> V -> Hp -> Prop
 stop : Nat -> Hp -> Prop
def FpOk (X : Cx) (pins : List (Addr × Obj)) (H : Hp) (b : Addr) : Prop :=
 H b = none /\ b ≠ X.env.locals /\ b ∉ X.fs /\ (b ∈ X.ex \/ X.s₀.heap.objs.size <= b) /\ (∀ x c, X.env.cells.lookup x = some c -> c ≠ b) /\ ∀ p ∈ X.pn ++ pins, p.1 ≠ b
theorem Inv.fpOk {X : Cx} {pins : List (Addr × Obj)} {σ : St} {H H' : Hp} {s : Shared} {b : Addr} (I : Inv X pins σ H s) (hb : s.heap.objs.size <= b) (hn : H' b = none) : FpOk X pins H' b := by
 refine ⟨hn, Nat.ne_of_gt (Nat.lt_of_lt_of_le I.lt hb), I.nofs hb, .inr (Nat.le_trans I.sz hb), fun x c e z => ?_, fun p hp z => ?_⟩
 ·obtain ⟨v, q⟩ := I.cell x c e
  exact absurd (Nat.lt_of_lt_of_le q.lt (by rw [z]; exact hb)) (Nat.lt_irrefl _)
 ·exact absurd (Nat.lt_of_lt_of_le (Heap.lt_size (I.pin p hp).1) (by rw [z]; exact hb)) (Nat.lt_irrefl _)
structure Turn (P : Program) (w : World) (K : PySem.W.Frag) (tg : Expr) (J : It) (fp : List Addr) (it : Addr) (tn : Nat -> Heap -> Prop) : Prop where
 mem : it ∈ fp
 obj : ∀ i h, tn i h -> ∀ b ∈ fp, ∃ o, h.get? b = some o /\ ∀ v, o.data ≠ .cell v
 keep : ∀ i h h', tn i h -> (∀ b ∈ fp, ∀ o, h.get? b = some o -> h'.get? b = some o) -> tn i h'
 item : ∀ (X : Cx), X.prog = P -> X.w = w -> X.K = K -> X.calm = true -> ∀ (i : Nat) (pins : List (Addr × Obj)) (s : Shared) (σ : St) (H : Hp) (E : Value -> Shared -> Prop), Inv X pins σ H s -> (∀ b ∈ fp, FpOk X pins H b) -> tn i s.heap -> J.go i H ->
  wpAny (model P w) X.A (pyNext (.ref it)) (fun r s1 => ∃ u, r = some u ∧
   wpAny (model P w) X.A (letOwnedTupleGo tg (.ref it) u) (fun _ s2 => ∃ x H', Inv X pins σ H' s2 /\ RelV x u /\ J.yld i H x H' /\ tn (i + 1) s2.heap /\ ∀ b ∈ fp, H' b = none) E s1) E s
 done : ∀ (X : Cx), X.prog = P -> X.w = w -> X.K = K -> X.calm = true -> ∀ (i : Nat) (pins : List (Addr × Obj)) (s : Shared) (σ : St) (H : Hp) (E : Value -> Shared -> Prop), Inv X pins σ H s -> (∀ b ∈ fp, FpOk X pins H b) -> tn i s.heap -> J.stop i H ->
  wpAny (model P w) X.A (pyNext (.ref it)) (fun r s1 => r = none /\ Inv X pins σ H s1) E s
 self : ∀ (A : Around) (i : Nat) (s : Shared) (Q : Value -> Shared -> Prop) (E : Value -> Shared -> Prop), tn i s.heap -> Q (.ref it) s -> wpAny (model P w) A (pyIter (.ref it)) Q E s
abbrev TI := St -> Hp -> (It -> Hp -> Prop) -> Prop
def PIE (X : Cx) (pins : List (Addr × Obj)) (σ : St) (tg : Expr) (R : It -> Hp -> Prop) (itv : Value) (s2 : Shared) : Prop :=
 ∃ (it : Addr) (fp : List Addr) (tn : Nat -> Heap -> Prop) (J : It) (H' : Hp), itv = .ref it /\ Inv X pins σ H' s2 /\ Turn X.prog X.w X.K tg J fp it tn /\ tn 0 s2.heap /\ (∀ b ∈ fp, FpOk X pins H' b) /\ R J H'
def PI (X : Cx) (tg iter : Expr) (wi : TI) : Prop :=
 ∀ (pins : List (Addr × Obj)) (s : Shared) (σ : St) (H : Hp) (R : It -> Hp -> Prop), Inv X pins σ H s -> wi σ H R ->
  wpAny (model X.prog X.w) X.A (eval iter X.env) (fun v s1 => wpAny (model X.prog X.w) X.A (pyIter v) (PIE X pins σ tg R) X.xe s1) X.xe s
theorem go_of {M : Model} {A : Around} {E : Value -> Shared -> Prop} {s : Shared} {tg : Expr} {it : Addr} {u : Value} {o : Obj} {n : String} {vs : Array Value} {Q : Unit -> Shared -> Prop} (ho : s.heap.get? it = some o) (hc : o.cls = .type n) (hd : o.data = .fields vs)
    (hn : ["enumerate", "zip", "dict_itemiterator", "dict_reverseitemiterator", "odict_iterator", "itertools.zip_longest", "itertools.pairwise"].contains n = false) (hQ : Q () s) : wpAny M A (letOwnedTupleGo tg (.ref it) u) Q E s := by
  unfold letOwnedTupleGo
  cases tg <;> first
    | exact wpAny_pure hQ
    | (cases u <;> first
        | exact wpAny_pure hQ
        | (refine wpAny_bind (wpAny_load ho ?_)
           rw [hc, hd]
           show wpAny M A (if (["enumerate", "zip", "dict_itemiterator", "dict_reverseitemiterator", "odict_iterator", "itertools.zip_longest", "itertools.pairwise"].contains n && vs[0]? == some (rawInt _)) = true then _ else _) Q E s
           rw [if_neg (by intro h; rw [hn, Bool.false_and] at h; cases h)]
           exact wpAny_pure hQ))
def Itl (K : PySem.W.Frag) (a : Addr) : It :=
 ⟨fun i H => ∃ xs x, SqL K H a xs /\ xs[i]? = some x, fun i H x H' => H' = H /\ ∀ xs, SqL K H a xs -> xs[i]? = some x, fun i H => ∃ xs, SqL K H a xs /\ xs.length <= i⟩
def Itt (K : PySem.W.Frag) (a : Addr) : It :=
 ⟨fun i H => ∃ xs x, SqT K H a xs /\ xs[i]? = some x, fun i H x H' => H' = H /\ ∀ xs, SqT K H a xs -> xs[i]? = some x, fun i H => ∃ xs, SqT K H a xs /\ xs.length <= i⟩
def Itr (lo : Int) (n : Nat) : It := ⟨fun i _ => i < n, fun i H x H' => H' = H /\ x = .int (lo + i), fun i _ => n <= i⟩
theorem turn_list {P : Program} {w : World} {K : PySem.W.Frag} {tg : Expr} (a it : Addr) : Turn P w K tg (Itl K a) [it] it (fun i h => h.IsListIter it a i) where
 mem := by simp
 obj := fun i h st b hb => by
  have e : b = it := by simpa using hb
  subst e
  obtain ⟨o, e, c, d⟩ := st
  exact ⟨o, e, fun v z => by rw [d] at z; cases z⟩
 keep := fun i h h' st k => st.at fun o e => k it (by simp) o e
 item := by
  intro X hP hw hK hc i pins s σ H E I hf st hg
  subst hP hw hK
  obtain ⟨xs, x, hq, hx⟩ := hg
  obtain ⟨its, rv, p, hz⟩ := I.list hq
  obtain ⟨u, hu, ru⟩ := rv.get hx
  obtain ⟨f0, f1, f2, f3, f4, f5⟩ := hf it (by simp)
  refine wpAny_pyNext_list_item st p.isList (x := u) (by simpa using hu) fun h' st' sb => ?_
  have I1 : Inv X pins σ H { s with heap := h' } := I.turned (t' := s.toks) (fun b o hb e => (sb.2 b hb).trans e) f0 f1 f3 f4 f5
  obtain ⟨o, e, c, d⟩ := id st'
  exact ⟨u, rfl, go_of (s := { s with heap := h' }) e c d (by decide) ⟨x, H, I1, ru, ⟨rfl, fun ys hy => by rw [I.list_inj hy hq]; exact hx⟩, st', fun b hb => (hf b hb).1⟩⟩
 done := by
  intro X hP hw hK hc i pins s σ H E I hf st hg
  subst hP hw hK
  obtain ⟨xs, hq, hx⟩ := hg
  obtain ⟨its, rv, p, hz⟩ := I.list hq
  obtain ⟨f0, f1, f2, f3, f4, f5⟩ := hf it (by simp)
  have hl := rv.length
  exact wpAny_pyNext_list_end (I.ok.hd hc) st p.isList (by simp; omega) fun h' eb => ⟨rfl, I.turned (t' := s.toks) (fun b o hb e => eb b o hb e) f0 f1 f3 f4 f5⟩
 self := fun _ _ _ _ _ st h => wpAny_pyIter_listiter st h
theorem turn_tuple {P : Program} {w : World} {K : PySem.W.Frag} {tg : Expr} (a it : Addr) : Turn P w K tg (Itt K a) [it] it (fun i h => h.IsTupleIter it a i) where
 mem := by simp
 obj := fun i h st b hb => by
  have e : b = it := by simpa using hb
  subst e
  obtain ⟨o, e, c, d⟩ := st
  exact ⟨o, e, fun v z => by rw [d] at z; cases z⟩
 keep := fun i h h' st k => st.at fun o e => k it (by simp) o e
 item := by
  intro X hP hw hK hc i pins s σ H E I hf st hg
  subst hP hw hK
  obtain ⟨xs, x, hq, hx⟩ := hg
  obtain ⟨its, rv, p, hz⟩ := I.tuple hq
  obtain ⟨u, hu, ru⟩ := rv.get hx
  obtain ⟨f0, f1, f2, f3, f4, f5⟩ := hf it (by simp)
  refine wpAny_pyNext_tuple_item st (show s.heap.IsTuple a its.toArray from p) (x := u) (by simpa using hu) fun h' st' sb => ?_
  have I1 : Inv X pins σ H { s with heap := h' } := I.turned (t' := s.toks) (fun b o hb e => (sb.2 b hb).trans e) f0 f1 f3 f4 f5
  obtain ⟨o, e, c, d⟩ := id st'
  exact ⟨u, rfl, go_of (s := { s with heap := h' }) e c d (by decide) ⟨x, H, I1, ru, ⟨rfl, fun ys hy => by rw [I.tuple_inj hy hq]; exact hx⟩, st', fun b hb => (hf b hb).1⟩⟩
 done := by
  intro X hP hw hK hc i pins s σ H E I hf st hg
  subst hP hw hK
  obtain ⟨xs, hq, hx⟩ := hg
  obtain ⟨its, rv, p, hz⟩ := I.tuple hq
  obtain ⟨f0, f1, f2, f3, f4, f5⟩ := hf it (by simp)
  have hl := rv.length
  exact wpAny_pyNext_tuple_end (I.ok.hd hc) st (show s.heap.IsTuple a its.toArray from p) (by simp; omega) fun h' eb => ⟨rfl, I.turned (t' := s.toks) (fun b o hb e => eb b o hb e) f0 f1 f3 f4 f5⟩
 self := fun _ _ _ _ _ st h => wpAny_pyIter_tupleiter st h
theorem turn_range {P : Program} {w : World} {K : PySem.W.Frag} {tg : Expr} (it : Addr) (lo : Int) (n : Nat) : Turn P w K tg (Itr lo n) [it] it (fun i h => IsRangeIter h it (lo + (i : Nat) * 1) ((n : Int) - (i : Nat)) 1) where
 mem := by simp
 obj := fun i h st b hb => by
  have e : b = it := by simpa using hb
  subst e
  exact ⟨_, st, fun v z => by
   have z' : Data.fields _ = Data.cell v := z
   cases z'⟩
 keep := fun i h h' st k => k it (by simp) _ st
 item := by
  intro X hP hw hK hc i pins s σ H E I hf st hg
  subst hP hw hK
  obtain ⟨f0, f1, f2, f3, f4, f5⟩ := hf it (by simp)
  have W := Walks.range (prog := X.prog) (w := X.w) (I.ok.hd hc) it lo 1 n
  refine W.item i s _ _ hg st fun v h' tk hv st' kk => ?_
  obtain ⟨t, rfl⟩ := hv
  have I1 : Inv X pins σ H { s with heap := h', toks := tk } := I.turned (fun b o hb e => kk b o (by simpa using hb) e) f0 f1 f3 f4 f5
  refine ⟨_, rfl, go_of (s := { s with heap := h', toks := tk }) (n := "range_iterator") st' rfl rfl (by decide) ⟨.int (lo + i), H, I1, ⟨t, ?_⟩, ⟨rfl, rfl⟩, st', fun b hb => (hf b hb).1⟩⟩
  rw [Int.mul_one]
 done := by
  intro X hP hw hK hc i pins s σ H E I hf st hg
  subst hP hw hK
  obtain ⟨f0, f1, f2, f3, f4, f5⟩ := hf it (by simp)
  exact wpAny_pyNext_range_end (I.ok.hd hc) st (by have : n <= i := hg; omega) fun h' eb => ⟨rfl, I.turned (t' := s.toks) (fun b o hb e => eb b o hb e) f0 f1 f3 f4 f5⟩
 self := fun _ _ _ _ _ st h => wpAny_pyIter_rangeiter st h
end L2
namespace L2
open PySem PySem.Spec PyProof.Rows
section
variable {X : Cx} {tg : Expr}
def iList (K : PySem.W.Frag) (tl : TE) : TI := fun σ H R => tl σ H fun x H1 => ∃ a, x = .ref a /\ (∃ xs, SqL K H1 a xs) /\ R (Itl K a) H1
def iTup (K : PySem.W.Frag) (tl : TE) : TI := fun σ H R => tl σ H fun x H1 => ∃ a, x = .ref a /\ (∃ xs, SqT K H1 a xs) /\ R (Itt K a) H1
theorem pi_list {l : Expr} {tl : TE} (hl : PE X l tl) : PI X tg l (iList X.K tl) := by
 intro pins s σ H R I h
 refine thn (hl pins s σ H _ I h) fun v s1 ⟨x, H1, I1, r1, q1⟩ => ?_
 obtain ⟨a, e, ⟨xs, hq⟩, q⟩ := q1
 subst e
 cases r1
 obtain ⟨its, rv, p, hz⟩ := I1.list hq
 refine wpAny_pyIter_list p.isList ?_
 refine ⟨s1.heap.objs.size, [s1.heap.objs.size], _, _, H1, rfl, I1.kept (t' := s1.toks) fun b o e => Heap.get?_push_of_some _ e, turn_list a _, ⟨_, Heap.get?_push_size _ rfl, rfl, rfl⟩, fun b hb => ?_, q⟩
 have e : b = s1.heap.objs.size := by simpa using hb
 subst e
 exact I1.fpOk (Nat.le_refl _) (I1.hok.fresh (Nat.le_refl _))
theorem pi_tup {l : Expr} {tl : TE} (hl : PE X l tl) : PI X tg l (iTup X.K tl) := by
 intro pins s σ H R I h
 refine thn (hl pins s σ H _ I h) fun v s1 ⟨x, H1, I1, r1, q1⟩ => ?_
 obtain ⟨a, e, ⟨xs, hq⟩, q⟩ := q1
 subst e
 cases r1
 obtain ⟨its, rv, p, hz⟩ := I1.tuple hq
 refine wpAny_pyIter_tuple (show s1.heap.IsTuple a its.toArray from p) ?_
 refine ⟨s1.heap.objs.size, [s1.heap.objs.size], _, _, H1, rfl, I1.kept (t' := s1.toks) fun b o e => Heap.get?_push_of_some _ e, turn_tuple a _, ⟨_, Heap.get?_push_size _ rfl, rfl, rfl⟩, fun b hb => ?_, q⟩
 have e : b = s1.heap.objs.size := by simpa using hb
 subst e
 exact I1.fpOk (Nat.le_refl _) (I1.hok.fresh (Nat.le_refl _))
theorem range_it {pins : List (Addr × Obj)} {σ : St} {H : Hp} {s : Shared} {R : It -> Hp -> Prop} {E : Value -> Shared -> Prop} {lo hi : Int} {t u v : Tok} {tk : Nat} (I : Inv X pins σ H s) (h1 : -(2 ^ 62) <= lo) (h2 : lo < 2 ^ 62) (h3 : -(2 ^ 62) <= hi) (h4 : hi < 2 ^ 62)
  (q : R (Itr lo (hi - lo).toNat) H) : wpAny (model X.prog X.w) X.A (pyIter (.ref s.heap.objs.size)) (PIE X pins σ tg R) E { s with heap := s.heap.push { cls := .type "range", data := .fields #[.int lo t, .int hi u, .int 1 v] }, toks := tk } := by
 refine wpAny_pyIter_range (IsRange.new ..) (small_one h1 h2 h3 h4) ?_
 have I1 : Inv X pins σ H { s with heap := s.heap.push { cls := .type "range", data := .fields #[.int lo t, .int hi u, .int 1 v] }, toks := tk } := I.kept fun b o e => Heap.get?_push_of_some _ e
 refine ⟨(s.heap.push { cls := .type "range", data := .fields #[.int lo t, .int hi u, .int 1 v] }).objs.size, [(s.heap.push { cls := .type "range", data := .fields #[.int lo t, .int hi u, .int 1 v] }).objs.size], _, _, H, rfl,
  I1.kept (t' := tk) fun b o e => Heap.get?_push_of_some _ e, turn_range _ lo (hi - lo).toNat, ?_, fun b hb => ?_, q⟩
 ·have e1 : lo + ((0 : Nat) : Int) * 1 = lo := by simp
  have e2 : (((hi - lo).toNat : Nat) : Int) - ((0 : Nat) : Int) = Builtin.Range.rangeSize lo hi 1 := by rw [rangeSize_one]; split <;> omega
  show IsRangeIter _ _ (lo + ((0 : Nat) : Int) * 1) ((((hi - lo).toNat : Nat) : Int) - ((0 : Nat) : Int)) 1
  rw [e1, e2]
  exact Heap.get?_push_size _ rfl
 ·have e : b = (s.heap.push { cls := .type "range", data := .fields #[.int lo t, .int hi u, .int 1 v] }).objs.size := by simpa using hb
  subst e
  exact I1.fpOk (Nat.le_refl _) (I1.hok.fresh (Nat.le_refl _))
def iRng1 (ta : TA) : TI := fun σ H R => ta σ H fun vs H1 => ∃ j : Int, vs = [.int j] /\ -(2 ^ 62) <= j /\ j < 2 ^ 62 /\ R (Itr 0 j.toNat) H1
theorem pi_range1 {a : Expr} {ta : TA} {p pos : Pos} (hg : Gl X "range") (hm : X.mg "range" = none) (ha : PA X [a] ta) (hs : starEach [a] X.env = [(false, eval a X.env)] := by rfl) : PI X tg (.Call (.Name "range" p) [a] [] pos) (iRng1 ta) := by
 intro pins s σ H R I h
 refine Call_ (ld_blt I hg hm boot_range (PyProof.Rows.callWith_type1 (thn (ha pos pins s σ H _ I h) fun us s1 ⟨vs, H1, I1, r1, q1⟩ => ?_) hs rfl))
 obtain ⟨j, e, q1, q2, q⟩ := q1
 subst e
 cases r1 with
 | cons r rr =>
  cases rr
  obtain ⟨t, rfl⟩ := r
  exact call_range_1 (range_it I1 (by omega) (by omega) q1 q2 (by simpa using q))
def tFor (wi : TI) (g : TG) (tb : TS) : TS := fun D σ H => wi σ H fun J H1 => ∃ W : Nat -> Nat -> St -> Hp -> Prop, (∃ m, W 0 m σ H1) /\ ∀ i m σ H, W i m σ H ->
 (J.stop i H /\ D.nx σ H) \/ (J.go i H /\ ∃ N : St -> Hp -> Prop, (∀ σ' H', N σ' H' -> ∃ m', m' < m /\ W (i + 1) m' σ' H') /\ ∀ x H', J.yld i H x H' -> g x σ H' fun σ2 H2 => tb { D with nx := N, ct := N, bk := D.nx } σ2 H2)
def pinsAt (fp : List Addr) (h : Heap) : List (Addr × Obj) := fp.filterMap fun b => (h.get? b).map fun o => (b, o)
theorem mem_pinsAt {fp : List Addr} {h : Heap} {b : Addr} {o : Obj} (hb : b ∈ fp) (e : h.get? b = some o) : (b, o) ∈ pinsAt fp h := List.mem_filterMap.mpr ⟨b, hb, by rw [e]; rfl⟩
theorem of_pinsAt {fp : List Addr} {h : Heap} {p : Addr × Obj} (hp : p ∈ pinsAt fp h) : p.1 ∈ fp /\ h.get? p.1 = some p.2 := by
 obtain ⟨b, hb, e⟩ := List.mem_filterMap.mp hp
 cases q : h.get? b with
 | none => rw [q] at e; cases e
 | some o =>
  rw [q] at e
  have e' : (b, o) = p := Option.some.inj e
  subst e'
  exact ⟨hb, q⟩
theorem Inv.pinned {pins : List (Addr × Obj)} {σ : St} {H : Hp} {s : Shared} {fp : List Addr} (I : Inv X pins σ H s) (hf : ∀ b ∈ fp, FpOk X pins H b) (ho : ∀ b ∈ fp, ∃ o, s.heap.get? b = some o /\ ∀ v, o.data ≠ .cell v) : Inv X (pins ++ pinsAt fp s.heap) σ H s :=
 I.pins_of fun p hp => (List.mem_append.mp hp).elim (fun z => I.pin p (List.mem_append_right _ z)) fun z => by
  obtain ⟨hb, e⟩ := of_pinsAt z
  obtain ⟨f0, f1, f2, _⟩ := hf p.1 hb
  obtain ⟨o, e', d⟩ := ho p.1 hb
  rw [e] at e'; cases e'
  exact ⟨e, f0, f1, f2, d⟩
theorem Inv.unpinned {pins pl : List (Addr × Obj)} {σ : St} {H : Hp} {s : Shared} (I : Inv X (pins ++ pl) σ H s) : Inv X pins σ H s := I.pins_of fun p hp => I.pin p (List.mem_append_right _ (List.mem_append_left _ hp))
theorem ps_for {iter : Expr} {body : List Stmt} {wi : TI} {g : TG} {tb : TS} {pos : Pos} (hp : PassesOwn (model X.prog X.w) X.A X.env X.xe) (hc : X.calm = true) (hi : PI X tg iter wi) (hg : PG X tg g) (hb : PSs X body tb)
  (hs : ∀ x, foldedSetIterable iter X.env x = pure x := by intro _; rfl) : PS X (.For tg iter body [] pos) (tFor wi g tb) := by
 intro pins s σ H D I h
 refine wpAny_For (thn (hi pins s σ H _ I h) fun v s1 h1 => thn h1 fun itv s2 h2 => ?_) hs
 obtain ⟨it, fp, tn, J, H2, e, I2, T, st2, f2, W, ⟨m0, w0⟩, turn⟩ := h2
 subst e
 have stat : ∀ {H' : Hp}, (∀ b ∈ fp, H' b = none) -> ∀ b ∈ fp, FpOk X pins H' b := fun hn b hb => ⟨hn b hb, (f2 b hb).2⟩
 refine codeAny_forLoop_any (fun n s' => ∃ i σ' H', Inv X pins σ' H' s' /\ tn i s'.heap /\ (∀ b ∈ fp, H' b = none) /\ W i n σ' H') ?_ m0 ⟨0, σ, H2, I2, st2, fun b hb => (f2 b hb).1, w0⟩
 rintro n s3 ⟨i, σ3, H3, I3, st3, fr3, w3⟩
 rcases turn i n σ3 H3 w3 with ⟨stop, qn⟩ | ⟨go, N, hN, step⟩
 ·refine wpAny_passesOwn hp (thn (T.done X rfl rfl rfl hc i pins s3 σ3 H3 X.xe I3 (stat fr3) st3 stop) fun r s4 ⟨hr, I4⟩ => ?_)
  subst hr
  exact wpAny_execs_nil ⟨σ3, H3, I4, qn⟩
 ·refine wpAny_passesOwn hp (thn (T.item X rfl rfl rfl hc i pins s3 σ3 H3 X.xe I3 (stat fr3) st3 go) fun r s4 ⟨u, hr, h4⟩ => ?_)
  subst hr
  refine wpAny_passesOwn hp (thn h4 fun _ s5 ⟨x, H5, I5, r5, y5, st5, fr5⟩ => ?_)
  have I5' := I5.pinned (stat fr5) (T.obj _ _ st5)
  refine wpAny_passesOwn hp (thn (hg _ s5 σ3 H5 x u _ I5' r5 (step x H5 y5)) fun _ s6 ⟨σ6, H6, I6, q6⟩ => ?_)
  refine wpAny_passesOwn hp (thn (hb _ s6 σ6 H6 _ I6 q6) fun f s7 q7 => ?_)
  have again : ∀ {σ7 : St} {H7 : Hp}, Inv X (pins ++ pinsAt fp s5.heap) σ7 H7 s7 -> N σ7 H7 -> ∃ m, m < n /\ ∃ i σ' H', Inv X pins σ' H' s7 /\ tn i s7.heap /\ (∀ b ∈ fp, H' b = none) /\ W i m σ' H' := fun {σ7 H7} I7 n7 => by
   obtain ⟨m', hm, w7⟩ := hN σ7 H7 n7
   refine ⟨m', hm, i + 1, σ7, H7, I7.unpinned, T.keep _ _ _ st5 fun b hb o e => (I7.pin (b, o) (List.mem_append_right _ (List.mem_append_right _ (mem_pinsAt hb e)))).1, fun b hb => ?_, w7⟩
   obtain ⟨o, e, d⟩ := T.obj _ _ st5 b hb
   exact (I7.pin (b, o) (List.mem_append_right _ (List.mem_append_right _ (mem_pinsAt hb e)))).2.1
  cases f with
  | next => obtain ⟨σ7, H7, I7, n7⟩ := q7; exact again I7 n7
  | cont => obtain ⟨σ7, H7, I7, n7⟩ := q7; exact again I7 n7
  | brk => obtain ⟨σ7, H7, I7, q7⟩ := q7; exact ⟨σ7, H7, I7.unpinned, q7⟩
  | ret v => obtain ⟨x7, σ7, H7, I7, r7, q7⟩ := q7; exact ⟨x7, σ7, H7, I7.unpinned, r7, q7⟩
end
theorem for_list {K : PySem.W.Frag} {a : Addr} {xs : List V} {g : TG} {tb : TS} {D : Ends} {σ : St} {H : Hp} (Pv : Nat -> St -> Hp -> Prop) (h0 : Pv 0 σ H) (hl : ∀ i σ H, i <= xs.length -> Pv i σ H -> SqL K H a xs)
  (hs : ∀ i x σ H, xs[i]? = some x -> Pv i σ H -> g x σ H fun σ2 H2 => tb { D with nx := Pv (i + 1), ct := Pv (i + 1), bk := D.nx } σ2 H2) (hd : ∀ σ H, Pv xs.length σ H -> D.nx σ H) :
  ∃ W : Nat -> Nat -> St -> Hp -> Prop, (∃ m, W 0 m σ H) /\ ∀ i m σ H, W i m σ H ->
   ((Itl K a).stop i H /\ D.nx σ H) \/ ((Itl K a).go i H /\ ∃ N : St -> Hp -> Prop, (∀ σ' H', N σ' H' -> ∃ m', m' < m /\ W (i + 1) m' σ' H') /\ ∀ x H', (Itl K a).yld i H x H' -> g x σ H' fun σ2 H2 => tb { D with nx := N, ct := N, bk := D.nx } σ2 H2) := by
 refine ⟨fun i m σ H => m = xs.length - i /\ i <= xs.length /\ Pv i σ H, ⟨xs.length, by simp, Nat.zero_le _, h0⟩, ?_⟩
 rintro i m σ H ⟨rfl, hi, p⟩
 have q := hl i σ H hi p
 by_cases hlt : i < xs.length
 ·refine .inr ⟨⟨xs, xs[i], q, by simp [hlt]⟩, Pv (i + 1), fun σ' H' p' => ⟨xs.length - (i + 1), by omega, rfl, hlt, p'⟩, fun x H' y => ?_⟩
  obtain ⟨e, y⟩ := y
  subst e
  exact hs i x σ _ (y xs q) p
 ·have e : i = xs.length := by omega
  subst e
  exact .inl ⟨⟨xs, q, Nat.le_refl _⟩, hd σ H p⟩
theorem for_tup {K : PySem.W.Frag} {a : Addr} {xs : List V} {g : TG} {tb : TS} {D : Ends} {σ : St} {H : Hp} (Pv : Nat -> St -> Hp -> Prop) (h0 : Pv 0 σ H) (hl : ∀ i σ H, i <= xs.length -> Pv i σ H -> SqT K H a xs)
  (hs : ∀ i x σ H, xs[i]? = some x -> Pv i σ H -> g x σ H fun σ2 H2 => tb { D with nx := Pv (i + 1), ct := Pv (i + 1), bk := D.nx } σ2 H2) (hd : ∀ σ H, Pv xs.length σ H -> D.nx σ H) :
  ∃ W : Nat -> Nat -> St -> Hp -> Prop, (∃ m, W 0 m σ H) /\ ∀ i m σ H, W i m σ H ->
   ((Itt K a).stop i H /\ D.nx σ H) \/ ((Itt K a).go i H /\ ∃ N : St -> Hp -> Prop, (∀ σ' H', N σ' H' -> ∃ m', m' < m /\ W (i + 1) m' σ' H') /\ ∀ x H', (Itt K a).yld i H x H' -> g x σ H' fun σ2 H2 => tb { D with nx := N, ct := N, bk := D.nx } σ2 H2) := by
 refine ⟨fun i m σ H => m = xs.length - i /\ i <= xs.length /\ Pv i σ H, ⟨xs.length, by simp, Nat.zero_le _, h0⟩, ?_⟩
 rintro i m σ H ⟨rfl, hi, p⟩
 have q := hl i σ H hi p
 by_cases hlt : i < xs.length
 ·refine .inr ⟨⟨xs, xs[i], q, by simp [hlt]⟩, Pv (i + 1), fun σ' H' p' => ⟨xs.length - (i + 1), by omega, rfl, hlt, p'⟩, fun x H' y => ?_⟩
  obtain ⟨e, y⟩ := y
  subst e
  exact hs i x σ _ (y xs q) p
 ·have e : i = xs.length := by omega
  subst e
  exact .inl ⟨⟨xs, q, Nat.le_refl _⟩, hd σ H p⟩
theorem for_range {lo : Int} {n : Nat} {g : TG} {tb : TS} {D : Ends} {σ : St} {H : Hp} (Pv : Nat -> St -> Hp -> Prop) (h0 : Pv 0 σ H)
  (hs : ∀ i σ H, i < n -> Pv i σ H -> g (.int (lo + i)) σ H fun σ2 H2 => tb { D with nx := Pv (i + 1), ct := Pv (i + 1), bk := D.nx } σ2 H2) (hd : ∀ σ H, Pv n σ H -> D.nx σ H) :
  ∃ W : Nat -> Nat -> St -> Hp -> Prop, (∃ m, W 0 m σ H) /\ ∀ i m σ H, W i m σ H ->
   ((Itr lo n).stop i H /\ D.nx σ H) \/ ((Itr lo n).go i H /\ ∃ N : St -> Hp -> Prop, (∀ σ' H', N σ' H' -> ∃ m', m' < m /\ W (i + 1) m' σ' H') /\ ∀ x H', (Itr lo n).yld i H x H' -> g x σ H' fun σ2 H2 => tb { D with nx := N, ct := N, bk := D.nx } σ2 H2) := by
 refine ⟨fun i m σ H => m = n - i /\ i <= n /\ Pv i σ H, ⟨n, by simp, Nat.zero_le _, h0⟩, ?_⟩
 rintro i m σ H ⟨rfl, hi, p⟩
 by_cases hlt : i < n
 ·refine .inr ⟨hlt, Pv (i + 1), fun σ' H' p' => ⟨n - (i + 1), by omega, rfl, hlt, p'⟩, fun x H' y => ?_⟩
  obtain ⟨e, y⟩ := y
  subst e y
  exact hs i σ _ hlt p
 ·have e : i = n := by omega
  subst e
  exact .inl ⟨Nat.le_refl _, hd σ H p⟩
theorem while_by {c : TT} {tb : TS} {D : Ends} {σ : St} {H : Hp} (Pv : St -> Hp -> Prop) (μ : St -> Hp -> Nat) (h0 : Pv σ H)
  (hs : ∀ σ H, Pv σ H -> c σ H fun b H1 => if b = true then tb { D with nx := fun σ' H' => Pv σ' H' /\ μ σ' H' < μ σ H, ct := fun σ' H' => Pv σ' H' /\ μ σ' H' < μ σ H, bk := D.nx } σ H1 else D.nx σ H1)
  (mono : ∀ σ H Q Q', (∀ b H1, Q b H1 -> Q' b H1) -> c σ H Q -> c σ H Q') : tWhile c tb D σ H := by
 refine ⟨fun m σ H => m = μ σ H /\ Pv σ H, ⟨_, rfl, h0⟩, ?_⟩
 rintro m σ H ⟨rfl, p⟩
 refine mono σ H _ _ (fun b H1 q => ?_) (hs σ H p)
 cases b with
 | true => exact ⟨_, fun σ' H' ⟨p', l⟩ => ⟨_, l, rfl, p'⟩, q⟩
 | false => exact q
end L2
namespace L2
open PySem PySem.Spec PyProof.Rows
abbrev R2 := V -> V -> Hp -> VK -> Prop
def OpR (X : Cx) (f : Value -> Value -> Sem Value) (r : R2) : Prop :=
 ∀ (pins : List (Addr × Obj)) (s : Shared) (σ : St) (H : Hp) (x y : V) (v u : Value) (Q : VK), Inv X pins σ H s -> RelV x v -> RelV y u -> r x y H Q ->
  wpAny (model X.prog X.w) X.A (f v u) (EP X pins σ Q) X.xe s
def UnR (X : Cx) (f : Value -> Sem Value) (r : V -> Hp -> VK -> Prop) : Prop :=
 ∀ (pins : List (Addr × Obj)) (s : Shared) (σ : St) (H : Hp) (x : V) (v : Value) (Q : VK), Inv X pins σ H s -> RelV x v -> r x H Q ->
  wpAny (model X.prog X.w) X.A (f v) (EP X pins σ Q) X.xe s
def CallR (X : Cx) (f : Value) (r : List V -> Hp -> VK -> Prop) : Prop :=
 ∀ (pins : List (Addr × Obj)) (s : Shared) (σ : St) (H : Hp) (xs : List V) (us : List Value) (Q : VK), Inv X pins σ H s -> Vals xs us -> r xs H Q ->
  wpAny (model X.prog X.w) X.A (call f us) (EP X pins σ Q) X.xe s
def tOp (r : R2) (ta tb : TE) : TE := fun σ H Q => ta σ H fun x H1 => tb σ H1 fun y H2 => r x y H2 Q
def tUn (r : V -> Hp -> VK -> Prop) (ta : TE) : TE := fun σ H Q => ta σ H fun x H1 => r x H1 Q
def rI (C : Int -> Int -> Prop) (g : Int -> Int -> V) : R2 := fun x y H Q => ∃ i j, x = .int i /\ y = .int j /\ C i j /\ Q (g i j) H
def rI0 (g : Int -> Int -> V) : R2 := fun x y H Q => ∃ i j, x = .int i /\ y = .int j /\ Q (g i j) H
def rU (g : Int -> V) : V -> Hp -> VK -> Prop := fun x H Q => ∃ i, x = .int i /\ Q (g i) H
section
variable {X : Cx} {a b c : Expr} {ta tb tc : TE} {pos : Pos}
theorem binT (ha : PE X a ta) (hb : PE X b tb) {pins : List (Addr × Obj)} {s : Shared} {σ : St} {H : Hp} {R : V -> V -> Hp -> Prop} (I : Inv X pins σ H s)
  (h : ta σ H fun x H1 => tb σ H1 fun y H2 => R x y H2) {Q : Value -> Shared -> Prop} {f : Value -> Value -> Sem Value}
  (hf : ∀ v u s2 x y H2, Inv X pins σ H2 s2 -> RelV x v -> RelV y u -> R x y H2 -> wpAny (model X.prog X.w) X.A (f v u) Q X.xe s2) :
  wpAny (model X.prog X.w) X.A (eval a X.env) (fun v s₁ => wpAny (model X.prog X.w) X.A (eval b X.env) (fun u s₂ => wpAny (model X.prog X.w) X.A (f v u) Q X.xe s₂) X.xe s₁) X.xe s := by
 refine thn (ha pins s σ H _ I h) fun v s1 ⟨x, H1, I1, r1, q1⟩ => ?_
 refine thn (hb pins s1 σ H1 _ I1 q1) fun u s2 ⟨y, H2, I2, r2, q2⟩ => ?_
 exact hf v u s2 x y H2 I2 r1 r2 q2
theorem pe_op {op : Operator} {r : R2} (ho : OpR X (binaryOp op) r) (ha : PE X a ta) (hb : PE X b tb) : PE X (.BinOp a op b pos) (tOp r ta tb) := by
 intro pins s σ H Q I h
 exact wpAny_BinOp (binT ha hb I h fun v u s2 x y H2 I2 rx ry q => ho pins s2 σ H2 x y v u Q I2 rx ry q)
theorem pe_un {op : UnaryOp} {r : V -> Hp -> VK -> Prop} (ho : UnR X (unaryOp op) r) (ha : PE X a ta) : PE X (.UnaryOp op a pos) (tUn r ta) := by
 intro pins s σ H Q I h
 exact UnaryOp_ (thn (ha pins s σ H _ I h) fun v s1 ⟨x, H1, I1, r1, q1⟩ => ho pins s1 σ H1 x v Q I1 r1 q1)
theorem opI {f : Value -> Value -> Sem Value} {C : Int -> Int -> Prop} {g : Int -> Int -> Int}
  (rule : ∀ (i j : Int) (t u : Tok) (s : Shared) (Q : Value -> Shared -> Prop) (E : Value -> Shared -> Prop), C i j -> Q (.int (g i j) s.toks) { s with toks := s.toks + 1 } -> wpAny (model X.prog X.w) X.A (f (.int i t) (.int j u)) Q E s) :
  OpR X f (rI C fun i j => .int (g i j)) := by
 intro pins s σ H x y v u Q I rx ry h
 obtain ⟨i, j, rfl, rfl, hc, q⟩ := h
 obtain ⟨t, rfl⟩ := rx
 obtain ⟨t', rfl⟩ := ry
 exact rule i j t t' s _ _ hc ⟨.int (g i j), H, I.tok _, ⟨_, rfl⟩, q⟩
theorem opI0 {f : Value -> Value -> Sem Value} {g : Int -> Int -> Int}
  (rule : ∀ (i j : Int) (t u : Tok) (s : Shared) (Q : Value -> Shared -> Prop) (E : Value -> Shared -> Prop), Q (.int (g i j) s.toks) { s with toks := s.toks + 1 } -> wpAny (model X.prog X.w) X.A (f (.int i t) (.int j u)) Q E s) :
  OpR X f (rI0 fun i j => .int (g i j)) := by
 intro pins s σ H x y v u Q I rx ry h
 obtain ⟨i, j, rfl, rfl, q⟩ := h
 obtain ⟨t, rfl⟩ := rx
 obtain ⟨t', rfl⟩ := ry
 exact rule i j t t' s _ _ ⟨.int (g i j), H, I.tok _, ⟨_, rfl⟩, q⟩
theorem opB0 {f : Value -> Value -> Sem Value} {g : Int -> Int -> Bool}
  (rule : ∀ (i j : Int) (t u : Tok) (s : Shared) (Q : Value -> Shared -> Prop) (E : Value -> Shared -> Prop), Q (.bool (g i j)) s -> wpAny (model X.prog X.w) X.A (f (.int i t) (.int j u)) Q E s) :
  OpR X f (rI0 fun i j => .bl (g i j)) := by
 intro pins s σ H x y v u Q I rx ry h
 obtain ⟨i, j, rfl, rfl, q⟩ := h
 obtain ⟨t, rfl⟩ := rx
 obtain ⟨t', rfl⟩ := ry
 exact rule i j t t' s _ _ ⟨.bl (g i j), H, I, rfl, q⟩
def CPow (i j : Int) : Prop := 0 <= j /\ j <= 1000000 /\ i.natAbs < 2 ^ 64
def CMul (i j : Int) : Prop := (-(2 ^ 64) < i /\ i < 2 ^ 64) \/ (-(2 ^ 64) < j /\ j < 2 ^ 64)
theorem CMul.ok {i j : Int} (h : CMul i j) : IntMulOk i j := by
 rcases h with ⟨h1, h2⟩ | ⟨h1, h2⟩
 ·exact .of_left (intBits_le_64 h1 h2)
 ·exact .of_right (intBits_le_64 h1 h2)
theorem op_add : OpR X (binaryOp .Add) (rI0 fun i j => .int (i + j)) := opI0 fun _ _ _ _ _ _ _ q => add_int q
theorem op_sub : OpR X (binaryOp .Sub) (rI0 fun i j => .int (i - j)) := opI0 fun _ _ _ _ _ _ _ q => sub_int q
theorem op_mul : OpR X (binaryOp .Mult) (rI CMul fun i j => .int (i * j)) := opI fun _ _ _ _ _ _ _ hc q => mul_int q hc.ok
theorem op_mod : OpR X (binaryOp .Mod) (rI (fun _ j => 0 < j) fun i j => .int (i % j)) := opI fun i j _ _ _ _ _ hc q => by
 have h1 : (0 : Int) < j := hc
 exact mod_int' (by omega) (by rw [Int.fmod_eq_emod_of_nonneg i (by omega)]; exact q)
theorem op_pow : OpR X (binaryOp .Pow) (rI CPow fun i j => .int (i ^ j.toNat)) := opI fun _ _ _ _ _ _ _ hc q => pow_int_small hc.1 hc.2.1 hc.2.2 q
theorem unI {f : Value -> Sem Value} {g : Int -> Int}
  (rule : ∀ (i : Int) (t : Tok) (s : Shared) (Q : Value -> Shared -> Prop) (E : Value -> Shared -> Prop), Q (.int (g i) s.toks) { s with toks := s.toks + 1 } -> wpAny (model X.prog X.w) X.A (f (.int i t)) Q E s) :
  UnR X f (rU fun i => .int (g i)) := by
 intro pins s σ H x v Q I rx h
 obtain ⟨i, rfl, q⟩ := h
 obtain ⟨t, rfl⟩ := rx
 exact rule i t s _ _ ⟨.int (g i), H, I.tok _, ⟨_, rfl⟩, q⟩
theorem un_neg : UnR X (unaryOp .USub) (rU fun i => .int (-i)) := unI fun _ _ _ _ _ q => neg_int q
end
def scal : V -> V -> Bool
 | .non, .non => true | .non, .int _ => true | .int _, .non => true | .non, .bl _ => true | .bl _, .non => true | .non, .str _ => true | .str _, .non => true
 | .int _, .int _ => true | .bl _, .bl _ => true | .str _, .str _ => true | .byt _, .byt _ => true
 | .int _, .str _ => true | .str _, .int _ => true | .bl _, .str _ => true | .str _, .bl _ => true
 | _, _ => false
def rEq : R2 := fun x y H Q => scal x y = true /\ Q (.bl (decide (x = y))) H
def rNe : R2 := fun x y H Q => scal x y = true /\ Q (.bl (!decide (x = y))) H
theorem dec_int {i j : Int} : decide (V.int i = V.int j) = (i == j) := by
 rw [Bool.eq_iff_iff]
 simp
theorem dec_bl {i j : Bool} : decide (V.bl i = V.bl j) = (i == j) := by
 rw [Bool.eq_iff_iff]
 simp
theorem dec_str {i j : Str} : decide (V.str i = V.str j) = (i == j) := by
 rw [Bool.eq_iff_iff]
 simp
theorem dec_byt {i j : Array UInt8} : decide (V.byt i = V.byt j) = (i.toList == j.toList) := by
 rw [Bool.eq_iff_iff]
 cases i
 cases j
 simp
section
variable {X : Cx} {a b c : Expr} {ta tb tc : TE} {pos : Pos}
theorem fin_bl {pins : List (Addr × Obj)} {σ : St} {H : Hp} {s : Shared} {Q : VK} {k k' : Bool} (I : Inv X pins σ H s) (q : Q (.bl k) H) (e : k = k') : EP X pins σ Q (.bool k') s := by
 subst e
 exact ⟨.bl k, H, I, rfl, q⟩
theorem op_eq : OpR X (compareOp .Eq) rEq := by
 intro pins s σ H x y v u Q I rx ry h
 obtain ⟨hs, q⟩ := h
 cases x with
 | non =>
  cases rx
  cases y with
  | non => cases ry; exact PySem.EqNone.eq_none_none (fin_bl I q (by simp))
  | bl j => cases ry; exact PySem.EqNone.eq_none_bool (fin_bl I q (by simp))
  | int j => obtain ⟨t', rfl⟩ := ry; exact PySem.EqNone.eq_none_int (fin_bl I q (by simp))
  | str j => obtain ⟨t', rfl⟩ := ry; exact PySem.EqNone.eq_none_str (fin_bl I q (by simp))
  | _ => exact absurd (show false = true from hs) Bool.false_ne_true
 | bl i =>
  cases rx
  cases y with
  | non => cases ry; exact PySem.EqNone.eq_bool_none (fin_bl I q (by simp))
  | bl j => cases ry; exact eq_bool (fin_bl I q dec_bl)
  | str j => obtain ⟨t', rfl⟩ := ry; exact PySem.EqMixed.eq_bool_str (fin_bl I q (by simp))
  | _ => exact absurd (show false = true from hs) Bool.false_ne_true
 | int i =>
  obtain ⟨t, rfl⟩ := rx
  cases y with
  | non => cases ry; exact PySem.EqNone.eq_int_none (fin_bl I q (by simp))
  | int j => obtain ⟨t', rfl⟩ := ry; exact eq_int (fin_bl I q dec_int)
  | str j => obtain ⟨t', rfl⟩ := ry; exact PySem.EqMixed.eq_int_str (fin_bl I q (by simp))
  | _ => exact absurd (show false = true from hs) Bool.false_ne_true
 | str i =>
  obtain ⟨t, rfl⟩ := rx
  cases y with
  | non => cases ry; exact PySem.EqNone.eq_str_none (fin_bl I q (by simp))
  | bl j => cases ry; exact PySem.EqMixed.eq_str_bool (fin_bl I q (by simp))
  | int j => obtain ⟨t', rfl⟩ := ry; exact PySem.EqMixed.eq_str_int (fin_bl I q (by simp))
  | str j => obtain ⟨t', rfl⟩ := ry; exact eq_str (fin_bl I q dec_str)
  | _ => exact absurd (show false = true from hs) Bool.false_ne_true
 | byt i =>
  obtain ⟨t, rfl⟩ := rx
  cases y with
  | byt j => obtain ⟨t', rfl⟩ := ry; exact PySem.W.eq_bytes (fin_bl I q dec_byt)
  | _ => exact absurd (show false = true from hs) Bool.false_ne_true
 | _ => cases y <;> exact absurd (show false = true from hs) Bool.false_ne_true
theorem op_ne : OpR X (compareOp .NotEq) rNe := by
 intro pins s σ H x y v u Q I rx ry h
 obtain ⟨hs, q⟩ := h
 cases x with
 | non =>
  cases rx
  cases y with
  | non => cases ry; exact PySem.EqNone.ne_none_none (fin_bl I q (by simp))
  | bl j => cases ry; exact PySem.EqNone.ne_none_bool (fin_bl I q (by simp))
  | int j => obtain ⟨t', rfl⟩ := ry; exact PySem.EqNone.ne_none_int (fin_bl I q (by simp))
  | str j => obtain ⟨t', rfl⟩ := ry; exact PySem.EqNone.ne_none_str (fin_bl I q (by simp))
  | _ => exact absurd (show false = true from hs) Bool.false_ne_true
 | bl i =>
  cases rx
  cases y with
  | non => cases ry; exact PySem.EqNone.ne_bool_none (fin_bl I q (by simp))
  | bl j => cases ry; exact ne_bool (fin_bl I q (congrArg not dec_bl))
  | str j => obtain ⟨t', rfl⟩ := ry; exact PySem.EqMixed.ne_bool_str (fin_bl I q (by simp))
  | _ => exact absurd (show false = true from hs) Bool.false_ne_true
 | int i =>
  obtain ⟨t, rfl⟩ := rx
  cases y with
  | non => cases ry; exact PySem.EqNone.ne_int_none (fin_bl I q (by simp))
  | int j => obtain ⟨t', rfl⟩ := ry; exact ne_int (fin_bl I q (congrArg not dec_int))
  | str j => obtain ⟨t', rfl⟩ := ry; exact PySem.EqMixed.ne_int_str (fin_bl I q (by simp))
  | _ => exact absurd (show false = true from hs) Bool.false_ne_true
 | str i =>
  obtain ⟨t, rfl⟩ := rx
  cases y with
  | non => cases ry; exact PySem.EqNone.ne_str_none (fin_bl I q (by simp))
  | bl j => cases ry; exact PySem.EqMixed.ne_str_bool (fin_bl I q (by simp))
  | int j => obtain ⟨t', rfl⟩ := ry; exact PySem.EqMixed.ne_str_int (fin_bl I q (by simp))
  | str j => obtain ⟨t', rfl⟩ := ry; exact ne_str (fin_bl I q (congrArg not dec_str))
  | _ => exact absurd (show false = true from hs) Bool.false_ne_true
 | byt i =>
  obtain ⟨t, rfl⟩ := rx
  cases y with
  | byt j => obtain ⟨t', rfl⟩ := ry; exact PySem.W.ne_bytes (fin_bl I q (congrArg not dec_byt))
  | _ => exact absurd (show false = true from hs) Bool.false_ne_true
 | _ => cases y <;> exact absurd (show false = true from hs) Bool.false_ne_true
theorem op_lt : OpR X (compareOp .Lt) (rI0 fun i j => .bl (decide (i < j))) := opB0 fun _ _ _ _ _ _ _ q => lt_int q
theorem op_le : OpR X (compareOp .LtE) (rI0 fun i j => .bl (decide (i <= j))) := opB0 fun _ _ _ _ _ _ _ q => le_int q
theorem op_gt : OpR X (compareOp .Gt) (rI0 fun i j => .bl (decide (j < i))) := opB0 fun _ _ _ _ _ _ _ q => gt_int q
theorem op_ge : OpR X (compareOp .GtE) (rI0 fun i j => .bl (decide (j <= i))) := opB0 fun _ _ _ _ _ _ _ q => ge_int q
theorem op_in_str : OpR X (compareOp .In) (fun x y H Q => ∃ i j, x = .str i /\ y = .str j /\ Q (.bl (!(Builtin.Str.occurrences j i 0 j.length 1).isEmpty)) H) := by
 intro pins s σ H x y v u Q I rx ry h
 obtain ⟨i, j, rfl, rfl, q⟩ := h
 obtain ⟨t, rfl⟩ := rx
 obtain ⟨t', rfl⟩ := ry
 exact in_str (fin_bl I q rfl)
theorem nomark (b : Expr) {op : CmpOp} (h : op ≠ .In := by decide) (h2 : op ≠ .NotIn := by decide) : behindInMarks op b = false := by
 have e1 : (op == CmpOp.In) = false := by cases op <;> first | rfl | exact absurd rfl h
 have e2 : (op == CmpOp.NotIn) = false := by cases op <;> first | rfl | exact absurd rfl h2
 cases b <;> simp [behindInMarks, e1, e2]
theorem pe_cmpR {op : CmpOp} {r : R2} (ho : OpR X (compareOp op) r) (ha : PE X a ta) (hb : PE X b tb) (hm : behindInMarks op b = false) : PE X (.Compare a [op] [b] pos) (tOp r ta tb) := by
 intro pins s σ H Q I h
 exact wpAny_Compare1 (binT ha hb I h fun v u s2 x y H2 I2 rx ry q => ho pins s2 σ H2 x y v u Q I2 rx ry q) hm
def tTest (t : TE) : TT := fun σ H Q => t σ H fun x H' => ∃ k, x = .bl k /\ Q k H'
theorem pt_cmpR {op : CmpOp} {r : R2} (ho : OpR X (compareOp op) r) (ha : PE X a ta) (hb : PE X b tb) (hm : behindInMarks op b = false) : PT X (.Compare a [op] [b] pos) (tTest (tOp r ta tb)) := by
 intro pins s σ H Q I h
 refine wpAny_isTrue_Compare1 (thn (ha pins s σ H _ I h) fun v s1 ⟨x, H1, I1, r1, q1⟩ => thn (hb pins s1 σ H1 _ I1 q1) fun u s2 ⟨y, H2, I2, r2, q2⟩ =>
  thn (ho pins s2 σ H2 x y v u _ I2 r1 r2 q2) fun c s3 ⟨z, H3, I3, r3, k, e, q3⟩ => ?_) hm
 subst e
 cases r3
 exact wpAny_truthy_bool ⟨H3, I3, q3⟩
def tChain (r r' : R2) (ta tb tc : TE) : TE := fun σ H Q => ta σ H fun x H1 => tb σ H1 fun y H2 => r x y H2 fun z H3 => ∃ k, z = .bl k ∧
 (if k = true then tc σ H3 fun w' H4 => r' y w' H4 Q else Q (.bl false) H3)
theorem pe_chain {op op' : CmpOp} {r r' : R2} (ho : OpR X (compareOp op) r) (ho' : OpR X (compareOp op') r') (ha : PE X a ta) (hb : PE X b tb) (hc : PE X c tc)
  (hm : lastMarks [op, op'] [b, c] = false := by with_unfolding_all rfl) : PE X (.Compare a [op, op'] [b, c] pos) (tChain r r' ta tb tc) := by
 intro pins s σ H Q I h
 refine Compare_chain (thn (ha pins s σ H _ I h) fun v s1 ⟨x, H1, I1, r1, q1⟩ => chain_link (thn (hb pins s1 σ H1 _ I1 q1) fun u s2 ⟨y, H2, I2, r2, q2⟩ =>
  thn (ho pins s2 σ H2 x y v u _ I2 r1 r2 q2) fun d s3 ⟨z, H3, I3, r3, k, e, q3⟩ => ?_)) hm
 subst e
 cases r3
 refine wpAny_truthy_bool ?_
 cases k with
 | false => exact ite_ff ⟨.bl false, H3, I3, rfl, q3⟩
 | true => exact ite_tt (chain_last (thn (hc pins s3 σ H3 _ I3 q3) fun w' s4 ⟨z', H4, I4, r4, q4⟩ => ho' pins s4 σ H4 y z' u w' Q I4 r2 r4 q4))
theorem line63 : (sizeLine : Nat) < 2 ^ 63 := by rw [sizeLine_eq]; decide
theorem op_add_str : OpR X (binaryOp .Add) (fun x y H Q => ∃ i j, x = .str i /\ y = .str j /\ i.length + j.length <= sizeLine /\ Q (.str (i ++ j)) H) := by
 intro pins s σ H x y v u Q I rx ry h
 obtain ⟨i, j, rfl, rfl, hz, q⟩ := h
 obtain ⟨t, rfl⟩ := rx
 obtain ⟨t', rfl⟩ := ry
 exact add_str (fun t' tk => ⟨.str (i ++ j), H, I.tok _, ⟨_, rfl⟩, q⟩) hz
theorem vals1 {x : V} {us : List Value} (r : Vals [x] us) : ∃ u, us = [u] /\ RelV x u := by
 cases r with
 | cons r1 r2 => cases r2; exact ⟨_, rfl, r1⟩
theorem vals2 {x y : V} {us : List Value} (r : Vals [x, y] us) : ∃ u w', us = [u, w'] /\ RelV x u /\ RelV y w' := by
 cases r with
 | cons r1 r2 =>
  cases r2 with
  | cons r3 r4 => cases r4; exact ⟨_, _, rfl, r1, r3⟩
theorem call_max2 (hc : X.calm = true) : CallR X (.builtin "max") (fun xs H Q => ∃ i j, xs = [.int i, .int j] /\ Q (.int (if j > i then j else i)) H) := by
 intro pins s σ H xs us Q I r h
 obtain ⟨i, j, rfl, q⟩ := h
 obtain ⟨u, w', rfl, ⟨t, rfl⟩, ⟨t', rfl⟩⟩ := vals2 r
 refine max_two_ints (I.ok.hd hc) fun h' tk k => ⟨_, H, I.kept k, ?_, q⟩
 by_cases hj : j > i
 ·rw [if_pos hj, if_pos hj]; exact ⟨_, rfl⟩
 ·rw [if_neg hj, if_neg hj]; exact ⟨_, rfl⟩
theorem call_min2 (hc : X.calm = true) : CallR X (.builtin "min") (fun xs H Q => ∃ i j, xs = [.int i, .int j] /\ Q (.int (if j < i then j else i)) H) := by
 intro pins s σ H xs us Q I r h
 obtain ⟨i, j, rfl, q⟩ := h
 obtain ⟨u, w', rfl, ⟨t, rfl⟩, ⟨t', rfl⟩⟩ := vals2 r
 refine min_two_ints (I.ok.hd hc) fun h' tk k => ⟨_, H, I.kept k, ?_, q⟩
 by_cases hj : j < i
 ·rw [if_pos hj, if_pos hj]; exact ⟨_, rfl⟩
 ·rw [if_neg hj, if_neg hj]; exact ⟨_, rfl⟩
theorem call_int1 : CallR X (.type "int") (fun xs H Q => (∃ i, xs = [.int i] /\ Q (.int i) H) \/ ∃ k, xs = [.bl k] /\ Q (.int (if k then 1 else 0)) H) := by
 intro pins s σ H xs us Q I r h
 rcases h with ⟨i, rfl, q⟩ | ⟨k, rfl, q⟩
 ·obtain ⟨u, rfl, t, rfl⟩ := vals1 r
  exact call_int_int ⟨.int i, H, I, ⟨_, rfl⟩, q⟩
 ·obtain ⟨u, rfl, r1⟩ := vals1 r
  cases r1
  exact call_int_bool ⟨.int (if k then 1 else 0), H, I.tok _, ⟨_, rfl⟩, q⟩
theorem call_str_int : CallR X (.type "str") (fun xs H Q => ∃ i, xs = [.int i] /\ i.natAbs.log2 < 1920 /\ Q (.str (toString i)) H) := by
 intro pins s σ H xs us Q I r h
 obtain ⟨i, rfl, hz, q⟩ := h
 obtain ⟨u, rfl, t, rfl⟩ := vals1 r
 exact PySem.P.str_of_int hz ⟨.str _, H, I.tok _, ⟨_, rfl⟩, q⟩
end
end L2
namespace L2
open PySem PySem.Spec PyProof.Rows
structure ObjM (h : Heap) (x dx C : Addr) (mA : Str -> Option Value) : Prop where
 obj : h.get? x = some (PySem.W.instObj C dx)
 ns : h.Ns1 dx mA
 ne : dx ≠ x
theorem lookIn_ns {h : Heap} {dx : Addr} {mA : Str -> Option Value} (n : h.Ns1 dx mA) : ∃ od, h.get? dx = some od /\ ∀ name, PySem.W.lookIn name od = some (mA name) := by
 obtain ⟨o, es, ep, ho, hd, hk, _, hm⟩ := n
 refine ⟨o, ho, fun name => ?_⟩
 have e := hm name
 unfold nsFind findBy at e
 rw [<- Array.find?_toList] at e
 unfold PySem.W.lookIn
 rw [hd]
 dsimp only
 split
 ·rename_i y q
  rw [q] at e
  exact congrArg some e
 ·rename_i q
  rw [q] at e
  have a : es.toList.any (·.refKey) = false := by
   rw [List.any_eq_false]
   intro y hy
   obtain ⟨z, t, hkey⟩ := hk y (Array.mem_toList_iff.mp hy)
   simp [DictEntry.refKey, hkey]
  have a' : ¬ es.toList.any (·.refKey) = true := by rw [a]; exact Bool.false_ne_true
  rw [if_neg a']
  exact congrArg some e
theorem ObjM.look {h : Heap} {x dx C : Addr} {mA : Str -> Option Value} (I : ObjM h x dx C mA) : ∃ od, PySem.W.InstAt h x (PySem.W.instObj C dx) C (some od) /\ ∀ name, PySem.W.lookIn name od = some (mA name) :=
 let ⟨od, ho, hl⟩ := lookIn_ns I.ns
 ⟨od, ⟨I.obj, rfl, rfl, ho⟩, hl⟩
section
variable {prog : Program} {w : World} {A : Around} {E : Value -> Shared -> Prop} {s : Shared} {K : PySem.W.Frag} {x dx C f : Addr} {mA : Str -> Option Value} {name : Str} {v : Value}
theorem get_map {expr : Bool} {Q : Value -> Shared -> Prop} (X : K.In s.heap) (I : ObjM s.heap x dx C mA) (hg : PySem.W.plainGet K C name = true) (hh : PySem.W.hasDictIn K C = true)
  (ha : PySem.W.findIn K (.ref C) name = some none) (hv : mA name = some v) (hv' : PySem.W.handedIn v = true) (h : Q v { s with toks := s.toks + 1 }) :
  wpAny (model prog w) A (getAttr (.ref x) name expr) Q E s := by
 obtain ⟨od, J, hl⟩ := I.look
 exact PySem.W.get_value X J (PySem.W.plainGet_of hg).1 (PySem.W.findObj_own hh ha rfl (by rw [hl, hv])) hv' h
theorem set_map {ns : List Str} {Q : Unit -> Shared -> Prop} (X : K.In s.heap) (I : ObjM s.heap x dx C mA)
  (hs : PySem.W.findIn K (.ref C) "__setattr__" = some (some (.builtin "object.__setattr__"))) (hp : PySem.W.plainOver K C = true) (ht : PySem.W.takerIn K C name = some none) (hh : PySem.W.hasDictIn K C = true)
  (hw : PySem.Within mA ns) (hsz : ns.length <= sizeLine)
  (h : ∀ h', ObjM h' x dx C (fun y => if y = name then some v else mA y) -> Heap.SameBut dx s.heap h' -> Q () { s with heap := h', toks := s.toks + 2 }) :
  wpAny (model prog w) A (setAttr (.ref x) name v) Q E s := by
 obtain ⟨od, J, hl⟩ := I.look
 refine PySem.W.set_plain X J hs (PySem.W.osa_open (s := { s with toks := s.toks + 1 }) (r := none) X J hp ht fun b => ?_)
 obtain ⟨cd, hc, hd'⟩ := PySem.W.any_some hh
 have hx : s.heap.get? x = some ⟨.ref C, some dx, .plain, #[]⟩ := I.obj
 refine wpAny_bind (wpAny_pure (wpAny_bind (wpAny_bind (wpAny_loadPart hx (wpAny_bind (PySem.W.Looks.here (s := { s with toks := s.toks + 1 }) (PySem.W.looks_clsIn X hc) ?_))))))
 rw [hd']
 refine wpAny_pure (a := some dx) (wpAny_bind (wpAny_pure (wpAny_bind ?_)))
 refine wpAny_nsSet1 (s := { s with toks := s.toks + 1 }) I.ns fun h' hn2 hs2 => ?_
 obtain ⟨oD, esD, epD, hoD, hdD, hcD⟩ := hn2.count (PySem.Within.cons name v hw)
 refine wpAny_bind (wpAny_lookBehind hoD (by rw [hdD]; exact pastItsLine_dict (Nat.le_trans hcD (by rw [List.length_cons]; omega))) ?_)
 exact wpAny_pure (h _ ⟨(hs2.2 _ (Ne.symm I.ne)).trans I.obj, hn2, I.ne⟩ hs2)
theorem make_map {R : Result -> Shared -> Prop} {vs : List Value} {kw : List (Str × Value)} (X : K.In s.heap) (hm : PySem.W.makesIn K C = true)
  (hi : PySem.W.findIn K (.ref C) "__init__" = some (some (.ref f))) (hf : PySem.W.typeIn K (.ref f) = some (.type "function"))
  (h : codeAny (model prog w) (A.under (.builtin "type.__call__" ⟨.ref C :: vs, kw⟩)) (.call (.ref f) ⟨.ref (s.heap.objs.size + 1) :: vs, kw⟩) (PySem.W.InitBack (s.heap.objs.size + 1) R)
   { s with heap := (s.heap.push PySem.W.emptyDict).push (PySem.W.instObj C s.heap.objs.size) }) :
  codeAny (model prog w) A (.call (.ref C) ⟨vs, kw⟩) R s := by
 obtain ⟨hh, g, d, t, os⟩ := s
 exact PySem.W.make_core (PySem.W.makes_of X hm) (PySem.W.looks_findIn X hi) (fun self => PySem.W.bind_fn X self hf) (.inl rfl) h
end
def putF (f : Str) (v : V) : List (Str × V) -> List (Str × V)
 | [] => [(f, v)]
 | (g, x) :: r => if g = f then (g, v) :: r else (g, x) :: putF f v r
theorem lookup_putF (f g : Str) (v : V) : ∀ fs : List (Str × V), (putF f v fs).lookup g = if g = f then some v else fs.lookup g
 | [] => by
  show List.lookup g [(f, v)] = _
  by_cases h : g = f
  ·have hb : (g == f) = true := beq_iff_eq.mpr h
   simp only [List.lookup, hb, if_pos h]
  ·have hb : (g == f) = false := beq_eq_false_iff_ne.mpr h
   simp only [List.lookup, hb, if_neg h]
 | (k, x) :: r => by
  have ih := lookup_putF f g v r
  rw [show putF f v ((k, x) :: r) = (if k = f then (k, v) :: r else (k, x) :: putF f v r) from rfl]
  by_cases hk : k = f
  ·rw [if_pos hk]
   by_cases h : g = k
   ·have hb : (g == k) = true := beq_iff_eq.mpr h
    simp only [List.lookup, hb, if_pos (h.trans hk)]
   ·have hb : (g == k) = false := beq_eq_false_iff_ne.mpr h
    simp only [List.lookup, hb, if_neg (fun e : g = f => h (e.trans hk.symm))]
  ·rw [if_neg hk]
   by_cases h : g = k
   ·have hb : (g == k) = true := beq_iff_eq.mpr h
    simp only [List.lookup, hb, if_neg (fun e : g = f => hk (h.symm.trans e))]
   ·have hb : (g == k) = false := beq_eq_false_iff_ne.mpr h
    simp only [List.lookup, hb]
    exact ih
theorem keys_putF (f : Str) (v : V) : ∀ fs : List (Str × V), f ∈ (putF f v fs).map (·.1) /\ ∀ g, g ∈ fs.map (·.1) -> g ∈ (putF f v fs).map (·.1)
 | [] => ⟨by simp [putF], fun g h => by simp at h⟩
 | (k, x) :: r => by
  obtain ⟨i1, i2⟩ := keys_putF f v r
  rw [show putF f v ((k, x) :: r) = (if k = f then (k, v) :: r else (k, x) :: putF f v r) from rfl]
  by_cases hk : k = f
  ·rw [if_pos hk]
   subst hk
   exact ⟨by simp, fun g h => by simpa using h⟩
  ·rw [if_neg hk]
   refine ⟨?_, fun g h => ?_⟩
   ·rw [List.map_cons]
    exact List.mem_cons_of_mem _ i1
   ·rw [List.map_cons] at h ⊢
    rcases List.mem_cons.mp h with e | e
    ·exact List.mem_cons.mpr (.inl e)
    ·exact List.mem_cons_of_mem _ (i2 g e)
theorem length_putF (f : Str) (v : V) : ∀ fs : List (Str × V), (putF f v fs).length <= fs.length + 1
 | [] => by simp [putF]
 | (k, x) :: r => by
  have ih := length_putF f v r
  rw [show putF f v ((k, x) :: r) = (if k = f then (k, v) :: r else (k, x) :: putF f v r) from rfl]
  by_cases hk : k = f
  ·rw [if_pos hk, List.length_cons, List.length_cons]; omega
  ·rw [if_neg hk, List.length_cons, List.length_cons]; omega
theorem RelO.some_of {v : V} {o : Option Value} (r : RelO (some v) o) : ∃ u, o = some u /\ RelV v u := by
 cases o with
 | none => exact (show False from r).elim
 | some u => exact ⟨u, rfl, r⟩
theorem handed_of {v : V} {u : Value} (r : RelV v u) : PySem.W.handedIn u = true := by
 cases v with
 | non => cases (show u = Value.none from r); rfl
 | bl b => cases (show u = Value.bool b from r); rfl
 | int i => obtain ⟨t, e⟩ := (show ∃ t, u = Value.int i t from r); cases e; rfl
 | str x => obtain ⟨t, e⟩ := (show ∃ t, u = Value.str x t from r); cases e; rfl
 | byt b => obtain ⟨t, e⟩ := (show ∃ t, u = Value.bytes b t from r); cases e; rfl
 | flt b => obtain ⟨t, e⟩ := (show ∃ t, u = Value.float b t from r); cases e; rfl
 | ref a => cases (show u = Value.ref a from r); rfl
 | ty n => cases (show u = Value.type n from r); rfl
section
variable {P : Program} {w : World} {H H' : Hp} {h h' : Heap} {a C dx : Addr} {fs fs' : List (Str × V)}
theorem ins_get (hok : HOk P w H h) (e : H a = some (.ins C dx fs)) : ∃ mA, ObjM h a dx C mA /\ (∀ f, RelO (fs.lookup f) (mA f)) /\ PySem.Within mA (fs.map (·.1)) /\ fs.length <= 1000 /\ H dx = some (.own a) := by
 obtain ⟨d, z, ne, ob, mA, n, r, q⟩ := (show ObjOk P w H h a (.ins C dx fs) from hok a _ e)
 exact ⟨mA, ⟨ob, n, ne⟩, r, q, z, d⟩
end
structure Cls (K : PySem.W.Frag) (C : Addr) : Prop where
 pg : PySem.W.plainGet K C Str.empty = true
 hd : PySem.W.hasDictIn K C = true
 po : PySem.W.plainOver K C = true
 sa : PySem.W.findIn K (.ref C) "__setattr__" = some (some (.builtin "object.__setattr__"))
theorem Cls.get {K : PySem.W.Frag} {C : Addr} (c : Cls K C) (f : Str) : PySem.W.plainGet K C f = true := c.pg
def NoAttr (K : PySem.W.Frag) (C : Addr) (f : Str) : Prop := PySem.W.findIn K (.ref C) f = some none
theorem NoAttr.taker {K : PySem.W.Frag} {C : Addr} {f : Str} (n : NoAttr K C f) : PySem.W.takerIn K C f = some none := by
 unfold PySem.W.takerIn
 rw [show PySem.W.findIn K (.ref C) f = some none from n]
 rfl
section
variable {X : Cx} {pins : List (Addr × Obj)} {σ : St} {H : Hp} {s : Shared} {a C dx : Addr} {fs : List (Str × V)} {f : Str} {v : V} {A : Around} {E : Value -> Shared -> Prop}
theorem getattr_ok {b : Bool} {Q : Value -> Shared -> Prop} (I : Inv X pins σ H s) (e : H a = some (.ins C dx fs)) (c : Cls X.K C) (n : NoAttr X.K C f) (l : fs.lookup f = some v)
  (h : ∀ u s', Inv X pins σ H s' -> RelV v u -> Q u s') : wpAny (model X.prog X.w) A (getAttr (.ref a) f b) Q E s := by
 obtain ⟨mA, O, r, _, _, _⟩ := ins_get I.hok e
 obtain ⟨u, hu, ru⟩ := RelO.some_of (v := v) (o := mA f) (by rw [<- l]; exact r f)
 exact get_map I.kIn O (c.get f) c.hd n hu (handed_of ru) (h u _ (I.tok _) ru)
theorem setattr_ok {y : V} {u : Value} {Q : Unit -> Shared -> Prop} (I : Inv X pins σ H s) (e : H a = some (.ins C dx fs)) (c : Cls X.K C) (n : NoAttr X.K C f) (hl : fs.length < 1000) (ry : RelV y u)
  (h : ∀ s', Inv X pins σ (upd H a (.ins C dx (putF f y fs))) s' -> Q () s') : wpAny (model X.prog X.w) A (setAttr (.ref a) f u) Q E s := by
 obtain ⟨mA, O, r, wi, _, ho⟩ := ins_get I.hok e
 have hz : (fs.map (·.1)).length <= sizeLine := by rw [List.length_map, sizeLine_eq]; omega
 refine set_map I.kIn O c.sa c.po n.taker c.hd wi hz fun h' O' sb => h _ ?_
 have hd : ∃ o, h'.get? dx = some o := let ⟨o, _, _, e', _⟩ := O'.ns; ⟨o, e'⟩
 refine I.write (x := a) (e := dx) (by rw [e]; exact True.intro) (.inr ho) (fun b q hb z => (sb.2 b hb).trans z) hd ?_
 refine ⟨by rw [upd_ne O.ne]; exact ho, ?_, O.ne, O'.obj, _, O'.ns, fun g => ?_, fun g hg => ?_⟩
 ·have := length_putF f y fs; omega
 ·show RelO ((putF f y fs).lookup g) (if g = f then some u else mA g)
  rw [lookup_putF]
  by_cases q : g = f
  ·rw [if_pos q, if_pos q]; exact ry
  ·rw [if_neg q, if_neg q]; exact r g
 ·by_cases q : g = f
  ·rw [q]; exact (keys_putF f y fs).1
  ·refine (keys_putF f y fs).2 g (wi g fun z => hg ?_)
   show (if g = f then some u else mA g) = none
   rw [if_neg q]; exact z
theorem Inv.made (I : Inv X pins σ H s) : Inv X pins σ (upd (upd H s.heap.objs.size (.own (s.heap.objs.size + 1))) (s.heap.objs.size + 1) (.ins C s.heap.objs.size []))
  { s with heap := (s.heap.push PySem.W.emptyDict).push (PySem.W.instObj C s.heap.objs.size) } := by
 have e1 : (s.heap.push PySem.W.emptyDict).get? s.heap.objs.size = some PySem.W.emptyDict := Heap.get?_push_size s.heap rfl
 have e2 : ((s.heap.push PySem.W.emptyDict).push (PySem.W.instObj C s.heap.objs.size)).get? (s.heap.objs.size + 1) = some (PySem.W.instObj C s.heap.objs.size) := by
  have := Heap.get?_push_size (s.heap.push PySem.W.emptyDict) (o := PySem.W.instObj C s.heap.objs.size) rfl
  rwa [Heap.size_push] at this
 have e3 : (s.heap.push PySem.W.emptyDict).Ns s.heap.objs.size (fun _ => none) := ⟨PySem.W.emptyDict, #[], _, e1, rfl, (fun e he => absurd he (by simp)), fun _ => rfl⟩
 have I1 := I.laid (a := s.heap.objs.size) (o := .own (s.heap.objs.size + 1)) (h' := s.heap.push PySem.W.emptyDict) (t' := s.toks) (fun b u q => Heap.get?_push_of_some _ q) (Nat.le_refl _) ⟨_, e1⟩
 refine I1.laid (a := s.heap.objs.size + 1) (o := .ins C s.heap.objs.size []) (t' := s.toks) (fun b u q => Heap.get?_push_of_some _ q) (Nat.le_of_eq (Heap.size_push _ _)) ?_
 have ne : s.heap.objs.size ≠ s.heap.objs.size + 1 := Nat.ne_of_lt (Nat.lt_succ_self _)
 refine ⟨by rw [upd_ne ne, ups], Nat.zero_le _, ne, e2, fun _ => none, (Heap.Ns1.of_empty e3).at fun o q => Heap.get?_push_of_some _ q, fun _ => True.intro, fun y hy => absurd rfl hy⟩
theorem attr_of {prog : Program} {w : World} {env : Env} {e : Expr} {f : Str} {pos : Pos} {s : Shared} {Q : Value -> Shared -> Prop} (hb : attributeBase e f env (eval e env) = eval e env)
  (h : wpAny (model prog w) A (eval e env) (fun o s₁ => wpAny (model prog w) A (getAttr o f true) Q E s₁) E s) : wpAny (model prog w) A (eval (.Attribute e f pos) env) Q E s :=
 Attribute_any_ h (by rw [arm_eval_Attribute, hb])
end
def tFld (K : PySem.W.Frag) (ta : TE) (f : Str) : TE := fun σ H Q => ta σ H fun x H1 => ∃ a C dx fs v, x = .ref a /\ H1 a = some (.ins C dx fs) /\ Cls K C /\ NoAttr K C f /\ fs.lookup f = some v /\ Q v H1
def sFld (K : PySem.W.Frag) (ta tv : TE) (f : Str) : TS := fun D σ H => tv σ H fun y H1 => ta σ H1 fun x H2 => ∃ a C dx fs, x = .ref a /\ H2 a = some (.ins C dx fs) /\ Cls K C /\ NoAttr K C f /\ fs.length < 1000 ∧
 D.nx σ (upd H2 a (.ins C dx (putF f y fs)))
section
variable {X : Cx} {o e value : Expr} {f : Str} {pos pos' tpos : Pos} {ta tv : TE}
theorem pe_fld (he : PE X e ta) (hb : attributeBase e f X.env (eval e X.env) = eval e X.env) : PE X (.Attribute e f pos) (tFld X.K ta f) := by
 intro pins s σ H Q I h
 refine attr_of hb (thn (he pins s σ H _ I h) fun u s1 ⟨x, H1, I1, rx, a, C, dx, fs, v, ex, ea, c, n, l, q⟩ => ?_)
 subst ex
 obtain rfl : u = Value.ref a := rx
 exact getattr_ok I1 ea c n l fun u' s2 I2 ru => ⟨v, H1, I2, ru, q⟩
theorem ps_fld (ha : PE X o ta) (hv : PE X value tv) (hs : swapsWith value (some (.Attribute o f pos')) pos.line X.env = pure false) : PS X (.Assign [.Attribute o f pos'] value pos) (sFld X.K ta tv f) := by
 intro pins s σ H D I h
 refine plainObj_wpAny_Assign_Attribute (thn (hv pins s σ H _ I h) fun u s1 ⟨y, H1, I1, ry, q⟩ => thn (ha pins s1 σ H1 _ I1 q) fun ov s2 ⟨x, H2, I2, rx, a, C, dx, fs, ex, ea, c, n, l, q2⟩ => ?_) hs
 subst ex
 obtain rfl : ov = Value.ref a := rx
 exact setattr_ok I2 ea c n l ry fun s3 I3 => ⟨σ, _, I3, q2⟩
end
section
variable {X : Cx} {pins : List (Addr × Obj)} {σ : St} {H : Hp} {s : Shared} {A : Around} {E : Value -> Shared -> Prop} {Q : Value -> Shared -> Prop} {c : Value} {b : Bool}
inductive TyOf (K : PySem.W.Frag) (H : Hp) : V -> Value -> Prop where
 | non : TyOf K H .non (.type "NoneType")
 | bl (x : Bool) : TyOf K H (.bl x) (.type "bool")
 | int (i : Int) : TyOf K H (.int i) (.type "int")
 | str (x : Str) : TyOf K H (.str x) (.type "str")
 | flt (x : UInt64) : TyOf K H (.flt x) (.type "float")
 | lst {a : Addr} {xs : List V} (e : H a = some (.lst xs)) : TyOf K H (.ref a) (.type "list")
 | frz {a : Addr} {o : Obj} {xs : List V} (e : H a = some (.frz o (.lst xs))) : TyOf K H (.ref a) (.type "list")
 | tup {a : Addr} {xs : List V} (e : H a = some (.tup xs)) : TyOf K H (.ref a) (.type "tuple")
 | dK {a : Addr} {kvs : List (Key × V)} (e : H a = some (.dK kvs)) : TyOf K H (.ref a) (.type "dict")
 | dT {a : Addr} {kvs : List (List Key × V)} (e : H a = some (.dT kvs)) : TyOf K H (.ref a) (.type "dict")
 | ins {a C dx : Addr} {fs : List (Str × V)} (e : H a = some (.ins C dx fs)) (cl : Cls K C) (ha : PySem.W.findIn K (.ref C) "__class__" = some (some (.builtin "object.__class__")))
   (hn : PySem.W.specialIn K (.builtin "object.__class__") "__get__" = some (some (.builtin "getset_descriptor.__get__"))) (htk : PySem.W.takesIn K (.builtin "object.__class__") = some true)
   (hm : PySem.W.mroIn K C (.type "object") = some true) : TyOf K H (.ref a) (.ref C)
theorem isinst_ok {x : V} {u t : Value} (I : Inv X pins σ H s) (rx : RelV x u) (ty : TyOf X.K H x t) (e : PySem.W.kitOne X.K t c = some b) (h : ∀ tk, Q (.bool b) { s with toks := tk }) :
  wpAny (model X.prog X.w) A (call (.builtin "isinstance") [u, c]) Q E s := by
 cases ty with
 | non => cases (show u = Value.none from rx); exact PySem.W.kia_one PySem.W.kitx_none I.kIn True.intro e (fun z => nomatch z) h
 | bl y => cases (show u = Value.bool y from rx); exact PySem.W.kia_one PySem.W.kitx_bool I.kIn True.intro e (fun z => nomatch z) h
 | int i => obtain ⟨t, q⟩ := (show ∃ t, u = Value.int i t from rx); cases q; exact PySem.W.kia_one PySem.W.kitx_int I.kIn True.intro e (fun z => nomatch z) h
 | str y => obtain ⟨t, q⟩ := (show ∃ t, u = Value.str y t from rx); cases q; exact PySem.W.kia_one PySem.W.kitx_str I.kIn True.intro e (fun z => nomatch z) h
 | flt y => obtain ⟨t, q⟩ := (show ∃ t, u = Value.float y t from rx); cases q; exact PySem.W.kia_one PySem.W.kitx_float I.kIn True.intro e (fun z => nomatch z) h
 | @lst a xs ea =>
  cases (show u = Value.ref a from rx)
  obtain ⟨_, _, n, _, h1⟩ := (show ObjOk X.prog X.w H s.heap a (.lst xs) from I.hok a _ ea)
  exact PySem.W.kia_one PySem.W.kitx_list I.kIn ⟨_, h1, rfl⟩ e (fun z => nomatch z) h
 | @frz a ob xs ea =>
  cases (show u = Value.ref a from rx)
  obtain ⟨_, _, _, n, _, h1⟩ := (show ObjOk X.prog X.w H s.heap a (.frz ob (.lst xs)) from I.hok a _ ea)
  exact PySem.W.kia_one PySem.W.kitx_list I.kIn ⟨_, h1, rfl⟩ e (fun z => nomatch z) h
 | @tup a xs ea =>
  cases (show u = Value.ref a from rx)
  obtain ⟨_, _, _, p⟩ := (show ObjOk X.prog X.w H s.heap a (.tup xs) from I.hok a _ ea)
  obtain ⟨o, h1, h2, _⟩ := p
  exact PySem.W.kia_one PySem.W.kitx_tuple I.kIn ⟨o, h1, h2⟩ e (fun z => nomatch z) h
 | @dK a kvs ea =>
  cases (show u = Value.ref a from rx)
  obtain ⟨_, _, vs, _, p⟩ := (show ObjOk X.prog X.w H s.heap a (.dK kvs) from I.hok a _ ea)
  obtain ⟨o, es, ep, h1, h2, _⟩ := p
  exact PySem.W.kia_one PySem.W.kitx_dict I.kIn ⟨o, h1, h2.1⟩ e (fun z => nomatch z) h
 | @dT a kvs ea =>
  cases (show u = Value.ref a from rx)
  obtain ⟨_, _, xs, _, o, es, ep, h1, h2, _⟩ := (show ObjOk X.prog X.w H s.heap a (.dT kvs) from I.hok a _ ea)
  exact PySem.W.kia_one PySem.W.kitx_dict I.kIn ⟨o, h1, h2.1⟩ e (fun z => nomatch z) h
 | @ins a C dx fs ea cl ha hn htk hm =>
  cases (show u = Value.ref a from rx)
  obtain ⟨mA, O, _⟩ := ins_get I.hok ea
  obtain ⟨od, J, _⟩ := O.look
  exact PySem.W.kia_one (PySem.W.kitx_own (cl.get _) cl.hd ha hn htk hm) I.kIn J e (fun z => nomatch z) h
end
end L2
namespace L2
open PySem PySem.Spec PyProof.Rows
structure Room (k : Nat) (A : Around) : Prop where
 hd : A.handled = none
 dp : A.depth + 3 * k + 5 < recursionLimit
 un : A.units + 16 * k + 200 < cLine
theorem Room.mono {j k : Nat} {A : Around} (r : Room k A) (h : j <= k) : Room j A := ⟨r.hd, by have := r.dp; omega, by have := r.un; omega⟩
theorem Room.deeper {k : Nat} {A : Around} (r : Room (k + 1) A) (env : Env) : Room k (A.deeper env) :=
 ⟨r.hd, by have := r.dp; show A.depth + 1 + 3 * k + 5 < _; omega, by have := r.un; show A.units + 3 + 16 * k + 200 < _; omega⟩
theorem make_depth {A : Around} {C : Addr} {us : List Value} {kw : List (Str × Value)} : (A.under (.builtin "type.__call__" ⟨.ref C :: us, kw⟩)).depth = A.depth + 1 := by
 first | rfl | simp [Around.under, Code.weight, Code.isCreation, Code.isGuard, Code.isCaller, Code.frames, Code.isFrame, guardIds]
theorem make_units {A : Around} {C : Addr} {us : List Value} {kw : List (Str × Value)} : (A.under (.builtin "type.__call__" ⟨.ref C :: us, kw⟩)).units = A.units + 1 := by
 first | rfl | simp [Around.under, Code.cUnits, Code.frames, Code.isFrame]
theorem Room.make {k : Nat} {A : Around} (r : Room (k + 1) A) (C : Addr) (us : List Value) (kw : List (Str × Value)) : Room k (A.under (.builtin "type.__call__" ⟨.ref C :: us, kw⟩)) :=
 ⟨r.hd, by have := r.dp; rw [make_depth]; omega, by have := r.un; rw [make_units]; omega⟩
theorem Room.depth {k : Nat} {A : Around} (r : Room k A) : A.depth < recursionLimit := by have := r.dp; omega
theorem Room.units {k : Nat} {A : Around} (r : Room k A) : A.units + 64 < cLine := by have := r.un; omega
theorem Room.units0 {k : Nat} {A : Around} (r : Room k A) : A.units < cLine := by have := r.un; omega
def tNil : TA := fun _ H Q => Q [] H
def tCons (ta : TE) (tr : TA) : TA := fun σ H Q => ta σ H fun x H1 => tr σ H1 fun xs H2 => Q (x :: xs) H2
section
variable {X : Cx} {e : Expr} {es : List Expr} {te : TE} {t : TA} {pos : Pos}
theorem pa_nil : PA X [] tNil := fun _ _ _ _ H Q I h => Calls.spliced_nil ⟨[], H, I, .nil, h⟩
theorem zpc (ha : PE X e te) (hr : PA X es t) (hs : starEach (e :: es) X.env = (false, eval e X.env) :: starEach es X.env := by rfl) : PA X (e :: es) (tCons te t) := by
 intro pos pins s σ H Q I h
 rw [hs]
 show wpAny _ _ (spliced ((false, eval e X.env) :: backTo pos (starEach es X.env))) _ _ s
 refine Calls.spliced_cons (thn (ha pins s σ H _ I h) fun u s1 ⟨x, H1, I1, r1, q1⟩ => ?_)
 exact thn (hr pos pins s1 σ H1 _ I1 q1) fun us s2 ⟨xs, H2, I2, r2, q2⟩ => ⟨x :: xs, H2, I2, .cons r1 r2, q2⟩
def tTup (t : TA) : TE := fun σ H Q => t σ H fun xs H1 => xs.length <= sizeLine /\ ∀ p, H1 p = none -> Q (.ref p) (upd H1 p (.tup xs))
def tLst (t : TA) : TE := fun σ H Q => t σ H fun xs H1 => xs.length <= sizeLine /\ ∀ p, H1 p = none -> Q (.ref p) (upd H1 p (.lst xs))
theorem pe_tup {x1} (h : PA X es t) : PE X (.Tuple es x1 pos) (tTup t) := by
 intro pins s σ H Q I hq
 refine wpAny_Tuple_spliced (thn (h pos pins s σ H _ I hq) fun us s1 ⟨xs, H1, I1, r, z, q⟩ => ⟨by rw [<- r.length]; exact z, ?_⟩)
 have hf : H1 s1.heap.objs.size = none := I1.hok.fresh (Nat.le_refl _)
 refine ⟨.ref s1.heap.objs.size, upd H1 s1.heap.objs.size (.tup xs), I1.laid (t' := s1.toks) (fun b u e => Heap.get?_push_of_some _ e) (Nat.le_refl _) ?_, rfl, q _ hf⟩
 exact ⟨z, us, r, ⟨_, Heap.get?_push_size _ rfl, rfl, _, rfl⟩⟩
theorem pe_lst (h : PA X es t) : PE X (.List es pos) (tLst t) := by
 intro pins s σ H Q I hq
 refine wpAny_List_spliced (thn (h pos pins s σ H _ I hq) fun us s1 ⟨xs, H1, I1, r, z, q⟩ => ⟨by rw [<- r.length]; exact z, ?_⟩)
 have hf : H1 s1.heap.objs.size = none := I1.hok.fresh (Nat.le_refl _)
 refine ⟨.ref s1.heap.objs.size, upd H1 s1.heap.objs.size (.lst xs), I1.laid (t' := s1.toks) (fun b u e => Heap.get?_push_of_some _ e) (Nat.le_refl _) ?_, rfl, q _ hf⟩
 exact ⟨z, us, 0, r, Heap.get?_push_size _ rfl⟩
end
abbrev Sp := List V -> Hp -> VK -> XK -> Prop
abbrev CXT := List Env -> Hp -> Shared -> XK -> Value -> Shared -> Prop
structure Env0 (P : Program) (w : World) (K : PySem.W.Frag) (mg : Str -> Option Value) (base : Heap) (A : Around) (outer : List Env) (s : Shared) (H : Hp) : Prop where
 frames : A.frames = some outer
 mod : Mod K mg base
 bs : ∀ b o, base.get? b = some o -> s.heap.get? b = some o /\ H b = none
 bsz : base.objs.size <= s.heap.objs.size
 funs : s.heap.FunFrames base outer
 frf : ∀ b ∈ frs outer, H b = none
 hok : HOk P w H s.heap
 bare : AllBare s.gens
def CE (outer : List Env) (P : Program) (w : World) (H : Hp) (s : Shared) (Q : VK) (u : Value) (s' : Shared) : Prop :=
 ∃ v H', s'.os = s.os /\ AllBare s'.gens /\ Un (frs outer) [] H H' s.heap s'.heap /\ HOk P w H' s'.heap /\ RelV v u /\ Q v H'
def CR (CX : CXT) (outer : List Env) (P : Program) (w : World) (H : Hp) (s : Shared) (Q : VK) (E : XK) (r : Result) (s' : Shared) : Prop :=
 match r with
 | .ok (.ret u) => CE outer P w H s Q u s'
 | .ok _ => False
 | .error e => CX outer H s E e s'
structure FnOk (P : Program) (w : World) (K : PySem.W.Frag) (mg : Str -> Option Value) (base : Heap) (CX : CXT) (k : Nat) (f : Addr) (fd : FuncData) (ps : List Str) (sp : Sp) : Prop where
 len : ∀ vs H Q E, sp vs H Q E -> vs.length = ps.length
 run : ∀ (A : Around) (outer : List Env) (s : Shared) (H : Hp) (args : Args) (us : List Value) (vs : List V) (Q : VK) (E : XK), Room k A -> Env0 P w K mg base A outer s H -> BindsTo s fd args (ps.zip us) -> Vals vs us -> sp vs H Q E ->
  codeAny (model P w) A (.call (.ref f) args) (CR CX outer P w H s Q E) s
theorem FnOk.mono {P : Program} {w : World} {K : PySem.W.Frag} {mg : Str -> Option Value} {base : Heap} {CX : CXT} {j k : Nat} {f : Addr} {fd : FuncData} {ps : List Str} {sp : Sp} (F : FnOk P w K mg base CX j f fd ps sp) (h : j <= k) :
  FnOk P w K mg base CX k f fd ps sp := ⟨F.len, fun A outer s H args us vs Q E hr => F.run A outer s H args us vs Q E (hr.mono h)⟩
theorem FnOk.imp {P : Program} {w : World} {K : PySem.W.Frag} {mg : Str -> Option Value} {base : Heap} {CX : CXT} {k : Nat} {f : Addr} {fd : FuncData} {ps : List Str} {sp sp' : Sp} (F : FnOk P w K mg base CX k f fd ps sp)
  (h : ∀ vs H Q E, sp' vs H Q E -> sp vs H Q E) : FnOk P w K mg base CX k f fd ps sp' :=
 ⟨fun vs H Q E q => F.len vs H Q E (h _ _ _ _ q), fun A outer s H args us vs Q E hr he hb hv hs => F.run A outer s H args us vs Q E hr he hb hv (h _ _ _ _ hs)⟩
theorem Env0.make {P : Program} {w : World} {K : PySem.W.Frag} {mg : Str -> Option Value} {base : Heap} {A : Around} {outer : List Env} {s : Shared} {H : Hp} (e : Env0 P w K mg base A outer s H) (C : Addr) (us : List Value) (kw : List (Str × Value)) :
  Env0 P w K mg base (A.under (.builtin "type.__call__" ⟨.ref C :: us, kw⟩)) outer s H := ⟨by first | exact e.frames | (simpa [Around.under, Code.envs, Code.isFrame, pushEnvs] using e.frames), e.mod, e.bs, e.bsz, e.funs, e.frf, e.hok, e.bare⟩
section
variable {X : Cx} {pins : List (Addr × Obj)} {σ : St} {H : Hp} {s s' : Shared}
theorem Inv.env0 (I : Inv X pins σ H s) : Env0 X.prog X.w X.K X.mg X.base X.A X.stack s H :=
 ⟨I.ok.frames, I.ok.mod, I.bs, Nat.le_trans I.ok.bsz I.sz, I.stack, I.stkFree, I.hok, I.bare⟩
theorem Inv.after {Q : VK} {u : Value} (I : Inv X pins σ H s) (h : CE X.stack X.prog X.w H s Q u s') : EP X pins σ Q u s' := by
 obtain ⟨v, H', os, bare, un, hok, r, q⟩ := h
 obtain ⟨hh, g, d, t, os'⟩ := s'
 obtain rfl : os' = s.os := os
 exact ⟨v, H', I.call (h' := hh) (g' := g) (d' := d) (t' := t) (ch := []) un hok bare (fun b z => absurd z (by simp)), r, q⟩
end
def tCall (sp : Sp) (dvs : List V) (E : XK) (t : TA) : TE := fun σ H Q => t σ H fun vs H1 => sp (vs ++ dvs) H1 Q E
def tMake (C : Addr) (sp : Sp) (dvs : List V) (E : XK) (t : TA) : TE := fun σ H Q => t σ H fun vs H1 => ∀ x dx, H1 x = none -> H1 dx = none -> dx ≠ x ->
 sp (.ref x :: (vs ++ dvs)) (upd (upd H1 dx (.own x)) x (.ins C dx [])) (fun v H2 => v = .non /\ Q (.ref x) H2) E
def Binds (K : PySem.W.Frag) (fd : FuncData) (ps : List Str) (ds : List Value) : Prop :=
 ∀ (s : Shared) (us : List Value), K.In s.heap -> (us ++ ds).length = ps.length -> BindsTo s fd ⟨us, []⟩ (ps.zip (us ++ ds))
theorem Binds.all {K : PySem.W.Frag} {fd : FuncData} {ps : List Str} (h : ∀ us : List Value, us.length = ps.length -> bindArgs fd ⟨us, []⟩ = pure (ps.zip us)) : Binds K fd ps [] := fun s us _ hl => by
 rw [List.append_nil] at hl ⊢
 exact .of_eq (h us hl)
def Passes (CX : CXT) (X : Cx) (E : XK) : Prop := ∀ (pins : List (Addr × Obj)) (σ : St) (H : Hp) (s : Shared) (e : Value) (s' : Shared), Inv X pins σ H s -> CX X.stack H s E e s' -> X.xe e s'
section
variable {X : Cx} {CX : CXT} {k : Nat} {f C : Addr} {fd : FuncData} {ps : List Str} {sp : Sp} {dvs : List V} {ds : List Value} {E : XK} {x m : Str} {p pos apos : Pos} {e o : Expr} {es : List Expr} {ta : TE} {t : TA}
theorem run_fn {pins : List (Addr × Obj)} {σ : St} {H : Hp} {s : Shared} {Q : VK} {us : List Value} {vs : List V} (F : FnOk X.prog X.w X.K X.mg X.base CX k f fd ps sp) (hr : Room k X.A) (hb : Binds X.K fd ps ds) (hd : Vals dvs ds) (hx : Passes CX X E)
  (I : Inv X pins σ H s) (r : Vals vs us) (h : sp (vs ++ dvs) H Q E) : wpAny (model X.prog X.w) X.A (call (.ref f) us) (EP X pins σ Q) X.xe s := by
 have r2 : Vals (vs ++ dvs) (us ++ ds) := r.append hd
 have hl : (us ++ ds).length = ps.length := by rw [<- r2.length]; exact F.len _ _ _ _ h
 refine wpAny_call (codeAny_mono (F.run X.A X.stack s H ⟨us, []⟩ (us ++ ds) (vs ++ dvs) Q E hr I.env0 (hb s us I.kIn hl) r2 h) fun r s' hq => ?_)
 cases r with
 | error e => exact hx pins σ H s e s' I hq
 | ok fl =>
  cases fl with
  | ret u => exact I.after hq
  | next => exact False.elim hq
  | brk => exact False.elim hq
  | cont => exact False.elim hq
theorem pe_call (F : FnOk X.prog X.w X.K X.mg X.base CX k f fd ps sp) (hr : Room k X.A) (hg : Gl X x) (hm : X.mg x = some (.ref f)) (hk : PySem.W.keepIn X.K (.ref f) = true) (hb : Binds X.K fd ps ds) (hd : Vals dvs ds) (hx : Passes CX X E)
  (ha : PA X (e :: es) t) (hdb : (x == ("__debug__" : Str)) = false := by decide) (he : starEach (e :: es) X.env = (false, eval e X.env) :: starEach es X.env := by rfl) (hpl : (backTo pos (starEach es X.env)).any (·.1) = false := by rfl) :
  PE X (.Call (.Name x p) (e :: es) [] pos) (tCall sp dvs E t) := by
 intro pins s σ H Q I h
 refine wpAny_Call_Name_kw (ld_glob I hg hm ?_ hdb)
 refine PySem.W.callWith_K (h₀ := X.base) I.ok.mod.kin hk (thn (ha pos pins s σ H _ I h) fun us s1 ⟨vs, H1, I1, r, q⟩ => ⟨I1.kIn, ?_⟩) he hpl
 exact run_fn F hr hb hd hx I1 r q
structure Mk (K : PySem.W.Frag) (C f : Addr) : Prop where
 makes : PySem.W.makesIn K C = true
 init : PySem.W.findIn K (.ref C) "__init__" = some (some (.ref f))
 fn : PySem.W.isFn K (.ref f) = true
 kp : PySem.W.keepIn K (.ref C) = true
theorem run_make {pins : List (Addr × Obj)} {σ : St} {H : Hp} {s : Shared} {Q : VK} {us : List Value} {vs : List V} (M : Mk X.K C f) (F : FnOk X.prog X.w X.K X.mg X.base CX k f fd ps sp) (hr : Room (k + 1) X.A) (hb : Binds X.K fd ps ds) (hd : Vals dvs ds)
  (hx : Passes CX X E) (I : Inv X pins σ H s) (r : Vals vs us)
  (h : ∀ x dx, H x = none -> H dx = none -> dx ≠ x -> sp (.ref x :: (vs ++ dvs)) (upd (upd H dx (.own x)) x (.ins C dx [])) (fun v H2 => v = .non /\ Q (.ref x) H2) E) :
  wpAny (model X.prog X.w) X.A (call (.ref C) us) (EP X pins σ Q) X.xe s := by
 have hq := h (s.heap.objs.size + 1) s.heap.objs.size (I.hok.fresh (Nat.le_succ _)) (I.hok.fresh (Nat.le_refl _)) (Nat.ne_of_lt (Nat.lt_succ_self _))
 have I2 := Inv.made (C := C) I
 have r2 : Vals (V.ref (s.heap.objs.size + 1) :: (vs ++ dvs)) (Value.ref (s.heap.objs.size + 1) :: (us ++ ds)) := .cons rfl (r.append hd)
 have hl : (Value.ref (s.heap.objs.size + 1) :: us ++ ds).length = ps.length := by
  have e := r2.length
  rw [F.len _ _ _ _ hq] at e
  exact e.symm
 refine wpAny_call (make_map (f := f) I.kIn M.makes M.init (beq_iff_eq.mp M.fn) (codeAny_mono (F.run _ X.stack _ _ ⟨Value.ref (s.heap.objs.size + 1) :: us, []⟩ (Value.ref (s.heap.objs.size + 1) :: (us ++ ds)) _ _ E (hr.make C us [])
  (I2.env0.make C us []) (hb _ (Value.ref (s.heap.objs.size + 1) :: us) I2.kIn hl) r2 hq) fun r s' hq' => ?_))
 cases r with
 | error e => exact hx pins σ _ _ e s' I2 hq'
 | ok fl =>
  cases fl with
  | ret u =>
   obtain ⟨v, H', I3, rv, ev, q3⟩ := I2.after hq'
   subst ev
   exact ⟨rv, ⟨V.ref (s.heap.objs.size + 1), H', I3, rfl, q3⟩⟩
  | next => exact False.elim hq'
  | brk => exact False.elim hq'
  | cont => exact False.elim hq'
theorem pe_make0 (M : Mk X.K C f) (F : FnOk X.prog X.w X.K X.mg X.base CX k f fd ps sp) (hr : Room (k + 1) X.A) (hg : Gl X x) (hm : X.mg x = some (.ref C)) (hb : Binds X.K fd ps ds) (hd : Vals dvs ds) (hx : Passes CX X E)
  (hdb : (x == ("__debug__" : Str)) = false := by decide) : PE X (.Call (.Name x p) [] [] pos) (tMake C sp dvs E tNil) := by
 intro pins s σ H Q I h
 refine wpAny_Call_Name_kw (ld_glob I hg hm ?_ hdb)
 exact PySem.W.callWith_K0 I.kIn M.kp (run_make (us := []) M F hr hb hd hx I .nil h)
end
structure FnScope (N P : List Str) (sc : Scope) : Prop where
 kind : sc.kind = .function
 co : sc.isCoroutine = false
 gen : sc.isGenerator = false
 nd : N.Nodup
 pre : N.take P.length = P
 par : ∀ x ∈ P, sc.names.lookup x = some .local \/ sc.names.lookup x = some .cell
 nofree : ∀ y ∈ sc.names, y.2 ≠ .free
theorem bindL_out {kindOf : Str -> Option NameKind} {x : Str} : ∀ {binds : List (Str × Value)} {m : Str -> Option Value}, (∀ v, (x, v) ∉ binds) -> bindL kindOf binds m x = m x
 | [], _, _ => rfl
 | (n, v) :: r, m, h => by
  unfold bindL
  rw [bindL_out fun w hw => h w (List.mem_cons_of_mem _ hw)]
  split
  ·have : x ≠ n := by rintro rfl; exact h v List.mem_cons_self
   simp [this]
  ·rfl
theorem bindC_out {kindOf : Str -> Option NameKind} {x : Str} : ∀ {binds : List (Str × Value)} {m : Str -> Option Value}, (∀ v, (x, v) ∉ binds) -> bindC kindOf binds m x = m x
 | [], _, _ => rfl
 | (n, v) :: r, m, h => by
  unfold bindC
  rw [bindC_out fun w hw => h w (List.mem_cons_of_mem _ hw)]
  split
  ·rfl
  ·have : x ≠ n := by rintro rfl; exact h v List.mem_cons_self
   simp [this]
theorem bindL_get {kindOf : Str -> Option NameKind} {x : Str} {v : Value} : ∀ {P : List Str} {vs : List Value} {i : Nat} {m : Str -> Option Value}, P.Nodup -> P[i]? = some x -> vs[i]? = some v -> kindOf x = some .local ->
  bindL kindOf (P.zip vs) m x = some v
 | [], _, _, _, _, h, _, _ => by simp at h
 | _ :: _, [], _, _, _, _, h, _ => by simp at h
 | p :: P, w :: vs, 0, m, nd, h1, h2, hk => by
  simp at h1 h2; subst h1; subst h2
  show bindL kindOf ((p, w) :: P.zip vs) m p = _
  unfold bindL
  rw [bindL_out fun v hv => (List.nodup_cons.mp nd).1 (List.of_mem_zip hv).1, if_pos hk]
  simp
 | p :: P, w :: vs, i + 1, m, nd, h1, h2, hk => by
  show bindL kindOf ((p, w) :: P.zip vs) m x = _
  unfold bindL
  exact bindL_get (i := i) (List.nodup_cons.mp nd).2 (by simpa using h1) (by simpa using h2) hk
theorem bindC_get {kindOf : Str -> Option NameKind} {x : Str} {v : Value} : ∀ {P : List Str} {vs : List Value} {i : Nat} {m : Str -> Option Value}, P.Nodup -> P[i]? = some x -> vs[i]? = some v -> kindOf x ≠ some .local ->
  bindC kindOf (P.zip vs) m x = some v
 | [], _, _, _, _, h, _, _ => by simp at h
 | _ :: _, [], _, _, _, _, h, _ => by simp at h
 | p :: P, w :: vs, 0, m, nd, h1, h2, hk => by
  simp at h1 h2; subst h1; subst h2
  show bindC kindOf ((p, w) :: P.zip vs) m p = _
  unfold bindC
  rw [bindC_out fun v hv => (List.nodup_cons.mp nd).1 (List.of_mem_zip hv).1, if_neg hk]
  simp
 | p :: P, w :: vs, i + 1, m, nd, h1, h2, hk => by
  show bindC kindOf ((p, w) :: P.zip vs) m x = _
  unfold bindC
  exact bindC_get (i := i) (List.nodup_cons.mp nd).2 (by simpa using h1) (by simpa using h2) hk
def start (N : List Str) (vs : List V) : St := vs.map some ++ List.replicate (N.length - vs.length) none
def cxOf (CX : CXT) (P : Program) (w : World) (K : PySem.W.Frag) (mg : Str -> Option Value) (base : Heap) (N : List Str) (qual : Str) (scope : Scope) (f : Addr) (cd : Value) (A : Around) (outer : List Env) (s : Shared) (H : Hp) (E : XK) : Cx where
 prog := P
 w := w
 K := K
 mg := mg
 base := base
 A := A.deeper (envOfC qual scope s.heap.objs.size f cd)
 N := N
 s₀ := s
 H₀ := H
 env := envOfC qual scope s.heap.objs.size f cd
 outer := outer
 stack := envOfC qual scope s.heap.objs.size f cd :: outer
 ex := []
 calm := true
 fn := fun _ => true
 pn := []
 xe := fun e s' => wpAny (model P w) (A.deeper (envOfC qual scope s.heap.objs.size f cd)) (leaving (envOfC qual scope s.heap.objs.size f cd) e) (fun _ s'' => CX outer H s E e s'') (fun e' s'' => CX outer H s E e' s'') s'
theorem cell_has {sc : Scope} {n : Nat} {x : Str} (h : sc.names.lookup x = some .cell) : ∃ c, (cellsFrom n sc.names []).lookup x = some c := by
 have q := PySem.W.cellsFrom_some sc.names n [] (.inl h)
 exact Option.isSome_iff_exists.mp q
theorem inv_start {CX : CXT} {P : Program} {w : World} {K : PySem.W.Frag} {mg : Str -> Option Value} {base : Heap} {N ps : List Str} {qual : Str} {scope : Scope} {f : Addr} {cd : Value} {A : Around} {outer : List Env} {s s1 : Shared} {H : Hp} {E : XK} {us : List Value} {vs : List V}
  (S : FnScope N ps scope) (hd : A.handled = none) (e0 : Env0 P w K mg base A outer s H) (hl : vs.length = ps.length) (r : Vals vs us)
  (x : InCallC s s.heap.objs.size (bindL (envOfC qual scope s.heap.objs.size f cd).kindOf (ps.zip us) fun _ => none) (cellsFrom (s.heap.objs.size + 1) scope.names []) (bindC (envOfC qual scope s.heap.objs.size f cd).kindOf (ps.zip us) fun _ => none) s1) :
  Inv (cxOf CX P w K mg base N qual scope f cd A outer s H E) [] (start N vs) H s1 := by
 have hpl : ps.length <= N.length := by have := congrArg List.length S.pre; rw [List.length_take] at this; omega
 obtain ⟨h1, tk, rfl, hk⟩ := x.done
 have noA : ∀ b : Addr, b ∉ (cxOf CX P w K mg base N qual scope f cd A outer s H E).ex := fun b z => absurd (show b ∈ ([] : List Addr) from z) (by simp)
 refine ⟨⟨e0.mod, S.kind, rfl, rfl, Nat.le_refl _, fun y z c h1 h2 => ?_, fun y hy => ?_, fun y c _ h => ?_, fun _ => hd, Around.frames_deeper e0.frames, .inr ⟨rfl, rfl⟩, fun b z => absurd z (noA b), e0.bs, e0.bsz, fun b _ _ => noA b, fun b z => absurd z (noA b), e0.funs, e0.frf⟩,
  rfl, e0.bare, Un.kept hk, ⟨_, x.toInCall.ns, fun i y v h1 h2 h3 => ?_⟩, fun y c h => ⟨_, x.cell y c h⟩, e0.hok.fresh (Nat.le_refl _), fun y c h => ?_, fun p hp => absurd (show p ∈ ([] : List (Addr × Obj)) from hp) (by simp), e0.hok.kept hk, ?_⟩
 ·exact name_of_addr x.apart (PySem.mem_of_lookup h1) (PySem.mem_of_lookup h2)
 ·have hy : scope.names.lookup y = some .cell \/ scope.names.lookup y = some .free := hy
  rcases hy with hy | hy
  ·exact cell_has hy
  ·exact absurd rfl (S.nofree _ (PySem.mem_of_lookup hy))
 ·exact Nat.le_of_lt (x.above y c (PySem.mem_of_lookup h))
 ·have hi : i < vs.length := by
   unfold start at h2
   by_cases hi : i < vs.length
   ·exact hi
   ·rw [List.getElem?_append_right (by simpa using hi)] at h2
    rw [List.getElem?_replicate] at h2
    split at h2 <;> cases h2
  have ha : vs[i]? = some v := by
   unfold start at h2
   rw [List.getElem?_append_left (by simpa using hi), List.getElem?_map] at h2
   cases e : vs[i]? with
   | none => rw [e] at h2; cases h2
   | some a => rw [e] at h2; cases h2; rfl
  obtain ⟨u, hu, rv⟩ := r.get ha
  have hp : ps[i]? = some y := by
   rw [<- S.pre, List.getElem?_take_of_lt (by omega)]; exact h1
  have ndP : ps.Nodup := by rw [<- S.pre]; exact S.nd.sublist (List.take_sublist _ _)
  refine ⟨u, rv, ?_⟩
  rcases S.par y (List.mem_of_getElem? hp) with k | k
  ·exact .inl ⟨k, bindL_get ndP hp hu k⟩
  ·obtain ⟨c, e⟩ := cell_has (n := s.heap.objs.size + 1) k
   refine .inr ⟨.inl k, c, e, ?_⟩
   have q := x.cell y c e
   rw [bindC_get ndP hp hu (by show scope.names.lookup y ≠ _; rw [k]; decide)] at q
   exact q
 ·exact e0.hok.fresh (Nat.le_of_lt (x.above y c (PySem.mem_of_lookup h)))
 ·unfold start
  show _ = N.length
  rw [List.length_append, List.length_map, List.length_replicate]
  omega
theorem fn_of {CX : CXT} {P : Program} {w : World} {K : PySem.W.Frag} {mg : Str -> Option Value} {base : Heap} {k : Nat} {f : Addr} {name qual : Str} {params : Arguments} {body : List Stmt} {scope : Scope} {dV kV doc pm cdv ct oc : Value} {an od : Option Addr}
  {osl : Array (Option Value)} {N ps : List Str} {sp : Sp} (lk : K.lookup f = some ⟨oc, od, .func (PySem.W.fnOf name qual params body scope dV kV doc pm an cdv ct), osl⟩) (hcd : PySem.W.codeIn K cdv qual = true) (S : FnScope N ps scope)
  (len : ∀ vs H Q E, sp vs H Q E -> vs.length = ps.length)
  (hbody : ∀ (A : Around) (outer : List Env) (s : Shared) (H : Hp) (vs : List V) (Q : VK) (E : XK), Room k (A.deeper (envOfC qual scope s.heap.objs.size f cdv)) -> sp vs H Q E ->
   ∃ t, PSs (cxOf CX P w K mg base N qual scope f cdv A outer s H E) body t /\ t { nx := fun _ H' => Q .non H', rt := Q } (start N vs) H) :
  FnOk P w K mg base CX (k + 1) f (PySem.W.fnOf name qual params body scope dV kV doc pm an cdv ct) ps sp := by
 refine ⟨len, fun A outer s H args us vs Q E hr e0 hb r hsp => ?_⟩
 have hl := len _ _ _ _ hsp
 have KX : K.In s.heap := e0.mod.kin.keeps fun b o e => (e0.bs b o e).1
 have lim : s.heap.NoLimit := e0.mod.nolimit.keeps fun b o e => (e0.bs b o e).1
 have hkind : ∀ y ∈ ps.zip us, scope.names.lookup y.1 = some .local \/ (scope.names.lookup y.1 = some .cell /\ ((cellsFrom (s.heap.objs.size + 1) scope.names []).lookup y.1).isSome = true) := fun ⟨n, v⟩ hy => by
  rcases S.par n (List.of_mem_zip hy).1 with q | q
  ·exact .inl q
  ·exact .inr ⟨q, PySem.W.cellsFrom_some _ _ _ (.inl q)⟩
 refine codeAny_call_function hr.depth (KX _ _ lk) rfl S.co S.gen rfl (PySem.W.codeRec_of KX hcd) (hb _ _ _ _ ?_)
 refine wpAny_newFunctionEnv_cells S.kind hkind fun env he s1 x => ?_
 subst he
 refine ⟨lim.keeps x.toInCall.keep, codeAny_func ?_⟩
 obtain ⟨t, ht, hq⟩ := hbody A outer s H vs Q E (hr.deeper _) hsp
 have I : Inv (cxOf CX P w K mg base N qual scope f cdv A outer s H E) [] (start N vs) H s1 := inv_start S hr.hd e0 hl r x
 refine wpAny_mono (ht [] s1 (start N vs) H _ I hq) (fun fl s' hs => ?_) fun e s' hs => hs
 have fin : ∀ {σ' : St} {H' : Hp} {v : V} {u : Value}, Inv (cxOf CX P w K mg base N qual scope f cdv A outer s H E) [] σ' H' s' -> RelV v u -> Q v H' -> CE outer P w H s Q u s' :=
  fun {σ' H' v u} J rv q => ⟨v, H', J.os, J.bare, J.base, J.hok, rv, q⟩
 cases fl with
 | ret u =>
  obtain ⟨v, σ', H', J, rv, q⟩ := hs
  exact fin J rv q
 | next =>
  obtain ⟨σ', H', J, q⟩ := hs
  exact fin (v := V.non) (u := Value.none) J rfl q
 | brk =>
  obtain ⟨_, _, _, q⟩ := hs
  exact False.elim q
 | cont =>
  obtain ⟨_, _, _, q⟩ := hs
  exact False.elim q
end L2
namespace L2
open PySem PySem.Spec PyProof.Rows
section
variable {X : Cx} {x : Str} {p pos : Pos} {e : Expr} {es : List Expr} {t : TA} {id T : String} {r : List V -> Hp -> VK -> Prop}
def tCB (r : List V -> Hp -> VK -> Prop) (t : TA) : TE := fun σ H Q => t σ H fun vs H1 => r vs H1 Q
theorem pe_callB (hc : CallR X (.builtin id) r) (hg : Gl X x) (hm : X.mg x = none) (hv : bootBuiltins x = some (.builtin id)) (ha : PA X (e :: es) t) (hn : x ≠ "__name__" := by decide) (hdb : (x == ("__debug__" : Str)) = false := by decide)
  (he : starEach (e :: es) X.env = (false, eval e X.env) :: starEach es X.env := by rfl) (hpl : (backTo pos (starEach es X.env)).any (·.1) = false := by rfl) : PE X (.Call (.Name x p) (e :: es) [] pos) (tCB r t) := by
 intro pins s σ H Q I h
 refine wpAny_Call_Name_kw (ld_blt I hg hm hv ?_ hn hdb)
 exact PyProof.Rows.callWith_builtin1 (thn (ha pos pins s σ H _ I h) fun us s1 ⟨vs, H1, I1, r1, q1⟩ => hc pins s1 σ H1 vs us Q I1 r1 q1) he hpl
theorem pe_callTy (hc : CallR X (.type T) r) (hg : Gl X x) (hm : X.mg x = none) (hv : bootBuiltins x = some (.type T)) (ha : PA X (e :: es) t) (hn : x ≠ "__name__" := by decide) (hdb : (x == ("__debug__" : Str)) = false := by decide)
  (he : starEach (e :: es) X.env = (false, eval e X.env) :: starEach es X.env := by rfl) (hpl : (backTo pos (starEach es X.env)).any (·.1) = false := by rfl) : PE X (.Call (.Name x p) (e :: es) [] pos) (tCB r t) := by
 intro pins s σ H Q I h
 refine wpAny_Call_Name_kw (ld_blt I hg hm hv ?_ hn hdb)
 exact PyProof.Rows.callWith_type1 (thn (ha pos pins s σ H _ I h) fun us s1 ⟨vs, H1, I1, r1, q1⟩ => hc pins s1 σ H1 vs us Q I1 r1 q1) he hpl
end
end L2
namespace HT
open PySem PyProof.Rows
section
variable {prog : Program} {w : World} {A : Around} {E : Value -> Shared -> Prop} {s : Shared}
theorem cat_tup {t b : Addr} {vs ws : List Value} {Q : Value -> Shared -> Prop} (ht : IsTup s.heap t vs.toArray) (hb : IsTup s.heap b ws.toArray) (hv : vs ≠ [])
  (h1 : ws = [] -> Q (.ref t) s) (h2 : ws ≠ [] -> Q (.ref s.heap.objs.size) { s with heap := s.heap.push { cls := .type "tuple", data := .seq (vs ++ ws).toArray } })
  (hsz : vs.length + ws.length <= sizeLine) : wpAny (model prog w) A (binaryOp .Add (.ref t) (.ref b)) Q E s := by
 obtain ⟨⟨cls, dd, data, sl⟩, ho, hc, n, hd⟩ := id ht
 obtain ⟨⟨cls2, dd2, data2, sl2⟩, ho2, hc2, n2, hd2⟩ := id hb
 simp only at hc hd hc2 hd2
 subst hc hd hc2 hd2
 have e : vs.toArray ++ ws.toArray = (vs ++ ws).toArray := by simp
 by_cases hw : ws = []
 ·exact concat_meets ⟨_, ho, rfl⟩ ⟨_, ho2, rfl⟩ noFill_tuple_add seq_tuple_add PySem.F.slot_tuple_add PySem.F.entry_tuple_add (PySem.F.args_tuple_add_2 _ _)
   (tuple_addW1 t b vs.toArray ws.toArray n n2 dd dd2 sl sl2 (by simpa using hv) (by simp [hw])) ⟨ho, ho2, h1 hw⟩
 ·refine concat_meets ⟨_, ho, rfl⟩ ⟨_, ho2, rfl⟩ noFill_tuple_add seq_tuple_add PySem.F.slot_tuple_add PySem.F.entry_tuple_add (PySem.F.args_tuple_add_2 _ _)
   (tuple_addW2 t b vs.toArray ws.toArray n n2 dd dd2 sl sl2 (by simpa using hv) (by simpa using hw) (by rw [List.size_toArray, List.size_toArray]; exact hsz)) ⟨ho, ho2, ?_⟩
  rw [e]
  exact h2 hw
def sIx (n d : Nat) : Option Int -> Nat
 | none => d
 | some v => if v < 0 then (v + (n : Int)).toNat else min v.toNat n
theorem sIx_none (n d : Nat) : sIx n d none = d := rfl
theorem sIx_nat (n d k : Nat) : sIx n d (some (k : Int)) = min k n := by
 show (if (k : Int) < 0 then ((k : Int) + (n : Int)).toNat else min (k : Int).toNat n) = min k n
 rw [if_neg (by omega), Int.toNat_natCast]
theorem sIx_le (n d : Nat) (hd : d <= n) (o : Option Int) : sIx n d o <= n := by
 cases o with
 | none => exact hd
 | some v =>
  show (if v < 0 then (v + (n : Int)).toNat else min v.toNat n) <= n
  by_cases hv : v < 0
  ·rw [if_pos hv]; omega
  ·rw [if_neg hv]; exact Nat.min_le_right _ _
theorem clip_eq (v : Int) (n d : Nat) : (if v < 0 then max (v + (n : Int)) 0 else min v (n : Int)) = ((sIx n d (some v) : Nat) : Int) := by
 show (if v < 0 then max (v + (n : Int)) 0 else min v (n : Int)) = (((if v < 0 then (v + (n : Int)).toNat else min v.toNat n) : Nat) : Int)
 by_cases hv : v < 0
 ·simp only [if_pos hv]; omega
 ·simp only [if_neg hv]; omega
theorem adjust_gen (lo hi : Option Int) (n : Nat) : Builtin.Slice.sliceAdjust lo hi 1 (n : Int) = (((sIx n 0 lo : Nat) : Int), ((sIx n n hi : Nat) : Int)) := by
 have h1 : ¬ ((1 : Int) < 0) := by omega
 unfold Builtin.Slice.sliceAdjust
 simp only [h1, if_false]
 refine Prod.ext ?_ ?_
 ·cases lo with
  | none => rfl
  | some v => exact clip_eq v n 0
 ·cases hi with
  | none => rfl
  | some v => exact clip_eq v n n
theorem places_gen (i j : Nat) : Builtin.Slice.slicePlaces (i : Int) (j : Int) 1 = j - i := by
 unfold Builtin.Slice.slicePlaces
 have h1 : (1 : Int) > 0 := by omega
 simp only [h1, if_true, Int.ediv_one]
 split <;> omega
theorem slicePart_ {v : Value} {o : Option Int} {Q : Option Int -> Shared -> Prop} (p : IsPart v o) (h : Q o s) : wpAny (model prog w) A (Builtin.Slice.slicePartIndex v) Q E s := by
 cases p with
 | none => exact slicePart_none h
 | int i t => exact slicePart_int h
theorem sliceApplied_gen {sl : Addr} {vl vu : Value} {lo hi : Option Int} {n : Nat} {Q : Int × Int × Nat -> Shared -> Prop} (hs : s.heap.IsSliceOf sl vl vu .none) (pl : IsPart vl lo) (pu : IsPart vu hi)
  (h : Q (((sIx n 0 lo : Nat) : Int), 1, sIx n n hi - sIx n 0 lo) s) : wpAny (model prog w) A (Builtin.Slice.sliceApplied (.ref sl) (pure (n : Int))) Q E s := by
 obtain ⟨os, hos, hcs, hds⟩ := id hs
 unfold Builtin.Slice.sliceApplied Builtin.Slice.sliceFields
 refine wpAny_bind (wpAny_bind (wpAny_field hos hds (x := vl) rfl (wpAny_bind (wpAny_field hos hds (x := vu) rfl (wpAny_bind (wpAny_field hos hds (x := .none) rfl (wpAny_pure ?_)))))))
 refine wpAny_bind (slicePart_none ?_)
 show wpAny _ _ (if ((1 : Int) == 0) = true then _ else _) _ _ s
 rw [if_neg (by decide)]
 refine wpAny_bind (slicePart_ pl (wpAny_bind (slicePart_ pu (wpAny_bind (wpAny_pure ?_)))))
 show wpAny _ _ (match Builtin.Slice.sliceAdjust lo hi 1 (n : Int) with | (lo, hi) => pure (lo, (1 : Int), Builtin.Slice.slicePlaces lo hi 1)) _ _ s
 rw [adjust_gen lo hi n]
 show wpAny _ _ (pure (((sIx n 0 lo : Nat) : Int), (1 : Int), Builtin.Slice.slicePlaces ((sIx n 0 lo : Nat) : Int) ((sIx n n hi : Nat) : Int) 1)) _ _ s
 rw [places_gen]
 exact wpAny_pure h
theorem pick_gen (xs : Array Value) (i k : Nat) : ((List.range k).filterMap fun (m : Nat) => xs[((i : Int) + (m : Int) * 1).toNat]?).toArray = ((xs.toList.drop i).take k).toArray := by
 have e : (fun (m : Nat) => xs[((i : Int) + (m : Int) * 1).toNat]?) = fun m => xs[i + m]? := by
  funext m
  have : ((i : Int) + (m : Int) * 1).toNat = i + m := by omega
  rw [this]
 rw [e]
 have := pick_run xs i k
 rw [List.filterMap_map] at this
 have e2 : ((fun x => xs[x]?) ∘ fun x => i + x) = fun m => xs[i + m]? := rfl
 rw [e2] at this
 rw [this]
theorem getItem_tuple_cut {t sl : Addr} {items : Array Value} {vl vu : Value} {lo hi : Option Int} {Q : Value -> Shared -> Prop} (ht : IsTup s.heap t items) (hs : s.heap.IsSliceOf sl vl vu .none) (pl : IsPart vl lo) (pu : IsPart vu hi)
  (hw : ¬ (sIx items.size 0 lo = 0 /\ sIx items.size items.size hi = items.size))
  (h : Q (.ref s.heap.objs.size) { s with heap := s.heap.push { cls := .type "tuple", data := .seq ((items.toList.drop (sIx items.size 0 lo)).take (sIx items.size items.size hi - sIx items.size 0 lo)).toArray } })
  (hsz : items.size <= sizeLine) : wpAny (model prog w) A (getItem (.ref t) (.ref sl)) Q E s := by
 have htake : sizeOk (.seq ((items.toList.drop (sIx items.size 0 lo)).take (sIx items.size items.size hi - sIx items.size 0 lo)).toArray) := by
  show ((items.toList.drop (sIx items.size 0 lo)).take (sIx items.size items.size hi - sIx items.size 0 lo)).toArray.size <= sizeLine
  rw [List.size_toArray, List.length_take, List.length_drop, Array.length_toList]
  omega
 have hj : sIx items.size items.size hi <= items.size := sIx_le _ _ (Nat.le_refl _) hi
 obtain ⟨os, hos, hcs, hds⟩ := id hs
 have hTs : s.TypeIs (.ref sl) "slice" := ⟨os, hos, hcs⟩
 unfold getItem
 try with_reducible refine wpAny_holding ?_
 first | refine wpAny_bind (wpAny_pure ?_) | skip
 refine wpAny_bind (wpAny_sequenceKey ht.typeIs (by decide) ?_)
 refine wpAny_bind (wpAny_callSpecial?_slot (name := Str.ofString "__getitem__") ht.typeIs PyProof.Rows.slot_tuple_getitem
  (wpAny_call_entry PyProof.Rows.slot_tuple_getitem ht.typeIs entry_tuple_getitem ?_ (args_tuple_getitem _ _)))
 show wpAny _ _ (Builtin.Tuple.tupleItemsOf (.ref t) >>= _) _ _ s
 refine wpAny_bind (tupleItemsOf_ ht ?_)
 refine wpAny_bind (wpAny_typeOf hTs ?_)
 rw [if_pos (by decide)]
 refine wpAny_bind (sliceApplied_gen hs pl pu ?_)
 have hno : ¬ ((((sIx items.size 0 lo : Nat) : Int) == 0 && (1 : Int) == 1 && (sIx items.size items.size hi - sIx items.size 0 lo) == items.size) = true) := by
  intro q
  rw [Bool.and_eq_true, Bool.and_eq_true] at q
  have q1 : ((sIx items.size 0 lo : Nat) : Int) = 0 := eq_of_beq q.1.1
  have q2 : sIx items.size items.size hi - sIx items.size 0 lo = items.size := eq_of_beq q.2
  exact hw ⟨by omega, by omega⟩
 show wpAny _ _ (if (((sIx items.size 0 lo : Nat) : Int) == 0 && (1 : Int) == 1 && (sIx items.size items.size hi - sIx items.size 0 lo) == items.size) = true then _ else _) _ _ s
 rw [if_neg hno, pick_gen]
 first
  | exact wpAny_bind (m := Builtin.Tuple.tupleExact _) (wpAny_newObj_type (wpAny_pure ⟨_, rfl, wpAny_pure h⟩) htake)
  | exact wpAny_bind (m := Builtin.Tuple.tupleExact _) (wpAny_newObj_type (wpAny_bind (wpAny_pure (wpAny_pure ⟨_, rfl, wpAny_pure h⟩))) htake)
  | exact wpAny_bind (wpAny_bind (m := Builtin.Tuple.tupleExact _) (wpAny_newObj_type (wpAny_pure (wpAny_pure ⟨_, rfl, wpAny_pure h⟩)) htake))
  | exact wpAny_bind (wpAny_bind (m := Builtin.Tuple.tupleExact _) (wpAny_newObj_type (wpAny_pure ⟨_, rfl, wpAny_pure h⟩) htake))
end
end HT
namespace L2
open PySem PySem.Spec PyProof.Rows
abbrev TO := St -> Hp -> (Option Int -> Hp -> Prop) -> Prop
def PO (X : Cx) (e : Option Expr) (t : TO) : Prop :=
 ∀ (pins : List (Addr × Obj)) (s : Shared) (σ : St) (H : Hp) (Q : Option Int -> Hp -> Prop), Inv X pins σ H s -> t σ H Q ->
  wpAny (model X.prog X.w) X.A (evalPart e X.env) (fun u s' => ∃ o H', Inv X pins σ H' s' /\ IsPart u o /\ Q o H') X.xe s
def tNoPart : TO := fun _ H Q => Q none H
def tPart (t : TE) : TO := fun σ H Q => t σ H fun x H1 => ∃ i, x = .int i /\ Q (some i) H1
section
variable {X : Cx} {e : Expr} {te : TE} {lo hi : Option Expr} {tl th : TO} {pos p2 : Pos}
theorem po_none : PO X none tNoPart := by
 intro pins s σ H Q I h
 rw [evalPart_none]
 exact wpAny_pure ⟨none, H, I, .none, h⟩
theorem po_some (h : PE X e te) : PO X (some e) (tPart te) := by
 intro pins s σ H Q I hw
 rw [evalPart_some]
 refine thn (h pins s σ H _ I hw) fun u s1 ⟨x, H1, I1, r1, q1⟩ => ?_
 obtain ⟨i, rfl, q⟩ := q1
 obtain ⟨t, rfl⟩ := r1
 exact ⟨some i, H1, I1, .int i t, q⟩
def SlR (X : Cx) (r : V -> Option Int -> Option Int -> Hp -> VK -> Prop) : Prop :=
 ∀ (pins : List (Addr × Obj)) (s : Shared) (σ : St) (H : Hp) (x : V) (v vl vu : Value) (lo hi : Option Int) (sl : Addr) (Q : VK), Inv X pins σ H s -> RelV x v -> s.heap.IsSliceOf sl vl vu .none -> IsPart vl lo -> IsPart vu hi -> r x lo hi H Q ->
  ∃ T id, typeLookup (.type T) "__getitem__" = pure (some (.builtin id)) /\ s.TypeIs v T /\ wpAny (model X.prog X.w) X.A (getItem v (.ref sl)) (EP X pins σ Q) X.xe s
def tSl (r : V -> Option Int -> Option Int -> Hp -> VK -> Prop) (te : TE) (tl th : TO) : TE := fun σ H Q => te σ H fun x H1 => tl σ H1 fun l H2 => th σ H2 fun u H3 => r x l u H3 Q
theorem pe_slice {r : V -> Option Int -> Option Int -> Hp -> VK -> Prop} (hr : SlR X r) (he : PE X e te) (hl : PO X lo tl) (hu : PO X hi th) : PE X (.Subscript e (.Slice lo hi none p2) pos) (tSl r te tl th) := by
 intro pins s σ H Q I h
 refine Subscript_ (thn (he pins s σ H _ I h) fun v s1 ⟨x, H1, I1, r1, q1⟩ => ?_)
 refine wpAny_Slice (thn (hl pins s1 σ H1 _ I1 q1) fun vl s2 ⟨l, H2, I2, pl, q2⟩ => thn (hu pins s2 σ H2 _ I2 q2) fun vu s3 ⟨u, H3, I3, pu, q3⟩ => ?_)
 rw [evalPart_none]
 refine wpAny_pure ?_
 have I4 : Inv X pins σ H3 { s3 with heap := s3.heap.push { cls := .type "slice", data := .fields #[vl, vu, .none] } } := I3.kept (t' := s3.toks) fun b ob q => Heap.get?_push_of_some _ q
 obtain ⟨T, id, hT, ht, hg⟩ := hr pins { s3 with heap := s3.heap.push { cls := .type "slice", data := .fields #[vl, vu, .none] } } σ H3 x v vl vu l u s3.heap.objs.size Q I4 r1 (Heap.IsSliceOf.new ..) pl pu q3
 show wpAny (model X.prog X.w) X.A (subscriptTail e (.Slice lo hi none p2) v (.ref s3.heap.objs.size)) (EP X pins σ Q) X.xe { s3 with heap := s3.heap.push { cls := .type "slice", data := .fields #[vl, vu, .none] } }
 exact tail_any (ops := [.ref s3.heap.objs.size, v]) ht hT hg (by with_unfolding_all rfl)
def cutV (xs : List V) (lo hi : Option Int) : List V := (xs.drop (HT.sIx xs.length 0 lo)).take (HT.sIx xs.length xs.length hi - HT.sIx xs.length 0 lo)
theorem cutV_length (xs : List V) (lo hi : Option Int) : (cutV xs lo hi).length <= xs.length := by
 unfold cutV
 rw [List.length_take, List.length_drop]
 omega
def rSlT (K : PySem.W.Frag) : V -> Option Int -> Option Int -> Hp -> VK -> Prop := fun x lo hi H Q => ∃ a xs, x = .ref a /\ SqT K H a xs ∧
 ¬ (HT.sIx xs.length 0 lo = 0 /\ HT.sIx xs.length xs.length hi = xs.length) /\ ∀ p, H p = none -> Q (.ref p) (upd H p (.tup (cutV xs lo hi)))
theorem sl_tup : SlR X (rSlT X.K) := by
 intro pins s σ H x v vl vu lo hi sl Q I rx hs pl pu h
 obtain ⟨a, xs, rfl, hx, hw, q⟩ := h
 cases rx
 obtain ⟨its, r, ht, hz⟩ := I.tuple hx
 have hlen : its.toArray.size = xs.length := by rw [List.size_toArray]; exact r.length.symm
 refine ⟨"tuple", _, PyProof.Rows.slot_tuple_getitem.lookup, ht.typeIs, ?_⟩
 refine HT.getItem_tuple_cut ht hs pl pu (by rw [hlen]; exact hw) ?_ (by rw [hlen]; exact hz)
 rw [hlen]
 refine ⟨.ref s.heap.objs.size, _, I.laid (t' := s.toks) (o := .tup (cutV xs lo hi)) (fun b ob q => Heap.get?_push_of_some _ q) (Nat.le_refl _) ?_, rfl, q _ (I.hok.fresh (Nat.le_refl _))⟩
 exact ⟨Nat.le_trans (cutV_length xs lo hi) hz, _, (r.drop (HT.sIx xs.length 0 lo)).take (HT.sIx xs.length xs.length hi - HT.sIx xs.length 0 lo), IsTup.new _ _⟩
def rCatT (K : PySem.W.Frag) : R2 := fun x y H Q => ∃ a b xs ys, x = .ref a /\ y = .ref b /\ SqT K H a xs /\ SqT K H b ys /\ xs ≠ [] /\ xs.length + ys.length <= sizeLine ∧
 (ys = [] -> Q (.ref a) H) /\ (ys ≠ [] -> ∀ p, H p = none -> Q (.ref p) (upd H p (.tup (xs ++ ys))))
theorem Vals.nil_iff {xs : List V} {us : List Value} (r : Vals xs us) : us = [] ↔ xs = [] := by
 cases r with
 | nil => simp
 | cons _ _ => simp
theorem op_catT : OpR X (binaryOp .Add) (rCatT X.K) := by
 intro pins s σ H x y v u Q I rx ry h
 obtain ⟨a, b, xs, ys, rfl, rfl, ha, hb, hx, hz, q1, q2⟩ := h
 cases rx
 cases ry
 obtain ⟨its, r1, p1, _⟩ := I.tuple ha
 obtain ⟨its2, r2, p2, _⟩ := I.tuple hb
 refine HT.cat_tup p1 p2 (fun z => hx (r1.nil_iff.mp z)) (fun z => ⟨.ref a, H, I, rfl, q1 (r2.nil_iff.mp z)⟩) (fun z => ?_) (by rw [<- r1.length, <- r2.length]; exact hz)
 refine ⟨.ref s.heap.objs.size, _, I.laid (t' := s.toks) (o := .tup (xs ++ ys)) (fun b ob q => Heap.get?_push_of_some _ q) (Nat.le_refl _) ?_, rfl, q2 (fun w => z (r2.nil_iff.mpr w)) _ (I.hok.fresh (Nat.le_refl _))⟩
 exact ⟨by rw [List.length_append]; exact hz, _, r1.append r2, IsTup.new _ _⟩
end
end L2
namespace L2
open PySem PySem.Spec PyProof.Rows
def ixN (n : Nat) (i : Int) : Option Nat := if 0 <= i then (if i < n then some i.toNat else none) else if -(n : Int) <= i then some (i + n).toNat else none
def atI {α : Type} (xs : List α) (i : Int) : Option α := (ixN xs.length i).bind fun j => xs[j]?
theorem ixN_seq {n : Nat} {i : Int} {j : Nat} (h : ixN n i = some j) : seqIndex? i n = some j /\ j < n /\ -(n : Int) <= i /\ i < n := by
 unfold ixN at h
 by_cases h0 : 0 <= i
 ·rw [if_pos h0] at h
  by_cases h1 : i < n
  ·rw [if_pos h1] at h
   have e : i.toNat = j := Option.some.inj h
   exact ⟨by rw [seqIndex_of h0 h1, e], by omega, by omega, h1⟩
  ·rw [if_neg h1] at h; cases h
 ·rw [if_neg h0] at h
  by_cases h1 : -(n : Int) <= i
  ·rw [if_pos h1] at h
   have e : (i + n).toNat = j := Option.some.inj h
   exact ⟨by rw [seqIndex_neg (by omega) h1, e], by omega, h1, by omega⟩
  ·rw [if_neg h1] at h; cases h
theorem atI_get {α : Type} {xs : List α} {i : Int} {v : α} (h : atI xs i = some v) : ∃ j, seqIndex? i xs.length = some j /\ xs[j]? = some v /\ j < xs.length /\ -(xs.length : Int) <= i /\ i < xs.length := by
 unfold atI at h
 cases e : ixN xs.length i with
 | none => rw [e] at h; cases h
 | some j =>
  rw [e] at h
  obtain ⟨h1, h2, h3, h4⟩ := ixN_seq e
  exact ⟨j, h1, h, h2, h3, h4⟩
theorem atI_nat {α : Type} {xs : List α} {j : Nat} {v : α} (h : xs[j]? = some v) : atI xs (j : Int) = some v := by
 have hj : j < xs.length := (List.getElem?_eq_some_iff.mp h).1
 have e : ixN xs.length (j : Int) = some j := by
  unfold ixN
  rw [if_pos (by omega), if_pos (by omega)]; simp
 unfold atI; rw [e]; exact h
theorem atI_last {α : Type} (xs : List α) (v : α) : atI (xs ++ [v]) (-1) = some v := by
 have hl : (xs ++ [v]).length = xs.length + 1 := by simp
 have e : ixN (xs ++ [v]).length (-1) = some xs.length := by
  unfold ixN
  rw [hl, if_neg (by decide), if_pos (by omega)]
  congr 1
  omega
 unfold atI
 rw [e]
 show (xs ++ [v])[xs.length]? = some v
 simp
def PlainIx (b : Expr) : Prop := ∀ o i, subscripted b false o i = operate [o, i] (getItem o i)
def IxR (X : Cx) (r : R2) : Prop :=
 ∀ (value slice : Expr) (pins : List (Addr × Obj)) (s : Shared) (σ : St) (H : Hp) (x y : V) (v u : Value) (Q : VK), Inv X pins σ H s -> RelV x v -> RelV y u -> r x y H Q ->
  subscripted slice false v u = operate [v, u] (getItem v u) -> wpAny (model X.prog X.w) X.A (subscriptTail value slice v u) (EP X pins σ Q) X.xe s
def MtR (X : Cx) (id : String) (r : V -> List V -> Hp -> VK -> Prop) : Prop :=
 ∀ (pins : List (Addr × Obj)) (s : Shared) (σ : St) (H : Hp) (x : V) (xs : List V) (v : Value) (us : List Value) (Q : VK), Inv X pins σ H s -> RelV x v -> Vals xs us -> r x xs H Q ->
  wpAny (model X.prog X.w) X.A (call (.builtin id) (v :: us)) (EP X pins σ Q) X.xe s
section
variable {X : Cx} {a b : Expr} {ta tb : TE} {pos : Pos}
theorem pe_ix {r : R2} (hr : IxR X r) (ha : PE X a ta) (hb : PE X b tb) (hs : PlainIx b) : PE X (.Subscript a b pos) (tOp r ta tb) := by
 intro pins s σ H Q I h
 exact Subscript_ (binT ha hb I h fun v u s2 x y H2 I2 rx ry q => hr a b pins s2 σ H2 x y v u Q I2 rx ry q (hs _ _))
def rIxL (K : PySem.W.Frag) : R2 := fun x y H Q => ∃ p xs i v, x = .ref p /\ y = .int i /\ SqL K H p xs /\ atI xs i = some v /\ Q v H
def rIxT (K : PySem.W.Frag) : R2 := fun x y H Q => ∃ p xs i v, x = .ref p /\ y = .int i /\ SqT K H p xs /\ atI xs i = some v /\ Q v H
def rIxS : R2 := fun x y H Q => ∃ z i c, x = .str z /\ y = .int i /\ z.length <= sizeLine /\ atI z.cps.toList i = some c /\ Q (.str ⟨#[c]⟩) H
theorem ix_list : IxR X (rIxL X.K) := by
 intro value slice pins s σ H x y v u Q I rx ry h hs
 obtain ⟨p, xs, i, z, rfl, rfl, hq, he, q⟩ := h
 cases rx
 obtain ⟨t, rfl⟩ := ry
 obtain ⟨its, r, pl, hz⟩ := I.list hq
 obtain ⟨j, h1, h2, h3, h4, h5⟩ := atI_get he
 obtain ⟨w, ew, rw'⟩ := r.get h2
 have hl := r.length
 have hn := line63
 have fin : EP X pins σ Q w s := ⟨z, H, I, rw', q⟩
 by_cases h0 : 0 <= i
 ·have hj : i.toNat = j := by
   rw [seqIndex_of h0 h5] at h1
   exact Option.some.inj h1
  exact item_listR pl.isList h0 (by omega) (by rw [hj]; simpa using ew) fin hs
 ·have hj : (i + (its.toArray.size : Int)).toNat = j := by
   rw [seqIndex_neg (by omega) h4] at h1
   rw [List.size_toArray, <- hl]
   exact Option.some.inj h1
  exact subscriptTail_builtinR (x := w) pl.isList.typeIs slot_list_getitem.lookup
   (wpAny_getItem_list_neg (Q := fun r s' => r = w /\ EP X pins σ Q r s') pl.isList (by omega) (by rw [List.size_toArray] <;> omega) (by omega) (by rw [hj]; simpa using ew) ⟨rfl, fin⟩) hs
theorem ix_tup : IxR X (rIxT X.K) := by
 intro value slice pins s σ H x y v u Q I rx ry h hs
 obtain ⟨p, xs, i, z, rfl, rfl, hq, he, q⟩ := h
 cases rx
 obtain ⟨t, rfl⟩ := ry
 obtain ⟨its, r, pl, hz⟩ := I.tuple hq
 obtain ⟨j, h1, h2, h3, h4, h5⟩ := atI_get he
 obtain ⟨w, ew, rw'⟩ := r.get h2
 have hl := r.length
 have hn := line63
 have fin : EP X pins σ Q w s := ⟨z, H, I, rw', q⟩
 exact subscriptTail_builtinR (x := w) pl.typeIs slot_tuple_getitem.lookup
  (getItem_tuple (j := j) (Q := fun r s' => r = w /\ EP X pins σ Q r s') pl (by omega) (by omega) (by rw [List.size_toArray, <- hl]; exact h1) (by simpa using ew) ⟨rfl, fin⟩) hs
theorem ix_str : IxR X rIxS := by
 intro value slice pins s σ H x y v u Q I rx ry h hs
 obtain ⟨z, i, c, rfl, rfl, hz, he, q⟩ := h
 obtain ⟨t, rfl⟩ := rx
 obtain ⟨t', rfl⟩ := ry
 obtain ⟨j, h1, h2, h3, h4, h5⟩ := atI_get he
 have hl : z.cps.toList.length = z.length := by simp [Str.length]
 rw [hl] at h1 h4 h5
 have hn := line63
 exact tail_any (typeIs_str s z t) slot_str_getitem.lookup (getItem_str (c := c) (by
  have e1 : decide (i < -(2 ^ 63 : Int)) = false := decide_eq_false (by omega)
  have e2 : decide (i ≥ 2 ^ 63) = false := decide_eq_false (by omega)
  rw [e1, e2, Bool.or_false]) (by rw [h1]; simpa using h2) ⟨.str ⟨#[c]⟩, H, I.tok _, ⟨_, rfl⟩, q⟩) hs
theorem mapSeq_set (its : List Value) (n j : Nat) (u : Value) : Obj.mapSeq (·.setIfInBounds j u) { cls := .type "list", data := .seq its.toArray n } = { cls := .type "list", data := .seq (its.set j u).toArray n } := by
 simp [Obj.mapSeq]
theorem Inv.lst {pins : List (Addr × Obj)} {σ : St} {H : Hp} {s : Shared} {p : Addr} {xs : List V} (I : Inv X pins σ H s) (h : H p = some (.lst xs)) :
  ∃ (its : List Value) (n : Nat), Vals xs its /\ s.heap.get? p = some { cls := .type "list", data := .seq its.toArray n } /\ xs.length <= sizeLine := by
 obtain ⟨z, its, n, r, e⟩ := I.hok p _ h
 exact ⟨its, n, r, e, z⟩
theorem Inv.lstUpd {pins : List (Addr × Obj)} {σ : St} {H : Hp} {s : Shared} {p : Addr} {xs ys : List V} {its its' : List Value} {n n' : Nat} {f : Obj -> Obj} (I : Inv X pins σ H s) (h : H p = some (.lst xs))
  (ho : s.heap.get? p = some { cls := .type "list", data := .seq its.toArray n }) (hf : f { cls := .type "list", data := .seq its.toArray n } = { cls := .type "list", data := .seq its'.toArray n' }) (r : Vals ys its') (hz : ys.length <= sizeLine) (t : Nat) :
  Inv X pins σ (upd H p (.lst ys)) { s with heap := s.heap.update p f, toks := t } := by
 have e : (s.heap.update p f).get? p = some { cls := .type "list", data := .seq its'.toArray n' } := by
  rw [Heap.get?_update_self f ho (by rw [hf] <;> rfl), hf]
 refine I.write (x := p) (e := p) (by rw [h]; trivial) (.inl rfl) (fun b u hb q => (Heap.get?_update_other _ _ (Ne.symm hb)).trans q) ⟨_, e⟩ ?_
 exact ⟨hz, its', n', r, e⟩
def rSetL : V -> V -> V -> Hp -> (Hp -> Prop) -> Prop := fun o i v H Q => ∃ p xs k j, o = .ref p /\ i = .int k /\ H p = some (.lst xs) /\ ixN xs.length k = some j /\ Q (upd H p (.lst (xs.set j v)))
theorem set_list : PSet X rSetL := by
 intro pins s σ H o i v ov iv u Q I ro ri rv h
 obtain ⟨p, xs, k, j, rfl, rfl, hp, hj, q⟩ := h
 cases ro
 obtain ⟨t, rfl⟩ := ri
 obtain ⟨its, n, r, ho, hz⟩ := I.lst hp
 obtain ⟨h1, h2, h3, h4⟩ := ixN_seq hj
 have hl := r.length
 have hn := line63
 have I' : Inv X pins σ (upd H p (.lst (xs.set j v))) { s with heap := s.heap.update p (Obj.mapSeq (·.setIfInBounds j u)) } :=
  I.lstUpd hp ho (mapSeq_set its n j u) (r.set rv j) (by rw [List.length_set]; exact hz) s.toks
 by_cases h0 : 0 <= k
 ·have hk : k.toNat = j := by
   rw [seqIndex_of h0 h4] at h1
   exact Option.some.inj h1
  exact PySem.W.ki_setAt ho h0 (by omega) (by rw [List.size_toArray, <- hl]; exact h4) (by rw [hk]; exact ⟨_, I', q⟩)
 ·have hk : (k + (its.toArray.size : Int)).toNat = j := by
   rw [seqIndex_neg (by omega) h3] at h1
   rw [List.size_toArray, <- hl]
   exact Option.some.inj h1
  exact PySem.W.ki_setBack ho (by omega) (by rw [List.size_toArray, <- hl]; exact h3) (by omega) (by rw [hk]; exact ⟨_, I', q⟩)
theorem slice_bounds (lo hi : Option Int) (n : Nat) : (sliceBounds lo hi none n).1 = ((HT.sIx n 0 lo : Nat) : Int) /\ (sliceBounds lo hi none n).2.1 = ((HT.sIx n n hi : Nat) : Int) /\ (sliceBounds lo hi none n).2.2 = 1 := by
 refine ⟨?_, ?_, rfl⟩
 ·cases lo with
  | none => simp [sliceBounds, HT.sIx]
  | some i =>
   simp only [sliceBounds, HT.sIx, Option.getD_none, show (1 : Int) > 0 by decide, if_true]
   by_cases h : i < 0
   ·simp only [h, if_true] <;> omega
   ·simp only [h, if_false] <;> omega
 ·cases hi with
  | none => simp [sliceBounds, HT.sIx]
  | some i =>
   simp only [sliceBounds, HT.sIx, Option.getD_none, show (1 : Int) > 0 by decide, if_true]
   by_cases h : i < 0
   ·simp only [h, if_true] <;> omega
   ·simp only [h, if_false] <;> omega
theorem slicePick_cut (its : List Value) (lo hi : Option Int) : slicePick its.toArray lo hi none = ((its.drop (HT.sIx its.length 0 lo)).take (HT.sIx its.length its.length hi - HT.sIx its.length 0 lo)).toArray := by
 obtain ⟨h1, h2, h3⟩ := slice_bounds lo hi its.toArray.size
 unfold slicePick
 rw [h1, h2, h3]
 simp only [sliceRange_one, pick_run, List.size_toArray] <;> rfl
def rSlL (K : PySem.W.Frag) : V -> Option Int -> Option Int -> Hp -> VK -> Prop := fun x lo hi H Q => ∃ a xs, x = .ref a /\ SqL K H a xs /\ ∀ p, H p = none -> Q (.ref p) (upd H p (.lst (cutV xs lo hi)))
theorem sl_list : SlR X (rSlL X.K) := by
 intro pins s σ H x v vl vu lo hi sl Q I rx hs pl pu h
 obtain ⟨a, xs, rfl, hx, q⟩ := h
 cases rx
 obtain ⟨its, r, ht, hz⟩ := I.list hx
 have hlen := r.length
 refine ⟨"list", _, slot_list_getitem.lookup, ht.isList.typeIs, ?_⟩
 refine wpAny_getItem_list_slice ht.isList hs pl pu .none (by simp) ?_ (by rw [List.size_toArray] <;> omega)
 rw [slicePick_cut, <- hlen]
 refine ⟨.ref s.heap.objs.size, _, I.laid (t' := s.toks) (o := .lst (cutV xs lo hi)) (fun b ob q => Heap.get?_push_of_some _ q) (Nat.le_refl _) ?_, rfl, q _ (I.hok.fresh (Nat.le_refl _))⟩
 exact ⟨Nat.le_trans (cutV_length xs lo hi) hz, _, 0, (r.drop (HT.sIx xs.length 0 lo)).take (HT.sIx xs.length xs.length hi - HT.sIx xs.length 0 lo), Heap.get?_push_size _ rfl⟩
def flatV : V -> Bool
 | .non => true
 | .bl _ => true
 | .int _ => true
 | .str _ => true
 | _ => false
def eqV : V -> V -> Bool
 | .non, .non => true
 | .bl a, .bl b => a == b
 | .bl a, .int b => (if a then 1 else 0) == b
 | .int a, .bl b => a == (if b then 1 else 0)
 | .int a, .int b => a == b
 | .str a, .str b => a == b
 | _, _ => false
theorem eqAt_V {A : Around} {s : Shared} {y x : V} {u v : Value} (ry : RelV y u) (rx : RelV x v) (fy : flatV y = true) (fx : flatV x = true) : SeqAt.EqAt A s u v (eqV y x) := by
 cases y with
 | non =>
  cases ry
  cases x with
  | non => cases rx; exact SeqAt.EqAt.same _
  | bl b => cases rx; exact SeqAt.EqAt.none_bool b
  | int b => obtain ⟨t, rfl⟩ := rx; exact SeqAt.EqAt.none_int b t
  | str b => obtain ⟨t, rfl⟩ := rx; exact SeqAt.EqAt.none_str b t
  | _ => exact absurd (show false = true from fx) Bool.false_ne_true
 | bl a =>
  cases ry
  cases x with
  | non => cases rx; exact SeqAt.EqAt.bool_none a
  | bl b => cases rx; exact SeqAt.EqAt.bool_bool a b
  | int b => obtain ⟨t, rfl⟩ := rx; exact SeqAt.EqAt.bool_int a b t
  | str b => obtain ⟨t, rfl⟩ := rx; exact SeqAt.EqAt.bool_str a b t
  | _ => exact absurd (show false = true from fx) Bool.false_ne_true
 | int a =>
  obtain ⟨t', rfl⟩ := ry
  cases x with
  | non => cases rx; exact SeqAt.EqAt.int_none a t'
  | bl b => cases rx; exact SeqAt.EqAt.int_bool a t' b
  | int b => obtain ⟨t, rfl⟩ := rx; exact SeqAt.EqAt.int_int a t' b t
  | str b => obtain ⟨t, rfl⟩ := rx; exact SeqAt.EqAt.int_str a t' b t
  | _ => exact absurd (show false = true from fx) Bool.false_ne_true
 | str a =>
  obtain ⟨t', rfl⟩ := ry
  cases x with
  | non => cases rx; exact SeqAt.EqAt.str_none a t'
  | bl b => cases rx; exact SeqAt.EqAt.str_bool a t' b
  | int b => obtain ⟨t, rfl⟩ := rx; exact SeqAt.EqAt.str_int a t' b t
  | str b => obtain ⟨t, rfl⟩ := rx; exact SeqAt.EqAt.str_str a t' b t
  | _ => exact absurd (show false = true from fx) Bool.false_ne_true
 | _ => exact absurd (show false = true from fy) Bool.false_ne_true
def eqU (x : V) (u : Value) : Bool := match u with
 | .none => eqV .non x
 | .bool b => eqV (.bl b) x
 | .int i _ => eqV (.int i) x
 | .str z _ => eqV (.str z) x
 | _ => false
theorem eqU_of {x y : V} {u : Value} (r : RelV y u) (f : flatV y = true) : eqU x u = eqV y x := by
 cases y with
 | non => cases r; rfl
 | bl b => cases r; rfl
 | int i => obtain ⟨t, rfl⟩ := r; rfl
 | str z => obtain ⟨t, rfl⟩ := r; rfl
 | _ => exact absurd (show false = true from f) Bool.false_ne_true
theorem any_eqU {x : V} : ∀ {xs : List V} {us : List Value}, Vals xs us -> xs.all flatV = true -> us.any (eqU x) = xs.any fun y => eqV y x
 | _, _, .nil, _ => rfl
 | y :: xs, u :: us, .cons r t, f => by
  rw [List.all_cons, Bool.and_eq_true] at f
  rw [List.any_cons, List.any_cons, eqU_of r f.1, any_eqU t f.2]
theorem mem_eqAt {A : Around} {s : Shared} {x : V} {v : Value} (rx : RelV x v) (fx : flatV x = true) : ∀ {xs : List V} {us : List Value}, Vals xs us -> xs.all flatV = true -> ∀ u ∈ us, SeqAt.EqAt A s u v (eqU x u)
 | _, _, .nil, _ => fun u hu => by cases hu
 | y :: xs, u :: us, .cons r t, f => fun u' hu => by
  rw [List.all_cons, Bool.and_eq_true] at f
  rcases List.mem_cons.mp hu with rfl | hu
  ·rw [eqU_of r f.1]; exact eqAt_V r rx f.1 fx
  ·exact mem_eqAt rx fx t f.2 u' hu
def inV (x : V) (xs : List V) : Bool := xs.any fun y => eqV y x
def rIn (K : PySem.W.Frag) (neg : Bool) : R2 := fun x y H Q => ∃ p xs, y = .ref p /\ (SqL K H p xs \/ SqT K H p xs) /\ flatV x = true /\ xs.all flatV = true /\ Q (.bl (if neg then !inV x xs else inV x xs)) H
theorem op_in_seq : OpR X (compareOp .In) (rIn X.K false) := by
 intro pins s σ H x y v u Q I rx ry h
 obtain ⟨p, xs, rfl, hq, fx, fs, q⟩ := h
 cases ry
 rcases hq with hq | hq
 ·obtain ⟨its, r, pl, hz⟩ := I.list hq
  refine SeqAt.in_listAt (eqU x) pl.isList (fun w hw => mem_eqAt rx fx r fs w (by simpa using hw)) ⟨.bl _, H, I, rfl, ?_⟩
  rw [show its.toArray.any (eqU x) = its.any (eqU x) by simp, any_eqU r fs]
  exact q
 ·obtain ⟨its, r, pl, hz⟩ := I.tuple hq
  refine SeqAt.in_tupleAt (eqU x) pl (fun w hw => mem_eqAt rx fx r fs w (by simpa using hw)) ⟨.bl _, H, I, rfl, ?_⟩
  rw [show its.toArray.any (eqU x) = its.any (eqU x) by simp, any_eqU r fs]
  exact q
theorem op_notIn_seq : OpR X (compareOp .NotIn) (rIn X.K true) := by
 intro pins s σ H x y v u Q I rx ry h
 obtain ⟨p, xs, rfl, hq, fx, fs, q⟩ := h
 cases ry
 rcases hq with hq | hq
 ·obtain ⟨its, r, pl, hz⟩ := I.list hq
  refine SeqAt.notIn_listAt (eqU x) pl.isList (fun w hw => mem_eqAt rx fx r fs w (by simpa using hw)) ⟨.bl _, H, I, rfl, ?_⟩
  rw [show its.toArray.any (eqU x) = its.any (eqU x) by simp, any_eqU r fs]
  exact q
 ·obtain ⟨its, r, pl, hz⟩ := I.tuple hq
  refine SeqAt.notIn_tupleAt (eqU x) pl (fun w hw => mem_eqAt rx fx r fs w (by simpa using hw)) ⟨.bl _, H, I, rfl, ?_⟩
  rw [show its.toArray.any (eqU x) = its.any (eqU x) by simp, any_eqU r fs]
  exact q
theorem call_len_seq : CallR X (.builtin "len") (fun xs H Q => ∃ p ys, xs = [.ref p] /\ (SqL X.K H p ys \/ SqT X.K H p ys) /\ Q (.int ys.length) H) := by
 intro pins s σ H xs us Q I r h
 obtain ⟨p, ys, rfl, hq, q⟩ := h
 obtain ⟨u, rfl, rx⟩ := vals1 r
 cases rx
 have hn := line63
 rcases hq with hq | hq
 ·obtain ⟨its, r', pl, hz⟩ := I.list hq
  have hlen := r'.length
  exact Calls.call_len_list pl.isList (by simp only [List.size_toArray] <;> omega) ⟨.int ys.length, H, I.tok _, ⟨s.toks + 1, by rw [List.size_toArray, hlen]⟩, q⟩
 ·obtain ⟨its, r', pl, hz⟩ := I.tuple hq
  have hlen := r'.length
  exact len_tuple pl (by simp only [List.size_toArray] <;> omega) ⟨.int ys.length, H, I.tok _, ⟨s.toks + 1, by rw [List.size_toArray, hlen]⟩, q⟩
theorem call_len_str : CallR X (.builtin "len") (fun xs H Q => ∃ z, xs = [.str z] /\ z.length <= sizeLine /\ Q (.int z.length) H) := by
 intro pins s σ H xs us Q I r h
 obtain ⟨z, rfl, hz, q⟩ := h
 obtain ⟨u, rfl, t, rfl⟩ := vals1 r
 have hn := line63
 exact len_str (by omega) ⟨.int z.length, H, I.tok _, ⟨_, rfl⟩, q⟩
theorem CallR.or {f : Value} {r r' : List V -> Hp -> VK -> Prop} (h : CallR X f r) (h' : CallR X f r') : CallR X f (fun xs H Q => r xs H Q \/ r' xs H Q) := by
 intro pins s σ H xs us Q I rs q
 rcases q with q | q
 ·exact h pins s σ H xs us Q I rs q
 ·exact h' pins s σ H xs us Q I rs q
theorem call_list_of : CallR X (.type "list") (fun xs H Q => ∃ p ys, xs = [.ref p] /\ (SqL X.K H p ys \/ SqT X.K H p ys) /\ ∀ l, H l = none -> Q (.ref l) (upd H l (.lst ys))) := by
 intro pins s σ H xs us Q I r h
 obtain ⟨p, ys, rfl, hq, q⟩ := h
 obtain ⟨u, rfl, rx⟩ := vals1 r
 cases rx
 have fin : ∀ (its : List Value), Vals ys its -> ys.length <= sizeLine -> ∀ (h' : Heap) (c' : Nat), (∀ b o', s.heap.get? b = some o' -> h'.get? b = some o') ->
   h'.get? s.heap.objs.size = some { cls := .type "list", dict := none, data := .seq its.toArray c', slots := #[] } -> EP X pins σ Q (.ref s.heap.objs.size) { s with heap := h' } := fun its r' hz h' c' kp e =>
  ⟨.ref s.heap.objs.size, _, I.laid (t' := s.toks) kp (Nat.le_refl _) (show ObjOk X.prog X.w _ h' _ (.lst ys) from ⟨hz, its, c', r', e⟩), rfl, q _ (I.hok.fresh (Nat.le_refl _))⟩
 rcases hq with hq | hq
 ·obtain ⟨its, r', pl, hz⟩ := I.list hq
  have hlen := r'.length
  obtain ⟨o, ho, hc, n, hd⟩ := pl.isList
  exact call_list_seq p (.inl rfl) ho hc hd (fun h' c' kp e => fin its r' hz h' c' kp e) (by simp only [List.size_toArray] <;> omega)
 ·obtain ⟨its, r', pl, hz⟩ := I.tuple hq
  have hlen := r'.length
  obtain ⟨o, ho, hc, n, hd⟩ := pl
  exact call_list_seq p (.inr rfl) ho hc hd (fun h' c' kp e => fin its r' hz h' c' kp e) (by simp only [List.size_toArray] <;> omega)
theorem call_tuple_of : CallR X (.type "tuple") (fun xs H Q => ∃ p ys, xs = [.ref p] /\ ((SqL X.K H p ys /\ ∀ l, H l = none -> Q (.ref l) (upd H l (.tup ys))) \/ (SqT X.K H p ys /\ Q (.ref p) H))) := by
 intro pins s σ H xs us Q I r h
 obtain ⟨p, ys, rfl, h⟩ := h
 obtain ⟨u, rfl, rx⟩ := vals1 r
 cases rx
 rcases h with ⟨hq, q⟩ | ⟨hq, q⟩
 ·obtain ⟨its, r', pl, hz⟩ := I.list hq
  have hlen := r'.length
  refine call_tuple_list pl.isList (fun h' kp => ?_) (by simp only [List.size_toArray] <;> omega)
  have I1 : Inv X pins σ H { s with heap := h' } := I.kept (t' := s.toks) kp
  have I2 : Inv X pins σ (upd H h'.objs.size (.tup ys)) { s with heap := h'.push { cls := .type "tuple", data := .seq its.toArray } } :=
   I1.laid (t' := s.toks) (fun b o e => Heap.get?_push_of_some _ e) (Nat.le_refl _) (show ObjOk X.prog X.w _ _ _ (.tup ys) from ⟨hz, its, r', IsTup.new _ _⟩)
  exact ⟨.ref h'.objs.size, _, I2, rfl, q _ (I1.hok.fresh (Nat.le_refl _))⟩
 ·obtain ⟨its, r', pl, hz⟩ := I.tuple hq
  exact call_tuple_same pl ⟨.ref p, H, I, rfl, q⟩
def tyV (K : PySem.W.Frag) (T : String) (x : V) (H : Hp) : Prop := match x with
 | .str _ => T = "str"
 | .int _ => T = "int"
 | .ref p => (T = "list" /\ ∃ xs, SqL K H p xs) \/ (T = "tuple" /\ ∃ o, K.lookup p = some o /\ o.cls = .type "tuple" /\ o.dict = none) ∨
   (T = "dict" /\ ((∃ kvs, H p = some (.dK kvs)) \/ ∃ kvs, H p = some (.dT kvs))) \/ (T = "set" /\ ∃ S n, H p = some (.set S n))
 | _ => False
theorem tyV_is {pins : List (Addr × Obj)} {σ : St} {H : Hp} {s : Shared} {T : String} {x : V} {v : Value} (I : Inv X pins σ H s) (r : RelV x v) (ty : tyV X.K T x H) :
  s.TypeIs v T /\ ∀ a, v = .ref a -> ∃ ob, s.heap.get? a = some ob /\ ob.dict = none := by
 cases x with
 | str z =>
  obtain ⟨t, rfl⟩ := r
  cases (show T = "str" from ty)
  exact ⟨typeIs_str s z t, fun _ e => nomatch e⟩
 | int i =>
  obtain ⟨t, rfl⟩ := r
  cases (show T = "int" from ty)
  exact ⟨typeIs_int s i t, fun _ e => nomatch e⟩
 | ref p =>
  cases r
  rcases ty with ⟨rfl, xs, hq⟩ | ⟨rfl, o, hk, hc, hd⟩ | ⟨rfl, hk⟩ | ⟨rfl, S, n, hk⟩
  ·obtain ⟨its, _, pl, _⟩ := I.list hq
   refine ⟨pl.isList.typeIs, fun a e => ?_⟩
   cases e
   obtain ⟨o, n, e, c, hd, _⟩ := pl
   exact ⟨o, e, hd⟩
  ·refine ⟨⟨o, I.kIn p o hk, hc⟩, fun a e => ?_⟩
   cases e
   exact ⟨o, I.kIn _ o hk, hd⟩
  ·have z : ∃ o, s.heap.get? p = some o /\ o.ExactDict := by
    rcases hk with ⟨kvs, hk⟩ | ⟨kvs, hk⟩
    ·obtain ⟨_, _, _, _, o, _, _, e, ex, _⟩ := I.hok p _ hk
     exact ⟨o, e, ex⟩
    ·obtain ⟨_, _, _, _, o, _, _, e, ex, _⟩ := I.hok p _ hk
     exact ⟨o, e, ex⟩
   obtain ⟨o, e, ex⟩ := z
   refine ⟨⟨o, e, ex.1⟩, fun a e2 => ?_⟩
   cases e2
   exact ⟨o, e, ex.2.1⟩
  ·obtain ⟨o, _, _, _, e, ex, _⟩ := I.hok p _ hk
   refine ⟨⟨o, e, ex.1⟩, fun a e2 => ?_⟩
   cases e2
   exact ⟨o, e, ex.2.1⟩
 | _ => exact False.elim ty
def tBM0 (K : PySem.W.Frag) (T : String) (r : V -> List V -> Hp -> VK -> Prop) (to : TE) : TE := fun σ H Q => to σ H fun x H1 => tyV K T x H1 /\ r x [] H1 Q
def tBM (K : PySem.W.Frag) (T : String) (r : V -> List V -> Hp -> VK -> Prop) (to : TE) (t : TA) : TE := fun σ H Q => to σ H fun x H1 => tyV K T x H1 /\ t σ H1 fun xs H2 => r x xs H2 Q
variable {o e : Expr} {es : List Expr} {to : TE} {t : TA} {name : Str} {apos cpos : Pos} {T id : String} {r : V -> List V -> Hp -> VK -> Prop}
theorem pe_bm0 (pa : PlainAttrs T) (slot : Slot T name id) (hty : typeOf (.builtin id) = pure (.type "method_descriptor")) (hm : MtR X id r) (ho : PE X o to)
  (hbase : attributeBase o name X.env (eval o X.env) = eval o X.env := by rfl) (hline : (apos.endLine == cpos.line) = true := by rfl) : PE X (.Call (.Attribute o name apos) [] [] cpos) (tBM0 X.K T r to) := by
 intro pins s σ H Q I h
 refine wpAny_Call_method0_late hbase hline (thn (ho pins s σ H _ I h) fun v s1 ⟨x, H1, I1, r1, ty, q1⟩ => ?_)
 obtain ⟨h1, h2⟩ := tyV_is I1 r1 ty
 exact ⟨T, id, pa, slot, hty, h1, h2, Calls.callWith_builtin rfl (PySem.evalArgs_none (hm pins s1 σ H1 x [] v [] Q I1 r1 .nil q1))⟩
theorem pe_bm (pa : PlainAttrs T) (slot : Slot T name id) (hty : typeOf (.builtin id) = pure (.type "method_descriptor")) (hm : MtR X id r) (ho : PE X o to) (ha : PA X (e :: es) t)
  (hbase : attributeBase o name X.env (eval o X.env) = eval o X.env := by rfl)
  (hfew : ((backTo cpos (starEach (e :: es) X.env)).all (fun x => !x.1) && (backToKw cpos (keywordEach [] X.env)).all (fun x => x.1.isSome)
   && decide ((e :: es).length + ([] : List Keyword).length + (if ([] : List Keyword).isEmpty then 0 else 1) < 30)) = true := by rfl)
  (hline : (apos.endLine == cpos.line) = true := by rfl) (hs : starEach (e :: es) X.env = (false, eval e X.env) :: starEach es X.env := by rfl) (hplain : (backTo cpos (starEach es X.env)).any (·.1) = false := by rfl) :
  PE X (.Call (.Attribute o name apos) (e :: es) [] cpos) (tBM X.K T r to t) := by
 intro pins s σ H Q I h
 refine wpAny_Call_method_late hbase hfew hline rfl (thn (ho pins s σ H _ I h) fun v s1 ⟨x, H1, I1, r1, ty, q1⟩ => ?_)
 obtain ⟨h1, h2⟩ := tyV_is I1 r1 ty
 refine ⟨T, id, pa, slot, hty, h1, h2, ?_⟩
 have hA := ha cpos pins s1 σ H1 _ I1 q1
 rw [hs] at hA ⊢
 refine Calls.callWith_builtin (by show (false || (backTo cpos (starEach es X.env)).any (·.1)) = false; rw [hplain] <;> rfl) (Calls.evalArgs_plain ?_)
 exact thn hA fun us s2 ⟨vs, H2, I2, r2, q2⟩ => hm pins s2 σ H2 x vs v us Q I2 r1 r2 q2
end
end L2
namespace L2
open PySem PySem.Spec PyProof.Rows
def MtM (X : Cx) (id : String) (r : V -> List V -> Hp -> VK -> Prop) : Prop :=
 ∀ (pins : List (Addr × Obj)) (s : Shared) (σ : St) (H : Hp) (x : V) (xs : List V) (v : Value) (us : List Value) (Q : VK), Inv X pins σ H s -> RelV x v -> Vals xs us -> r x xs H Q ->
  wpAny (model X.prog X.w) X.A (call (.builtin id) (v :: us)) (EP X pins σ Q) X.xe s
theorem Vals.one : ∀ {x : V} {us : List Value}, Vals [x] us -> ∃ u, us = [u] /\ RelV x u
 | _, _, .cons r .nil => ⟨_, rfl, r⟩
theorem Vals.two : ∀ {x y : V} {us : List Value}, Vals [x, y] us -> ∃ u v, us = [u, v] /\ RelV x u /\ RelV y v
 | _, _, _, .cons r (.cons q .nil) => ⟨_, _, rfl, r, q⟩
theorem Vals.zero : ∀ {us : List Value}, Vals [] us -> us = []
 | _, .nil => rfl
theorem Vals.dropLast {xs : List V} {us : List Value} (h : Vals xs us) : Vals xs.dropLast us.dropLast := by
 induction h with
 | nil => exact .nil
 | cons r t ih =>
  cases t with
  | nil => exact .nil
  | cons q t' => exact .cons r ih
theorem erase_last {α : Type} (l : List α) : l.eraseIdx (l.length - 1) = l.dropLast := by
 induction l with
 | nil => rfl
 | cons a r ih =>
  cases r with
  | nil => rfl
  | cons b r =>
   have e : (a :: b :: r).length - 1 = ((b :: r).length - 1) + 1 := by
    have h1 : (a :: b :: r).length = r.length + 2 := rfl
    have h2 : (b :: r).length = r.length + 1 := rfl
    omega
   rw [e, List.eraseIdx_cons_succ, ih]
   all_goals rfl
section
variable {X : Cx} {pins : List (Addr × Obj)} {σ : St} {H : Hp} {s : Shared} {l b : Addr} {xs ys zs : List V}
theorem Inv.lset {its its' : List Value} {n : Nat} {f : Array Value -> Array Value} {t' : Nat} (I : Inv X pins σ H s) (hH : H l = some (.lst xs))
  (e : s.heap.get? l = some { cls := .type "list", data := .seq its.toArray n }) (hf : f its.toArray = its'.toArray) (hv : Vals ys its') (hz : ys.length <= sizeLine) :
  Inv X pins σ (upd H l (.lst ys)) { s with heap := s.heap.update l (Obj.mapSeq f), toks := t' } := by
 have q := PySem.IsL.update e f
 rw [hf] at q
 refine I.write (x := l) (e := l) (by rw [hH]; exact trivial) (.inl rfl) (fun b' u hb hu => (Heap.get?_update_other s.heap (Obj.mapSeq f) (Ne.symm hb)).trans hu) ⟨_, q⟩ ?_
 exact ⟨hz, its', _, hv, q⟩
theorem Inv.lnew {its : List Value} {t' : Nat} (I : Inv X pins σ H s) (hv : Vals ys its) (hz : ys.length <= sizeLine) :
  Inv X pins σ (upd H s.heap.objs.size (.lst ys)) { s with heap := s.heap.push { cls := .type "list", data := .seq its.toArray }, toks := t' } :=
 I.laid (fun _ _ q => Heap.get?_push_of_some _ q) (Nat.le_refl _) ⟨hz, its, 0, hv, Heap.get?_push_size _ rfl⟩
theorem Inv.fresh (I : Inv X pins σ H s) : H s.heap.objs.size = none := I.hok.fresh (Nat.le_refl _)
theorem Inv.lstM (I : Inv X pins σ H s) (hH : H l = some (.lst xs)) : xs.length <= sizeLine /\ ∃ (its : List Value) (n : Nat), Vals xs its /\ xs.length = its.length /\ s.heap.get? l = some { cls := .type "list", data := .seq its.toArray n } := by
 obtain ⟨z, its, n, r, e⟩ := I.hok l _ hH
 exact ⟨z, its, n, r, r.length, e⟩
theorem notLongL {n : Nat} (h : n <= sizeLine) : Builtin.List.listTooLong n = false := by
 unfold Builtin.List.listTooLong
 exact decide_eq_false (by omega)
end
section
variable {X : Cx}
def rAppend : V -> List V -> Hp -> VK -> Prop := fun x vs H Q => ∃ l xs y, x = .ref l /\ vs = [y] /\ H l = some (.lst xs) /\ xs.length < sizeLine /\ Q .non (upd H l (.lst (xs ++ [y])))
theorem mt_append : MtM X "list.append" rAppend := by
 intro pins s σ H x vs v us Q I rx rv h
 obtain ⟨l, xs, y, rfl, rfl, hH, hz, q⟩ := h
 cases rx
 obtain ⟨u, rfl, ru⟩ := rv.one
 obtain ⟨z, its, n, r, hl, e⟩ := I.lstM hH
 refine call_meets F.slot_list_append ⟨_, e, rfl⟩ F.entry_list_append (F.args_list_append_2 _ _) (PySem.list_append l its.toArray n u (by rw [List.size_toArray]; omega)) ⟨e, ?_⟩
 refine ⟨.non, _, I.lset (its' := its ++ [u]) hH e (by simp) (r.append (.cons ru .nil)) ?_, rfl, q⟩
 rw [List.length_append, List.length_singleton]
 omega
def rExtend : V -> List V -> Hp -> VK -> Prop := fun x vs H Q => ∃ l b xs zs, x = .ref l /\ vs = [.ref b] /\ H l = some (.lst xs) /\ H b = some (.lst zs) /\ xs.length + zs.length <= sizeLine /\ Q .non (upd H l (.lst (xs ++ zs)))
theorem mt_extend : MtM X "list.extend" rExtend := by
 intro pins s σ H x vs v us Q I rx rv h
 obtain ⟨l, b, xs, zs, rfl, rfl, hH, hB, hz, q⟩ := h
 cases rx
 obtain ⟨u, rfl, ru⟩ := rv.one
 cases ru
 obtain ⟨z, its, n, r, hl, e⟩ := I.lstM hH
 obtain ⟨z2, its2, n2, r2, hl2, e2⟩ := I.lstM hB
 have hsz : its.toArray.size + its2.toArray.size <= sizeLine := by rw [List.size_toArray, List.size_toArray]; omega
 have hlong : ¬ (!its.toArray.isEmpty && Builtin.List.listTooLong (its.toArray.size + its2.toArray.size)) = true := by
  rw [notLongL hsz, Bool.and_false]
  exact Bool.false_ne_true
 refine call_meets F.slot_list_extend ⟨_, e, rfl⟩ F.entry_list_extend (F.args_list_extend_2 _ _)
  (AutoSeq1.list_extend_list_list_0 l its.toArray n b its2.toArray n2 hlong (by rw [List.size_toArray]; omega) (by omega)) ⟨e, e2, ?_⟩
 refine ⟨.non, _, I.lset (its' := its ++ its2) hH e (by simp) (r.append r2) ?_, rfl, q⟩
 rw [List.length_append]
 omega
def rPop : V -> List V -> Hp -> VK -> Prop := fun x vs H Q => ∃ l xs y, x = .ref l /\ vs = [] /\ H l = some (.lst xs) /\ xs[xs.length - 1]? = some y /\ Q y (upd H l (.lst xs.dropLast))
theorem mt_pop : MtM X "list.pop" rPop := by
 intro pins s σ H x vs v us Q I rx rv h
 obtain ⟨l, xs, y, rfl, rfl, hH, hy, q⟩ := h
 cases rx
 have hus := rv.zero
 subst hus
 obtain ⟨z, its, n, r, hl, e⟩ := I.lstM hH
 obtain ⟨u, hu, ru⟩ := r.get hy
 have hy' : its.toArray[its.toArray.size - 1]? = some u := by
  show its.toArray[its.length - 1]? = some u
  rw [<- Array.getElem?_toList, <- hl]
  exact hu
 refine call_meets F.slot_list_pop ⟨_, e, rfl⟩ F.entry_list_pop (F.args_list_pop_1 _) (MeetsSeq.list_pop_last l its.toArray n u hy' (by rw [List.size_toArray]; omega)) ⟨e, ?_⟩
 refine ⟨y, _, I.lset (its' := its.dropLast) hH e ?_ r.dropLast ?_, ru, q⟩
 ·show its.toArray.eraseIdxIfInBounds (its.toArray.size - 1) = its.dropLast.toArray
  rw [List.size_toArray, List.eraseIdxIfInBounds_toArray, erase_last]
 ·rw [List.length_dropLast]
  omega
def rCat : R2 := fun x y H Q => ∃ l b xs zs, x = .ref l /\ y = .ref b /\ H l = some (.lst xs) /\ H b = some (.lst zs) /\ xs.length + zs.length <= sizeLine /\ ∀ p, H p = none -> Q (.ref p) (upd H p (.lst (xs ++ zs)))
theorem op_cat : OpR X (binaryOp .Add) rCat := by
 intro pins s σ H x y v u Q I rx ry h
 obtain ⟨l, b, xs, zs, rfl, rfl, hH, hB, hz, q⟩ := h
 cases rx
 cases ry
 obtain ⟨z, its, n, r, hl, e⟩ := I.lstM hH
 obtain ⟨z2, its2, n2, r2, hl2, e2⟩ := I.lstM hB
 refine PySem.P.add_list e e2 ?_ (by rw [List.size_toArray, List.size_toArray]; omega)
 have ea : its.toArray ++ its2.toArray = (its ++ its2).toArray := by simp
 rw [ea]
 exact ⟨.ref _, _, I.lnew (t' := s.toks) (r.append r2) (by rw [List.length_append]; omega), rfl, q _ I.fresh⟩
end
end L2
namespace Att
open PySem PySem.W PySem.Calls PyProof.Rows
theorem ints_of_wellAll {P : Params} {h : Heap} : ∀ (ns : List Int) (vs : List Value), WellAll P h vs (ns.map WData.int) -> IntsAre vs ns := by
 intro ns
 induction ns with
 | nil =>
  intro vs w
  rw [List.map_nil] at w
  cases w
  exact .nil
 | cons n ns ih =>
  intro vs w
  rw [List.map_cons] at w
  cases w with
  | cons a b =>
   cases a
   exact .cons _ _ (ih _ b)
theorem script_of {l : OpenLaw} {n : Nat} (hn : l.most = some n) {P : Params} {h : Heap} {args : List WData} {vals : List Value}
  (hpre : l.row.toRowW.claim.pre args = true) (hwl : WellAll P h vals args) :
  ∃ a vs ns, vals = [Value.ref a] /\ args = [WData.list (ns.map WData.int)] /\ h.get? a = some { cls := .type "list", data := .seq vs.toArray } /\ IntsAre vs ns /\ ns.length <= n := by
 have hsh : WShape.hasAll [] args [.list .int] = true := (pre_splitW hpre).1
 have hc : l.pre.holds [] { args := args } = true := (pre_splitW hpre).2
 obtain ⟨d, r, rfl, h1, h2⟩ := hasAllW_cons hsh
 obtain rfl := hasAllW_nil h2
 obtain ⟨xs, rfl, h3⟩ := hasW_list h1
 obtain ⟨ns, rfl⟩ := items_int h3
 have hlen : ns.length <= n := by
  unfold OpenLaw.pre at hc
  have h4 : (WTm.not (.lt (.lit (.int (n : Int))) (.len (.arg 0)))).holds [] { args := [.list (ns.map .int)] } = true := by
   have h4 := (holds_andW hc).1
   rw [hn] at h4
   exact h4
  have h5 := condW_of h4 (w_not (w_lt w_lit (w_len_list (w_arg rfl))))
  rw [List.length_map] at h5
  refine Nat.le_of_not_lt fun q => ?_
  have q' : (n : Int) < ((ns.length : Nat) : Int) := by omega
  first
   | (rw [decide_eq_true q'] at h5; exact absurd h5 (by decide))
   | (simp at h5; omega)
 cases hwl with
 | cons w1 w2 =>
  cases w2
  cases w1 with
  | list ho hall => exact ⟨_, _, ns, rfl, rfl, ho, ints_of_wellAll ns _ hall, hlen⟩
theorem post_true (l : OpenLaw) (args : List WData) : l.row.toRowW.claim.post args (.bool true) args = true :=
 postW_of (r := l.row.toRowW) (X := (true == true))
  (show WShape.has [] (.bool true) .bool = true by first | rfl | decide | simp [WShape.has, WShape.arms, WShape.armsAll])
  (show (WTm.eq .res (.lit (.bool true))).value [] { args := args, res := some (.bool true), after := args } = some (.bool (true == true)) from w_eq_bool (w_res rfl) w_lit) rfl
theorem attach_call {l : OpenLaw} {n : Nat} {q : Program} {loose : List Str} {XP : (Str -> Option Value) -> Heap -> Prop} {YP : World -> Heap -> Prop} {d : DefRec}
  (hn : l.most = some n) (hdf : d.params.defaults = [])
  (call : ∀ (w : World) (s₀ s₁ : Shared) (mg mb : Str -> Option Value) (fa : Addr) (o : Obj) (pm cd doc : Value) (a : Addr) (vs : List Value) (ns : List Int),
   Ground q loose [] XP w s₀ mg mb s₁.heap -> YP w s₁.heap ->
   s₁.heap.get? fa = some o -> o.data = .func (docDef d.name d.params d.body d.scope pm cd doc) -> s₁.heap.CodeRec cd d.name -> mg d.name = some (.ref fa) ->
   s₁.heap.get? a = some { cls := .type "list", data := .seq vs.toArray } -> IntsAre vs ns -> ns.length <= n -> s₁.gens = #[] ->
   codeAny (model l.prog w) callerA (.call (.ref fa) ⟨[.ref a], []⟩) (fun r s' => r = .ok (.ret (.bool true)) /\ OldK s₁.heap s'.heap /\ s'.os = s₁.os /\ AllBare s'.gens) s₁) :
  WalkO q loose XP YP l.row.toRowW d [] (fun f vs => PySem.call f vs) := by
 intro w s₀ s₁ mg mb G Y fa o pm cd doc dV kV ho hd hcd hD hmg hg args vals as hpre hlay hrd hwl hlo
 obtain rfl : dV = .none := Dflts.none hD hdf
 obtain rfl : kV = .none := Dflts.noKw hD
 obtain ⟨a, vs, ns, rfl, rfl, hobj, hints, hlen⟩ := script_of hn hpre hwl
 refine enter_call (codeAny_mono (call w s₀ s₁ mg mb fa o pm cd doc a vs ns G Y ho (fd_plain hd) hcd hmg hobj hints hlen hg) fun r s' hq => ?_)
 obtain ⟨rfl, h2, h3, h4⟩ := hq
 exact ⟨.inl ⟨.bool true, .bool true, [], rfl, fun _ => rfl, .bool true, post_true l _, fun _ => ⟨List.Pairwise.nil, fun _ hm => (nomatch hm)⟩⟩, h2, h3, h4⟩
end Att
namespace L2
open PySem PySem.Spec PyProof.Rows
theorem vals_ints : ∀ {vs : List Value} {ns : List Int}, IntsAre vs ns -> Vals (ns.map V.int) vs
 | _, _, .nil => .nil
 | _, _, .cons n t h => .cons ⟨t, rfl⟩ (vals_ints h)
def Only (H : Hp) : Prop := ∀ b, H b = none \/ ∃ o xs, H b = some (.frz o (.lst xs))
theorem law_call {P : Program} {w : World} {K : PySem.W.Frag} {mg mb : Str -> Option Value} {CX : CXT} {k : Nat} {fa a : Addr} {fd : FuncData} {x : Str} {sp : Sp} {s₁ : Shared} {vs : List Value} {ns : List Int}
  (KX : K.In s₁.heap) (hns : s₁.heap.Ns mainGlobals mg) (hb : s₁.heap.Ns builtinsNs mb) (hbb : ∀ x : Str, x ≠ "__name__" -> mb x = bootBuiltins x) (hlim : s₁.heap.NoLimit) (hg : s₁.gens = #[])
  (ha : s₁.heap.get? a = some { cls := .type "list", data := .seq vs.toArray }) (hi : IntsAre vs ns) (hl : ns.length <= sizeLine) (hr : Room k callerA)
  (F : ∀ base : Heap, K.In base -> base.Ns mainGlobals mg -> FnOk P w K mg base CX k fa fd [x] sp) (hbind : ∀ (s : Shared) (u : Value), BindsTo s fd ⟨[u], []⟩ [(x, u)])
  (hsp : ∀ H : Hp, Only H -> SqL K H a (ns.map V.int) -> sp [.ref a] H (fun v _ => v = .bl true) fun _ _ _ => False)
  (hCX : ∀ H e s', CX [] H s₁ (fun _ _ _ => False) e s' -> False) :
  codeAny (model P w) callerA (.call (.ref fa) ⟨[.ref a], []⟩) (fun r s' => r = .ok (.ret (.bool true)) /\ OldK s₁.heap s'.heap /\ s'.os = s₁.os /\ AllBare s'.gens) s₁ := by
 have rv := vals_ints hi
 have lenV := hi.length
 have core : ∀ H : Hp, Only H -> SqL K H a (ns.map V.int) -> HOk P w H s₁.heap -> (∀ b, H b ≠ none -> b = a) -> (H a ≠ none -> K.lookup a = none) ->
   codeAny (model P w) callerA (.call (.ref fa) ⟨[.ref a], []⟩) (fun r s' => r = .ok (.ret (.bool true)) /\ OldK s₁.heap s'.heap /\ s'.os = s₁.os /\ AllBare s'.gens) s₁ := by
  intro H hO hS hok hA hK
  have base_of : ∀ {b : Addr} {o : Obj}, s₁.heap.get? b = some o -> H b = none -> (hidT s₁.heap H).get? b = some o := fun e n => hidT_get e n
  have noA : ∀ {b : Addr} {o : Obj} {es : Array DictEntry} {ep : Nat}, s₁.heap.get? b = some o -> o.data = .dict es ep -> H b = none := fun {b o es ep} e d => by
   cases q : H b with
   | none => rfl
   | some u =>
    have e' : b = a := hA b (by rw [q]; simp)
    subst e'
    rw [ha] at e; cases e
    have d' : Data.seq vs.toArray _ = Data.dict es ep := d
    cases d'
  have nsK : ∀ {b : Addr} {m : Str -> Option Value}, s₁.heap.Ns b m -> (hidT s₁.heap H).Ns b m := fun {b m} ⟨o, es, ep, e, d, r⟩ => ⟨o, es, ep, base_of e (noA e d), d, r⟩
  have hKb : K.In (hidT s₁.heap H) := fun b o e => base_of (KX b o e) (by
   cases q : H b with
   | none => rfl
   | some u =>
    have e' : b = a := hA b (by rw [q]; simp)
    subst e'
    rw [hK (by rw [q]; simp)] at e; cases e)
  have hM : Mod K mg (hidT s₁.heap H) := ⟨hKb, nsK hns, ⟨mb, nsK hb, hbb⟩, let ⟨mc, h1, h2⟩ := hlim; ⟨mc, nsK h1, h2⟩⟩
  have e0 : Env0 P w K mg (hidT s₁.heap H) callerA [] s₁ H := ⟨rfl, hM, fun b o e => of_hidT e, Nat.le_of_eq (hidT_size _ _), trivial, fun b hb => absurd (show b ∈ ([] : List Addr) from hb) (by simp), hok, .of_eq hg⟩
  refine codeAny_mono ((F _ hKb (nsK hns)).run callerA [] s₁ H ⟨[.ref a], []⟩ [.ref a] [.ref a] _ _ hr e0 (hbind s₁ (.ref a)) (.cons rfl .nil) (hsp H hO hS)) fun r s' h => ?_
  cases r with
  | error e => exact (hCX H e s' h).elim
  | ok fl =>
   cases fl with
   | next => exact False.elim h
   | brk => exact False.elim h
   | cont => exact False.elim h
   | ret u =>
    obtain ⟨v, H', os, bare, un, hok', r', q⟩ := h
    have q' : v = .bl true := q
    subst q'
    obtain rfl : u = Value.bool true := r'
    refine ⟨rfl, OldK.of_keep fun b o e => ?_, os, bare⟩
    cases q : H b with
    | none => exact un.keep b o e q (by intro z; exact absurd (show b ∈ ([] : List Addr) from z) (by simp)) (by simp)
    | some u =>
     rcases hO b with z | ⟨ob, xs, z⟩
     ·rw [q] at z; cases z
     ·have z2 := un.frzs b ob _ z
      obtain ⟨e1, _⟩ := hok b _ z
      obtain ⟨e2, _⟩ := hok' b _ z2
      rw [e] at e1; cases e1
      exact e2
 cases hk : K.lookup a with
 | some o =>
  have e := KX a o hk
  rw [ha] at e
  cases e
  refine core (fun _ => none) (fun _ => .inl rfl) (.inr ⟨_, vs.toArray, _, hk, rfl, rfl, rfl, by rw [List.size_toArray, lenV]; exact hl, by simpa using rv⟩) (fun b u z => by have z' : (none : Option HO) = some u := z; cases z') (fun b z => absurd rfl z) fun z => absurd rfl z
 | none =>
  refine core (fun b => if b = a then some (.frz { cls := .type "list", data := .seq vs.toArray } (.lst (ns.map V.int))) else none) (fun b => ?_) (.inl (.inr ⟨{ cls := .type "list", data := .seq vs.toArray }, if_pos rfl⟩)) (fun b u z => ?_) (fun b z => ?_) fun _ => hk
  ·by_cases hb : b = a
   ·exact .inr ⟨_, _, if_pos hb⟩
   ·exact .inl (if_neg hb)
  ·by_cases hb : b = a
   ·have z' := (if_pos hb).symm.trans z
    cases z'
    subst hb
    exact ⟨ha, by rw [List.length_map]; exact hl, vs, _, rv, ha⟩
   ·have z' := (if_neg hb).symm.trans z
    cases z'
  ·by_cases hb : b = a
   ·exact hb
   ·exact absurd (if_neg hb) z
end L2
namespace L2
open PySem PySem.Spec PyProof.Rows
abbrev KOf {K : PySem.W.Frag} {h : Heap} (_ : K.In h) : PySem.W.Frag := K
theorem walk_of {l : PySem.W.OpenLaw} {n k : Nat} {q : Program} {loose : List Str} {XP : (Str -> Option Value) -> Heap -> Prop} {YP : World -> Heap -> Prop} {d : DefRec} {K : Params -> PySem.W.Frag} {CX : World -> CXT} {sp : World -> Sp} {x : Str}
  (hn : l.most = some n) (hn2 : n <= sizeLine) (hdf : d.params.defaults = []) (hr : Room k callerA)
  (hY : ∀ (w : World) (h : Heap), YP w h -> (K w.params).In h)
  (F : ∀ (w : World) (mg : Str -> Option Value) (fa : Addr) (h : Heap), (K w.params).In h -> h.Ns mainGlobals mg -> mg d.name = some (.ref fa) ->
   ∃ fd : FuncData, (∀ (s : Shared) (u : Value), BindsTo s fd ⟨[u], []⟩ [(x, u)]) ∧
    ∀ base : Heap, (K w.params).In base -> base.Ns mainGlobals mg -> FnOk l.prog w (K w.params) mg base (CX w) k fa fd [x] (sp w))
  (hsp : ∀ (w : World) (H : Hp) (a : Addr) (ns : List Int), ns.length <= n -> Only H -> SqL (K w.params) H a (ns.map V.int) -> sp w [.ref a] H (fun v _ => v = .bl true) fun _ _ _ => False)
  (hCX : ∀ (w : World) (H : Hp) (s : Shared) (e : Value) (s' : Shared), CX w [] H s (fun _ _ _ => False) e s' -> False) :
  PySem.W.WalkO q loose XP YP l.row.toRowW d [] (fun f vs => PySem.call f vs) := by
 refine Att.attach_call hn hdf fun w s₀ s₁ mg mb fa o pm cd doc a vs ns G Y ho hd hcd hmg hobj hints hlen hg => ?_
 have KX := hY w _ Y
 obtain ⟨fd, hb, hF⟩ := F w mg fa _ KX G.T.g hmg
 exact law_call KX G.T.g G.T.b G.T.builtins G.T.nolimit hg hobj hints (Nat.le_trans hlen hn2) hr hF hb (fun H hO hS => hsp w H a ns hlen hO hS) fun H e s' => hCX w H s₁ e s'
end L2
namespace L2
open PySem PySem.Spec PyProof.Rows
def defArgs (s : Stmt) : Arguments := match s with
 | .FunctionDef _ a _ _ _ _ _ _ _ _ => a
 | _ => { posonlyargs := [], args := [], vararg := none, kwonlyargs := [], kw_defaults := [], kwarg := none, defaults := [] }
def defBody (s : Stmt) : List Stmt := match s with
 | .FunctionDef _ _ b _ _ _ _ _ _ _ => b
 | _ => []
def defScope (s : Stmt) : Scope := match s with
 | .FunctionDef _ _ _ _ _ _ sc _ _ _ => sc
 | _ => { kind := .function, names := [], isGenerator := false, isCoroutine := false }
abbrev CX0 : CXT := fun _ _ _ _ _ _ => False
abbrev E0 : XK := fun _ _ _ => False
theorem pass0 {X : Cx} : Passes CX0 X E0 := fun _ _ _ _ _ _ _ h => h.elim
structure Fun (K : PySem.W.Frag) (x qual : Str) (st : Stmt) (f : Addr) (fd : FuncData) : Prop where
 ex : ∃ (oc : Value) (od : Option Addr) (kV doc pm : Value) (an : Option Addr) (cdv ct : Value) (osl : Array (Option Value)),
  fd = PySem.W.fnOf x qual (defArgs st) (defBody st) (defScope st) .none kV doc pm an cdv ct /\ K.lookup f = some ⟨oc, od, .func fd, osl⟩ /\ PySem.W.codeIn K cdv qual = true
 kp : PySem.W.keepIn K (.ref f) = true
section
variable {P : Program} {w : World} {K : PySem.W.Frag} {mg : Str -> Option Value} {base : Heap}
theorem Fun.ok {x qual : Str} {st : Stmt} {f : Addr} {fd : FuncData} {N ps : List Str} {k : Nat} {sp : Sp} (F : Fun K x qual st f fd) (S : FnScope N ps (defScope st)) (len : ∀ vs H Q E, sp vs H Q E -> vs.length = ps.length)
  (hbody : ∀ (cdv : Value) (A : Around) (outer : List Env) (s : Shared) (H : Hp) (vs : List V) (Q : VK) (E : XK), Room k (A.deeper (envOfC qual (defScope st) s.heap.objs.size f cdv)) -> sp vs H Q E ->
   ∃ t, PSs (cxOf CX0 P w K mg base N qual (defScope st) f cdv A outer s H E).nox (defBody st) t /\ t { nx := fun _ H' => Q .non H', rt := Q } (start N vs) H) : FnOk P w K mg base CX0 (k + 1) f fd ps sp := by
 obtain ⟨oc, od, kV, doc, pm, an, cdv, ct, osl, rfl, lk, hcd⟩ := F.ex
 refine fn_of lk hcd S len fun A outer s H vs Q E hr hsp => ?_
 obtain ⟨t, h, q⟩ := hbody cdv A outer s H vs Q E hr hsp
 exact ⟨t, h.nox, q⟩
theorem fun_mk {x qual : Str} {st : Stmt} {f : Addr} {oc : Value} {od an : Option Addr} {osl : Array (Option Value)} {kV doc pm cdv ct : Value} (l : K.lookup f = some ⟨oc, od, .func (PySem.W.fnOf x qual (defArgs st) (defBody st) (defScope st) .none kV doc pm an cdv ct), osl⟩)
  (c : PySem.W.codeIn K cdv qual = true) (k : PySem.W.keepIn K (.ref f) = true) : Fun K x qual st f (PySem.W.fnOf x qual (defArgs st) (defBody st) (defScope st) .none kV doc pm an cdv ct) := ⟨⟨oc, od, kV, doc, pm, an, cdv, ct, osl, rfl, l, c⟩, k⟩
end
theorem hu_of {A : Around} {k : Nat} (hr : Room k A) : A.units + 1 < cLine := Nat.lt_of_le_of_lt (Nat.add_le_add_left (by decide : 1 <= 64) _) hr.units
section
variable {X : Cx}
theorem pv (i : Nat) {x : Str} {pos : Pos} (hN : X.N[i]? = some x := by rfl) (hv : Vis X.env.scope x := by first | exact Or.inl rfl | exact Or.inr (Or.inl rfl) | exact Or.inr (Or.inr rfl)) (hd : (x == ("__debug__" : Str)) = false := by decide)
  (hcd : (x == ("__classdict__" : Str)) = false := by decide) : PE X (.Name x pos) (tVar i) := pe_var hN hv hd hcd
end
theorem iteF {A B : Prop} (h : B) : if false = true then A else B := by
 rw [if_neg Bool.false_ne_true]
 exact h
theorem iteT {A B : Prop} (h : A) : if true = true then A else B := by
 rw [if_pos rfl]
 exact h
theorem ite2 {c A B : Prop} [Decidable c] (h1 : c -> A) (h2 : ¬ c -> B) : if c then A else B := by
 by_cases h : c
 ·rw [if_pos h]
  exact h1 h
 ·rw [if_neg h]
  exact h2 h
def Same (H H' : Hp) : Prop := ∀ b o, H b = some o -> H' b = some o
theorem Same.refl (H : Hp) : Same H H := fun _ _ h => h
theorem Same.trans {H H1 H2 : Hp} (a : Same H H1) (b : Same H1 H2) : Same H H2 := fun c o h => b c o (a c o h)
theorem Same.seq {K : PySem.W.Frag} {H H' : Hp} {a : Addr} {xs : List V} (e : Same H H') (h : SqL K H a xs) : SqL K H' a xs := by
 rcases h with (h | ⟨o, h⟩) | h
 ·exact .inl (.inl (e _ _ h))
 ·exact .inl (.inr ⟨o, e _ _ h⟩)
 ·exact .inr h
end L2
section
namespace L2
open PySem PySem.Spec PyProof.Rows
def Its (x : Str) : It := ⟨fun i _ => i < x.cps.size, fun i H v H' => H' = H /\ ∃ c, x.cps[i]? = some c /\ v = .str ⟨#[c]⟩, fun i _ => i = x.cps.size⟩
theorem turn_str {P : Program} {w : World} {K : PySem.W.Frag} {y : Str} {py : Pos} (it : Addr) (x : Str) (t : Tok) {ty : String}
  (W : ∀ A : Around, A.handled = none -> Walks P w A it [it] [it] x.cps.size (SignAt x) (fun i h => h.IsStrIter it ty x t i))
  (S : ∀ (A : Around) (i : Nat) (s : Shared) (Q : Value -> Shared -> Prop) (E : Value -> Shared -> Prop), s.heap.IsStrIter it ty x t i -> Q (.ref it) s -> wpAny (model P w) A (pyIter (.ref it)) Q E s) :
  Turn P w K (.Name y py) (Its x) [it] it (fun i h => h.IsStrIter it ty x t i) where
 mem := by simp
 obj := fun i h st b hb => by
  have e : b = it := by simpa using hb
  subst e
  obtain ⟨o, e, c, d⟩ := st
  exact ⟨o, e, fun v z => by rw [d] at z; cases z⟩
 keep := fun i h h' st k => let ⟨o, ho, r⟩ := st; ⟨o, k it (by simp) o ho, r⟩
 item := by
  intro X hP hw hK hc i pins s σ H E I hf st hg
  subst hP hw hK
  obtain ⟨f0, f1, f2, f3, f4, f5⟩ := hf it (by simp)
  refine (W X.A (I.ok.hd hc)).item i s _ _ hg st fun v h' tk hv st' kk => ?_
  obtain ⟨c, u, e, rfl⟩ := hv
  have I1 : Inv X pins σ H { s with heap := h', toks := tk } := I.turned (fun b o hb e => kk b o (by simpa using hb) e) f0 f1 f3 f4 f5
  exact ⟨_, rfl, wpAny_pure ⟨.str ⟨#[c]⟩, H, I1, ⟨u, rfl⟩, ⟨rfl, c, e, rfl⟩, st', fun b hb => (hf b hb).1⟩⟩
 done := by
  intro X hP hw hK hc i pins s σ H E I hf st hg
  subst hP hw hK
  obtain ⟨f0, f1, f2, f3, f4, f5⟩ := hf it (by simp)
  have e : i = x.cps.size := hg
  subst e
  exact (W X.A (I.ok.hd hc)).done s _ _ st fun h' tk kk => ⟨rfl, I.turned (fun b o hb e => kk b o (by simpa using hb) e) f0 f1 f3 f4 f5⟩
 self := fun A i s Q E st h => S A i s Q E st h
section
variable {X : Cx}
def iStr (tl : TE) : TI := fun σ H R => tl σ H fun v H1 => ∃ x, v = .str x /\ R (Its x) H1
theorem pi_str {l : Expr} {tl : TE} {y : Str} {py : Pos} (hl : PE X l tl) : PI X (.Name y py) l (iStr tl) := by
 intro pins s σ H R I h
 refine thn (hl pins s σ H _ I h) fun v s1 ⟨z, H1, I1, r1, q1⟩ => ?_
 obtain ⟨x, rfl, q⟩ := q1
 obtain ⟨t, rfl⟩ := r1
 have fin : ∀ (o : Obj) (ty : String), (∀ A : Around, A.handled = none -> Walks X.prog X.w A s1.heap.objs.size [s1.heap.objs.size] [s1.heap.objs.size] x.cps.size (SignAt x) (fun i h => h.IsStrIter s1.heap.objs.size ty x t i)) ->
   (∀ (A : Around) (i : Nat) (s : Shared) (Q : Value -> Shared -> Prop) (E : Value -> Shared -> Prop), s.heap.IsStrIter s1.heap.objs.size ty x t i -> Q (.ref s1.heap.objs.size) s -> wpAny (model X.prog X.w) A (pyIter (.ref s1.heap.objs.size)) Q E s) ->
   (s1.heap.push o).IsStrIter s1.heap.objs.size ty x t 0 -> PIE X pins σ (.Name y py) R (.ref s1.heap.objs.size) { s1 with heap := s1.heap.push o } := fun o ty W S st => by
  refine ⟨s1.heap.objs.size, [s1.heap.objs.size], _, _, H1, rfl, I1.kept (t' := s1.toks) fun b o e => Heap.get?_push_of_some _ e, turn_str s1.heap.objs.size x t W S, st, fun b hb => ?_, q⟩
  have e : b = s1.heap.objs.size := by simpa using hb
  subst e
  exact I1.fpOk (Nat.le_refl _) (I1.hok.fresh (Nat.le_refl _))
 cases ha : x.cps.all (· < 128)
 ·exact wpAny_pyIter_wide ha (fin _ "str_iterator" (fun A hA => Walks.strWide hA _ x t) (fun _ _ _ _ _ st h => wpAny_pyIter_striter_wide st h) ⟨_, Heap.get?_push_size _ rfl, rfl, rfl⟩)
 ·exact wpAny_pyIter_ascii ha (fin _ "str_ascii_iterator" (fun A hA => Walks.strAscii hA _ x t) (fun _ _ _ _ _ st h => wpAny_pyIter_striter_ascii st h) ⟨_, Heap.get?_push_size _ rfl, rfl, rfl⟩)
end
def clOf (env : Env) : List (Str × NameKind) -> List (Str × Addr) -> List (Str × Addr)
 | [], cs => cs
 | (n, k) :: r, cs => clOf env r (if k == .free then match env.cells.lookup n with | some a => (n, a) :: cs | none => cs else cs)
theorem clOf_from {env : Env} {x : Str} {c : Addr} : ∀ {ns : List (Str × NameKind)} {cs : List (Str × Addr)}, (∀ p ∈ cs, env.cells.lookup p.1 = some p.2) -> (clOf env ns cs).lookup x = some c -> env.cells.lookup x = some c
 | [], cs, h, e => by
  unfold clOf at e
  exact h (x, c) (PySem.mem_of_lookup e)
 | (n, k) :: r, cs, h, e => by
  unfold clOf at e
  refine clOf_from (ns := r) ?_ e
  intro p hp
  split at hp
  ·split at hp
   ·rename_i a ea
    rcases List.mem_cons.mp hp with rfl | hp
    ·exact ea
    ·exact h p hp
   ·exact h p hp
  ·exact h p hp
theorem lookup_ne_none {x : Str} : ∀ {cs : List (Str × Addr)}, (∃ c, (x, c) ∈ cs) -> ∃ c, cs.lookup x = some c
 | [], ⟨_, h⟩ => nomatch h
 | (n, a) :: r, ⟨c, h⟩ => by
  rw [List.lookup_cons]
  cases e : x == n with
  | true => exact ⟨a, rfl⟩
  | false =>
   rcases List.mem_cons.mp h with h | h
   ·cases h
    rw [beq_self_eq_true] at e; cases e
   ·exact lookup_ne_none ⟨c, h⟩
theorem clOf_has {env : Env} {x : Str} : ∀ {ns : List (Str × NameKind)} {cs : List (Str × Addr)}, ((∃ c, (x, c) ∈ cs) \/ ((x, NameKind.free) ∈ ns /\ ∃ c, env.cells.lookup x = some c)) -> ∃ c, (x, c) ∈ clOf env ns cs
 | [], cs, h => by
  unfold clOf
  rcases h with h | ⟨h, _⟩
  ·exact h
  ·cases h
 | (n, k) :: r, cs, h => by
  unfold clOf
  refine clOf_has (ns := r) ?_
  rcases h with ⟨c, h⟩ | ⟨h, c, hc⟩
  ·refine .inl ⟨c, ?_⟩
   split
   ·split
    ·exact List.mem_cons_of_mem _ h
    ·exact h
   ·exact h
  ·rcases List.mem_cons.mp h with h | h
   ·cases h
    refine .inl ⟨c, ?_⟩
    rw [if_pos (by decide), hc]
    exact List.mem_cons_self
   ·exact .inr ⟨h, c, hc⟩
theorem closureFor_eq {sc : Scope} {env : Env} (h : ∀ p ∈ sc.names, p.2 = NameKind.free -> ∃ c, env.cells.lookup p.1 = some c) : closureFor sc env = pure (clOf env sc.names []) := by
 have go : ∀ (ns : List (Str × NameKind)) (cs : List (Str × Addr)), (∀ p ∈ ns, p.2 = NameKind.free -> ∃ c, env.cells.lookup p.1 = some c) ->
   (forIn ns cs fun (x : Str × NameKind) (r : List (Str × Addr)) => (if (x.2 == NameKind.free) = true then do
     let y <- cellOf env x.1
     pure (ForInStep.yield ((x.1, y) :: r)) else pure (ForInStep.yield r) : Sem (ForInStep (List (Str × Addr))))) = (pure (clOf env ns cs) : Sem (List (Str × Addr))) := by
  intro ns
  induction ns with
  | nil => intro cs _; rfl
  | cons p r ih =>
   intro cs hp
   obtain ⟨n, k⟩ := p
   rw [List.forIn_cons]
   unfold clOf
   by_cases hk : k = NameKind.free
   ·subst hk
    obtain ⟨c, hc⟩ := hp (n, .free) List.mem_cons_self rfl
    have e1 : cellOf env n = pure c := by unfold cellOf; rw [hc]
    simp only [beq_self_eq_true, if_true, e1, hc, pure_bind]
    exact ih _ fun q hq => hp q (List.mem_cons_of_mem _ hq)
   ·have hb : (k == NameKind.free) = false := by simpa using hk
    simp only [hb, Bool.false_eq_true, if_false, pure_bind]
    exact ih _ fun q hq => hp q (List.mem_cons_of_mem _ hq)
 unfold closureFor
 have := go sc.names [] h
 simp only [bind_pure_comp, id_map'] at this ⊢
 rw [this]
 rfl
end L2
end
section
namespace L2
open PySem PySem.Spec PyProof.Rows
theorem relabel_lookup {env : Env} {x : Str} {k' : NameKind} : ∀ {ns : List (Str × NameKind)},
  (ns.map fun (n, k) => if (k == NameKind.free && env.scope.kind == .function && env.kindOf n == some .cell) then (n, NameKind.cell) else (n, k)).lookup x = some k' ->
  ∃ k, ns.lookup x = some k /\ (k' = k \/ (k = .free /\ k' = .cell))
 | [], h => by simp at h
 | (n, k) :: r, h => by
  have h' : List.lookup x ((if (k == NameKind.free && env.scope.kind == .function && env.kindOf n == some .cell) = true then (n, NameKind.cell) else (n, k)) :: (r.map fun (n, k) => if (k == NameKind.free && env.scope.kind == .function && env.kindOf n == some .cell) then (n, NameKind.cell) else (n, k))) = some k' := h
  rw [List.lookup_cons]
  by_cases hc : (k == NameKind.free && env.scope.kind == .function && env.kindOf n == some .cell) = true
  ·rw [if_pos hc, List.lookup_cons] at h'
   cases e : x == n with
   | true =>
    rw [e] at h'
    cases h'
    refine ⟨k, rfl, .inr ⟨?_, rfl⟩⟩
    rw [Bool.and_eq_true, Bool.and_eq_true] at hc
    exact eq_of_beq hc.1.1
   | false =>
    rw [e] at h'
    exact relabel_lookup h'
  ·rw [if_neg hc, List.lookup_cons] at h'
   cases e : x == n with
   | true =>
    rw [e] at h'
    cases h'
    exact ⟨_, rfl, .inl rfl⟩
   | false =>
    rw [e] at h'
    exact relabel_lookup h'
theorem relabel_has {env : Env} {x : Str} {k : NameKind} : ∀ {ns : List (Str × NameKind)}, ns.lookup x = some k ->
  ∃ k', (ns.map fun (n, k) => if (k == NameKind.free && env.scope.kind == .function && env.kindOf n == some .cell) then (n, NameKind.cell) else (n, k)).lookup x = some k' /\ (k' = k \/ (k = .free /\ k' = .cell))
 | [], h => by simp at h
 | (n, k0) :: r, h => by
  show ∃ k', List.lookup x ((if (k0 == NameKind.free && env.scope.kind == .function && env.kindOf n == some .cell) = true then (n, NameKind.cell) else (n, k0)) :: (r.map fun (n, k) => if (k == NameKind.free && env.scope.kind == .function && env.kindOf n == some .cell) then (n, NameKind.cell) else (n, k))) = some k' /\ _
  rw [List.lookup_cons] at h
  by_cases hc : (k0 == NameKind.free && env.scope.kind == .function && env.kindOf n == some .cell) = true
  ·rw [if_pos hc, List.lookup_cons]
   cases e : x == n with
   | true =>
    rw [e] at h
    cases h
    refine ⟨_, rfl, .inr ⟨?_, rfl⟩⟩
    rw [Bool.and_eq_true, Bool.and_eq_true] at hc
    exact eq_of_beq hc.1.1
   | false =>
    rw [e] at h
    exact relabel_has h
  ·rw [if_neg hc, List.lookup_cons]
   cases e : x == n with
   | true =>
    rw [e] at h
    cases h
    exact ⟨_, rfl, .inl rfl⟩
   | false =>
    rw [e] at h
    exact relabel_has h
abbrev Cap := List (Option Nat)
def capt (ix : Cap) (σ : St) : St := ix.map fun o => (o.bind fun j => σ[j]?).join
def capOk (N N' : List Str) (sc sc' : Scope) (ix : Cap) : Bool :=
 (ix.length == N'.length) && (sc'.kind == .function) &&
 (sc'.names.all fun p => p.2 != .cell && (p.2 != .local || sc'.names.lookup p.1 == some .local) && (p.2 != .free || (sc.names.lookup p.1 == some .cell || sc.names.lookup p.1 == some .free))) &&
 (List.range ix.length).all fun k => match ix[k]? with
  | some (some j) => match N'[k]? with
   | some x => N[j]? == some x && sc'.names.lookup x == some .free
   | none => false
  | _ => true
structure CapOk (N N' : List Str) (sc sc' : Scope) (ix : Cap) : Prop where
 len : ix.length = N'.length
 kind : sc'.kind = .function
 nocell : ∀ p ∈ sc'.names, p.2 ≠ .cell
 loc : ∀ p ∈ sc'.names, p.2 = .local -> sc'.names.lookup p.1 = some .local
 fre : ∀ p ∈ sc'.names, p.2 = .free -> sc.names.lookup p.1 = some .cell \/ sc.names.lookup p.1 = some .free
 cap : ∀ (k j : Nat), ix[k]? = some (some j) -> ∃ x, N'[k]? = some x /\ N[j]? = some x /\ sc'.names.lookup x = some .free
theorem capOk_of {N N' : List Str} {sc sc' : Scope} {ix : Cap} (h : capOk N N' sc sc' ix = true) : CapOk N N' sc sc' ix := by
 unfold capOk at h
 simp only [Bool.and_eq_true, List.all_eq_true, beq_iff_eq] at h
 obtain ⟨⟨⟨h1, h2⟩, h3⟩, h4⟩ := h
 refine ⟨h1, h2, fun p hp => ?_, fun p hp hl => ?_, fun p hp hf => ?_, fun k j hk => ?_⟩
 ·have := (h3 p hp).1.1
  simpa using this
 ·have := (h3 p hp).1.2
  rw [hl] at this
  simpa using this
 ·have := (h3 p hp).2
  rw [hf] at this
  simpa using this
 ·have hlt : k < ix.length := (List.getElem?_eq_some_iff.mp hk).1
  have := h4 k (List.mem_range.mpr hlt)
  rw [hk] at this
  simp only at this
  cases e : N'[k]? with
  | none => rw [e] at this; simp at this
  | some x =>
   rw [e] at this
   simp only [Bool.and_eq_true, beq_iff_eq] at this
   exact ⟨x, rfl, this.1, this.2⟩
abbrev Cx.comp (X : Cx) (sc : Scope) (N' : List Str) (C : Addr) (s₀ : Shared) (H₀ : Hp) (ex : List Addr) : Cx :=
 { X with N := N', s₀ := s₀, H₀ := H₀, env := compEnvC sc (clOf X.env sc.names []) C X.env, outer := X.stack, stack := X.stack, ex := ex, fn := fun _ => false, pn := [], xe := fun _ _ => False }
def Ext (σ σ' : St) : Prop := σ.length = σ'.length /\ ∀ (i : Nat) v, σ[i]? = some (some v) -> σ'[i]? = some (some v)
theorem ext_set {σ : St} {i : Nat} {v : Option V} (h : σ[i]? = some none) : Ext σ (σ.set i v) := by
 refine ⟨by simp, fun j w e => ?_⟩
 by_cases hj : i = j
 ·subst hj; rw [h] at e; cases e
 ·rw [List.getElem?_set_ne hj]; exact e
def PTs (X : Cx) (ifs : List Expr) (t : TT) : Prop :=
 ∀ (pins : List (Addr × Obj)) (s : Shared) (σ : St) (H : Hp) (Q : Bool -> Hp -> Prop), Inv X pins σ H s -> t σ H Q ->
  wpAny (model X.prog X.w) X.A (forIn ifs true fun c r => if r = true then do let ok <- isTrue c X.env (eval c X.env); pure (ForInStep.yield ok) else pure (ForInStep.yield r)) (TP X pins σ Q) X.xe s
def tYes : TT := fun _ H Q => Q true H
theorem pts_nil {X : Cx} : PTs X [] tYes := fun _ _ _ H _ I h => wpAny_tests_nil ⟨H, I, h⟩
def CompGo (J : It) (ix : Cap) (g : TG) (tt : TT) (te : TE) (σ : St) (H1 : Hp) (Q : VK) : Prop := ∃ W : Nat -> Nat -> List V -> Hp -> Prop, (∃ m, W 0 m [] H1) /\ ∀ i m ys H, W i m ys H ->
 (J.stop i H /\ ∀ D, H D = none -> Q (.ref D) (upd H D (.lst ys))) ∨
 (J.go i H /\ ys.length < sizeLine /\ ∀ x H', J.yld i H x H' -> g x (capt ix σ) H' fun σ2 H2 => Ext (capt ix σ) σ2 /\ tt σ2 H2 fun b H3 =>
  if b = true then te σ2 H3 fun y H4 => ∃ m', m' < m /\ W (i + 1) m' (ys ++ [y]) H4 else ∃ m', m' < m /\ W (i + 1) m' ys H3)
def tComp (ix : Cap) (wi : TI) (g : TG) (tt : TT) (te : TE) : TE := fun σ H Q => wi σ H fun J H1 => CompGo J ix g tt te σ H1 Q
theorem HOk.track {P : Program} {w : World} {H : Hp} {h : Heap} {a : Addr} {o : HO} (x : HOk P w H h) (hn : H a = none) (new : ObjOk P w (upd H a o) h a o) : HOk P w (upd H a o) h := fun b u e => by
 by_cases hb : b = a
 ·subst hb; rw [ups] at e; cases e; exact new
 ·rw [upd_ne hb] at e
  exact (x b u e).stay (fun c v _ q => q) (fun c q => by rw [upd_ne (neN q hn)]; exact q) fun c xs q => by rw [upd_ne (neN q hn)]; exact q
theorem codeAny_compLoop_own {prog : Program} {w : World} {A : Around} {R : Result -> Shared -> Prop} {s : Shared} {elt target iter : Expr} {ifs : List Expr} {scope : Scope} {pos : Pos} {it acc : Value} {env : Env} (I : Nat -> Shared -> Prop)
  (turn : ∀ n s, I n s -> wpAny (model prog w) A (pyNext it) (fun r s₁ => match r with
   | none => R (.ok .next) s₁
   | some v => wpAny (model prog w) A (letOwnedTupleGo target it v) (fun _ s₁' => wpAny (model prog w) A (assign target env v) (fun _ s₂ =>
     wpAny (model prog w) A (forIn ifs true fun c r => if r = true then do let ok <- isTrue c env (eval c env); pure (ForInStep.yield ok) else pure (ForInStep.yield r)) (fun ok s₃ =>
      if ok = true then wpAny (model prog w) A (eval elt env) (fun x s₄ =>
       wpAny (model prog w) A (call (.builtin "list.append") [acc, x]) (fun _ s₅ => ∃ m, m < n /\ I m s₅) (notedBy (model prog w) A env fun e s' => R (.error e) s') s₄) (notedBy (model prog w) A env fun e s' => R (.error e) s') s₃
      else ∃ m, m < n /\ I m s₃) (notedBy (model prog w) A env fun e s' => R (.error e) s') s₂) (notedBy (model prog w) A env fun e s' => R (.error e) s') s₁') (notedBy (model prog w) A env fun e s' => R (.error e) s') s₁) (notedBy (model prog w) A env fun e s' => R (.error e) s') s)
  (n : Nat) (h : I n s) :
  codeAny (model prog w) A (.compLoop (.ListComp elt [⟨target, iter, ifs, 0⟩] scope pos) 0 it acc env) R s := by
 refine codeAny_loop rfl I (fun n s hI => ?_) n h
 show wpAny _ A ((compTurn (.ListComp elt [⟨target, iter, ifs, 0⟩] scope pos) 0 it acc env).onRaise (fun x => do noteFrame x env; theTreesLotGoes x)) _ _ s
 refine wpAny_noted ?_
 rw [compTurn_list]
 refine wpAny_bind (wpAny_standAt (wpAny_bind (wpAny_mono (turn n s hI) (fun r s₁ h₁ => ?_) fun _ _ h' => h')))
 cases r with
 | none => exact wpAny_pure h₁
 | some v =>
  refine wpAny_bind (wpAny_mono h₁ (fun _ s₁' h₁' => ?_) fun _ _ h' => h')
  refine wpAny_bind (wpAny_mono h₁' (fun _ s₂ h₂ => wpAny_bind (wpAny_mono h₂ (fun ok s₃ h₃ => ?_) fun _ _ h' => h')) fun _ _ h' => h')
  cases ok with
  | false => exact wpAny_pure ⟨rfl, h₃⟩
  | true =>
   exact wpAny_bind (wpAny_bind (wpAny_mono h₃ (fun x s₄ h₄ => wpAny_bind (wpAny_mono h₄ (fun _ s₅ h₅ => wpAny_pure (wpAny_pure ⟨rfl, h₅⟩)) fun _ _ h' => h')) fun _ _ h' => h'))
section
variable {X : Cx}
theorem no_exc {M : Model} {A : Around} {α : Type} {t : Sem α} {Q : α -> Shared -> Prop} {E : Value -> Shared -> Prop} {s : Shared} (h : wpAny M A t Q (fun _ _ => False) s) : wpAny M A t Q E s := wpAny_mono h (fun _ _ q => q) fun _ _ z => z.elim
theorem comp_block {elt tg iter : Expr} {ifs : List Expr} {sc : Scope} {pos : Pos} {N' : List Str} {ix : Cap} {g : TG} {tt : TT} {te : TE} {pins : List (Addr × Obj)} {σ : St} {s : Shared} {Q : VK} {RR : Value -> Addr -> Result -> Shared -> Prop} {E : Value -> Shared -> Prop}
  {itv : Value} (hc : X.calm = true) (ok : CapOk X.N N' X.env.scope sc ix)
  (hg : ∀ C s₀ H₀ ex, PG (X.comp sc N' C s₀ H₀ ex) tg g) (ht : ∀ C s₀ H₀ ex, PTs (X.comp sc N' C s₀ H₀ ex) ifs tt) (he : ∀ C s₀ H₀ ex, PE (X.comp sc N' C s₀ H₀ ex) elt te)
  (hi : PIE X pins σ tg (fun J H1 => CompGo J ix g tt te σ H1 Q) itv s)
  (fin : ∀ (D C : Addr) (s' : Shared) (H' : Hp) (m : Str -> Option Value), Inv X pins σ H' s' -> Q (.ref D) H' -> s'.heap.Ns C m -> H' C = none -> C ≠ X.env.locals -> X.s₀.heap.objs.size <= C -> (∀ x c, X.env.cells.lookup x = some c -> c ≠ C) -> (∀ p ∈ X.pn ++ pins, p.1 ≠ C) ->
   RR (.ref D) C (.ok .next) s') :
  wpAny (model X.prog X.w) X.A (newList []) (fun acc s₃ => wpAny (model X.prog X.w) X.A (newFunctionEnv sc X.env.globals (clOf X.env sc.names []) [] X.env.qual none .none (some X.env)) (fun cenv s₄ =>
   codeAny (model X.prog X.w) X.A (.compStart (.ListComp elt [⟨tg, iter, ifs, 0⟩] sc pos) 0 itv acc { cenv with scope := relabel sc X.env }) (RR acc cenv.locals) s₄) E s₃) E s := by
 obtain ⟨it, fp, tn, J, H2, rfl, I2, T, st2, f2, W, ⟨m0, w0⟩, turn⟩ := hi
 refine wpAny_newObj_type (wpAny_newFunctionEnv ok.nocell (by intro y hy; simp at hy) (fun h₁ hns₁ hsb₁ => ?_) ok.kind)
 dsimp only at hns₁ hsb₁ ⊢
 generalize hHD : s.heap.push { cls := .type "list", dict := none, data := .seq ([] : List Value).toArray } = hD at hns₁ hsb₁ ⊢
 have hCs : hD.objs.size = s.heap.objs.size + 1 := by rw [<- hHD, Heap.size_push]
 have upC : s.heap.objs.size < hD.objs.size := by rw [hCs]; exact Nat.lt_succ_self _
 have hDC : s.heap.objs.size ≠ hD.objs.size := by rw [hCs]; exact Nat.ne_of_lt (Nat.lt_succ_self _)
 have below : ∀ b o, s.heap.get? b = some o -> b ≠ hD.objs.size /\ b ≠ s.heap.objs.size := fun b o e => by
  have := Heap.lt_size e
  exact ⟨Nat.ne_of_lt (by rw [hCs]; exact Nat.lt_succ_of_lt this), Nat.ne_of_lt this⟩
 have old : ∀ b o, s.heap.get? b = some o -> h₁.get? b = some o := fun b o e => hsb₁.extBut b o (below b o e).1 (Heap.get?_push_of_some _ (hHD ▸ Heap.get?_push_of_some _ e))
 have hacc : h₁.get? s.heap.objs.size = some { cls := .type "list", data := .seq ([] : List Value).toArray 0 } := hsb₁.extBut _ _ hDC (Heap.get?_push_of_some _ (hHD ▸ Heap.get?_push_size _ rfl))
 have fpo : ∀ b ∈ fp, b < s.heap.objs.size := fun b hb => let ⟨o, e, _⟩ := T.obj _ _ st2 b hb; Heap.lt_size e
 have cellX : ∀ x c, (clOf X.env sc.names []).lookup x = some c -> X.env.cells.lookup x = some c := fun x c e => clOf_from (fun p hp => absurd hp (by simp)) e
 have cellLt : ∀ x c, X.env.cells.lookup x = some c -> c < s.heap.objs.size := fun x c e => let ⟨v, z⟩ := I2.cell x c e; z.lt
 have hasC : ∀ x, (x, NameKind.free) ∈ sc.names -> ∃ c, (clOf X.env sc.names []).lookup x = some c := fun x hx => by
  have h1 := I2.ok.has x (ok.fre (x, .free) hx rfl)
  exact lookup_ne_none (clOf_has (.inr ⟨hx, h1⟩))
 have okX : (X.comp sc N' hD.objs.size s H2 fp).Ok := by
  refine ⟨I2.ok.mod, ok.kind, I2.ok.glob, I2.ok.blt, ?_, ?_, ?_, ?_, I2.ok.hd, I2.ok.frames, .inl rfl, ?_, I2.bs, Nat.le_trans I2.ok.bsz I2.sz, ?_, ?_, I2.stack, I2.stkFree⟩
  ·exact Nat.le_of_lt upC
  ·intro x y c h1 h2
   exact I2.ok.inj x y c (cellX x c h1) (cellX y c h2)
  ·intro x hx
   have hx' : (relabel sc X.env).names.lookup x = some .cell \/ (relabel sc X.env).names.lookup x = some .free := hx
   have : ∃ k, sc.names.lookup x = some k /\ (k = .free \/ k = .cell) := by
    rcases hx' with h | h
    ·obtain ⟨k, e, z⟩ := relabel_lookup h
     rcases z with z | ⟨z, _⟩
     ·exact ⟨k, e, .inr z.symm⟩
     ·exact ⟨k, e, .inl z⟩
    ·obtain ⟨k, e, z⟩ := relabel_lookup h
     rcases z with z | ⟨_, z⟩
     ·exact ⟨k, e, .inl z.symm⟩
     ·cases z
   obtain ⟨k, e, z⟩ := this
   rcases z with rfl | rfl
   ·exact hasC x (PySem.mem_of_lookup e)
   ·exact absurd rfl (ok.nocell _ (PySem.mem_of_lookup e))
  ·intro x c h _
   cases h
  ·intro b hb
   refine ⟨?_, fun x c e => (f2 b hb).2.2.2.2.1 x c (cellX x c e)⟩
   exact Nat.ne_of_lt (by rw [hCs]; exact Nat.lt_succ_of_lt (fpo b hb))
  ·intro b o e hb
   rcases (f2 b hb).2.2.2.1 with z | z
   ·exact I2.ok.noex b o e z
   ·exact absurd (Nat.lt_of_lt_of_le (Heap.lt_size (I2.ok.bs b o e).1) z) (Nat.lt_irrefl _)
  ·intro b hb z
   rcases List.mem_cons.mp (I2.stkSub b z) with z | z
   ·exact (f2 b hb).2.1 z
   ·exact (f2 b hb).2.2.1 z
 have hnD : H2 s.heap.objs.size = none := I2.hok.fresh (Nat.le_refl _)
 have hnC : H2 hD.objs.size = none := I2.hok.fresh (Nat.le_of_lt upC)
 have nofsD : ∀ a, s.heap.objs.size <= a -> a ∉ frs X.stack := fun a ha z => by
  rcases List.mem_cons.mp (I2.stkSub a z) with z | z
  ·exact absurd (Nat.lt_of_lt_of_le I2.lt ha) (by rw [z]; exact Nat.lt_irrefl _)
  ·exact I2.nofs ha z
 have start : Inv (X.comp sc N' hD.objs.size s H2 fp) [(s.heap.objs.size, { cls := .type "list", data := .seq ([] : List Value).toArray 0 })] (capt ix σ) H2 { s with heap := h₁, toks := s.toks + ([] : List (Str × Value)).length } := by
  refine ⟨okX, rfl, I2.bare, Un.kept old, ⟨_, hns₁, ?_⟩, fun x c e => ?_, hnC, fun x c e => I2.freeC x c (cellX x c e), fun p hp => ?_, I2.hok.kept old, ?_⟩
  ·intro i x v hN hv hvis
   have hl : i < ix.length := by rw [ok.len]; exact (List.getElem?_eq_some_iff.mp hN).1
   have hv' : (ix.map fun o => (o.bind fun j => σ[j]?).join)[i]? = some (some v) := hv
   rw [List.getElem?_map, List.getElem?_eq_getElem hl] at hv'
   have hv'' : ((ix[i].bind fun j => σ[j]?).join) = some v := Option.some.inj hv'
   cases ej : ix[i] with
   | none => rw [ej] at hv''; cases hv''
   | some j =>
    rw [ej] at hv''
    have hσ : σ[j]? = some (some v) := by
     have z : (σ[j]?).join = some v := hv''
     cases q : σ[j]? with
     | none => rw [q] at z; cases z
     | some o => rw [q] at z; exact congrArg some z
    obtain ⟨x', e1, e2, e3⟩ := ok.cap i j (by rw [List.getElem?_eq_getElem hl, ej])
    rw [show N'[i]? = some x from hN] at e1
    cases e1
    have hk := ok.fre (x, .free) (PySem.mem_of_lookup e3) rfl
    obtain ⟨m, hm, hl'⟩ := I2.loc
    obtain ⟨u, ru, lk⟩ := hl' j x v e2 hσ (hk.elim (fun z => .inr (.inl z)) fun z => .inr (.inr z))
    refine ⟨u, ru, .inr ⟨?_, ?_⟩⟩
    ·show (relabel sc X.env).names.lookup x = some .cell \/ (relabel sc X.env).names.lookup x = some .free
     obtain ⟨k', q1, q2⟩ := relabel_has (env := X.env) e3
     rcases q2 with q2 | ⟨_, q2⟩
     ·exact .inr (q1.trans (congrArg some q2))
     ·exact .inl (q1.trans (congrArg some q2))
    ·obtain ⟨c, hc'⟩ := hasC x (PySem.mem_of_lookup e3)
     refine ⟨c, hc', ?_⟩
     rcases lk with ⟨z, _⟩ | ⟨_, c', ec, ⟨o, ho, hd⟩⟩
     ·have z' : X.env.scope.names.lookup x = some .local := z
      rcases hk with hk | hk
      ·rw [z'] at hk; cases hk
      ·rw [z'] at hk; cases hk
     ·rw [cellX x c hc'] at ec
      cases ec
      exact ⟨o, old _ _ ho, hd⟩
  ·obtain ⟨v, o, ho, hd⟩ := I2.cell x c (cellX x c e)
   exact ⟨v, o, old _ _ ho, hd⟩
  ·have e : p = (s.heap.objs.size, { cls := .type "list", data := .seq ([] : List Value).toArray 0 }) := by simpa using hp
   subst e
   exact ⟨hacc, hnD, hDC, nofsD _ (Nat.le_refl _), fun v z => by cases z⟩
  ·show (ix.map _).length = N'.length
   rw [List.length_map]
   exact ok.len
 have st1 : tn 0 h₁ := T.keep _ _ _ st2 fun b hb o e => old b o e
 have loop : ∀ s₃ : Shared, s₃ = { s with heap := h₁, toks := s.toks + ([] : List (Str × Value)).length } ->
   codeAny (model X.prog X.w) X.A (.compLoop (.ListComp elt [⟨tg, iter, ifs, 0⟩] sc pos) 0 (.ref it) (.ref s.heap.objs.size) (compEnvC sc (clOf X.env sc.names []) hD.objs.size X.env))
    (RR (.ref s.heap.objs.size) hD.objs.size) s₃ := by
  rintro s₃ rfl
  have fpI : ∀ {H' : Hp} {o : Obj}, (∀ b ∈ fp, H' b = none) -> ∀ b ∈ fp, FpOk (X.comp sc N' hD.objs.size s H2 fp) [(s.heap.objs.size, o)] H' b := fun {H' o} hn b hb => by
   have hlt := fpo b hb
   refine ⟨hn b hb, (okX.exf b hb).1, okX.exfs b hb, .inl hb, (okX.exf b hb).2, fun p hp => ?_⟩
   have e : p = (s.heap.objs.size, o) := by simpa using hp
   subst e
   exact Nat.ne_of_gt hlt
  refine codeAny_compLoop_own (fun n s' => ∃ i ys its k H', Inv (X.comp sc N' hD.objs.size s H2 fp) [(s.heap.objs.size, { cls := .type "list", data := .seq its.toArray k })] (capt ix σ) H' s' /\ Vals ys its /\ ys.length <= sizeLine /\ tn i s'.heap /\ (∀ b ∈ fp, H' b = none) /\ W i n ys H')
   ?_ m0 ⟨0, [], [], 0, H2, start, .nil, Nat.zero_le _, st1, fun b hb => (f2 b hb).1, w0⟩
  rintro n s4 ⟨i, ys, its, k, H4, I4, r4, z4, st4, fr4, w4⟩
  rcases turn i n ys H4 w4 with ⟨stop, q⟩ | ⟨go, hz, step⟩
  ·refine no_exc (thn (T.done (X.comp sc N' hD.objs.size s H2 fp) rfl rfl rfl hc i _ s4 _ H4 (fun _ _ => False) I4 (fpI fr4) st4 stop) fun r s5 ⟨hr, I5⟩ => ?_)
   subst hr
   show RR (.ref s.heap.objs.size) hD.objs.size (.ok .next) s5
   obtain ⟨pD, nD, _, _, _⟩ := I5.pin (s.heap.objs.size, { cls := .type "list", data := .seq its.toArray k }) (by simp)
   obtain ⟨m5, hm5, _⟩ := I5.loc
   have okD : HOk X.prog X.w (upd H4 s.heap.objs.size (.lst ys)) s5.heap := I5.hok.track nD ⟨z4, its, k, r4, pD⟩
   have un : Un (frs X.stack) fp H2 (upd H4 s.heap.objs.size (.lst ys)) s.heap s5.heap := by
    have B : Un (frs X.stack) fp H2 H4 s.heap s5.heap := I5.base
    have ne : ∀ b u, H2 b = some u -> b ≠ s.heap.objs.size := fun b u e => neN e hnD
    refine ⟨B.keep, B.slot, fun b o e n hb => ?_, B.there, fun b xs e => ?_, fun b o u e => ?_, fun b ps e => ?_⟩
    ·rw [upd_ne (below b o e).2]; exact B.free b o e n hb
    ·rw [upd_ne (ne b _ e)]; exact B.tups b xs e
    ·rw [upd_ne (ne b _ e)]; exact B.frzs b o u e
    ·rw [upd_ne (ne b _ e)]; exact B.tbls b ps e
   have IX : Inv X pins σ (upd H4 s.heap.objs.size (.lst ys)) s5 := I2.call' (ch := fp) I5.os un okD I5.bare fun b hb => ⟨(f2 b hb).2.2.2.1, (f2 b hb).2.1, (f2 b hb).2.2.2.2.1, (f2 b hb).2.2.2.2.2⟩
   refine fin _ _ s5 _ m5 IX (q _ nD) hm5 ?_ (Nat.ne_of_gt (Nat.lt_trans I2.lt upC)) (Nat.le_of_lt (Nat.lt_of_le_of_lt I2.sz upC)) (fun x c e => Nat.ne_of_lt (Nat.lt_trans (cellLt x c e) upC)) (fun p hp => Nat.ne_of_lt (Nat.lt_trans (Heap.lt_size (I2.pin p hp).1) upC))
   rw [upd_ne (Ne.symm hDC)]; exact I5.free
  ·refine no_exc (thn (T.item (X.comp sc N' hD.objs.size s H2 fp) rfl rfl rfl hc i _ s4 _ H4 (fun _ _ => False) I4 (fpI fr4) st4 go) fun r s5 ⟨u, hr, h5⟩ => ?_)
   subst hr
   refine no_exc (thn h5 fun _ s6 ⟨x, H6, I6, r6, y6, st6, fr6⟩ => ?_)
   have I6' := I6.pinned (fpI fr6) (T.obj _ _ st6)
   refine no_exc (thn (hg _ _ _ _ _ s6 _ H6 x u _ I6' r6 (step x H6 y6)) fun _ s7 ⟨σ7, H7, I7, x7, q7⟩ => ?_)
   refine no_exc (thn (ht _ _ _ _ _ s7 σ7 H7 _ I7 q7) fun b s8 ⟨H8, I8, q8⟩ => ?_)
   have back : ∀ {s9 : Shared} {H9 : Hp}, Inv (X.comp sc N' hD.objs.size s H2 fp) ([(s.heap.objs.size, { cls := .type "list", data := .seq its.toArray k })] ++ pinsAt fp s6.heap) σ7 H9 s9 ->
     Inv (X.comp sc N' hD.objs.size s H2 fp) [(s.heap.objs.size, { cls := .type "list", data := .seq its.toArray k })] (capt ix σ) H9 s9 /\ tn (i + 1) s9.heap /\ (∀ b ∈ fp, H9 b = none) := fun {s9 H9} J9 => by
    refine ⟨(J9.unpinned).weak x7.1 x7.2, T.keep _ _ _ st6 fun b hb o e => (J9.pin (b, o) (List.mem_append_right _ (List.mem_append_right _ (mem_pinsAt hb e)))).1, fun b hb => ?_⟩
    obtain ⟨o, e, d⟩ := T.obj _ _ st6 b hb
    exact (J9.pin (b, o) (List.mem_append_right _ (List.mem_append_right _ (mem_pinsAt hb e)))).2.1
   cases b with
   | false =>
    rw [if_neg Bool.false_ne_true] at q8 ⊢
    obtain ⟨m', hm, w8⟩ := q8
    obtain ⟨J8, st8, fr8⟩ := back I8
    exact ⟨m', hm, i + 1, ys, its, k, H8, J8, r4, z4, st8, fr8, w8⟩
   | true =>
    rw [if_pos rfl] at q8 ⊢
    refine no_exc (thn (he _ _ _ _ _ s8 σ7 H8 _ I8 q8) fun y s9 ⟨v9, H9, I9, r9, q9⟩ => ?_)
    obtain ⟨m', hm, w9⟩ := q9
    obtain ⟨J9, st9, fr9⟩ := back I9
    obtain ⟨pD, nD, neC, nf, _⟩ := J9.pin (s.heap.objs.size, { cls := .type "list", data := .seq its.toArray k }) (by simp)
    have hlen := r4.length
    refine call_meets F.slot_list_append ⟨_, pD, rfl⟩ F.entry_list_append (F.args_list_append_2 _ _) (PySem.list_append s.heap.objs.size its.toArray k y (by rw [List.size_toArray]; omega)) ⟨pD, ?_⟩
    have q := PySem.IsL.update pD (·.push y)
    have ep : its.toArray.push y = (its ++ [y]).toArray := by simp
    dsimp only at q
    rw [ep] at q
    obtain ⟨k', q⟩ : ∃ k', (s9.heap.update s.heap.objs.size (Obj.mapSeq (·.push y))).get? s.heap.objs.size = some { cls := .type "list", data := .seq (its ++ [y]).toArray k' } := ⟨_, q⟩
    have J0 : Inv (X.comp sc N' hD.objs.size s H2 fp) [] (capt ix σ) H9 s9 := J9.pins_of fun p hp => absurd hp (by simp)
    have J1 : Inv (X.comp sc N' hD.objs.size s H2 fp) [] (capt ix σ) H9 { s9 with heap := s9.heap.update s.heap.objs.size (Obj.mapSeq (·.push y)) } :=
     J0.turned (it := s.heap.objs.size) (t' := s9.toks) (fun b o hb e => (Heap.get?_update_other _ _ (Ne.symm hb)).trans e) nD neC (.inr (Nat.le_refl _)) (fun x c e => Nat.ne_of_lt (cellLt x c (cellX x c e))) fun p hp => absurd hp (by simp)
    refine ⟨m', hm, i + 1, ys ++ [v9], its ++ [y], k', H9, J1.pins_of fun p hp => ?_, r4.append (.cons r9 .nil), ?_, T.keep _ _ _ st9 fun b hb o e => (Heap.get?_update_other _ _ ?_).trans e, fr9, w9⟩
    ·have e : p = _ := List.mem_singleton.mp hp
     subst e
     exact ⟨q, nD, neC, nf, fun v z => by cases z⟩
    ·rw [List.length_append, List.length_singleton]; omega
    ·exact Nat.ne_of_gt (fpo b hb)
 exact codeAny_compStart_list (loop _ rfl) (T.self _ 0 _ _ _ st1 (loop _ rfl))
theorem Inv.letGo {pins : List (Addr × Obj)} {σ : St} {H : Hp} {s : Shared} {C : Addr} {h' : Heap} (I : Inv X pins σ H s) (hs : Heap.SameBut C s.heap h') (h0 : H C = none) (h1 : C ≠ X.env.locals) (h2 : X.s₀.heap.objs.size <= C) (h3 : ∀ x c, X.env.cells.lookup x = some c -> c ≠ C)
  (h4 : ∀ p ∈ X.pn ++ pins, p.1 ≠ C) : Inv X pins σ H { s with heap := h' } := I.turned (t' := s.toks) (fun b o hb e => (hs.2 b hb).trans e) h0 h1 (.inr h2) h3 h4
theorem pe_comp {elt tg iter : Expr} {ifs : List Expr} {sc : Scope} {pos : Pos} (N' : List Str) (ix : Cap) {wi : TI} {g : TG} {tt : TT} {te : TE} (hc : X.calm = true) (hok : capOk X.N N' X.env.scope sc ix = true)
  (hi : PI X tg iter wi) (hg : ∀ C s₀ H₀ ex, PG (X.comp sc N' C s₀ H₀ ex) tg g) (ht : ∀ C s₀ H₀ ex, PTs (X.comp sc N' C s₀ H₀ ex) ifs tt) (he : ∀ C s₀ H₀ ex, PE (X.comp sc N' C s₀ H₀ ex) elt te)
  (hs : ∀ x, foldedSetIterable iter X.env x = pure x := by intro _; rfl) : PE X (.ListComp elt [⟨tg, iter, ifs, 0⟩] sc pos) (tComp ix wi g tt te) := by
 intro pins s σ H Q I h
 have ok := capOk_of hok
 rw [eval_ListComp]
 refine wpAny_comprehension_free (use := none) rfl hs (closureFor_eq fun p hp hk => I.ok.has p.1 (ok.fre p hp hk)) ok.kind ok.loc (thn (hi pins s σ H _ I h) fun v s1 h1 => thn h1 fun itv s2 h2 => ?_)
 refine comp_block (RR := fun acc C => compPost (model X.prog X.w) X.A X.xe none (EP X pins σ Q) acc C) hc ok hg ht he h2 ?_
 intro D C s' H' m I' q hm h0 h1 h2 h3 h4
 exact ⟨m, hm, fun h' hsb => ⟨.ref D, H', I'.letGo hsb h0 h1 h2 h3 h4, rfl, q⟩⟩
theorem ps_setComp {elt tg iter : Expr} {ifs : List Expr} {sc : Scope} {pos spos py : Pos} {i : Nat} {y : Str} (N' : List Str) (ix : Cap) {wi : TI} {g : TG} {tt : TT} {te : TE} (hc : X.calm = true) (hok : capOk X.N N' X.env.scope sc ix = true)
  (hN : X.N.Nodup) (hy : X.N[i]? = some y) (hx : Loc X.env.scope y)
  (hi : PI X tg iter wi) (hg : ∀ C s₀ H₀ ex, PG (X.comp sc N' C s₀ H₀ ex) tg g) (ht : ∀ C s₀ H₀ ex, PTs (X.comp sc N' C s₀ H₀ ex) ifs tt) (he : ∀ C s₀ H₀ ex, PE (X.comp sc N' C s₀ H₀ ex) elt te)
  (hs : ∀ x, foldedSetIterable iter X.env x = pure x := by intro _; rfl) (hsw : swapsWith (.ListComp elt [⟨tg, iter, ifs, 0⟩] sc pos) (some (.Name y py)) spos.line X.env = pure true := by rfl)
  (hf : X.fn y = true \/ X.env.scope.names.lookup y = some .local := by first | exact .inl rfl | exact .inr rfl | assumption) :
  PS X (.Assign [.Name y py] (.ListComp elt [⟨tg, iter, ifs, 0⟩] sc pos) spos) (tAsg (tComp ix wi g tt te) (gName i)) := by
 intro pins s σ H D I h
 have ok := capOk_of hok
 rw [exec_Assign_Name_used _ _ _ _ hsw]
 refine wpAny_bind (wpAny_standAt (wpAny_bind ?_))
 show wpAny _ X.A (do let _ <- comprehension (.ListComp elt [⟨tg, iter, ifs, 0⟩] sc pos) sc X.env _ (newList []) false (eval iter X.env) (some (assign (.Name y py) X.env))) _ _ s
 refine wpAny_bind (wpAny_mono (wpAny_comprehension_free (use := some (assign (.Name y py) X.env)) (Q := fun _ s' => SP X pins D .next s') rfl hs (closureFor_eq fun p hp hk => I.ok.has p.1 (ok.fre p hp hk)) ok.kind ok.loc
  (thn (hi pins s σ H _ I h) fun v s1 h1 => thn h1 fun itv s2 h2 => ?_)) (fun _ s' hq => wpAny_pure (wpAny_pure hq)) fun _ _ e => e)
 refine comp_block (Q := fun x H1 => gName i x σ H1 D.nx) (RR := fun acc C => compPost (model X.prog X.w) X.A X.xe (some (assign (.Name y py) X.env)) (fun _ s' => SP X pins D .next s') acc C) hc ok hg ht he h2 ?_
 intro Dl C s' H' m I' q hm h0 h1 h2 h3 h4
 refine wpAny_assign_Name (store_ok2 I' hN hy hx (v := .ref Dl) rfl (fun s3 I3 sb => ?_) hf)
 obtain ⟨a, hsb, ha⟩ := sb
 have hne : C ≠ a := by
  rcases ha with e | e
  ·rw [e]; exact h1
  ·exact Ne.symm (h3 y a e)
 exact ⟨m, hm.sameBut hsb hne, fun h' hs' => ⟨_, H', I3.letGo hs' h0 h1 h2 h3 h4, q⟩⟩
end
section
variable {ix : Cap} {tt : TT} {te : TE} {g : TG} {σ : St} {H : Hp} {Q : VK}
def Nxt (Pv : Nat -> List V -> Hp -> Prop) (n i : Nat) (ys : List V) : VK := fun y H2 => ∃ m', m' < n - i /\ m' = n - (i + 1) /\ i + 1 <= n /\ (ys ++ [y]).length = i + 1 /\ Pv (i + 1) (ys ++ [y]) H2
theorem nxt {Pv : Nat -> List V -> Hp -> Prop} {n i : Nat} {ys : List V} {y : V} {H2 : Hp} (hi : i < n) (hl : ys.length = i) (h : Pv (i + 1) (ys ++ [y]) H2) : Nxt Pv n i ys y H2 :=
 ⟨n - (i + 1), by omega, rfl, hi, by rw [List.length_append, List.length_singleton, hl], h⟩
theorem comp_range {lo : Int} {n j : Nat} (Pv : Nat -> List V -> Hp -> Prop) (hj : (capt ix σ)[j]? = some none) (h0 : Pv 0 [] H) (hn : n < sizeLine)
  (hs : ∀ i ys H, i < n -> ys.length = i -> Pv i ys H -> te ((capt ix σ).set j (some (.int (lo + i)))) H (Nxt Pv n i ys))
  (hd : ∀ ys H, ys.length = n -> Pv n ys H -> ∀ D, H D = none -> Q (.ref D) (upd H D (.lst ys))) : CompGo (Itr lo n) ix (gName j) tYes te σ H Q := by
 refine ⟨fun i m ys H => m = n - i /\ i <= n /\ ys.length = i /\ Pv i ys H, ⟨n, by simp, Nat.zero_le _, rfl, h0⟩, ?_⟩
 rintro i m ys H ⟨rfl, hi, hl, p⟩
 by_cases hlt : i < n
 ·refine .inr ⟨hlt, by omega, fun x H' y => ?_⟩
  obtain ⟨e, y⟩ := y
  subst e y
  refine ⟨ext_set hj, ?_⟩
  unfold tYes
  dsimp only
  rw [if_pos rfl]
  exact hs i ys _ hlt hl p
 ·have e : i = n := by omega
  subst e
  exact .inl ⟨Nat.le_refl _, hd ys H hl p⟩
theorem comp_str {x : Str} {j : Nat} (Pv : Nat -> List V -> Hp -> Prop) (hj : (capt ix σ)[j]? = some none) (h0 : Pv 0 [] H) (hn : x.cps.size < sizeLine)
  (hs : ∀ i c ys H, x.cps[i]? = some c -> ys.length = i -> Pv i ys H -> te ((capt ix σ).set j (some (.str ⟨#[c]⟩))) H (Nxt Pv x.cps.size i ys))
  (hd : ∀ ys H, ys.length = x.cps.size -> Pv x.cps.size ys H -> ∀ D, H D = none -> Q (.ref D) (upd H D (.lst ys))) : CompGo (Its x) ix (gName j) tYes te σ H Q := by
 refine ⟨fun i m ys H => m = x.cps.size - i /\ i <= x.cps.size /\ ys.length = i /\ Pv i ys H, ⟨x.cps.size, by simp, Nat.zero_le _, rfl, h0⟩, ?_⟩
 rintro i m ys H ⟨rfl, hi, hl, p⟩
 by_cases hlt : i < x.cps.size
 ·refine .inr ⟨hlt, by omega, fun v H' y => ?_⟩
  obtain ⟨e, c, hc, ev⟩ := y
  subst e ev
  refine ⟨ext_set hj, ?_⟩
  unfold tYes
  dsimp only
  rw [if_pos rfl]
  exact hs i c ys _ hc hl p
 ·have e : i = x.cps.size := by omega
  subst e
  exact .inl ⟨rfl, hd ys H hl p⟩
theorem comp_list {K : PySem.W.Frag} {a : Addr} {xs : List V} {j : Nat} (Pv : Nat -> List V -> Hp -> Prop) (hj : (capt ix σ)[j]? = some none) (h0 : Pv 0 [] H) (hn : xs.length < sizeLine) (hl' : ∀ i ys H, i <= xs.length -> Pv i ys H -> SqL K H a xs)
  (hs : ∀ i x ys H, xs[i]? = some x -> ys.length = i -> Pv i ys H -> te ((capt ix σ).set j (some x)) H (Nxt Pv xs.length i ys))
  (hd : ∀ ys H, ys.length = xs.length -> Pv xs.length ys H -> ∀ D, H D = none -> Q (.ref D) (upd H D (.lst ys))) : CompGo (Itl K a) ix (gName j) tYes te σ H Q := by
 refine ⟨fun i m ys H => m = xs.length - i /\ i <= xs.length /\ ys.length = i /\ Pv i ys H, ⟨xs.length, by simp, Nat.zero_le _, rfl, h0⟩, ?_⟩
 rintro i m ys H ⟨rfl, hi, hl, p⟩
 have q := hl' i ys H hi p
 by_cases hlt : i < xs.length
 ·refine .inr ⟨⟨xs, xs[i], q, by simp [hlt]⟩, by omega, fun v H' y => ?_⟩
  obtain ⟨e, y⟩ := y
  subst e
  refine ⟨ext_set hj, ?_⟩
  unfold tYes
  dsimp only
  rw [if_pos rfl]
  exact hs i v ys _ (y xs q) hl p
 ·have e : i = xs.length := by omega
  subst e
  exact .inl ⟨⟨xs, q, Nat.le_refl _⟩, hd ys H hl p⟩
theorem comp_tup {K : PySem.W.Frag} {a : Addr} {xs : List V} {j : Nat} (Pv : Nat -> List V -> Hp -> Prop) (hj : (capt ix σ)[j]? = some none) (h0 : Pv 0 [] H) (hn : xs.length < sizeLine) (hl' : ∀ i ys H, i <= xs.length -> Pv i ys H -> SqT K H a xs)
  (hs : ∀ i x ys H, xs[i]? = some x -> ys.length = i -> Pv i ys H -> te ((capt ix σ).set j (some x)) H (Nxt Pv xs.length i ys))
  (hd : ∀ ys H, ys.length = xs.length -> Pv xs.length ys H -> ∀ D, H D = none -> Q (.ref D) (upd H D (.lst ys))) : CompGo (Itt K a) ix (gName j) tYes te σ H Q := by
 refine ⟨fun i m ys H => m = xs.length - i /\ i <= xs.length /\ ys.length = i /\ Pv i ys H, ⟨xs.length, by simp, Nat.zero_le _, rfl, h0⟩, ?_⟩
 rintro i m ys H ⟨rfl, hi, hl, p⟩
 have q := hl' i ys H hi p
 by_cases hlt : i < xs.length
 ·refine .inr ⟨⟨xs, xs[i], q, by simp [hlt]⟩, by omega, fun v H' y => ?_⟩
  obtain ⟨e, y⟩ := y
  subst e
  refine ⟨ext_set hj, ?_⟩
  unfold tYes
  dsimp only
  rw [if_pos rfl]
  exact hs i v ys _ (y xs q) hl p
 ·have e : i = xs.length := by omega
  subst e
  exact .inl ⟨⟨xs, q, Nat.le_refl _⟩, hd ys H hl p⟩
end
end L2
end
section
namespace L2
open PySem PySem.Spec PyProof.Rows
section
variable {X : Cx}
def CDivB (i j : Int) : Prop := 0 < j /\ j < 2 ^ 64
theorem op_fdivB : OpR X (binaryOp .FloorDiv) (rI CDivB fun i j => .int (i / j)) := opI fun i j _ _ _ _ _ hc q => by
 have h1 : (0 : Int) < j := hc.1
 have h2 : j < 2 ^ 64 := hc.2
 refine floordiv_int (by omega) (by rw [Int.fdiv_eq_ediv_of_nonneg i (by omega)]; exact q) (.inl (PyProof.noPylong_of_log2 ?_))
 have h3 : j.natAbs < 2 ^ 64 := by omega
 have h0 : j.natAbs ≠ 0 := by omega
 have h4 : j.natAbs.log2 < 64 := (Nat.log2_lt h0).mpr h3
 omega
theorem strsAre_of {ys : List Str} : ∀ {us : List Value}, Vals (ys.map V.str) us -> StrsAre us ys := by
 induction ys with
 | nil => intro us r; rw [List.map_nil] at r; cases r; exact .nil
 | cons n ns ih =>
  intro us r
  rw [List.map_cons] at r
  cases r with
  | cons r1 r2 =>
   obtain ⟨t, e⟩ := r1
   subst e
   exact .cons n t (ih r2)
def rJoin (K : PySem.W.Frag) : V -> List V -> Hp -> VK -> Prop := fun x vs H Q => ∃ (sep : Str) (p : Addr) (ys : List Str), x = .str sep /\ vs = [.ref p] /\ SqL K H p (ys.map V.str) /\ (ys.map (·.length)).sum + ys.length * sep.length <= 16777216 /\ Q (.str (Txt.join sep ys)) H
theorem mt_join : MtR X "str.join" (rJoin X.K) := by
 intro pins s σ H x vs v us Q I rx rv h
 obtain ⟨sep, p, ys, rfl, rfl, hq, hz, q⟩ := h
 obtain ⟨t, rfl⟩ := rx
 obtain ⟨u, rfl, ru⟩ := rv.one
 cases ru
 obtain ⟨its, r, pl, _⟩ := I.list hq
 exact join_list pl.isList (by simpa using strsAre_of r) hz fun t' k => ⟨.str _, H, I.tok k, ⟨t', rfl⟩, q⟩
def rSlS : V -> Option Int -> Option Int -> Hp -> VK -> Prop := fun x lo hi H Q => ∃ z : Str, x = .str z /\ z.length <= sizeLine /\ Q (.str (Txt.slice z lo hi)) H
theorem sl_str : SlR X rSlS := by
 intro pins s σ H x v vl vu lo hi sl Q I rx hs pl pu h
 obtain ⟨z, rfl, hz, q⟩ := h
 obtain ⟨t, rfl⟩ := rx
 refine ⟨"str", _, F.slot_str_getitem.lookup, typeIs_str _ _ _, ?_⟩
 have hq : ∀ (o : Str), o = Txt.slice z lo hi -> o.length <= sizeLine /\ ∀ t' k, EP X pins σ Q (.str o t') { s with toks := k } := fun o e => by
  subst e
  exact ⟨Nat.le_trans (Txt.slice_le z _ _) hz, fun t' k => ⟨.str _, H, I.tok k, ⟨t', rfl⟩, q⟩⟩
 obtain ⟨os, hos, hcs, hds⟩ := hs
 cases pl with
 | none =>
  cases pu with
  | none => exact wpAny_getItem_str_slice (l := none) (u := none) (st := none) ⟨os, hos, hcs, hds⟩ rfl (post_val_or_str (hq _ rfl))
  | int j uj => exact wpAny_getItem_str_slice (l := none) (u := some (j, uj)) (st := none) ⟨os, hos, hcs, hds⟩ rfl (post_val_or_str (hq _ rfl))
 | int i ui =>
  cases pu with
  | none => exact wpAny_getItem_str_slice (l := some (i, ui)) (u := none) (st := none) ⟨os, hos, hcs, hds⟩ rfl (post_val_or_str (hq _ rfl))
  | int j uj => exact wpAny_getItem_str_slice (l := some (i, ui)) (u := some (j, uj)) (st := none) ⟨os, hos, hcs, hds⟩ rfl (post_val_or_str (hq _ rfl))
theorem call_all (hc : X.calm = true) : CallR X (.builtin "all") (fun xs H Q => ∃ (p : Addr) (bs : List Bool), xs = [.ref p] /\ SqL X.K H p (bs.map V.bl) /\ Q (.bl (bs.all id)) H) := by
 intro pins s σ H xs us Q I r h
 obtain ⟨p, bs, rfl, hq, q⟩ := h
 obtain ⟨u, rfl, ru⟩ := vals1 r
 cases ru
 obtain ⟨its, rv, pl, hz⟩ := I.list hq
 have hlen := rv.length
 rw [List.length_map] at hlen
 have hlt : p < s.heap.objs.size := by obtain ⟨_, e, _⟩ := pl.isList; exact Heap.lt_size e
 refine call_all_walk (wpAny_pyIter_list pl.isList ?_)
 refine ⟨s.heap.objs.size, _, _, _, _, _, fun i => bs.getD i true, rfl, Walks.list (A := X.A.in1) (I.ok.hd hc) s.heap.objs.size p (Nat.ne_of_lt hlt) its.toArray, ⟨⟨_, Heap.get?_push_size _ rfl, rfl, rfl⟩, pl.isList.push _⟩, ?_, ?_⟩
 ·intro i v s' Q' E' hv hQ
  have hv' : its[i]? = some v := by simpa using hv
  have hi : i < bs.length := by
   have := (List.getElem?_eq_some_iff.mp hv').1
   omega
  obtain ⟨u', e, ru⟩ := rv.get (i := i) (x := V.bl bs[i]) (by rw [List.getElem?_map, List.getElem?_eq_getElem hi] <;> rfl)
  rw [hv'] at e
  cases e
  cases ru
  dsimp only at hQ
  rw [List.getD_eq_getElem?_getD, List.getElem?_eq_getElem hi] at hQ
  exact wpAny_truthy_bool hQ
 ·intro h' tk kk
  have I1 : Inv X pins σ H { s with heap := s.heap.push { cls := .type "list_iterator", data := .fields #[.ref p, .int 0 0] } } := I.kept (t' := s.toks) fun b o e => Heap.get?_push_of_some _ e
  obtain ⟨f0, f1, f2, f3, f4, f5⟩ := I.fpOk (b := s.heap.objs.size) (Nat.le_refl _) (I.hok.fresh (Nat.le_refl _))
  have I2 : Inv X pins σ H { s with heap := h', toks := tk } := I1.turned (fun b o hb e => kk b o (by simpa using hb) e) f0 f1 f3 f4 f5
  refine ⟨.bl _, H, I2, rfl, ?_⟩
  have e : (List.range its.toArray.size).all (fun i => bs.getD i true) = bs.all id := by
   rw [List.size_toArray, <- hlen]
   rw [Bool.eq_iff_iff]
   simp only [List.all_eq_true, List.mem_range, id]
   constructor
   ·intro h b hb
    obtain ⟨i, hi, e⟩ := List.mem_iff_getElem.mp hb
    have := h i hi
    rw [List.getD_eq_getElem?_getD, List.getElem?_eq_getElem hi] at this
    rw [<- e]
    exact this
   ·intro h i hi
    rw [List.getD_eq_getElem?_getD, List.getElem?_eq_getElem hi]
    exact h _ (List.getElem_mem hi)
  rw [e]
  exact q
theorem call_isinst : CallR X (.builtin "isinstance") (fun xs H Q => ∃ x y c t b, xs = [x, y] /\ (∀ u, RelV y u -> u = c) /\ TyOf X.K H x t /\ PySem.W.kitOne X.K t c = some b /\ Q (.bl b) H) := by
 intro pins s σ H xs us Q I r h
 obtain ⟨x, y, c, t, b, rfl, hy, ty, e, q⟩ := h
 obtain ⟨u, v, rfl, ru, rv⟩ := r.two
 obtain rfl := hy v rv
 exact isinst_ok I ru ty e fun tk => ⟨.bl b, H, I.tok tk, rfl, q⟩
def eqVs : List V -> List V -> Bool
 | [], [] => true
 | x :: xs, y :: ys => eqV x y && eqVs xs ys
 | _, _ => false
theorem eqVs_len : ∀ {xs ys : List V}, xs.length ≠ ys.length -> eqVs xs ys = false
 | [], [], h => absurd rfl h
 | [], _ :: _, _ => rfl
 | _ :: _, [], _ => rfl
 | x :: xs, y :: ys, h => by
  show (eqV x y && eqVs xs ys) = false
  rw [eqVs_len (xs := xs) (ys := ys) (by simpa using h), Bool.and_false]
theorem eqVs_range : ∀ {xs ys : List V}, xs.length = ys.length -> (List.range xs.length).all (fun i => eqV (xs.getD i .non) (ys.getD i .non)) = eqVs xs ys
 | [], [], _ => rfl
 | [], _ :: _, h => by cases h
 | _ :: _, [], h => by cases h
 | x :: xs, y :: ys, h => by
  rw [List.length_cons, List.range_succ_eq_map, List.all_cons, List.all_map]
  show (eqV x y && (List.range xs.length).all (fun i => eqV (xs.getD i .non) (ys.getD i .non))) = (eqV x y && eqVs xs ys)
  rw [eqVs_range (xs := xs) (ys := ys) (by simpa using h)]
def rEqL (K : PySem.W.Frag) : R2 := fun x y H Q => ∃ a b xs ys, x = .ref a /\ y = .ref b /\ SqL K H a xs /\ SqL K H b ys /\ xs.all flatV = true /\ ys.all flatV = true /\ Q (.bl (eqVs xs ys)) H
theorem op_eqL (hu : X.A.units < cLine) : OpR X (compareOp .Eq) (rEqL X.K) := by
 intro pins s σ H x y v u Q I rx ry h
 obtain ⟨a, b, xs, ys, rfl, rfl, ha, hb, fa, fb, q⟩ := h
 cases rx
 cases ry
 obtain ⟨its, r1, p1, _⟩ := I.list ha
 obtain ⟨its2, r2, p2, _⟩ := I.list hb
 have l1 := r1.length
 have l2 := r2.length
 by_cases hl : xs.length = ys.length
 ·refine SeqAt.eq_listAt (e := fun i => eqV (xs.getD i .non) (ys.getD i .non)) p1.isList p2.isList (by simp only [List.size_toArray]; omega) hu (fun j h1 h2 => ?_) ⟨.bl _, H, I, rfl, ?_⟩
  ·have j1 : j < xs.length := by simp only [List.size_toArray] at h1; omega
   have j2 : j < ys.length := by simp only [List.size_toArray] at h2; omega
   obtain ⟨u1, e1, q1⟩ := r1.get (i := j) (x := xs[j]) (List.getElem?_eq_getElem j1)
   obtain ⟨u2, e2, q2⟩ := r2.get (i := j) (x := ys[j]) (List.getElem?_eq_getElem j2)
   have g1 : its.toArray[j] = u1 := by
    have : its[j]? = some its[j] := List.getElem?_eq_getElem (by omega)
    rw [e1] at this
    simpa using (Option.some.inj this).symm
   have g2 : its2.toArray[j] = u2 := by
    have : its2[j]? = some its2[j] := List.getElem?_eq_getElem (by omega)
    rw [e2] at this
    simpa using (Option.some.inj this).symm
   rw [g1, g2, List.getD_eq_getElem?_getD, List.getD_eq_getElem?_getD, List.getElem?_eq_getElem j1, List.getElem?_eq_getElem j2]
   exact eqAt_V q1 q2 (List.all_eq_true.mp fa _ (List.getElem_mem j1)) (List.all_eq_true.mp fb _ (List.getElem_mem j2))
  ·rw [List.size_toArray, <- l1, eqVs_range hl]
   exact q
 ·refine SeqAt.eq_list_lengthsAt p1.isList p2.isList (by simp only [List.size_toArray]; simp; omega) hu ⟨.bl _, H, I, rfl, ?_⟩
  rw [eqVs_len hl] at q
  exact q
end
def SameBut (a : Addr) (H H' : Hp) : Prop := ∀ b o, H b = some o -> b ≠ a -> H' b = some o
theorem SameBut.refl (a : Addr) (H : Hp) : SameBut a H H := fun _ _ h _ => h
theorem SameBut.trans {a : Addr} {H H1 H2 : Hp} (h : SameBut a H H1) (k : SameBut a H1 H2) : SameBut a H H2 := fun b o e n => k b o (h b o e n) n
theorem SameBut.upd (a : Addr) (H : Hp) (o : HO) : SameBut a H (upd H a o) := fun b u e n => by rw [upd_ne n]; exact e
theorem Same.but {a : Addr} {H H' : Hp} (h : Same H H') : SameBut a H H' := fun b o e _ => h b o e
theorem Same.new {H : Hp} {p : Addr} (h : H p = none) (o : HO) : Same H (upd H p o) := fun b u q => by rw [upd_ne (neN q h)]; exact q
theorem none_of_same {H H' : Hp} {p : Addr} (h : Same H H') (n : H' p = none) : H p = none := by
 cases e : H p with
 | none => rfl
 | some o => rw [h p o e] at n; cases n
end L2
end
section
namespace L2
open PySem PySem.Spec PyProof.Rows
structure DefTx (K : PySem.W.Frag) (mg : Str -> Option Value) (x : Str) (st : Stmt) (ps : List Str) : Prop where
 ex : ∃ (f : Addr) (fd : FuncData), Fun K x x st f fd /\ mg x = some (.ref f) /\ ∀ us : List Value, us.length = ps.length -> bindArgs fd ⟨us, []⟩ = pure (ps.zip us)
structure DefIs (P : Program) (w : World) (K : PySem.W.Frag) (mg : Str -> Option Value) (base : Heap) (n : Nat) (x : Str) (ps : List Str) (sp : Sp) : Prop where
 ex : ∃ (f : Addr) (fd : FuncData), FnOk P w K mg base CX0 n f fd ps sp /\ Binds K fd ps [] /\ PySem.W.keepIn K (.ref f) = true /\ mg x = some (.ref f) /\ ∃ oc od osl, K.lookup f = some ⟨oc, od, .func fd, osl⟩
theorem fun_at {K : PySem.W.Frag} {x : Str} {st : Stmt} {f : Addr} {fd : FuncData} (F : Fun K x x st f fd) : ∃ oc od osl, K.lookup f = some ⟨oc, od, .func fd, osl⟩ := by
 obtain ⟨oc, od, kV, doc, pm, an, cdv, ct, osl, _, l, _⟩ := F.ex
 exact ⟨oc, od, osl, l⟩
section
variable {P : Program} {w : World} {K : PySem.W.Frag} {mg : Str -> Option Value} {base : Heap} {n m : Nat} {x : Str} {ps N : List Str} {sp : Sp} {st : Stmt}
theorem DefIs.mono (D : DefIs P w K mg base n x ps sp) (h : n <= m) : DefIs P w K mg base m x ps sp := by
 obtain ⟨f, fd, F, r⟩ := D.ex
 exact ⟨f, fd, F.mono h, r⟩
theorem DefIs.imp {sp' : Sp} (D : DefIs P w K mg base n x ps sp) (h : ∀ vs H Q E, sp' vs H Q E -> sp vs H Q E) : DefIs P w K mg base n x ps sp' := by
 obtain ⟨f, fd, F, r⟩ := D.ex
 exact ⟨f, fd, F.imp h, r⟩
theorem DefIs.of (T : DefTx K mg x st ps) (S : FnScope N ps (defScope st)) (len : ∀ vs H Q E, sp vs H Q E -> vs.length = ps.length)
  (hbody : ∀ (f : Addr) (cdv : Value) (A : Around) (outer : List Env) (s : Shared) (H : Hp) (vs : List V) (Q : VK) (E : XK), Room n (A.deeper (envOfC x (defScope st) s.heap.objs.size f cdv)) -> sp vs H Q E ->
   ∃ t, PSs (cxOf CX0 P w K mg base N x (defScope st) f cdv A outer s H E).nox (defBody st) t /\ t { nx := fun _ H' => Q .non H', rt := Q } (start N vs) H) : DefIs P w K mg base (n + 1) x ps sp := by
 obtain ⟨f, fd, F, m, b⟩ := T.ex
 exact ⟨f, fd, F.ok S len (fun cdv A outer s H vs Q E hr h => hbody f cdv A outer s H vs Q E hr h), Binds.all b, F.kp, m, fun_at F⟩
theorem DefIs.none (T : DefTx K mg x st ps) (no : ∀ vs H Q E, ¬ sp vs H Q E) : DefIs P w K mg base n x ps sp := by
 obtain ⟨f, fd, F, m, b⟩ := T.ex
 exact ⟨f, fd, ⟨fun vs H Q E h => absurd h (no vs H Q E), fun A outer s H args us vs Q E _ _ _ _ h => absurd h (no vs H Q E)⟩, Binds.all b, F.kp, m, fun_at F⟩
end
section
variable {X : Cx} {n : Nat} {x : Str} {ps : List Str} {sp : Sp} {e : Expr} {es : List Expr} {p pos : Pos} {t : TA}
theorem pd (D : DefIs X.prog X.w X.K X.mg X.base n x ps sp) (hr : Room n X.A) (ha : PA X (e :: es) t) (hg : Gl X x := by rfl) (hdb : (x == ("__debug__" : Str)) = false := by decide)
  (he : starEach (e :: es) X.env = (false, eval e X.env) :: starEach es X.env := by rfl) (hpl : (backTo pos (starEach es X.env)).any (·.1) = false := by rfl) : PE X (.Call (.Name x p) (e :: es) [] pos) (tCall sp [] E0 t) := by
 obtain ⟨f, fd, F, b, k, m, _⟩ := D.ex
 exact pe_call F hr hg m k b .nil pass0 ha hdb he hpl
theorem pe_gint {i : Int} (hm : ∃ t, X.mg x = some (.int i t)) (hg : Gl X x := by rfl) (hd : (x == ("__debug__" : Str)) = false := by decide) : PE X (.Name x pos) (tC (.int i)) := by
 obtain ⟨t, h⟩ := hm
 exact pe_glob hg h ⟨t, rfl⟩ hd
theorem pe_gstr {z : Str} (hm : ∃ t, X.mg x = some (.str z t)) (hg : Gl X x := by rfl) (hd : (x == ("__debug__" : Str)) = false := by decide) : PE X (.Name x pos) (tC (.str z)) := by
 obtain ⟨t, h⟩ := hm
 exact pe_glob hg h ⟨t, rfl⟩ hd
theorem pe_gref {a : Addr} (hm : X.mg x = some (.ref a)) (hg : Gl X x := by rfl) (hd : (x == ("__debug__" : Str)) = false := by decide) : PE X (.Name x pos) (tC (.ref a)) := pe_glob hg hm rfl hd
theorem pe_gty {T : String} (hm : X.mg x = none) (hv : bootBuiltins x = some (.type T)) (hg : Gl X x := by rfl) (hn : x ≠ "__name__" := by decide) (hd : (x == ("__debug__" : Str)) = false := by decide) : PE X (.Name x pos) (tC (.ty T)) := pe_bltn hg hm hv rfl hn hd
end
def Fed (a : Addr) (H H' : Hp) : Prop := SameBut a H H' /\ ∃ p q : Int, H' a = some (.lst [.int p, .int q])
theorem Fed.trans {a : Addr} {H H1 H2 : Hp} (h : Fed a H H1) (k : Fed a H1 H2) : Fed a H H2 := ⟨h.1.trans k.1, k.2⟩
theorem Fed.of {a : Addr} {H : Hp} {p q : Int} : Fed a H (upd H a (.lst [.int p, .int q])) := ⟨SameBut.upd a H _, p, q, ups⟩
theorem Fed.refl {a : Addr} {H : Hp} {p q : Int} (h : H a = some (.lst [.int p, .int q])) : Fed a H H := ⟨SameBut.refl a H, p, q, h⟩
theorem Fed.new {a D : Addr} {H H' : Hp} (h : Fed a H H') (n : H' D = none) (o : HO) : Fed a H (upd H' D o) := by
 obtain ⟨s, p, q, e⟩ := h
 exact ⟨s.trans (Same.new n o).but, p, q, Same.new n o _ _ e⟩
theorem Fed.same {a : Addr} {H H' H'' : Hp} (h : Fed a H H') (s : Same H' H'') : Fed a H H'' := by
 obtain ⟨k, p, q, e⟩ := h
 exact ⟨k.trans s.but, p, q, s _ _ e⟩
theorem Fed.back {a : Addr} {H H0 H' : Hp} (n : H a = none) (s : Same H H0) (h : Fed a H0 H') : Same H H' := fun b o e => h.1 b o (s b o e) (neN e n)
end L2
namespace L2
open PySem PySem.Spec PyProof.Rows
theorem deftx_mk {K : PySem.W.Frag} {h : Heap} {mg : Str -> Option Value} (X : K.In h) (G : h.Ns mainGlobals mg) {x : Str} {st : Stmt} {ps : List Str} {f : Addr} {oc : Value} {od an : Option Addr} {osl : Array (Option Value)} {kV doc pm cdv ct : Value}
  (a : PySem.W.nsIn K mainGlobals x = some (some (.ref f))) (l : K.lookup f = some ⟨oc, od, .func (PySem.W.fnOf x x (defArgs st) (defBody st) (defScope st) .none kV doc pm an cdv ct), osl⟩)
  (c : PySem.W.codeIn K cdv x = true) (k : PySem.W.keepIn K (.ref f) = true)
  (b : ∀ (kV doc pm : Value) (an : Option Addr) (cdv ct : Value) (us : List Value), us.length = ps.length -> bindArgs (PySem.W.fnOf x x (defArgs st) (defBody st) (defScope st) .none kV doc pm an cdv ct) ⟨us, []⟩ = pure (ps.zip us)) : DefTx K mg x st ps := by
 have F := fun_mk (st := st) l c k
 exact ⟨f, _, F, PySem.W.mg_of X G a, b kV doc pm an cdv ct⟩
theorem law_top {P : Program} {w : World} {K : PySem.W.Frag} {mg : Str -> Option Value} {n : Nat} {x y : Str} {st : Stmt} {sp : Sp} {fa : Addr} (T : DefTx K mg x st [y]) (hmg : mg x = some (.ref fa)) (D : ∀ base, DefIs P w K mg base n x [y] sp) :
  ∃ fd : FuncData, (∀ (s : Shared) (u : Value), BindsTo s fd ⟨[u], []⟩ [(y, u)]) /\ ∀ base : Heap, K.In base -> base.Ns mainGlobals mg -> FnOk P w K mg base CX0 n fa fd [y] sp := by
 obtain ⟨f, fd, F, m, b⟩ := T.ex
 rw [hmg] at m
 cases m
 refine ⟨fd, fun s u => .of_eq (b [u] rfl), fun base _ _ => ?_⟩
 obtain ⟨f', fd', G, _, _, m', oc, od, osl, l⟩ := (D base).ex
 rw [hmg] at m'
 cases m'
 obtain ⟨oc2, od2, osl2, l2⟩ := fun_at F
 rw [l] at l2
 cases l2
 exact G
theorem gint_mk {K : PySem.W.Frag} {h : Heap} {mg : Str -> Option Value} (X : K.In h) (G : h.Ns mainGlobals mg) {x : Str} {i : Int} {t : Tok} (a : PySem.W.nsIn K mainGlobals x = some (some (.int i t))) : ∃ t, mg x = some (.int i t) := ⟨t, PySem.W.mg_of X G a⟩
theorem gstr_mk {K : PySem.W.Frag} {h : Heap} {mg : Str -> Option Value} (X : K.In h) (G : h.Ns mainGlobals mg) {x : Str} {i : Str} {t : Tok} (a : PySem.W.nsIn K mainGlobals x = some (some (.str i t))) : ∃ t, mg x = some (.str i t) := ⟨t, PySem.W.mg_of X G a⟩
theorem gtup_mk {K : PySem.W.Frag} {h : Heap} {mg : Str -> Option Value} (X : K.In h) (G : h.Ns mainGlobals mg) {x : Str} {p : Addr} {od : Option Addr} {its : Array Value} {n : Nat} {osl : Array (Option Value)} {xs : List V}
  (a : PySem.W.nsIn K mainGlobals x = some (some (.ref p))) (l : K.lookup p = some ⟨.type "tuple", od, .seq its n, osl⟩) (z : its.size <= sizeLine) (r : Vals xs its.toList) : ∃ a, mg x = some (.ref a) /\ ∀ H, SqT K H a xs :=
 ⟨p, PySem.W.mg_of X G a, fun _ => .inr ⟨_, its, n, l, rfl, rfl, z, r⟩⟩
end L2
end
section
namespace Zt
open PySem
section
variable {prog : Program} {w : World} {A : Around} {E : Value -> Shared -> Prop} {s : Shared}
theorem next_item {it l : Addr} {i : Nat} {items} {x : Value} {Q : Value -> Shared -> Prop} (hit : s.heap.IsTupleIter it l i)
  (hl : s.heap.IsTuple l items) (hx : items[i]? = some x)
  (hQ : ∀ h', h'.IsTupleIter it l (i + 1) -> Heap.SameBut it s.heap h' -> Q x { s with heap := h' }) :
  wpAny (model prog w) A (Builtin.SmallTypes.nextOf (.ref it)) Q E s := by
 obtain ⟨o, ho, hc, hd⟩ := id hit
 obtain ⟨ol, hol, _, nl, hdl⟩ := hl
 unfold Builtin.SmallTypes.nextOf
 refine wpAny_bind (wpAny_callSpecial?_slot (name := Str.ofString "__next__") hit.typeIs F.slot_tuple_iterator_next
  (wpAny_call_entry F.slot_tuple_iterator_next hit.typeIs F.entry_tuple_iterator_next ?_ (F.args_tuple_iterator_next_1 _)))
 show wpAny _ _ (field (.ref it) 0 >>= _) _ _ s
 refine wpAny_bind (wpAny_field ho hd (x := .ref l) rfl ?_)
 show wpAny _ _ (if (Value.ref l == Value.none) = true then _ else _) _ _ s
 rw [if_neg (show ¬ ((Value.ref l == Value.none) = true) from Bool.false_ne_true)]
 show wpAny _ _ (field (.ref it) 1 >>= _) _ _ s
 refine wpAny_bind (wpAny_field ho hd (x := .int i 0) rfl ?_)
 show wpAny _ _ (seqItems? (.ref l) >>= _) _ _ s
 refine wpAny_bind (wpAny_seqItems hol hdl ?_)
 simp only [Int.toNat_natCast, hx]
 refine wpAny_bind (wpAny_setField ho hd (by simp) (wpAny_pure ⟨x, rfl, wpAny_pure (hQ _ ?_ (Heap.SameBut.update ..))⟩))
 exact ⟨_, Heap.get?_update_self _ ho (Obj.isFreed_of_fields (Obj.data_mapFields hd _)), (Obj.cls_mapFields ..).trans hc, by
  rw [Obj.data_mapFields hd]; simp [rawInt]⟩
theorem next_end {it l : Addr} {i : Nat} {items} {Q : Value -> Shared -> Prop} (hh : A.handled = none)
  (hit : s.heap.IsTupleIter it l i) (hl : s.heap.IsTuple l items) (hx : items[i]? = none)
  (hE : ∀ h' e, Heap.ExtBut it s.heap h' -> (∃ o, h'.get? e = some o /\ o.cls = .type "StopIteration") -> E (.ref e) { s with heap := h' }) :
  wpAny (model prog w) A (Builtin.SmallTypes.nextOf (.ref it)) Q E s := by
 obtain ⟨o, ho, hc, hd⟩ := id hit
 obtain ⟨ol, hol, _, nl, hdl⟩ := hl
 unfold Builtin.SmallTypes.nextOf
 refine wpAny_bind (wpAny_callSpecial?_slot (name := Str.ofString "__next__") hit.typeIs F.slot_tuple_iterator_next
  (wpAny_call_entry F.slot_tuple_iterator_next hit.typeIs F.entry_tuple_iterator_next ?_ (F.args_tuple_iterator_next_1 _)))
 show wpAny _ _ (field (.ref it) 0 >>= _) _ _ s
 refine wpAny_bind (wpAny_field ho hd (x := .ref l) rfl ?_)
 show wpAny _ _ (if (Value.ref l == Value.none) = true then _ else _) _ _ s
 rw [if_neg (show ¬ ((Value.ref l == Value.none) = true) from Bool.false_ne_true)]
 show wpAny _ _ (field (.ref it) 1 >>= _) _ _ s
 refine wpAny_bind (wpAny_field ho hd (x := .int i 0) rfl ?_)
 show wpAny _ _ (seqItems? (.ref l) >>= _) _ _ s
 refine wpAny_bind (wpAny_seqItems hol hdl ?_)
 simp only [Int.toNat_natCast, hx]
 refine wpAny_bind (wpAny_rule (wpAny_bind (wpAny_setField ho hd (by simp) ?_)))
 show wpAny _ _ (newExc (.type "StopIteration") [] >>= _) _ _ _
 refine wpAny_bind ?_
 simp only [newExc, newTuple]
 refine wpAny_bind (wpAny_newObj_type ?_ (by size_fits))
 refine wpAny_bind (m := firstArgMember _ _) (wpAny_of_eq (a := Value.none) (by first | rfl | (simp only [firstArgMember]; rfl)) ?_)
 refine wpAny_newObj_type ?_ (by size_fits)
 simp only [raiseNew]
 refine wpAny_bind (wpAny_handled ?_)
 first | rw [show A.in1.handled = none from hh] | rw [hh]
 refine wpAny_bind (wpAny_pure (wpAny_throw ?_))
 exact hE _ _ (((Heap.SameBut.update ..).extBut.push _).push _) ⟨_, Heap.get?_push_size _ rfl, rfl⟩
abbrev IsZipF (h : Heap) (z TI TO : Addr) (f0 f1 : Value) : Prop :=
 h.get? z = some { cls := .type "zip", dict := none, data := .fields #[f0, f1, .bool false, .ref TI, .ref TO], slots := #[] }
def Free (h : Heap) (z TI TO : Addr) : Prop := IsZipF h z TI TO .none (.bool false) \/ ∃ (T : Addr) (b : Bool) (o : Obj), IsZipF h z TI TO (rawInt T) (.bool b) /\ h.get? T = some o /\ T ≠ z
structure Zs (h : Heap) (z TI TO i1 i2 l1 l2 : Addr) (xs ys : Array Value) (k : Nat) : Prop where
 zip : Free h z TI TO
 ti : IsPair h TI (.ref i1) (.ref i2)
 to : ∃ a b, IsPair h TO a b
 it1 : h.IsTupleIter i1 l1 k
 it2 : h.IsTupleIter i2 l2 k
 t1 : h.IsTuple l1 xs
 t2 : h.IsTuple l2 ys
theorem item_first {z TI TO i1 i2 l1 l2 : Addr} {k1 k2 : Nat} {xs ys : Array Value} {x y a b : Value} {Q : Value -> Shared -> Prop} (D : ZipApart z TI TO i1 i2 l1 l2)
  (hz : IsZip s.heap z TI TO .none) (hTI : IsPair s.heap TI (.ref i1) (.ref i2)) (hTO : IsPair s.heap TO a b)
  (h1 : s.heap.IsTupleIter i1 l1 k1) (h2 : s.heap.IsTupleIter i2 l2 k2) (hl1 : s.heap.IsTuple l1 xs) (hl2 : s.heap.IsTuple l2 ys) (hx : xs[k1]? = some x) (hy : ys[k2]? = some y)
  (hQ : ∀ h', IsZip h' z TI TO (rawInt s.heap.objs.size) -> IsPair h' TO x y -> h'.IsTupleIter i1 l1 (k1 + 1) -> h'.IsTupleIter i2 l2 (k2 + 1) -> IsPair h' s.heap.objs.size x y -> h'.objs.size = s.heap.objs.size + 1 ->
   (∀ c o, c ≠ z -> c ≠ TO -> c ≠ i1 -> c ≠ i2 -> s.heap.get? c = some o -> h'.get? c = some o) -> Q (.ref s.heap.objs.size) { s with heap := h' }) :
  wpAny (model prog w) A (Builtin.«zip.__next__» ⟨[.ref z], []⟩) (fun fin s' => ∃ v, fin = .done (.ret v) /\ Q v s') E s := by
 show wpAny _ _ (field (.ref z) 2 >>= _) _ _ _
 refine wpAny_bind (wpAny_field hz rfl (x := .bool false) rfl ?_)
 show wpAny _ _ (field (.ref z) 3 >>= _) _ _ _
 refine wpAny_bind (wpAny_field hz rfl (x := .ref TI) rfl ?_)
 refine wpAny_bind (wpAny_seqItems hTI rfl ?_)
 show wpAny _ _ (Builtin.SmallTypes.ownedTupleIsFree (.ref z) >>= _) _ _ _
 refine wpAny_bind ?_
 unfold Builtin.SmallTypes.ownedTupleIsFree
 refine wpAny_bind (wpAny_field hz rfl (x := .none) rfl (wpAny_pure ?_))
 simp only [if_true]
 refine wpAny_bind (wpAny_rule ?_)
 refine wpAny_bind (wpAny_field hz rfl (x := .ref TO) rfl ?_)
 refine wpAny_bind (wpAny_setField_rec hz (by simp) fun h₁ hz₁ hs₁ => ?_)
 replace hz₁ : IsZip h₁ z TI TO .ellipsis := hz₁
 refine wpAny_bind ?_
 simp only [List.zipIdx_cons, List.zipIdx_nil, List.forIn_cons, List.forIn_nil]
 refine wpAny_bind (wpAny_bind (wpAny_onRaise ?_))
 show wpAny _ _ (Builtin.SmallTypes.nextOf (.ref i1) >>= _) _ _ _
 refine wpAny_bind (next_item (h1.extBut hs₁.extBut D.i1z) (hl1.extBut hs₁.extBut D.l1z) hx fun h₂ h1₂ hs₂ => wpAny_pure ?_)
 have hTO₂ : IsPair h₂ TO a b := hs₂.extBut _ _ D.TOi1 (hs₁.extBut _ _ D.TOz hTO)
 refine wpAny_bind (wpAny_seqItems hTO₂ rfl ?_)
 refine wpAny_bind (wpAny_updateSeq_pair hTO₂ fun h₃ hTO₃ hs₃ => ?_)
 replace hTO₃ : IsPair h₃ TO x b := hTO₃
 refine wpAny_bind (wpAny_letGo (wpAny_pure ?_))
 refine wpAny_bind (wpAny_bind (wpAny_onRaise ?_))
 show wpAny _ _ (Builtin.SmallTypes.nextOf (.ref i2) >>= _) _ _ _
 refine wpAny_bind (next_item (((h2.extBut hs₁.extBut D.i2z).extBut hs₂.extBut D.i12.symm).extBut hs₃.extBut D.TOi2.symm)
  (((hl2.extBut hs₁.extBut D.l2z).extBut hs₂.extBut D.l2i1).extBut hs₃.extBut D.l2TO) hy fun h₄ h2₄ hs₄ => wpAny_pure ?_)
 have hTO₄ : IsPair h₄ TO x b := hs₄.extBut _ _ D.TOi2 hTO₃
 refine wpAny_bind (wpAny_seqItems hTO₄ rfl ?_)
 refine wpAny_bind (wpAny_updateSeq_pair hTO₄ fun h₅ hTO₅ hs₅ => ?_)
 replace hTO₅ : IsPair h₅ TO x y := hTO₅
 refine wpAny_bind (wpAny_letGo (wpAny_pure (wpAny_pure ?_)))
 refine wpAny_bind (wpAny_seqItems hTO₅ rfl ?_)
 refine wpAny_bind (wpAny_newTuple ?_)
 have hsz : h₅.objs.size = s.heap.objs.size := by rw [hs₅.1, hs₄.1, hs₃.1, hs₂.1, hs₁.1]
 have hz₅ : IsZip h₅ z TI TO .ellipsis := hs₅.extBut _ _ D.TOz.symm (hs₄.extBut _ _ D.i2z.symm (hs₃.extBut _ _ D.TOz.symm (hs₂.extBut _ _ D.i1z.symm hz₁)))
 have hk₅ : ∀ c o, c ≠ z -> c ≠ TO -> c ≠ i1 -> c ≠ i2 -> s.heap.get? c = some o -> h₅.get? c = some o := fun c o c1 c2 c3 c4 e =>
  hs₅.extBut _ _ c2 (hs₄.extBut _ _ c4 (hs₃.extBut _ _ c2 (hs₂.extBut _ _ c3 (hs₁.extBut _ _ c1 e))))
 have h1₅ : h₅.IsTupleIter i1 l1 (k1 + 1) := ((h1₂.extBut hs₃.extBut D.TOi1.symm).extBut hs₄.extBut D.i12).extBut hs₅.extBut D.TOi1.symm
 have h2₅ : h₅.IsTupleIter i2 l2 (k2 + 1) := h2₄.extBut hs₅.extBut D.TOi2.symm
 have hzlt : z < h₅.objs.size := Heap.lt_size hz₅
 show wpAny _ _ (Builtin.SmallTypes.ownedTupleHandOut (.ref z) (.ref h₅.objs.size) >>= _) _ _ _
 refine wpAny_bind ?_
 unfold Builtin.SmallTypes.ownedTupleHandOut
 have hz₆ : IsZip (h₅.push { cls := .type "tuple", data := .seq #[x, y] }) z TI TO .ellipsis := Heap.get?_push_of_some _ hz₅
 refine wpAny_bind (wpAny_setField_rec hz₆ (by simp) fun h₇ hz₇ hs₇ => ?_)
 replace hz₇ : IsZip h₇ z TI TO (rawInt h₅.objs.size) := hz₇
 refine wpAny_setField_rec hz₇ (by simp) fun h₈ hz₈ hs₈ => ?_
 replace hz₈ : IsZip h₈ z TI TO (rawInt h₅.objs.size) := hz₈
 have up : ∀ c o, c ≠ z -> h₅.get? c = some o -> h₈.get? c = some o := fun c o c1 e => hs₈.extBut _ _ c1 (hs₇.extBut _ _ c1 (Heap.get?_push_of_some _ e))
 have hT₈ : IsPair h₈ h₅.objs.size x y := hs₈.extBut _ _ (Nat.ne_of_gt hzlt) (hs₇.extBut _ _ (Nat.ne_of_gt hzlt) (Heap.get?_push_size _ rfl))
 have hz8 : h₈.objs.size = h₅.objs.size + 1 := by rw [hs₈.1, hs₇.1, Heap.size_push]
 rw [hsz] at hz₈ hT₈ hz8
 refine wpAny_pure ⟨_, rfl, ?_⟩
 show Q (.ref h₅.objs.size) _
 rw [hsz]
 exact hQ h₈ hz₈ (up _ _ D.TOz hTO₅) (h1₅.at fun o e => up _ o D.i1z e) (h2₅.at fun o e => up _ o D.i2z e) hT₈ hz8 fun c o c1 c2 c3 c4 e => up c o c1 (hk₅ c o c1 c2 c3 c4 e)
theorem alive {a : Addr} {o : Obj} {Q : Option Obj -> Shared -> Prop} (ho : s.heap.get? a = some o) (h : Q (some o) s) : wpAny (model prog w) A (loadIfAlive a) Q E s := by
 intro Γ p hΓ
 unfold loadIfAlive
 first
  | (rw [Sem.wp_loadIfAlive, ho]; exact h)
  | (simp only [Sem.wp_loadIfAlive, ho]; exact h)
theorem item_again {z TI TO i1 i2 l1 l2 T : Addr} {k1 k2 : Nat} {xs ys : Array Value} {x y : Value} {bb : Bool} {oT : Obj} {Q : Value -> Shared -> Prop} (D : ZipApart z TI TO i1 i2 l1 l2)
  (hz : IsZipF s.heap z TI TO (rawInt T) (.bool bb)) (hT : s.heap.get? T = some oT) (hTI : IsPair s.heap TI (.ref i1) (.ref i2))
  (h1 : s.heap.IsTupleIter i1 l1 k1) (h2 : s.heap.IsTupleIter i2 l2 k2) (hl1 : s.heap.IsTuple l1 xs) (hl2 : s.heap.IsTuple l2 ys) (hx : xs[k1]? = some x) (hy : ys[k2]? = some y)
  (hQ : ∀ h', IsZipF h' z TI TO (rawInt T) (.bool true) -> h'.IsTupleIter i1 l1 (k1 + 1) -> h'.IsTupleIter i2 l2 (k2 + 1) -> IsPair h' s.heap.objs.size x y -> h'.objs.size = s.heap.objs.size + 1 ->
   (∀ c o, c ≠ z -> c ≠ i1 -> c ≠ i2 -> s.heap.get? c = some o -> h'.get? c = some o) -> Q (.ref s.heap.objs.size) { s with heap := h' }) :
  wpAny (model prog w) A (Builtin.«zip.__next__» ⟨[.ref z], []⟩) (fun fin s' => ∃ v, fin = .done (.ret v) /\ Q v s') E s := by
 show wpAny _ _ (field (.ref z) 2 >>= _) _ _ _
 refine wpAny_bind (wpAny_field hz rfl (x := .bool false) rfl ?_)
 show wpAny _ _ (field (.ref z) 3 >>= _) _ _ _
 refine wpAny_bind (wpAny_field hz rfl (x := .ref TI) rfl ?_)
 refine wpAny_bind (wpAny_seqItems hTI rfl ?_)
 show wpAny _ _ (Builtin.SmallTypes.ownedTupleIsFree (.ref z) >>= _) _ _ _
 refine wpAny_bind ?_
 unfold Builtin.SmallTypes.ownedTupleIsFree
 refine wpAny_bind (wpAny_field hz rfl (x := rawInt T) rfl ?_)
 show wpAny _ _ (loadIfAlive ((T : Int).toNat) >>= _) _ _ _
 rw [Int.toNat_natCast]
 refine wpAny_bind (alive hT ?_)
 simp only [Option.isNone_some, Bool.false_eq_true, if_false]
 refine wpAny_bind (wpAny_field hz rfl (x := .bool bb) rfl ?_)
 cases bb with
 | true =>
  have gz : IsZipF s.heap z TI TO (rawInt T) (.bool true) := hz
  have g1 := h1
  have g2 := h2
  have gl1 := hl1
  have gl2 := hl2
  have gsz : s.heap.objs.size = s.heap.objs.size := rfl
  have gk : ∀ c o, c ≠ z -> s.heap.get? c = some o -> s.heap.get? c = some o := fun _ _ _ e => e
  simp only [bne_self_eq_false, Bool.false_eq_true, if_false]
  refine wpAny_pure ?_
  simp only [Bool.false_eq_true, if_false, List.forIn_toArray, List.forIn_cons, List.forIn_nil]
  refine wpAny_bind (wpAny_bind (wpAny_bind (wpAny_holding ?_)))
  show wpAny _ _ (Builtin.SmallTypes.nextOf (.ref i1) >>= _) _ _ _
  refine wpAny_bind (next_item g1 gl1 hx fun h₂ h1₂ hs₂ => wpAny_pure (wpAny_pure ?_))
  refine wpAny_bind (wpAny_bind (wpAny_holding ?_))
  show wpAny _ _ (Builtin.SmallTypes.nextOf (.ref i2) >>= _) _ _ _
  refine wpAny_bind (next_item (g2.extBut hs₂.extBut D.i12.symm) (gl2.extBut hs₂.extBut D.l2i1) hy fun h₃ h2₃ hs₃ => wpAny_pure (wpAny_pure ?_))
  refine wpAny_pure ?_
  refine wpAny_bind (wpAny_newTuple ?_ (by show 2 <= sizeLine; decide))
  have hsz : h₃.objs.size = s.heap.objs.size := (hs₃.1.trans hs₂.1).trans gsz
  have hz₃ : IsZipF h₃ z TI TO (rawInt T) (.bool true) := hs₃.extBut _ _ D.i2z.symm (hs₂.extBut _ _ D.i1z.symm gz)
  have h1₃ : h₃.IsTupleIter i1 l1 (k1 + 1) := h1₂.extBut hs₃.extBut D.i12
  refine wpAny_pure ⟨_, rfl, ?_⟩
  show Q (.ref h₃.objs.size) _
  have hP : IsPair (h₃.push { cls := .type "tuple", data := .seq #[x, y] }) h₃.objs.size x y := Heap.get?_push_size _ rfl
  have hz8 : (h₃.push { cls := .type "tuple", data := .seq #[x, y] }).objs.size = h₃.objs.size + 1 := Heap.size_push ..
  rw [hsz] at hP hz8 ⊢
  exact hQ _ (Heap.get?_push_of_some _ hz₃) (h1₃.at fun o e => Heap.get?_push_of_some _ e) (h2₃.at fun o e => Heap.get?_push_of_some _ e) hP hz8 fun c o c1 c2 c3 e =>
   Heap.get?_push_of_some _ (hs₃.extBut _ _ c3 (hs₂.extBut _ _ c2 (gk c o c1 e)))
 | false =>
  rw [if_pos (by rfl)]
  refine wpAny_bind (wpAny_setField_rec hz (by simp) fun h₁ hz₁ hs₁ => ?_)
  have gz : IsZipF h₁ z TI TO (rawInt T) (.bool true) := hz₁
  have g1 := h1.extBut hs₁.extBut D.i1z
  have g2 := h2.extBut hs₁.extBut D.i2z
  have gl1 := hl1.extBut hs₁.extBut D.l1z
  have gl2 := hl2.extBut hs₁.extBut D.l2z
  have gsz : h₁.objs.size = s.heap.objs.size := hs₁.1
  have gk : ∀ c o, c ≠ z -> s.heap.get? c = some o -> h₁.get? c = some o := fun c o n e => hs₁.extBut _ _ n e
  refine wpAny_pure ?_
  simp only [Bool.false_eq_true, if_false, List.forIn_toArray, List.forIn_cons, List.forIn_nil]
  refine wpAny_bind (wpAny_bind (wpAny_bind (wpAny_holding ?_)))
  show wpAny _ _ (Builtin.SmallTypes.nextOf (.ref i1) >>= _) _ _ _
  refine wpAny_bind (next_item g1 gl1 hx fun h₂ h1₂ hs₂ => wpAny_pure (wpAny_pure ?_))
  refine wpAny_bind (wpAny_bind (wpAny_holding ?_))
  show wpAny _ _ (Builtin.SmallTypes.nextOf (.ref i2) >>= _) _ _ _
  refine wpAny_bind (next_item (g2.extBut hs₂.extBut D.i12.symm) (gl2.extBut hs₂.extBut D.l2i1) hy fun h₃ h2₃ hs₃ => wpAny_pure (wpAny_pure ?_))
  refine wpAny_pure ?_
  refine wpAny_bind (wpAny_newTuple ?_ (by show 2 <= sizeLine; decide))
  have hsz : h₃.objs.size = s.heap.objs.size := (hs₃.1.trans hs₂.1).trans gsz
  have hz₃ : IsZipF h₃ z TI TO (rawInt T) (.bool true) := hs₃.extBut _ _ D.i2z.symm (hs₂.extBut _ _ D.i1z.symm gz)
  have h1₃ : h₃.IsTupleIter i1 l1 (k1 + 1) := h1₂.extBut hs₃.extBut D.i12
  refine wpAny_pure ⟨_, rfl, ?_⟩
  show Q (.ref h₃.objs.size) _
  have hP : IsPair (h₃.push { cls := .type "tuple", data := .seq #[x, y] }) h₃.objs.size x y := Heap.get?_push_size _ rfl
  have hz8 : (h₃.push { cls := .type "tuple", data := .seq #[x, y] }).objs.size = h₃.objs.size + 1 := Heap.size_push ..
  rw [hsz] at hP hz8 ⊢
  exact hQ _ (Heap.get?_push_of_some _ hz₃) (h1₃.at fun o e => Heap.get?_push_of_some _ e) (h2₃.at fun o e => Heap.get?_push_of_some _ e) hP hz8 fun c o c1 c2 c3 e =>
   Heap.get?_push_of_some _ (hs₃.extBut _ _ c3 (hs₂.extBut _ _ c2 (gk c o c1 e)))
theorem ends {z TI TO i1 i2 l1 l2 : Addr} {k : Nat} {xs ys : Array Value} {Q : Fin -> Shared -> Prop} (hh : A.handled = none) (D : ZipApart z TI TO i1 i2 l1 l2) (S : Zs s.heap z TI TO i1 i2 l1 l2 xs ys k) (hx : xs[k]? = none)
  (hE : ∀ h' e, (∀ c o, c ≠ z -> c ≠ i1 -> s.heap.get? c = some o -> h'.get? c = some o) -> (∃ o, h'.get? e = some o /\ o.cls = .type "StopIteration") -> E (.ref e) { s with heap := h' }) :
  wpAny (model prog w) A (Builtin.«zip.__next__» ⟨[.ref z], []⟩) Q E s := by
 obtain ⟨hz, hTI, ⟨a, b, hTO⟩, h1, h2, hl1, hl2⟩ := S
 rcases hz with hz | ⟨T, bb, oT, hz, hT, hTz⟩
 ·show wpAny _ _ (field (.ref z) 2 >>= _) _ _ _
  refine wpAny_bind (wpAny_field hz rfl (x := .bool false) rfl ?_)
  show wpAny _ _ (field (.ref z) 3 >>= _) _ _ _
  refine wpAny_bind (wpAny_field hz rfl (x := .ref TI) rfl ?_)
  refine wpAny_bind (wpAny_seqItems hTI rfl ?_)
  show wpAny _ _ (Builtin.SmallTypes.ownedTupleIsFree (.ref z) >>= _) _ _ _
  refine wpAny_bind ?_
  unfold Builtin.SmallTypes.ownedTupleIsFree
  refine wpAny_bind (wpAny_field hz rfl (x := .none) rfl (wpAny_pure ?_))
  simp only [if_true]
  refine wpAny_bind (wpAny_rule ?_)
  refine wpAny_bind (wpAny_field hz rfl (x := .ref TO) rfl ?_)
  refine wpAny_bind (wpAny_setField_rec hz (by simp) fun h₁ hz₁ hs₁ => ?_)
  replace hz₁ : IsZip h₁ z TI TO .ellipsis := hz₁
  refine wpAny_bind ?_
  simp only [List.zipIdx_cons, List.zipIdx_nil, List.forIn_cons, List.forIn_nil]
  refine wpAny_bind (wpAny_bind (wpAny_onRaise ?_))
  show wpAny _ _ (Builtin.SmallTypes.nextOf (.ref i1) >>= _) _ _ _
  refine wpAny_bind (next_end hh (h1.extBut hs₁.extBut D.i1z) (hl1.extBut hs₁.extBut D.l1z) hx fun h₂ e hs₂ he => ?_)
  obtain ⟨oe, hoe, hce⟩ := he
  have hz₂ : IsZip h₂ z TI TO .ellipsis := hs₂ _ _ D.i1z.symm hz₁
  have hez : e ≠ z := fun x => by subst x; rw [hz₂] at hoe; cases hoe; simp at hce
  refine wpAny_setField_rec hz₂ (by simp) fun h₃ _ hs₃ => hE h₃ e (fun c o c1 c3 x => hs₃.extBut _ _ c1 (hs₂ _ _ c3 (hs₁.extBut _ _ c1 x))) ⟨oe, hs₃.extBut _ _ hez hoe, hce⟩
 ·show wpAny _ _ (field (.ref z) 2 >>= _) _ _ _
  refine wpAny_bind (wpAny_field hz rfl (x := .bool false) rfl ?_)
  show wpAny _ _ (field (.ref z) 3 >>= _) _ _ _
  refine wpAny_bind (wpAny_field hz rfl (x := .ref TI) rfl ?_)
  refine wpAny_bind (wpAny_seqItems hTI rfl ?_)
  show wpAny _ _ (Builtin.SmallTypes.ownedTupleIsFree (.ref z) >>= _) _ _ _
  refine wpAny_bind ?_
  unfold Builtin.SmallTypes.ownedTupleIsFree
  refine wpAny_bind (wpAny_field hz rfl (x := rawInt T) rfl ?_)
  show wpAny _ _ (loadIfAlive ((T : Int).toNat) >>= _) _ _ _
  rw [Int.toNat_natCast]
  refine wpAny_bind (alive hT ?_)
  simp only [Option.isNone_some, Bool.false_eq_true, if_false]
  refine wpAny_bind (wpAny_field hz rfl (x := .bool bb) rfl ?_)
  cases bb with
  | true =>
   simp only [bne_self_eq_false, Bool.false_eq_true, if_false]
   refine wpAny_pure ?_
   simp only [Bool.false_eq_true, if_false, List.forIn_toArray, List.forIn_cons, List.forIn_nil]
   refine wpAny_bind (wpAny_bind (wpAny_bind (wpAny_holding ?_)))
   show wpAny _ _ (Builtin.SmallTypes.nextOf (.ref i1) >>= _) _ _ _
   exact wpAny_bind (next_end hh h1 hl1 hx fun h₂ e hs₂ he => hE h₂ e (fun c o c1 c3 x => hs₂ _ _ c3 x) he)
  | false =>
   rw [if_pos (by rfl)]
   refine wpAny_bind (wpAny_setField_rec hz (by simp) fun h₁ hz₁ hs₁ => ?_)
   refine wpAny_pure ?_
   simp only [Bool.false_eq_true, if_false, List.forIn_toArray, List.forIn_cons, List.forIn_nil]
   refine wpAny_bind (wpAny_bind (wpAny_bind (wpAny_holding ?_)))
   show wpAny _ _ (Builtin.SmallTypes.nextOf (.ref i1) >>= _) _ _ _
   exact wpAny_bind (next_end hh (h1.extBut hs₁.extBut D.i1z) (hl1.extBut hs₁.extBut D.l1z) hx fun h₂ e hs₂ he => hE h₂ e (fun c o c1 c3 x => hs₂ _ _ c3 (hs₁.extBut _ _ c1 x)) he)
theorem pyNext_item {z TI TO i1 i2 l1 l2 : Addr} {k : Nat} {xs ys : Array Value} {x y : Value} {Q : Option Value -> Shared -> Prop} (D : ZipApart z TI TO i1 i2 l1 l2) (hlt : l1 < s.heap.objs.size /\ l2 < s.heap.objs.size) (S : Zs s.heap z TI TO i1 i2 l1 l2 xs ys k)
  (hl1T : l1 ≠ TO /\ l2 ≠ TO) (hx : xs[k]? = some x) (hy : ys[k]? = some y)
  (hQ : ∀ h', Zs h' z TI TO i1 i2 l1 l2 xs ys (k + 1) -> IsPair h' s.heap.objs.size x y -> h'.objs.size = s.heap.objs.size + 1 ->
   (∀ c o, c ≠ z -> c ≠ TO -> c ≠ i1 -> c ≠ i2 -> s.heap.get? c = some o -> h'.get? c = some o) -> Q (some (.ref s.heap.objs.size)) { s with heap := h' }) :
  wpAny (model prog w) A (pyNext (.ref z)) Q E s := by
 have ⟨hz, hTI, ⟨a, b, hTO⟩, h1, h2, hl1, hl2⟩ := S
 have hT : s.TypeIs (.ref z) "zip" := by
  rcases hz with hz | ⟨T, bb, oT, hz, _⟩ <;> exact ⟨_, hz, rfl⟩
 have zlt : z < s.heap.objs.size := by
  rcases hz with hz | ⟨T, bb, oT, hz, _⟩ <;> exact Heap.lt_size hz
 unfold pyNext
 rcases hz with hz | ⟨T, bb, oT, hz, hTo, hTz⟩
 ·refine wpAny_bind (wpAny_attempt (wpAny_callSpecial?_slot (name := Str.ofString "__next__") hT F.slot_zip_next
   (wpAny_call_entry F.slot_zip_next hT F.entry_zip_next
    (item_first D hz hTI hTO h1 h2 hl1 hl2 hx hy fun h' a1 a2 a3 a4 a5 a6 a7 => wpAny_pure (hQ h' ?_ a5 a6 a7)) (F.args_zip_next_1 _))))
  refine ⟨.inr ⟨_, _, _, a1, a5, Nat.ne_of_gt zlt⟩, a7 _ _ D.TIz D.TITO D.TIi1 D.TIi2 hTI, ⟨_, _, a2⟩, a3, a4, hl1.at fun o e => a7 _ o D.l1z hl1T.1 D.l1i1 D.l1i2 e, hl2.at fun o e => a7 _ o D.l2z hl1T.2 D.l2i1 D.l2i2 e⟩
 ·refine wpAny_bind (wpAny_attempt (wpAny_callSpecial?_slot (name := Str.ofString "__next__") hT F.slot_zip_next
   (wpAny_call_entry F.slot_zip_next hT F.entry_zip_next
    (item_again D hz hTo hTI h1 h2 hl1 hl2 hx hy fun h' a1 a3 a4 a5 a6 a7 => wpAny_pure (hQ h' ?_ a5 a6 fun c o c1 _ c3 c4 e => a7 c o c1 c3 c4 e)) (F.args_zip_next_1 _))))
  have hTi : ∃ o, h'.get? T = some o := by
   by_cases e1 : T = i1
   ·subst e1; obtain ⟨o, e, _⟩ := a3; exact ⟨o, e⟩
   ·by_cases e2 : T = i2
    ·subst e2; obtain ⟨o, e, _⟩ := a4; exact ⟨o, e⟩
    ·exact ⟨_, a7 _ _ hTz e1 e2 hTo⟩
  obtain ⟨oT', hTo'⟩ := hTi
  refine ⟨.inr ⟨_, _, _, a1, hTo', hTz⟩, a7 _ _ D.TIz D.TIi1 D.TIi2 hTI, ⟨_, _, a7 _ _ D.TOz D.TOi1 D.TOi2 hTO⟩, a3, a4, hl1.at fun o e => a7 _ o D.l1z D.l1i1 D.l1i2 e, hl2.at fun o e => a7 _ o D.l2z D.l2i1 D.l2i2 e⟩
theorem pyNext_end {z TI TO i1 i2 l1 l2 : Addr} {k : Nat} {xs ys : Array Value} {Q : Option Value -> Shared -> Prop} (hh : A.handled = none) (D : ZipApart z TI TO i1 i2 l1 l2) (S : Zs s.heap z TI TO i1 i2 l1 l2 xs ys k) (hx : xs[k]? = none)
  (hQ : ∀ h', (∀ c o, c ≠ z -> c ≠ i1 -> s.heap.get? c = some o -> h'.get? c = some o) -> Q none { s with heap := h' }) : wpAny (model prog w) A (pyNext (.ref z)) Q E s := by
 have hT : s.TypeIs (.ref z) "zip" := by
  rcases S.zip with hz | ⟨T, bb, oT, hz, _⟩ <;> exact ⟨_, hz, rfl⟩
 unfold pyNext
 refine wpAny_bind (wpAny_attempt (wpAny_callSpecial?_slot (name := Str.ofString "__next__") hT F.slot_zip_next
  (wpAny_call_entry F.slot_zip_next hT F.entry_zip_next (ends hh D S hx fun h' e hk he => ?_) (F.args_zip_next_1 _))))
 obtain ⟨o, ho, hc⟩ := he
 refine wpAny_bind (wpAny_isInstance (T := "StopIteration") (b := true) ⟨o, ho, hc⟩ isSubtype_stop ?_)
 exact wpAny_pure (hQ _ hk)
end
structure Got (h : Heap) (B : Nat) (bad : List Addr) (acc : Array Value) (xs ys : Array Value) (i : Nat) (Ts : List Addr) : Prop where
 acc : acc.toList = Ts.map Value.ref
 len : Ts.length = i
 nodup : Ts.Nodup
 lt : ∀ T ∈ Ts, B <= T /\ T < h.objs.size /\ T ∉ bad
 pair : ∀ (j : Nat) T x y, Ts[j]? = some T -> xs[j]? = some x -> ys[j]? = some y -> IsPair h T x y
theorem Got.keep {h h' : Heap} {B : Nat} {bad : List Addr} {acc xs ys : Array Value} {i : Nat} {Ts : List Addr} (g : Got h B bad acc xs ys i Ts) (hs : h.objs.size <= h'.objs.size) (k : ∀ b o, b ∉ bad -> h.get? b = some o -> h'.get? b = some o) : Got h' B bad acc xs ys i Ts :=
 ⟨g.acc, g.len, g.nodup, fun T hT => ⟨(g.lt T hT).1, Nat.lt_of_lt_of_le (g.lt T hT).2.1 hs, (g.lt T hT).2.2⟩, fun j T x y e1 e2 e3 => k _ _ (g.lt T (List.mem_of_getElem? e1)).2.2 (g.pair j T x y e1 e2 e3)⟩
theorem Got.more {h : Heap} {B : Nat} {bad : List Addr} {acc xs ys : Array Value} {i : Nat} {Ts : List Addr} {T : Addr} {x y : Value} (g : Got h B bad acc xs ys i Ts) (hT : B <= T /\ T < h.objs.size /\ T ∉ bad) (hn : T ∉ Ts) (p : IsPair h T x y) (hx : xs[i]? = some x) (hy : ys[i]? = some y) :
  Got h B bad (acc.push (.ref T)) xs ys (i + 1) (Ts ++ [T]) where
 acc := by rw [Array.toList_push, g.acc, List.map_append]; rfl
 len := by rw [List.length_append, g.len]; rfl
 nodup := List.nodup_append.mpr ⟨g.nodup, by simp, fun a ha b hb => by rw [List.mem_singleton.mp hb]; rintro rfl; exact hn ha⟩
 lt := fun U hU => by
  rcases List.mem_append.mp hU with hU | hU
  ·exact g.lt U hU
  ·rw [List.mem_singleton.mp hU]; exact hT
 pair := fun j U a b e1 e2 e3 => by
  by_cases hj : j < Ts.length
  ·rw [List.getElem?_append_left hj] at e1
   exact g.pair j U a b e1 e2 e3
  ·have hl := g.len
   rw [List.getElem?_append_right (by omega)] at e1
   have : j - Ts.length = 0 := by
    by_cases h0 : j - Ts.length = 0
    ·exact h0
    ·rw [List.getElem?_eq_none (by simp; omega)] at e1; cases e1
   have hji : j = i := by omega
   subst hji
   rw [this] at e1
   simp at e1
   subst e1
   rw [hx] at e2
   rw [hy] at e3
   cases e2
   cases e3
   exact p
section
variable {prog : Program} {w : World} {A : Around} {R : Result -> Shared -> Prop} {S z TI TO i1 i2 l1 l2 : Addr} {xs ys : Array Value} {n B : Nat}
theorem Zs.keep {h h' : Heap} {k : Nat} (Z : Zs h z TI TO i1 i2 l1 l2 xs ys k) (e : ∀ b o, b ≠ S -> h.get? b = some o -> h'.get? b = some o) (hS : z ≠ S /\ TI ≠ S /\ TO ≠ S /\ i1 ≠ S /\ i2 ≠ S /\ l1 ≠ S /\ l2 ≠ S) (hSo : ∃ o, h'.get? S = some o) : Zs h' z TI TO i1 i2 l1 l2 xs ys k := by
 obtain ⟨hz, hTI, ⟨a, b, hTO⟩, h1, h2, hl1, hl2⟩ := Z
 obtain ⟨s1, s2, s3, s4, s5, s6, s7⟩ := hS
 refine ⟨?_, e _ _ s2 hTI, ⟨a, b, e _ _ s3 hTO⟩, h1.at fun o q => e _ o s4 q, h2.at fun o q => e _ o s5 q, hl1.at fun o q => e _ o s6 q, hl2.at fun o q => e _ o s7 q⟩
 rcases hz with hz | ⟨T, bb, oT, hz, hT, hTz⟩
 ·exact .inl (e _ _ s1 hz)
 ·by_cases hTS : T = S
  ·obtain ⟨o, ho⟩ := hSo
   exact .inr ⟨T, bb, o, e _ _ s1 hz, by rw [hTS]; exact ho, hTz⟩
  ·exact .inr ⟨T, bb, oT, e _ _ s1 hz, e _ _ hTS hT, hTz⟩
theorem loop (hh : A.handled = none) (D : ZipApart z TI TO i1 i2 l1 l2) (hlT : l1 ≠ TO /\ l2 ≠ TO) (hS : z ≠ S /\ TI ≠ S /\ TO ≠ S /\ i1 ≠ S /\ i2 ≠ S /\ l1 ≠ S /\ l2 ≠ S) (hxn : xs.size = n) (hyn : ys.size = n) (hn : n <= sizeLine) (res : Value) :
  ∀ (k i : Nat) (s : Shared) (acc : Array Value) (c : Nat) (Ts : List Addr), n - i = k -> i <= n -> B <= s.heap.objs.size -> Zs s.heap z TI TO i1 i2 l1 l2 xs ys i -> s.heap.get? S = some { cls := .type "list", dict := none, data := .seq acc c, slots := #[] } ->
  Got s.heap B [S, z, TO, i1, i2] acc xs ys i Ts ->
  (∀ h' acc' c' Ts', (∀ b o, b ∉ [S, z, TO, i1, i2] -> s.heap.get? b = some o -> h'.get? b = some o) -> h'.get? S = some { cls := .type "list", dict := none, data := .seq acc' c', slots := #[] } -> Got h' B [S, z, TO, i1, i2] acc' xs ys n Ts' -> R (.ok (.ret res)) { s with heap := h' }) ->
  codeAny (model prog w) A (.builtin "list.extend.loop" ⟨[.ref S, .ref z, res], []⟩) R s := by
 intro k
 induction k with
 | zero =>
  intro i s acc c Ts hk hi hB hst hSo hacc hR
  have hin : i = n := by omega
  subst hin
  refine codeAny_builtin F.entry_extend_loop ?_
  rw [Around.under_plainId F.plain_extend_loop _]
  show wpAny _ A.in1 (pyNext (.ref z) >>= _) _ _ s
  have hlt : s.heap.objs.size <= s.heap.objs.size := Nat.le_refl _
  refine wpAny_bind (pyNext_end (A := A.in1) hh D hst (by rw [Array.getElem?_eq_none]; omega) fun h' hm => ?_)
  have hm' : ∀ b o, b ∉ [S, z, TO, i1, i2] -> s.heap.get? b = some o -> h'.get? b = some o := fun b o hb e => hm b o (fun q => hb (by simp [q])) (fun q => hb (by simp [q])) e
  have hsz : ∀ T ∈ Ts, T < h'.objs.size := fun T hT => by
   obtain ⟨j, hj⟩ := List.getElem?_of_mem hT
   have hjl : j < Ts.length := (List.getElem?_eq_some_iff.mp hj).1
   have hl := hacc.len
   have p := hacc.pair j T xs[j] ys[j] hj (by simp [show j < xs.size by omega]) (by simp [show j < ys.size by omega])
   exact Heap.lt_size (hm' _ _ (hacc.lt T hT).2.2 p)
  exact wpAny_pure (hR h' acc c Ts hm' (hm S _ hS.1.symm hS.2.2.2.1.symm hSo) ⟨hacc.acc, hacc.len, hacc.nodup, fun T hT => ⟨(hacc.lt T hT).1, hsz T hT, (hacc.lt T hT).2.2⟩, fun j T x y e1 e2 e3 => hm' _ _ (hacc.lt T (List.mem_of_getElem? e1)).2.2 (hacc.pair j T x y e1 e2 e3)⟩)
 | succ k ih =>
  intro i s acc c Ts hk hi hB hst hSo hacc hR
  have hlt : i < n := by omega
  refine codeAny_builtin F.entry_extend_loop ?_
  rw [Around.under_plainId F.plain_extend_loop _]
  show wpAny _ A.in1 (pyNext (.ref z) >>= _) _ _ s
  have l1lt : l1 < s.heap.objs.size := by obtain ⟨o, e, _⟩ := hst.t1; exact Heap.lt_size e
  have l2lt : l2 < s.heap.objs.size := by obtain ⟨o, e, _⟩ := hst.t2; exact Heap.lt_size e
  refine wpAny_bind (pyNext_item (A := A.in1) (x := xs[i]) (y := ys[i]) D ⟨l1lt, l2lt⟩ hst hlT (by simp [show i < xs.size by omega]) (by simp [show i < ys.size by omega]) fun h' Z' p hsz hm => ?_)
  have hm' : ∀ b o, b ∉ [S, z, TO, i1, i2] -> s.heap.get? b = some o -> h'.get? b = some o := fun b o hb e => hm b o (fun q => hb (by simp [q])) (fun q => hb (by simp [q])) (fun q => hb (by simp [q])) (fun q => hb (by simp [q])) e
  have hS' := hm S _ hS.1.symm hS.2.2.1.symm hS.2.2.2.1.symm hS.2.2.2.2.1.symm hSo
  have Slt : S < s.heap.objs.size := Heap.lt_size hSo
  have nb : s.heap.objs.size ∉ [S, z, TO, i1, i2] := by
   obtain ⟨hz, hTI, ⟨a, b, hTO⟩, h1, h2, hl1, hl2⟩ := hst
   have a1 : z < s.heap.objs.size := by
    rcases hz with hz | ⟨T, bb, oT, hz, _⟩ <;> exact Heap.lt_size hz
   have a2 : TO < s.heap.objs.size := Heap.lt_size hTO
   have a3 : i1 < s.heap.objs.size := by obtain ⟨o, e, _⟩ := h1; exact Heap.lt_size e
   have a4 : i2 < s.heap.objs.size := by obtain ⟨o, e, _⟩ := h2; exact Heap.lt_size e
   intro hb
   simp only [List.mem_cons, List.not_mem_nil, or_false] at hb
   rcases hb with e | e | e | e | e
   ·exact Nat.ne_of_gt Slt e
   ·exact Nat.ne_of_gt a1 e
   ·exact Nat.ne_of_gt a2 e
   ·exact Nat.ne_of_gt a3 e
   ·exact Nat.ne_of_gt a4 e
  have nT : s.heap.objs.size ∉ Ts := fun hT => Nat.lt_irrefl _ (hacc.lt _ hT).2.1
  have g' := (hacc.keep (h' := h') (by omega) hm').more (T := s.heap.objs.size) (x := xs[i]) (y := ys[i]) ⟨hB, (by rw [hsz]; exact Nat.lt_succ_self _), nb⟩ nT p (by simp [show i < xs.size by omega]) (by simp [show i < ys.size by omega])
  show wpAny _ A.in1 (updateSeq S (·.push (.ref s.heap.objs.size)) >>= _) _ _ _
  refine wpAny_bind ?_
  have hal : acc.size = i := by
   have := congrArg List.length hacc.acc
   rw [Array.length_toList, List.length_map, hacc.len] at this
   exact this
  have oth : ∀ b o, b ≠ S -> h'.get? b = some o -> (h'.update S (Obj.mapSeq (·.push (.ref s.heap.objs.size)))).get? b = some o := fun b o hb e => (Heap.get?_update_other _ _ (Ne.symm hb)).trans e
  have upS := Heap.get?_update_self (Obj.mapSeq (·.push (.ref s.heap.objs.size))) hS' rfl
  refine wpAny_updateSeq hS' rfl (wpAny_pure ⟨plainId_quiet F.plain_extend_loop _, ih (i + 1) _ (acc.push (.ref s.heap.objs.size)) _ (Ts ++ [s.heap.objs.size]) (by omega) hlt ?_ (Z'.keep oth hS ⟨_, upS⟩) upS (g'.keep ?_ fun b o hb e => oth b o (fun q => hb (by simp [q])) e) fun h'' acc' c' Ts' hm'' hS'' hacc' => ?_⟩)
   (by rw [hal]; omega) (by show (acc.push _).size <= sizeLine + 1; rw [Array.size_push, hal]; omega)
  ·show B <= (h'.update S _).objs.size
   rw [(Heap.SameBut.update ..).1]; omega
  ·show h'.objs.size <= (h'.update S _).objs.size
   rw [(Heap.SameBut.update ..).1]; exact Nat.le_refl _
  ·exact hR h'' acc' c' Ts' (fun b o hb e => hm'' b o hb (oth b o (fun q => hb (by simp [q])) (hm' b o hb e))) hS'' hacc'
end
theorem zip_no_len : typeLookup (.type "zip") "__len__" = pure none := by rw [typeLookup_type, builtinLookup_eq_fast]; kernel_rfl
theorem zip_no_hint : typeLookup (.type "zip") "__length_hint__" = pure none := by rw [typeLookup_type, builtinLookup_eq_fast]; kernel_rfl
section
variable {prog : Program} {w : World} {A : Around} {R : Result -> Shared -> Prop} {s : Shared} {S z TI TO i1 i2 l1 l2 : Addr} {xs ys : Array Value} {n B : Nat}
theorem extend (hh : A.handled = none) (D : ZipApart z TI TO i1 i2 l1 l2) (hlT : l1 ≠ TO /\ l2 ≠ TO) (hS : z ≠ S /\ TI ≠ S /\ TO ≠ S /\ i1 ≠ S /\ i2 ≠ S /\ l1 ≠ S /\ l2 ≠ S) (hxn : xs.size = n) (hyn : ys.size = n) (hn : n <= sizeLine) (res : Value) (c₀ : Nat) (hB : B <= s.heap.objs.size)
  (hst : Zs s.heap z TI TO i1 i2 l1 l2 xs ys 0) (hSo : s.heap.get? S = some { cls := .type "list", data := .seq #[] c₀ })
  (hR : ∀ h' acc' c' Ts', (∀ b o, b ∉ [S, z, TO, i1, i2] -> s.heap.get? b = some o -> h'.get? b = some o) -> h'.get? S = some { cls := .type "list", dict := none, data := .seq acc' c', slots := #[] } -> Got h' B [S, z, TO, i1, i2] acc' xs ys n Ts' -> R (.ok (.ret res)) { s with heap := h' }) :
  wpAny (model prog w) A.in1 (Builtin.List.listExtendWith (.ref S) (.ref z) res)
   (fun fin s' => match fin with | .done f => R (.ok f) s' | .again c' => c'.quiet = true /\ codeAny (model prog w) A c' R s') (fun e s' => R (.error e) s') s := by
 have hT : s.TypeIs (.ref z) "zip" := by
  rcases hst.zip with hz | ⟨T, bb, oT, hz, _⟩ <;> exact ⟨_, hz, rfl⟩
 unfold Builtin.List.listExtendWith
 refine wpAny_bind (wpAny_typeOf hT ?_)
 have h1 : Builtin.List.listSameRef (.ref S) (.ref z) = false := by simp [Builtin.List.listSameRef, hS.1.symm]
 have h2 : (Value.type "zip" == Value.type "list") = false := by decide
 have h3 : (Value.type "zip" == Value.type "tuple") = false := by decide
 simp only [h1, h2, h3, Bool.or_false, Bool.false_eq_true, if_false]
 have hself : ∀ (Q : Value -> Shared -> Prop) (E : Value -> Shared -> Prop), Q (.ref z) s -> wpAny (model prog w) A.in1 (pyIter (.ref z)) Q E s := fun Q E h => by
  refine wpAny_pyIter_slot hT F.slot_zip_iter (wpAny_call_entry F.slot_zip_iter hT F.entry_zip_iter ?_ (F.args_zip_iter_1 _))
  show wpAny _ _ (ret (.ref z)) _ _ s
  exact wpAny_pure ⟨_, rfl, "zip", _, hT, F.slot_zip_next.lookup, h⟩
 refine wpAny_bind (hself _ _ ?_)
 refine wpAny_bind (wpAny_holding ?_)
 unfold Builtin.List.listLengthHint
 refine wpAny_bind (wpAny_specialOf hT zip_no_len ?_)
 show wpAny _ A.in1 (specialOf (Value.ref z) (Str.ofString "__length_hint__") >>= _) _ _ _
 refine wpAny_bind (wpAny_specialOf hT zip_no_hint ?_)
 refine wpAny_pure ?_
 show wpAny _ A.in1 (rule "list.extend.makes-room" >>= fun _ => Builtin.List.listTouch (.ref S) >>= fun _ =>
  again (.builtin "list.extend.loop" ⟨[.ref S, .ref z, res], []⟩)) _ _ _
 refine wpAny_bind (wpAny_rule ?_)
 refine wpAny_bind ?_
 show wpAny _ A.in1 (updateSeq S (·.push .none) >>= fun _ => updateSeq S (·.pop)) _ _ _
 refine wpAny_bind (wpAny_updateSeq hSo rfl ?_)
 have hS₂ := Heap.get?_update_self (Obj.mapSeq (·.push Value.none)) hSo rfl
 refine wpAny_updateSeq (hz := by seq_fits) hS₂ rfl ?_
 have hS₃ := Heap.get?_update_self (Obj.mapSeq (·.pop)) hS₂ rfl
 have oth : ∀ b o, b ≠ S -> s.heap.get? b = some o -> ((s.heap.update S (Obj.mapSeq (·.push Value.none))).update S (Obj.mapSeq (·.pop))).get? b = some o :=
  fun b o hb e => (Heap.get?_update_other _ _ (Ne.symm hb)).trans ((Heap.get?_update_other _ _ (Ne.symm hb)).trans e)
 refine wpAny_pure ⟨plainId_quiet F.plain_extend_loop _, loop (B := B) hh D hlT hS hxn hyn hn res n 0 _ _ _ [] (by omega) (Nat.zero_le _) ?_ (hst.keep oth hS ⟨_, hS₃⟩) hS₃ ⟨rfl, rfl, List.nodup_nil, fun T hT => (nomatch hT), fun j T x y e => by simp at e⟩ fun h' acc' c' Ts' hm hS' hacc => ?_⟩
 ·show B <= ((s.heap.update S _).update S _).objs.size
  rw [(Heap.SameBut.update ..).1, (Heap.SameBut.update ..).1]
  exact hB
 ·exact hR h' acc' c' Ts' (fun b o hb e => hm b o hb (oth b o (fun q => hb (by simp [q])) e)) hS' hacc
theorem init (hh : A.handled = none) (D : ZipApart z TI TO i1 i2 l1 l2) (hlT : l1 ≠ TO /\ l2 ≠ TO) (hS : z ≠ S /\ TI ≠ S /\ TO ≠ S /\ i1 ≠ S /\ i2 ≠ S /\ l1 ≠ S /\ l2 ≠ S) (hxn : xs.size = n) (hyn : ys.size = n) (hn : n <= sizeLine) (hB : B <= s.heap.objs.size)
  (hst : Zs s.heap z TI TO i1 i2 l1 l2 xs ys 0) (hSo : s.heap.get? S = some { cls := .type "list", data := .seq #[] })
  (hR : ∀ h' acc' c' Ts', (∀ b o, b ∉ [S, z, TO, i1, i2] -> s.heap.get? b = some o -> h'.get? b = some o) -> h'.get? S = some { cls := .type "list", dict := none, data := .seq acc' c', slots := #[] } -> Got h' B [S, z, TO, i1, i2] acc' xs ys n Ts' -> R (.ok (.ret .none)) { s with heap := h' }) :
  wpAny (model prog w) A.in1 (Builtin.«list.__init__» ⟨[.ref S, .ref z], []⟩)
   (fun fin s' => match fin with | .done f => R (.ok f) s' | .again c' => c'.quiet = true /\ codeAny (model prog w) A c' R s') (fun e s' => R (.error e) s') s := by
 show wpAny _ A.in1 (do let old <- Builtin.List.listItems (.ref S); Builtin.List.listUpdate (.ref S) (fun _ => #[]); letGo old.toList.reverse; Builtin.List.listExtendWith (.ref S) (.ref z) .none) _ _ s
 refine wpAny_bind ?_
 unfold Builtin.List.listItems
 refine wpAny_bind (wpAny_seqItems hSo rfl (wpAny_pure ?_))
 show wpAny _ A.in1 (updateSeq S (fun _ => #[]) >>= fun _ => letGo (#[] : Array Value).toList.reverse >>= fun _ => Builtin.List.listExtendWith (.ref S) (.ref z) .none) _ _ s
 refine wpAny_bind (wpAny_updateSeq hSo rfl ?_)
 have hS₂ := Heap.get?_update_self (Obj.mapSeq (fun _ => (#[] : Array Value))) hSo rfl
 have oth : ∀ b o, b ≠ S -> s.heap.get? b = some o -> (s.heap.update S (Obj.mapSeq (fun _ => (#[] : Array Value)))).get? b = some o :=
  fun b o hb e => (Heap.get?_update_other _ _ (Ne.symm hb)).trans e
 refine wpAny_bind (wpAny_letGo ?_)
 refine extend (B := B) hh D hlT hS hxn hyn hn .none _ ?_ (hst.keep oth hS ⟨_, hS₂⟩) hS₂ fun h' acc' c' Ts' hm hS' hacc => ?_
 ·show B <= (s.heap.update S _).objs.size
  rw [(Heap.SameBut.update ..).1]
  exact hB
 ·exact hR h' acc' c' Ts' (fun b o hb e => hm b o hb (oth b o (fun q => hb (by simp [q])) e)) hS' hacc
end
section
variable {prog : Program} {w : World} {A : Around} {E : Value -> Shared -> Prop} {s : Shared} {z TI TO i1 i2 l1 l2 : Addr} {xs ys : Array Value} {n B : Nat}
theorem call_list {Q : Value -> Shared -> Prop} (hh : A.handled = none) (D : ZipApart z TI TO i1 i2 l1 l2) (hlT : l1 ≠ TO /\ l2 ≠ TO) (hxn : xs.size = n) (hyn : ys.size = n) (hn : n <= sizeLine) (hB : B <= s.heap.objs.size) (hst : Zs s.heap z TI TO i1 i2 l1 l2 xs ys 0)
  (hQ : ∀ h' acc' c' Ts', (∀ b o, b ∉ [z, TO, i1, i2] -> s.heap.get? b = some o -> h'.get? b = some o) -> h'.get? s.heap.objs.size = some { cls := .type "list", dict := none, data := .seq acc' c', slots := #[] } -> Got h' B [s.heap.objs.size, z, TO, i1, i2] acc' xs ys n Ts' -> Q (.ref s.heap.objs.size) { s with heap := h' }) :
  wpAny (model prog w) A (call (.type "list") [.ref z]) Q E s := by
 have hlt : ∀ b o, s.heap.get? b = some o -> b ≠ s.heap.objs.size := fun b o e => Nat.ne_of_lt (Heap.lt_size e)
 have hS : z ≠ s.heap.objs.size /\ TI ≠ s.heap.objs.size /\ TO ≠ s.heap.objs.size /\ i1 ≠ s.heap.objs.size /\ i2 ≠ s.heap.objs.size /\ l1 ≠ s.heap.objs.size /\ l2 ≠ s.heap.objs.size := by
  obtain ⟨hz, hTI, ⟨a, b, hTO⟩, h1, h2, hl1, hl2⟩ := hst
  refine ⟨?_, hlt _ _ hTI, hlt _ _ hTO, ?_, ?_, ?_, ?_⟩
  ·rcases hz with hz | ⟨T, bb, oT, hz, _⟩ <;> exact hlt _ _ hz
  ·obtain ⟨o, e, _⟩ := h1; exact hlt _ _ e
  ·obtain ⟨o, e, _⟩ := h2; exact hlt _ _ e
  ·obtain ⟨o, e, _⟩ := hl1; exact hlt _ _ e
  ·obtain ⟨o, e, _⟩ := hl2; exact hlt _ _ e
 refine callType_codes (Q₁ := fun obj s₁ => obj = .ref s.heap.objs.size /\ s₁ = { s with heap := s.heap.push { cls := .type "list", data := .seq #[] } }) F.called_list (F.typeCall_list_1 _) F.entry_list_init
  (code_list_new _ ⟨rfl, rfl⟩) fun obj s₁ h₁ => ?_
 obtain ⟨rfl, rfl⟩ := h₁
 have hSo : (s.heap.push { cls := .type "list", data := .seq #[] }).get? s.heap.objs.size = some { cls := .type "list", data := .seq #[] } := Heap.get?_push_size _ rfl
 refine ⟨⟨_, hSo, rfl⟩, F.args_list_init_2 _ _, init (A := A.in1) (B := B) hh D hlT hS hxn hyn hn ?_ (hst.keep (S := s.heap.objs.size) (fun b o _ e => Heap.get?_push_of_some _ e) hS ⟨_, hSo⟩) hSo fun h' acc' c' Ts' hm hS' hacc => ?_⟩
 ·show B <= (s.heap.push _).objs.size
  rw [Heap.size_push]
  exact Nat.le_succ_of_le hB
 ·exact ⟨rfl, hQ h' acc' c' Ts' (fun b o hb e => hm b o (fun q => by
   rcases List.mem_cons.mp q with q | q
   ·exact hlt _ _ e q
   ·exact hb q) (Heap.get?_push_of_some _ e)) hS' hacc⟩
end
abbrev zH1 (h : Heap) (l1 : Addr) : Heap := h.push { cls := .type "tuple_iterator", data := .fields #[.ref l1, .int 0 0] }
abbrev zH2 (h : Heap) (l1 l2 : Addr) : Heap := (zH1 h l1).push { cls := .type "tuple_iterator", data := .fields #[.ref l2, .int 0 0] }
abbrev zH3 (h : Heap) (l1 l2 : Addr) : Heap := (zH2 h l1 l2).push { cls := .type "tuple", data := .seq #[.ref h.objs.size, .ref (zH1 h l1).objs.size] }
abbrev zH4 (h : Heap) (l1 l2 : Addr) : Heap := (zH3 h l1 l2).push { cls := .type "tuple", data := .seq #[.none, .none] }
abbrev zH5 (h : Heap) (l1 l2 : Addr) : Heap := (zH4 h l1 l2).push { cls := .type "zip", data := .fields #[.none, .bool false, .bool false, .ref (zH2 h l1 l2).objs.size, .ref (zH3 h l1 l2).objs.size] }
theorem meets_new (l1 l2 : Addr) (xs ys : Array Value) :
  Meets (Builtin.«zip.__new__» ⟨[.type "zip", .ref l1, .ref l2], []⟩) (fun _ R s => s.heap.IsTuple l1 xs /\ s.heap.IsTuple l2 ys ∧
   R (.ok (.ret (.ref (zH4 s.heap l1 l2).objs.size))) { s with heap := zH5 s.heap l1 l2 }) :=
 .of_wp fun prog w A R s h => by
  obtain ⟨hp, g, d, tk, os⟩ := s; obtain ⟨hl1, hl2, h⟩ := h
  have hsub := sub_zip
  have hL1 : Heap.IsTuple (Shared.heap ⟨hp, g, d, tk, os⟩) l1 xs := hl1
  have hL2 : Heap.IsTuple (Shared.heap ⟨hp.push { cls := .type "tuple_iterator", data := .fields #[.ref l1, .int 0 0] }, g, d, tk, os⟩) l2 ys := Heap.IsTuple.push hl2 _
  wp_walk using wpAny_pyIter_tuple hL1, wpAny_pyIter_tuple hL2
  exact ⟨_, rfl, h⟩
section
variable {prog : Program} {w : World} {A : Around} {E : Value -> Shared -> Prop} {s : Shared}
theorem call_zip {l1 l2 : Addr} {xs ys : Array Value} {Q : Value -> Shared -> Prop} (hl1 : s.heap.IsTuple l1 xs) (hl2 : s.heap.IsTuple l2 ys)
  (h : ∀ h', Zs h' (s.heap.objs.size + 4) (s.heap.objs.size + 2) (s.heap.objs.size + 3) s.heap.objs.size (s.heap.objs.size + 1) l1 l2 xs ys 0 -> h'.objs.size = s.heap.objs.size + 5 ->
   (∀ c o, s.heap.get? c = some o -> h'.get? c = some o) -> Q (.ref (s.heap.objs.size + 4)) { s with heap := h' }) :
  wpAny (model prog w) A (call (.type "zip") [.ref l1, .ref l2]) Q E s := by
 refine callType_new F.called_zip (by decide) (F.typeCall_zip_2 _ _) (F.newCall_zip_2 _ _) (fun obj => F.args_object_init_3 obj _ _) F.entry_zip_new
  (meets_new l1 l2 xs ys) ⟨hl1, hl2, ?_⟩
 have z1 : (zH1 s.heap l1).objs.size = s.heap.objs.size + 1 := Heap.size_push ..
 have z2 : (zH2 s.heap l1 l2).objs.size = s.heap.objs.size + 2 := by rw [Heap.size_push, z1]
 have z3 : (zH3 s.heap l1 l2).objs.size = s.heap.objs.size + 3 := by rw [Heap.size_push, z2]
 have z4 : (zH4 s.heap l1 l2).objs.size = s.heap.objs.size + 4 := by rw [Heap.size_push, z3]
 have z5 : (zH5 s.heap l1 l2).objs.size = s.heap.objs.size + 5 := by rw [Heap.size_push, z4]
 have g5 : (zH5 s.heap l1 l2).get? (zH4 s.heap l1 l2).objs.size = some _ := Heap.get?_push_size _ rfl
 have g4 : (zH5 s.heap l1 l2).get? (zH3 s.heap l1 l2).objs.size = some _ := Heap.get?_push_of_some _ (Heap.get?_push_size _ rfl)
 have g3 : (zH5 s.heap l1 l2).get? (zH2 s.heap l1 l2).objs.size = some _ := Heap.get?_push_of_some _ (Heap.get?_push_of_some _ (Heap.get?_push_size _ rfl))
 have g2 : (zH5 s.heap l1 l2).get? (zH1 s.heap l1).objs.size = some _ := Heap.get?_push_of_some _ (Heap.get?_push_of_some _ (Heap.get?_push_of_some _ (Heap.get?_push_size _ rfl)))
 have g1 : (zH5 s.heap l1 l2).get? s.heap.objs.size = some _ := Heap.get?_push_of_some _ (Heap.get?_push_of_some _ (Heap.get?_push_of_some _ (Heap.get?_push_of_some _ (Heap.get?_push_size _ rfl))))
 have kp : ∀ c o, s.heap.get? c = some o -> (zH5 s.heap l1 l2).get? c = some o := fun c o e => Heap.get?_push_of_some _ (Heap.get?_push_of_some _ (Heap.get?_push_of_some _ (Heap.get?_push_of_some _ (Heap.get?_push_of_some _ e))))
 show _ /\ _
 rw [z2, z3, z4] at g5
 rw [z1, z2] at g3
 rw [z3] at g4
 rw [z1] at g2
 rw [z4]
 exact ⟨⟨_, g5, rfl⟩, h _ ⟨.inl g5, g3, ⟨_, _, g4⟩, ⟨_, g1, rfl, rfl⟩, ⟨_, g2, rfl, rfl⟩, hl1.at fun o e => kp _ o e, hl2.at fun o e => kp _ o e⟩ z5 kp⟩
end
end Zt
end
section
namespace L2
open PySem PySem.Spec PyProof.Rows
abbrev TJ := St -> Hp -> Str -> VK -> Prop
def PJ (X : Cx) (es : List Expr) (t : TJ) : Prop :=
 ∀ (pins : List (Addr × Obj)) (s : Shared) (σ : St) (H : Hp) (out : Str) (Q : VK), Inv X pins σ H s -> t σ H out Q -> wpAny (model X.prog X.w) X.A (joinParts out (evalEach es X.env)) (EP X pins σ Q) X.xe s
def jNil : TJ := fun _ H out Q => out.length <= sizeLine /\ Q (.str out) H
def jLit (x : Str) (t : TJ) : TJ := fun σ H out Q => (out ++ x).length <= sizeLine /\ t σ H (out ++ x) Q
def jStr (te : TE) (t : TJ) : TJ := fun σ H out Q => te σ H fun v H1 => ∃ x, v = .str x /\ x.length <= sizeLine /\ (out ++ x).length <= sizeLine /\ t σ H1 (out ++ x) Q
def jInt (te : TE) (t : TJ) : TJ := fun σ H out Q => te σ H fun v H1 => ∃ i : Int, v = .int i /\ i.natAbs.log2 < 1920 /\ (out ++ Str.ofString (toString i)).length <= sizeLine /\ t σ H1 (out ++ Str.ofString (toString i)) Q
section
variable {X : Cx} {e e1 e2 : Expr} {es : List Expr} {te : TE} {t : TJ} {pos : Pos}
theorem pj_nil : PJ X [] jNil := fun _ _ _ H out _ I h => joinParts_nilE (joinParts_nil ⟨.str out, H, I.tok _, ⟨_, rfl⟩, h.2⟩ h.1)
theorem pj_lit {x : Str} {j} (h : PJ X es t) : PJ X (.Constant (.str x) j pos :: es) (jLit x t) := by
 intro pins s σ H out Q I hw
 refine joinParts_consE (joinParts_cons (thn (pe_str (X := X) pins s σ H (fun v H' => v = .str x /\ H' = H) I ⟨rfl, rfl⟩) fun v s1 ⟨z, H1, I1, r, e1, e2⟩ => ?_))
 subst e1 e2
 obtain ⟨t', rfl⟩ := r
 exact ⟨hw.1, h pins s1 σ _ _ Q I1 hw.2⟩
theorem pj_str (he : PE X e te) (h : PJ X es t) : PJ X (.FormattedValue e (-1) none pos :: es) (jStr te t) := by
 intro pins s σ H out Q I hw
 refine joinParts_consE (joinParts_cons (FormattedValue_plain (thn (he pins s σ H _ I hw) fun v s1 ⟨z, H1, I1, r, x, e, hz, hl, q⟩ => ?_)))
 subst e
 obtain ⟨t', rfl⟩ := r
 exact formatField_str (fun t'' tk => ⟨hl, h pins _ σ H1 _ Q (I1.tok tk) q⟩) hz
theorem pj_int (he : PE X e te) (h : PJ X es t) : PJ X (.FormattedValue e (-1) none pos :: es) (jInt te t) := by
 intro pins s σ H out Q I hw
 refine joinParts_consE (joinParts_cons (FormattedValue_plain (thn (he pins s σ H _ I hw) fun v s1 ⟨z, H1, I1, r, i, e, hz, hl, q⟩ => ?_)))
 subst e
 obtain ⟨t', rfl⟩ := r
 exact formatField_int_small hz ⟨hl, h pins _ σ H1 _ Q (I1.tok _) q⟩
theorem pe_fstr (h : PJ X (e1 :: e2 :: es) t) : PE X (.JoinedStr (e1 :: e2 :: es) pos) (fun σ H Q => t σ H Str.empty Q) := fun pins s σ H Q I hw => JoinedStr_many (h pins s σ H _ Q I hw)
end
section
variable {X : Cx}
theorem strVals_of : ∀ {l : List (Str × Tok)} {ys : List Str}, l.map (·.1) = ys -> Vals (ys.map V.str) (strValues l)
 | [], ys, h => by subst h; exact .nil
 | (x, t) :: l, ys, h => by
  subst h
  exact .cons ⟨t, rfl⟩ (strVals_of rfl)
def rSplit : V -> List V -> Hp -> VK -> Prop := fun x vs H Q => ∃ z y : Str, x = .str z /\ vs = [.str y] /\ (y.length == 0) = false /\ z.length + 2 <= sizeLine /\ ∀ p, H p = none -> Q (.ref p) (upd H p (.lst ((Txt.split z y).map V.str)))
theorem split_few {z y : Str} (h : z.length + 2 <= sizeLine) : (Builtin.Str.partsBetween z (Builtin.Str.occurrences z y 0 z.length (z.length + 1)) y.length).length <= sizeLine := by
 rw [StrLaws.partsBetween_eq]
 have pl : ∀ (cuts : List Nat) (a : Nat), (StrLaws.partsFrom z y.length a cuts).length = cuts.length + 1 := by
  intro cuts
  induction cuts with
  | nil => intro a; rfl
  | cons c r ih => intro a; show (StrLaws.partsFrom z y.length (c + y.length) r).length + 1 = _; rw [ih]; rfl
 rw [pl]
 have := StrLaws.occ_length_le_len z y 0 z.length (z.length + 1)
 omega
theorem split_len {z y : Str} (h : z.length + 2 <= sizeLine) : (Txt.split z y).length <= sizeLine := by
 unfold Txt.split
 split
 ·show 1 <= sizeLine; omega
 ·split
  ·show 1 <= sizeLine; omega
  ·exact split_few h
theorem mt_split : MtR X "str.split" rSplit := by
 intro pins s σ H x xs v us Q I rx rv h
 obtain ⟨z, y, rfl, rfl, hy, hz, q⟩ := h
 obtain ⟨t, rfl⟩ := rx
 obtain ⟨u, rfl, ru⟩ := rv.one
 obtain ⟨t', rfl⟩ := ru
 have fin : ∀ (l : List (Str × Tok)) (k : Nat), l.map (·.1) = Txt.split z y -> EP X pins σ Q (.ref s.heap.objs.size) { s with heap := s.heap.push { cls := .type "list", data := .seq (strValues l).toArray }, toks := k } := fun l k e => by
  have r := strVals_of e
  have hl : ((Txt.split z y).map V.str).length <= sizeLine := by rw [List.length_map]; exact split_len hz
  exact ⟨.ref s.heap.objs.size, upd H s.heap.objs.size (.lst ((Txt.split z y).map V.str)), I.laid (t' := k) (fun b o e => Heap.get?_push_of_some _ e) (Nat.le_refl _) ⟨hl, strValues l, 0, r, Heap.get?_push_size _ rfl⟩, rfl, q _ (I.hok.fresh (Nat.le_refl _))⟩
 have hsz : z.length <= sizeLine := by omega
 cases h1 : (decide (z.length < y.length) || decide (Builtin.Str.strKind z < Builtin.Str.strKind y))
 ·cases hf : (Builtin.Str.occurrences z y 0 z.length (z.length + 1)).isEmpty
  ·refine call_meets F.slot_str_split (typeIs_str _ _ _) F.entry_str_split (F.args_str_split_2 _ _) (meets_str_split_sep z y t t' h1 hy hf hsz (split_few hz)) ?_
   show EP X pins σ Q _ { s with toks := _, heap := s.heap.push { cls := .type "list", data := .seq (strsFrom s.toks (Builtin.Str.partsBetween z (Builtin.Str.occurrences z y 0 z.length (z.length + 1)) y.length)).toArray } }
   rw [strsFrom_eq]
   exact fin (numbered s.toks _) _ ((numbered_texts _ _).trans ((if_neg (ne_true_of_eq_false h1)).trans (if_neg (ne_true_of_eq_false hf))).symm)
  ·exact call_meets F.slot_str_split (typeIs_str _ _ _) F.entry_str_split (F.args_str_split_2 _ _) (meets_str_split_not_found z y t t' h1 hy hf)
    (fin [(z, t)] _ ((if_neg (ne_true_of_eq_false h1)).trans (if_pos hf)).symm)
 ·exact call_meets F.slot_str_split (typeIs_str _ _ _) F.entry_str_split (F.args_str_split_2 _ _) (meets_str_split_cannot_occur z y t t' h1)
   (fin [(z, t)] _ (if_pos h1).symm)
def rRstrip : V -> List V -> Hp -> VK -> Prop := fun x vs H Q => ∃ z y : Str, x = .str z /\ vs = [.str y] /\ z.length <= sizeLine /\ Q (.str (Txt.rstripChars z y)) H
theorem mt_rstrip : MtR X "str.rstrip" rRstrip := by
 intro pins s σ H x xs v us Q I rx rv h
 obtain ⟨z, y, rfl, rfl, hz, q⟩ := h
 obtain ⟨t, rfl⟩ := rx
 obtain ⟨u, rfl, ru⟩ := rv.one
 obtain ⟨t', rfl⟩ := ru
 exact SC.rstripChars (fun t'' k => ⟨.str _, H, I.tok k, ⟨t'', rfl⟩, q⟩) hz
def rStarts : V -> List V -> Hp -> VK -> Prop := fun x vs H Q => ∃ z y : Str, x = .str z /\ vs = [.str y] /\ Q (.bl (Txt.startswith z y)) H
theorem mt_startswith : MtR X "str.startswith" rStarts := by
 intro pins s σ H x xs v us Q I rx rv h
 obtain ⟨z, y, rfl, rfl, q⟩ := h
 obtain ⟨t, rfl⟩ := rx
 obtain ⟨u, rfl, ru⟩ := rv.one
 obtain ⟨t', rfl⟩ := ru
 exact SC.startswith ⟨.bl _, H, I, rfl, q⟩
theorem call_int_str : CallR X (.type "int") (fun xs H Q => ∃ (x : Str) (n : Int), xs = [.str x] /\ intText? x = some n /\ x.length <= 640 /\ Q (.int n) H) := by
 intro pins s σ H xs us Q I r h
 obtain ⟨x, n, rfl, hn, hl, q⟩ := h
 obtain ⟨u, rfl, ru⟩ := vals1 r
 obtain ⟨t, rfl⟩ := ru
 exact PySem.W.KIN.call_text hn hl ⟨.int n, H, I.tok _, ⟨_, rfl⟩, q⟩
theorem call_str_str : CallR X (.type "str") (fun xs H Q => ∃ x : Str, xs = [.str x] /\ Q (.str x) H) := by
 intro pins s σ H xs us Q I r h
 obtain ⟨x, rfl, q⟩ := h
 obtain ⟨u, rfl, ru⟩ := vals1 r
 obtain ⟨t, rfl⟩ := ru
 exact P.str_of_str ⟨.str x, H, I, ⟨_, rfl⟩, q⟩
def rNeE (K : PySem.W.Frag) : R2 := fun x y H Q => ∃ a b xs, x = .ref a /\ y = .ref b /\ SqL K H a xs /\ SqL K H b [] /\ Q (.bl (!xs.isEmpty)) H
theorem op_neE (hu : X.A.units < cLine) : OpR X (compareOp .NotEq) (rNeE X.K) := by
 intro pins s σ H x y v u Q I rx ry h
 obtain ⟨a, b, xs, rfl, rfl, ha, hb, q⟩ := h
 cases rx
 cases ry
 obtain ⟨its, r1, p1, _⟩ := I.list ha
 obtain ⟨its2, r2, p2, _⟩ := I.list hb
 have l1 := r1.length
 have l2 := r2.length
 cases xs with
 | nil =>
  refine PySem.EqBoolInt.of_rcne (SeqAt.RcNeAt.lists (e := fun _ => true) p1.isList p2.isList (by simp only [List.size_toArray]; omega) hu fun j h1 h2 => ?_) ⟨.bl _, H, I, rfl, ?_⟩
  ·simp only [List.size_toArray] at h1
   simp at l1
   omega
  ·have : its = [] := List.eq_nil_of_length_eq_zero (by simpa using l1.symm)
   subst this
   exact q
 | cons x xs =>
  refine PySem.EqBoolInt.of_rcne (SeqAt.RcNeAt.lists_lengths p1.isList p2.isList (by simp only [List.size_toArray]; simp at l1 l2 ⊢; omega) hu) ⟨.bl _, H, I, rfl, ?_⟩
  simpa using q
end
theorem Inv.lays {X : Cx} {pins : List (Addr × Obj)} {σ : St} {H H' : Hp} {s : Shared} {h' : Heap} {t' : Nat} (I : Inv X pins σ H s) (k : ∀ b o, s.heap.get? b = some o -> h'.get? b = some o) (old : ∀ b, b < s.heap.objs.size -> H' b = H b) (hok : HOk X.prog X.w H' h') :
  Inv X pins σ H' { s with heap := h', toks := t' } := by
 have sm : ∀ b o, H b = some o -> H' b = some o := fun b o e => by rw [old b (I.hok.lt e)]; exact e
 exact I.un ⟨fun b u q _ _ _ => k b u q, fun b u q _ _ _ => ⟨u.slots, k b u q⟩, fun b u q n _ => by rw [old b (Heap.lt_size q)]; exact n, fun b u q _ => ⟨u, k b u q⟩, fun b xs q => sm b _ q, fun b u xs q => sm b _ q, fun b ps q => ⟨#[], by rw [sm b _ q]; simp⟩⟩ hok
def pairsAt (Ts : List Addr) (ps : List (V × V)) (H : Hp) : Hp := fun b => match Ts.idxOf? b with | some j => (ps[j]?).map fun p => .tup [p.1, p.2] | none => H b
def tListZip (K : PySem.W.Frag) (ta tb : TE) : TE := fun σ H Q => ta σ H fun x H1 => tb σ H1 fun y H2 => ∃ a b xs ys, x = .ref a /\ y = .ref b /\ SqT K H2 a xs /\ SqT K H2 b ys /\ xs.length = ys.length ∧
 ∀ (l : Addr) (H' : Hp) (Ts : List Addr), H2 l = none -> Same H2 H' -> Ts.length = xs.length -> H' l = some (.lst (Ts.map V.ref)) -> (∀ (j : Nat) T u v, Ts[j]? = some T -> xs[j]? = some u -> ys[j]? = some v -> H' T = some (.tup [u, v])) -> Q (.ref l) H'
theorem idx_of {Ts : List Addr} {j : Nat} {T : Addr} (nd : Ts.Nodup) (h : Ts[j]? = some T) : Ts.idxOf? T = some j := by
 induction Ts generalizing j with
 | nil => simp at h
 | cons U Us ih =>
  rw [List.idxOf?_cons]
  cases j with
  | zero =>
   simp at h
   subst h
   simp
  | succ j =>
   have h' : Us[j]? = some T := by simpa using h
   have hm := List.mem_of_getElem? h'
   have hne : ¬ (U == T) = true := by
    intro e
    have := eq_of_beq e
    subst this
    exact (List.nodup_cons.mp nd).1 hm
   rw [if_neg hne, ih (List.nodup_cons.mp nd).2 h']
   rfl
theorem idx_some {Ts : List Addr} {j : Nat} {T : Addr} (h : Ts.idxOf? T = some j) : Ts[j]? = some T := by
 induction Ts generalizing j with
 | nil => simp at h
 | cons U Us ih =>
  rw [List.idxOf?_cons] at h
  split at h
  ·rename_i e
   cases h
   have := eq_of_beq e
   subst this
   rfl
  ·cases hk : Us.idxOf? T with
   | none => rw [hk] at h; cases h
   | some k =>
    rw [hk] at h
    cases h
    simpa using ih hk
section
variable {X : Cx} {a b : Expr} {ta tb : TE} {p1 p2 q1 q2 : Pos}
theorem pe_listzip (hc : X.calm = true) (hg1 : Gl X "list") (hm1 : X.mg "list" = none) (hg2 : Gl X "zip") (hm2 : X.mg "zip" = none) (ha : PE X a ta) (hb : PE X b tb)
  (hs2 : starEach [a, b] X.env = (false, eval a X.env) :: starEach [b] X.env := by rfl) (hs3 : starEach [b] X.env = [(false, eval b X.env)] := by rfl)
  (hs1 : starEach [Expr.Call (.Name "zip" p2) [a, b] [] q2] X.env = [(false, eval (.Call (.Name "zip" p2) [a, b] [] q2) X.env)] := by rfl)
  (hp2 : (backTo q2 (starEach [b] X.env)).any (·.1) = false := by rfl) :
  PE X (.Call (.Name "list" p1) [.Call (.Name "zip" p2) [a, b] [] q2] [] q1) (tListZip X.K ta tb) := by
 intro pins s σ H Q I h
 refine wpAny_Call_Name_kw (ld_blt I hg1 hm1 PyProof.Rows.boot_list ?_ (by decide) (by decide))
 refine PyProof.Rows.callWith_type1 ?_ hs1 rfl
 rw [hs1]
 refine Calls.spliced_cons ?_
 refine wpAny_Call_Name_kw (ld_blt I hg2 hm2 PyProof.Rows.boot_zip ?_ (by decide) (by decide))
 refine PyProof.Rows.callWith_type1 (thn ((zpc ha (zpc hb pa_nil hs3) hs2) q2 pins s σ H (fun vs H2 => match vs with
  | [x, y] => ∃ a b xs ys, x = .ref a /\ y = .ref b /\ SqT X.K H2 a xs /\ SqT X.K H2 b ys /\ xs.length = ys.length ∧
   ∀ (l : Addr) (H' : Hp) (Ts : List Addr), H2 l = none -> Same H2 H' -> Ts.length = xs.length -> H' l = some (.lst (Ts.map V.ref)) -> (∀ (j : Nat) T u v, Ts[j]? = some T -> xs[j]? = some u -> ys[j]? = some v -> H' T = some (.tup [u, v])) -> Q (.ref l) H'
  | _ => False) I h) fun us s1 ⟨vs, H1, I1, r1, q⟩ => ?_) hs2 hp2
 match vs, r1, q with
 | [x, y], r1, q =>
  obtain ⟨l1, l2, xs, ys, rfl, rfl, hx, hy, hl, q⟩ := q
  obtain ⟨u1, u2, rfl, e1, e2⟩ := r1.two
  cases e1
  cases e2
  obtain ⟨its, rx, tx, hzx⟩ := I1.tuple hx
  obtain ⟨jts, ry, ty, hzy⟩ := I1.tuple hy
  have lx := rx.length
  have ly := ry.length
  have a1 : l1 < s1.heap.objs.size := by obtain ⟨_, e, _⟩ := tx; exact Heap.lt_size e
  have a2 : l2 < s1.heap.objs.size := by obtain ⟨_, e, _⟩ := ty; exact Heap.lt_size e
  refine Zt.call_zip tx ty fun h1 Z hsz kp => Calls.spliced_nil ?_
  have D := PyProof.Rows.zipApart_new a1 a2
  refine Zt.call_list (n := xs.length) (B := s1.heap.objs.size) (I.ok.hd hc) D ⟨D.l1TO, D.l2TO⟩ (by rw [List.size_toArray]; omega) (by rw [List.size_toArray]; omega) hzx (by show s1.heap.objs.size <= h1.objs.size; rw [hsz]; exact Nat.le_add_right _ 5) Z fun h2 acc c Ts kp2 hS G => ?_
  have hS0 : h1.objs.size = s1.heap.objs.size + 5 := hsz
  have kept : ∀ b o, s1.heap.get? b = some o -> h2.get? b = some o := fun b o e => by
   have hb : b < s1.heap.objs.size := Heap.lt_size e
   refine kp2 b o ?_ (kp b o e)
   simp only [List.mem_cons, List.not_mem_nil, or_false]
   rintro (z | z | z | z) <;> exact absurd (z ▸ hb) (Nat.not_lt.mpr (by first | exact Nat.le_add_right _ _ | exact Nat.le_refl _))
  have hpair : ∀ b j, Ts.idxOf? b = some j -> Ts[j]? = some b /\ j < xs.length := fun b j e => ⟨idx_some e, by rw [<- G.len]; exact (List.getElem?_eq_some_iff.mp (idx_some e)).1⟩
  have HH : ∃ H' : Hp, H' = upd (pairsAt Ts (xs.zip ys) H1) h1.objs.size (.lst (Ts.map V.ref)) := ⟨_, rfl⟩
  obtain ⟨H', eH⟩ := HH
  have nS : ∀ T ∈ Ts, T ≠ h1.objs.size := fun T hT e => (G.lt T hT).2.2 (by rw [e]; exact List.mem_cons_self)
  have old : ∀ b, b < s1.heap.objs.size -> H' b = H1 b := fun b hb => by
   rw [eH, upd_ne (fun e => absurd (e ▸ hb) (Nat.not_lt.mpr (by rw [hS0]; exact Nat.le_add_right _ 5)))]
   unfold pairsAt
   cases e : Ts.idxOf? b with
   | none => rfl
   | some j => exact absurd hb (Nat.not_lt.mpr (G.lt b (List.mem_of_getElem? (idx_some e))).1)
  have atT : ∀ (j : Nat) T u v, Ts[j]? = some T -> xs[j]? = some u -> ys[j]? = some v -> H' T = some (.tup [u, v]) := fun j T u v e1 e2 e3 => by
   rw [eH, upd_ne (nS T (List.mem_of_getElem? e1))]
   unfold pairsAt
   rw [idx_of G.nodup e1]
   show ((xs.zip ys)[j]?).map _ = _
   rw [show (xs.zip ys)[j]? = some (u, v) from List.getElem?_zip_eq_some.mpr ⟨e2, e3⟩]
   rfl
  have hok : HOk X.prog X.w H' h2 := fun b o e => by
   by_cases hb : b = h1.objs.size
   ·subst hb
    rw [eH, ups] at e
    cases e
    refine ⟨by rw [List.length_map, G.len]; exact hzx, acc.toList, c, ?_, by rw [Array.toArray_toList]; exact hS⟩
    rw [G.acc]
    have hh : ∀ Us : List Addr, Vals (Us.map V.ref) (Us.map Value.ref) := fun Us => by
     induction Us with
     | nil => exact .nil
     | cons U Us ih => exact .cons rfl ih
    exact hh Ts
   ·rw [eH, upd_ne hb] at e
    unfold pairsAt at e
    cases ei : Ts.idxOf? b with
    | none =>
     rw [ei] at e
     have e' : H1 b = some o := e
     refine (I1.hok b o e').stay (fun c v _ z => kept c v z) (fun c z => ?_) fun c zs z => ?_
     ·rw [old c (I1.hok.lt z)]; exact z
     ·rw [old c (I1.hok.lt z)]; exact z
    | some j =>
     rw [ei] at e
     obtain ⟨eb, hj⟩ := hpair b j ei
     have ex : xs[j]? = some xs[j] := List.getElem?_eq_getElem hj
     have ey : ys[j]? = some (ys[j]'(by omega)) := List.getElem?_eq_getElem (by omega)
     have ez : (xs.zip ys)[j]? = some (xs[j], ys[j]'(by omega)) := List.getElem?_zip_eq_some.mpr ⟨ex, ey⟩
     have e' : ((xs.zip ys)[j]?).map (fun p => HO.tup [p.1, p.2]) = some o := e
     rw [ez] at e'
     cases e'
     obtain ⟨ux, hux, rux⟩ := rx.get ex
     obtain ⟨uy, huy, ruy⟩ := ry.get ey
     have p := G.pair j b ux uy eb (by simpa using hux) (by simpa using huy)
     exact ⟨by show 2 <= sizeLine; decide, [ux, uy], .cons rux (.cons ruy .nil), ⟨_, p, rfl, _, rfl⟩⟩
  refine ⟨.ref h1.objs.size, H', I1.lays (t' := s1.toks) kept old hok, rfl, q _ H' Ts ?_ (fun b o e => by rw [old b (I1.hok.lt e)]; exact e) G.len (by rw [eH, ups]) atT⟩
  exact I1.hok.fresh (by rw [hS0]; exact Nat.le_add_right _ 5)
 | [], _, q => exact q.elim
 | [_], _, q => exact q.elim
 | _ :: _ :: _ :: _, _, q => exact q.elim
end
end L2
end
section
namespace L2
open PySem PySem.Spec PyProof.Rows
section
variable {es : List Expr} {env : Env}
theorem so {c k p} : starEach (.Constant c k p :: es) env = (false, eval (.Constant c k p) env) :: starEach es env := rfl
theorem zsn {x p} : starEach (.Name x p :: es) env = (false, eval (.Name x p) env) :: starEach es env := rfl
theorem zsc {a b c d} : starEach (.Call a b c d :: es) env = (false, eval (.Call a b c d) env) :: starEach es env := rfl
theorem star_bin {a b c d} : starEach (.BinOp a b c d :: es) env = (false, eval (.BinOp a b c d) env) :: starEach es env := rfl
theorem ss {a b c} : starEach (.Subscript a b c :: es) env = (false, eval (.Subscript a b c) env) :: starEach es env := rfl
theorem star_tup {a b c} : starEach (.Tuple a b c :: es) env = (false, eval (.Tuple a b c) env) :: starEach es env := rfl
theorem star_lst {a b} : starEach (.List a b :: es) env = (false, eval (.List a b) env) :: starEach es env := rfl
theorem star_cmp {a b c d} : starEach (.Compare a b c d :: es) env = (false, eval (.Compare a b c d) env) :: starEach es env := rfl
theorem star_bool {a b c} : starEach (.BoolOp a b c :: es) env = (false, eval (.BoolOp a b c) env) :: starEach es env := rfl
theorem star_fstr {a b} : starEach (.JoinedStr a b :: es) env = (false, eval (.JoinedStr a b) env) :: starEach es env := rfl
theorem star_comp {a b c d} : starEach (.ListComp a b c d :: es) env = (false, eval (.ListComp a b c d) env) :: starEach es env := rfl
theorem star_attr {a b c} : starEach (.Attribute a b c :: es) env = (false, eval (.Attribute a b c) env) :: starEach es env := rfl
end
end L2
namespace L2
open PySem PySem.Spec PyProof.Rows
def str1 : Expr -> Option Str
 | .Constant (.str x) _ _ => some x
 | _ => none
def strsOf : List Expr -> Option (List Str)
 | [] => some []
 | e :: es => (str1 e).bind fun x => (strsOf es).map (x :: ·)
theorem str1_is {e : Expr} {x : Str} (h : str1 e = some x) : ∃ j p, e = .Constant (.str x) j p := by
 unfold str1 at h
 split at h
 ·cases h; exact ⟨_, _, rfl⟩
 ·cases h
def tStrs (xs : List Str) : TA := fun _ H Q => Q (xs.map V.str) H
theorem pa_imp {X : Cx} {es : List Expr} {t t' : TA} (h : PA X es t) (i : ∀ σ H Q, t' σ H Q -> t σ H Q) : PA X es t' := fun pos pins s σ H Q I hw => h pos pins s σ H Q I (i σ H Q hw)
theorem pa_strs {X : Cx} : ∀ {es : List Expr} (xs : List Str), strsOf es = some xs -> PA X es (tStrs xs)
 | [], xs, h => by
  cases h
  exact pa_nil
 | e :: es, xs, h => by
  cases e1 : str1 e with
  | none => rw [strsOf, e1] at h; cases h
  | some x =>
   cases e2 : strsOf es with
   | none => rw [strsOf, e1, e2] at h; cases h
   | some ys =>
    rw [strsOf, e1, e2] at h
    cases h
    obtain ⟨j, p, rfl⟩ := str1_is e1
    exact pa_imp (zpc (pe_str (x := x) (j := j) (pos := p)) (pa_strs (X := X) ys e2) so) fun σ H Q hw => hw
end L2
end
section
set_option maxHeartbeats 1000000
namespace L2
open PySem PySem.Spec PySem.W PySem.Calls PyProof.Rows
open Builtin Builtin.ObjectAttr
section
variable {prog : Program} {w : World} {A : Around} {E : Value -> Shared -> Prop} {s : Shared} {K : Frag} {x C : Addr} {ox : Obj} {od : Option Obj} {name : Str}
structure XCls (K : Frag) (C : Addr) : Prop where
 ga : findIn K (.ref C) "__getattribute__" = some (some (.builtin "BaseException.__getattribute__"))
 gk : findIn K (.ref C) "__getattr__" = some none
 mb : mroIn K C (.type "BaseException") = some true
 mo : mroIn K C (.type "object") = some true
 hd : hasDictIn K C = true
 ca : findIn K (.ref C) "__class__" = some (some (.builtin "object.__class__"))
 cn : specialIn K (.builtin "object.__class__") "__get__" = some (some (.builtin "getset_descriptor.__get__"))
 ct : takesIn K (.builtin "object.__class__") = some true
end
section
variable {prog : Program} {w : World} {A : Around} {E : Value -> Shared -> Prop} {h : Heap} {g : Array GenState} {d : Drawn} {t : Nat} {os : OsState}
variable {nm q : Str} {C N : Addr} {bs bm bmB : List Value} {hdct : Bool} {sn : List Str} {sub : List Value} {ab : Bool} {col : Option Bool} {dd : Option Addr} {k0 k1 k2 k3 k5 : Option Value} {B newId initId : String}
abbrev newExc (C t : Addr) (dx : Option Addr) : Obj := { cls := .ref C, dict := dx, data := .fields #[.ref t, .none, .none, .none, .bool false, .none] }
abbrev newArgs (rest : List Value) : Obj := { cls := .type "tuple", data := .seq rest.toArray }
theorem exc_type_call (F : ExcBaseFacts B newId initId bmB) (T : OwnTail h bmB bm) {rest : List Value} {init : Value} {Q : Fin -> Shared -> Prop}
  (hC : h.get? C = some (excClassObj nm q C N bs bm hdct sn sub ab col dd k0 k1 k2 k3 k5 newId)) (hi : Looks (model prog w) h (typeLookup (.ref C) "__init__") (some init))
  (hb : ∀ self, Looks (model prog w) h (bindSpecial init self) (init, [self]))
  (hq : wpAny (model prog w) A (call init (.ref (h.objs.size + 1) :: rest)) (fun r s' => r = .none /\ Q (.done (.ret (.ref (h.objs.size + 1)))) s') E ⟨(h.push (newArgs rest)).push (newExc C h.objs.size none), g, d, t, os⟩) (hrest : rest.length <= sizeLine) :
  wpAny (model prog w) A (Builtin.«type.__call__» ⟨.ref C :: rest, []⟩) Q E ⟨h, g, d, t, os⟩ := by
 repeat (first | with_reducible refine wpAny_loadPart_at hC ?_ | with_reducible refine wpAny_madeBy_exc hC ?_ | wp_step)
 refine codeAny_call_builtin_code (Code.quiet_builtin _ F.quiet) (wpAny_check_new_subT F T hC ?_)
 refine codeAny_exc_new_subT F T hC ?_ hrest
 show wpAny _ _ _ _ _ _
 have up : ∀ b o, h.get? b = some o -> ((h.push (newArgs rest)).push (newExc C h.objs.size none)).get? b = some o := fun b o e => Heap.get?_push_of_some _ (Heap.get?_push_of_some _ e)
 have hC₁ := up _ _ hC
 have hget : ((h.push (newArgs rest)).push (newExc C h.objs.size none)).get? (h.objs.size + 1) = some (newExc C h.objs.size none) := by heap_get
 have hcC : (Value.ref C :: bm).contains (.ref C) = true := by simp
 unfold isInstance
 repeat (first | with_reducible refine wpAny_loadPart_at hget ?_ | (with_reducible refine wpAny_isSubtype_exc hC₁ ?_; rw [hcC]) | wp_step)
 show wpAny _ _ (typeLookup (.ref C) _) _ _ _
 refine hi _ _ _ _ up ?_
 refine wpAny_holding (wpAny_bind (hb _ _ _ _ _ up ?_))
 refine wpAny_bind (wpAny_mono hq (fun r s' hr => ?_) fun _ _ x => x)
 obtain ⟨rfl, hQ⟩ := hr
 wp_walk
 exact hQ
theorem exc_call (F : ExcBaseFacts B newId initId bmB) (T : OwnTail h bmB bm) {rest : List Value} {init : Value} {Q : Value -> Shared -> Prop}
  (hC : h.get? C = some (excClassObj nm q C N bs bm hdct sn sub ab col dd k0 k1 k2 k3 k5 newId)) (hi : Looks (model prog w) h (typeLookup (.ref C) "__init__") (some init))
  (hb : ∀ self, Looks (model prog w) h (bindSpecial init self) (init, [self]))
  (hq : wpAny (model prog w) (A.under (.builtin "type.__call__" ⟨.ref C :: rest, []⟩)) (call init (.ref (h.objs.size + 1) :: rest)) (fun r s' => r = .none /\ Q (.ref (h.objs.size + 1)) s') E
   ⟨(h.push (newArgs rest)).push (newExc C h.objs.size none), g, d, t, os⟩) (hrest : rest.length <= sizeLine) :
  wpAny (model prog w) A (call (.ref C) rest) Q E ⟨h, g, d, t, os⟩ := by
 have f1 := tc_lookup
 have f2 := tc_bind (.ref C)
 have hT : (⟨h, g, d, t, os⟩ : Shared).TypeIs (.ref C) "type" := ⟨_, hC, rfl⟩
 refine wpAny_call (codeAny_of_tree ?_)
 show wpAny _ _ (callAny (.ref C) _) _ _ _
 repeat (any_goals (first | assumption | with_reducible refine wpAny_loadPart_at hC ?_ | wp_step))
 refine ⟨rfl, ?_⟩
 refine codeAny_call_builtin_at (Code.quiet_builtin _ (by walk_at "k")) entry_typeCall (wpAny_check_type_call_sub hC (exc_type_call F T hC hi hb ?_ hrest))
 exact wpAny_mono hq (fun r s' z => z) fun _ _ z => z
theorem exc_init (F : ExcBaseFacts B newId initId bmB) (T : OwnTail h bmB bm) {e t0 : Addr} {rest : List Value} {Q : Value -> Shared -> Prop}
  (hC : h.get? C = some (excClassObj nm q C N bs bm hdct sn sub ab col dd k0 k1 k2 k3 k5 newId)) (he : h.get? e = some (newExc C t0 none))
  (hq : ∀ h', (∀ b o, b ≠ e -> h.get? b = some o -> h'.get? b = some o) -> h'.get? e = some (newExc C h.objs.size none) -> Q .none ⟨h', g, d, t, os⟩) (hrest : rest.length <= sizeLine) :
  wpAny (model prog w) A (call (.builtin initId) (.ref e :: rest)) Q E ⟨h, g, d, t, os⟩ := by
 refine wpAny_call (codeAny_call_builtin F.init.plain F.initEntry (wpAny_check_init_subT F T hC he rfl ?_))
 wp_walk
 show Q .none _
 refine hq _ (fun b o hb e0 => ?_) ?_
 ·rw [Heap.get?_update_other _ _ (Ne.symm hb)]
  exact Heap.get?_push_of_some _ e0
 ·exact Heap.get?_update_self _ (Heap.get?_push_of_some _ he) rfl
end
end L2
end
section
set_option maxHeartbeats 1000000
namespace L2
open PySem PySem.Spec PySem.W PySem.Calls PyProof.Rows
open Builtin Builtin.ObjectAttr
def xIn (K : Frag) (C : Addr) (bmB : List Value) (newId : String) : Bool := match K.lookup C with
 | some ⟨.type "type", _, .cls cd, sl⟩ => (match cd.mro, sl.toList with
  | .ref C' :: bm, [_, _, _, _, some (.builtin n), _] => C' == C && n == newId && !cd.hasDel && cd.hasDict && tailIn K bmB bm
  | _, _ => false)
 | _ => false
def XObj (h : Heap) (C : Addr) (bmB : List Value) (newId : String) : Prop :=
 ∃ nm q N bs bm sn sub ab col dd k0 k1 k2 k3 k5, h.get? C = some (excClassObj nm q C N bs bm true sn sub ab col dd k0 k1 k2 k3 k5 newId) /\ OwnTail h bmB bm
theorem x_of_in {K : Frag} {h : Heap} {C : Addr} {bmB : List Value} {newId : String} (X : K.In h) (e : xIn K C bmB newId = true) : XObj h C bmB newId := by
 unfold xIn at e
 split at e
 ·rename_i dd cd sl ho
  split at e
  ·rename_i C' bm k0 k1 k2 k3 n k5 hm hs
   simp only [Bool.and_eq_true, beq_iff_eq, Bool.not_eq_true'] at e
   obtain ⟨⟨⟨⟨rfl, rfl⟩, hdel⟩, hd⟩, ht⟩ := e
   obtain ⟨nm, bs, mro, ns, qn, hdct, sn, sub, ab, col, del⟩ := cd
   dsimp only at hm hdel hd
   subst hm hdel hd
   obtain ⟨sl⟩ := sl
   dsimp only at hs
   subst hs
   exact ⟨nm, qn, ns, bs, bm, sn, sub, ab, col, dd, k0, k1, k2, k3, k5, X _ _ ho, tail_of_in X ht⟩
  ·cases e
 ·cases e
theorem refuse_tail {h : Heap} {bmB tl : List Value} {self : Value} {what : Str} (T : OwnTail h bmB tl) : refuseLoop self what tl = refuseLoop self what bmB := by
 induction T with
 | base => rfl
 | own _ _ _ _ ih => rw [refuseLoop_ref]; exact ih
section
variable {prog : Program} {w : World} {A : Around} {E : Value -> Shared -> Prop} {h : Heap} {g : Array GenState} {d : Drawn} {t : Nat} {os : OsState} {K : Frag} {x C t0 : Addr} {name : Str} {v : Value} {bmB : List Value} {newId : String} {B sa owner : String}
theorem exc_store_entry {tk : Tok} {Q : Fin -> Shared -> Prop} (SF : StoreFacts B bmB sa owner) (X : K.In h) (O : XObj h C bmB newId) (hn : findIn K (.ref C) name = some none) (hx : h.get? x = some (newExc C t0 none))
  (hq : ∀ h' tk', (∀ b o, b ≠ x -> h.get? b = some o -> h'.get? b = some o) -> h'.get? x = some (newExc C t0 (some h.objs.size)) -> h'.Ns1 h.objs.size (fun y => if y = name then some v else none) -> Q (.done (.ret .none)) ⟨h', g, d, tk', os⟩) :
  wpAny (model prog w) A (Builtin.«object.__setattr__» ⟨[.ref x, .str name tk, v], []⟩) Q E ⟨h, g, d, t, os⟩ := by
 obtain ⟨nm, qn, N, bs, bm, sn, sub, ab, col, dd, k0, k1, k2, k3, k5, hC, T⟩ := O
 have hpass := (refuse_tail (self := .ref x) (what := "__setattr__") T).trans (SF.passes (.ref x))
 have LN := looks_findIn (M := model prog w) X hn
 obtain ⟨o, ho⟩ : ∃ o, o = newExc C t0 none := ⟨_, rfl⟩
 have hc : o.cls = .ref C := by rw [ho]
 have hdn : o.dict = none := by rw [ho]
 have hnc : ∀ c, o.data ≠ .cls c := fun c z => by rw [ho] at z; cases z
 rw [<- ho] at hx
 unfold Builtin.«object.__setattr__»
 repeat (first | rw [refuse_eq] | (rw [refuseLoop_ref, hpass]) | (with_reducible refine wpAny_loadPart_at hx ?_; rw [hc]) | with_reducible refine wpAny_mroOf_exc hC ?_ | with_reducible refine LN.at ?_ | wp_step)
 rw [hdn, if_neg (by simp [typeHasDict])]
 split
 ·rename_i hcd
  cases hcd
 split
 ·rename_i c hcd
  exact absurd hcd (hnc c)
 ·have hx₁ : (h.push { cls := .type "dict", data := .dict #[] }).get? x = some o := Heap.get?_push_of_some _ hx
  have hxs : x ≠ h.objs.size := Nat.ne_of_lt (Heap.lt_size hx)
  refine wpAny_bind (wpAny_alloc' ?_)
  refine wpAny_bind (wpAny_update' hx₁ ?_)
  refine wpAny_pure ?_
  have hgd : ((h.push { cls := .type "dict", data := .dict #[] }).update x fun o => { cls := o.cls, dict := some h.objs.size, data := o.data, slots := o.slots }).get? h.objs.size
    = some { cls := .type "dict", data := .dict #[] } :=
   (Heap.get?_update_ne _ _ _ _ hxs.symm).trans (Heap.get?_push_at rfl rfl)
  have hnd : ((h.push { cls := .type "dict", data := .dict #[] }).update x fun o => { cls := o.cls, dict := some h.objs.size, data := o.data, slots := o.slots }).Ns h.objs.size (fun _ => none) :=
   ⟨_, #[], _, hgd, rfl, fun e he => absurd he (by simp), fun _ => rfl⟩
  show wpAny _ _ (storeInDict h.objs.size (.str name tk) name v) _ _ _
  unfold storeInDict newKeyGuard
  refine wpAny_bind (wpAny_pure (wpAny_bind (wpAny_nsSet1 (Heap.Ns1.of_empty hnd) fun h' hn' hs => ?_)))
  obtain ⟨oD, esD, epD, hoD, hdD, hcD⟩ := hn'.count (Within.cons name v Within.nil)
  refine wpAny_bind (wpAny_lookBehind hoD (by rw [hdD]; exact pastItsLine_dict (Nat.le_trans hcD (by rw [List.length_cons, List.length_nil, sizeLine_eq]; omega))) ?_)
  wp_walk
  refine hq h' _ (fun b ob hbx hb => ?_) ?_ hn'
  ·exact (hs.2 b (Nat.ne_of_lt (Heap.lt_size hb))).trans ((Heap.get?_update_ne _ _ _ _ hbx).trans (Heap.get?_push_of_some _ hb))
  ·subst ho
   exact (hs.2 x hxs).trans (Heap.get?_update_self _ hx₁ rfl)
theorem exc_store {Q : Unit -> Shared -> Prop} (SF : StoreFacts B bmB sa owner) (X : K.In h) (O : XObj h C bmB newId) (hs : findIn K (.ref C) "__setattr__" = some (some (.builtin sa))) (hw : mroIn K C (.type owner) = some true)
  (hn : findIn K (.ref C) name = some none) (hx : h.get? x = some (newExc C t0 none))
  (hq : ∀ h' tk', (∀ b o, b ≠ x -> h.get? b = some o -> h'.get? b = some o) -> h'.get? x = some (newExc C t0 (some h.objs.size)) -> h'.Ns1 h.objs.size (fun y => if y = name then some v else none) -> Q () ⟨h', g, d, tk', os⟩) :
  wpAny (model prog w) A (setAttr (.ref x) name v) Q E ⟨h, g, d, t, os⟩ := by
 have L0 : Looks (model prog w) h (typeOf (.ref x)) (.ref C) := (Looks.ld hx).andThen .now
 have LS := looks_findIn (M := model prog w) X hs
 have LW := looks_mroIn (M := model prog w) X hw
 have f3 := SF.slot.bind (.ref x)
 unfold setAttr callSpecial? specialOf
 refine wpAny_bind (wpAny_mkText ?_)
 refine wpAny_bind (wpAny_bind (wpAny_bind (L0.at (LS.at ?_))))
 refine wpAny_holding ?_
 rw [f3]
 refine wpAny_bind (wpAny_pure ?_)
 have ha : argsOk sa ⟨[.ref x, .str name t, v], []⟩ := SF.args (.ref x) (.str name t) v
 have hI : Looks (model prog w) h (isInstance (.ref x) (.type owner)) true := L0.andThen LW
 refine wpAny_bind (wpAny_call (codeAny_call_builtin SF.slot.plain SF.entry ?_))
 show wpAny _ _ (checkBuiltinCall sa ⟨[.ref x, .str name t, v], []⟩) _ _ _
 refine check_slot (i := sa) (owner := owner) (n := "__setattr__") (self := .ref x) (rest := [.str name t, v]) (kw := []) SF.kind SF.split hI ha ?_
 refine exc_store_entry SF X O hn hx fun h' tk' k1 k2 k3 => ?_
 exact wpAny_pure (wpAny_pure (hq h' tk' k1 k2 k3))
end
end L2
end
section
set_option maxHeartbeats 1000000
namespace L2
open PySem PySem.Spec PyProof.Rows
def excO (e C : Addr) (d : Option Addr) : HO := .ext fun h => ∃ t : Addr, h.get? e = some (newExc C t d)
abbrev bmV : List Value := [.type "ValueError", .type "Exception", .type "BaseException", .type "object"]
structure XCl (K : PySem.W.Frag) (C : Addr) : Prop where
 cls : XCls K C
 obj : xIn K C bmV "ValueError.__new__" = true
 kp : PySem.W.keepIn K (.ref C) = true
 sa : PySem.W.findIn K (.ref C) "__setattr__" = some (some (.builtin "object.__setattr__"))
theorem ObjOk.exc {P : Program} {w : World} {H : Hp} {h : Heap} {e C t : Addr} {d : Option Addr} (he : h.get? e = some (newExc C t d)) : ObjOk P w H h e (excO e C d) :=
 ⟨⟨t, he⟩, ⟨_, he⟩, fun h1 h2 ⟨t', a⟩ k => ⟨t', k _ a⟩⟩
theorem HOk.exc {P : Program} {w : World} {H : Hp} {h : Heap} {e C : Addr} {d : Option Addr} (x : HOk P w H h) (q : H e = some (excO e C d)) : ∃ t, h.get? e = some (newExc C t d) :=
 (show ObjOk P w H h e (excO e C d) from x e _ q).1
section
variable {X : Cx} {pins : List (Addr × Obj)} {σ : St} {H : Hp} {s : Shared} {C : Addr} {Q : VK} {us : List Value} {vs : List V} {CX : CXT} {k : Nat} {f : Addr} {fd : FuncData} {ps : List Str} {sp : Sp} {E : XK}
theorem get_push_ne {h : Heap} {o u : Obj} {b : Addr} (e : (h.push o).get? b = some u) (q : b ≠ h.objs.size) : h.get? b = some u := by
 rwa [Heap.get?_push_ne h b o q] at e
theorem get_new {h : Heap} {rest : List Value} {C : Addr} : ((h.push (newArgs rest)).push (newExc C h.objs.size none)).get? (h.objs.size + 1) = some (newExc C h.objs.size none) := by heap_get
theorem Inv.newExc (I : Inv X pins σ H s) : Inv X pins σ (upd H (s.heap.objs.size + 1) (excO (s.heap.objs.size + 1) C none)) { s with heap := (s.heap.push (newArgs us)).push (newExc C s.heap.objs.size none) } :=
 I.laid (t' := s.toks) (fun b u e => Heap.get?_push_of_some _ (Heap.get?_push_of_some _ e)) (Nat.le_succ _) (ObjOk.exc get_new)
variable {x : Str} {p pos : Pos} {e : Expr} {es : List Expr} {t : TA}
def tExcI (C : Addr) (sp : Sp) (E : XK) (t : TA) : TE := fun σ H Q => t σ H fun vs H1 => vs.length <= sizeLine /\ ∀ e, H1 e = none -> sp (.ref e :: vs) (upd H1 e (excO e C none)) (fun v H2 => v = .non /\ Q (.ref e) H2) E
def tInitX (K : PySem.W.Frag) (t : TA) : TE := fun σ H Q => t σ H fun vs H1 => ∃ e C rest, vs = .ref e :: rest /\ H1 e = some (excO e C none) /\ XCl K C /\ rest.length <= sizeLine /\ Q .non (upd H1 e (excO e C none))
structure XSup (K : PySem.W.Frag) (C : Addr) : Prop where
 reads : PySem.W.readsIn K C (.type "type") = true
 ga : PySem.W.specialIn K (.ref C) "__getattribute__" = some (some (.builtin "type.__getattribute__"))
 init : PySem.W.findCls K (.ref C) (.type "type") "__init__" = some (.val (.builtin "ValueError.__init__"))
theorem pe_initX {pl : Sem Bool} {apos : Pos} (S : XSup X.K C) (hg : Gl X x) (hm : X.mg x = some (.ref C)) (ha : PA X (e :: es) t)
  (hdb : (x == ("__debug__" : Str)) = false := by decide) (he : starEach (e :: es) X.env = (false, eval e X.env) :: starEach es X.env := by rfl) (hpl : (backTo pos (starEach es X.env)).any (·.1) = false := by rfl)
  (ht : eval (.Call (.Attribute (.Name x p) "__init__" apos) (e :: es) [] pos) X.env = (do
   let ov <- eval (.Name x p) X.env
   standAt apos.atName
   let (f, first) <- holding [ov] (getMethod ov "__init__" pl)
   callWith pos f first (backTo pos (starEach (e :: es) X.env)) (backToKw pos (keywordEach [] X.env))) := by rfl) :
  PE X (.Call (.Attribute (.Name x p) "__init__" apos) (e :: es) [] pos) (tInitX X.K t) := by
 intro pins s σ H Q I h
 refine PySem.W.methodCall_KW (pl := pl) (ld_glob I hg hm ?_ hdb) ht
 refine PySem.W.method_cls I.kIn S.ga (PySem.W.cls_value I.kIn S.reads S.init (by decide) ?_)
 have I0 : Inv X pins σ H { s with toks := s.toks + 1 } := I.tok _
 refine PyProof.Rows.callWith_builtin1 (thn (ha pos pins _ σ H _ I0 h) fun us s1 ⟨vs, H1, I1, r, e0, C0, rest, ev, ea, M, hl, q⟩ => ?_) he hpl
 subst ev
 obtain ⟨u, us', rfl, r1, r2⟩ : ∃ u us', us = u :: us' /\ RelV (.ref e0) u /\ Vals rest us' := by cases r with | cons a b => exact ⟨_, _, rfl, a, b⟩
 obtain rfl : u = Value.ref e0 := r1
 ·
  obtain ⟨t0, hx⟩ := I1.hok.exc ea
  obtain ⟨nm, qn, N, bs, bm, sn, sub, ab, col, dd, k0, k1, k2, k3, k5, hC, T⟩ := x_of_in I1.kIn M.obj
  have mu : Mut (H1 e0) := by rw [ea]; exact True.intro
  have hl' : us'.length <= sizeLine := by rw [<- r2.length]; exact hl
  obtain ⟨hh, g, d, tk, os⟩ := s1
  refine exc_init PySem.F.excBase_ValueError T hC hx (fun h' kk e' => ?_) hl'
  exact ⟨.non, _, I1.write (t' := tk) mu (.inl rfl) kk ⟨_, e'⟩ (ObjOk.exc e'), rfl, q⟩
def sFldX (K : PySem.W.Frag) (ta tv : TE) (f : Str) : TS := fun D σ H => tv σ H fun y H1 => ta σ H1 fun x H2 => ∃ e C, x = .ref e /\ H2 e = some (excO e C none) /\ XCl K C /\ NoAttr K C f ∧
 ∀ dx, H2 dx = none -> dx ≠ e -> D.nx σ (upd (upd H2 dx (.xd [(f, y)])) e (excO e C (some dx)))
theorem setattrX {a : Addr} {fl : Str} {y : V} {u : Value} {A : Around} {E' : Value -> Shared -> Prop} {Q : Unit -> Shared -> Prop} (I : Inv X pins σ H s) (ea : H a = some (excO a C none)) (M : XCl X.K C) (n : NoAttr X.K C fl) (ry : RelV y u)
  (h : ∀ dx s', H dx = none -> dx ≠ a -> Inv X pins σ (upd (upd H dx (.xd [(fl, y)])) a (excO a C (some dx))) s' -> Q () s') : wpAny (model X.prog X.w) A (setAttr (.ref a) fl u) Q E' s := by
 obtain ⟨t0, hx⟩ := I.hok.exc ea
 have kin := I.kIn
 have hne : s.heap.objs.size ≠ a := fun z => by have := Heap.lt_size hx; rw [<- z] at this; exact Nat.lt_irrefl _ this
 have hfr : H s.heap.objs.size = none := I.hok.fresh (Nat.le_refl _)
 obtain ⟨hh, g, d, tk, os⟩ := s
 refine exc_store PySem.F.store_ValueError kin (x_of_in kin M.obj) M.sa M.cls.mo n hx fun h' tk' k1 k2 k3 => h hh.objs.size _ hfr hne ?_
 obtain ⟨oD, es, ep, e1, e2, e3, eu, e4⟩ := id k3
 have g1 : (hh.push oD).get? hh.objs.size = some oD := Heap.get?_push_at rfl (Heap.get?_some_iff.mp e1).2
 have I1 : Inv X pins σ (upd H hh.objs.size (.xd [(fl, y)])) ⟨hh.push oD, g, d, tk, os⟩ :=
  I.laid (t' := tk) (fun b u e => Heap.get?_push_of_some _ e) (Nat.le_refl _) ⟨_, ⟨oD, es, ep, g1, e2, e3, eu, e4⟩, fun z => by
   by_cases q : z = fl
   ·subst q; simp [RelO, ry]
   ·have q' : (z == fl) = false := by simpa using q
    simp [RelO, q, List.lookup, q']⟩
 have ea' : upd H hh.objs.size (.xd [(fl, y)]) a = some (excO a C none) := by rw [upd_ne (Ne.symm hne)]; exact ea
 exact I1.write (t' := tk') (x := a) (e := a) (by rw [ea']; exact True.intro) (.inl rfl) (fun b u hb e => by
  by_cases q : b = hh.objs.size
  ·subst q
   have e' : (hh.push oD).get? hh.objs.size = some u := e
   rw [g1] at e'
   cases e'
   exact e1
  ·exact k1 b u hb (get_push_ne e q)) ⟨_, k2⟩ (ObjOk.exc k2)
variable {o value : Expr} {fl : Str} {pos' : Pos} {ta tv : TE}
theorem ps_fldX (ha : PE X o ta) (hv : PE X value tv) (hs : swapsWith value (some (.Attribute o fl pos')) pos.line X.env = pure false) : PS X (.Assign [.Attribute o fl pos'] value pos) (sFldX X.K ta tv fl) := by
 intro pins s σ H D I h
 refine plainObj_wpAny_Assign_Attribute (thn (hv pins s σ H _ I h) fun u s1 ⟨y, H1, I1, ry, q⟩ => thn (ha pins s1 σ H1 _ I1 q) fun ov s2 ⟨x, H2, I2, rx, a, C, ex, ea, c, n, q2⟩ => ?_) hs
 subst ex
 obtain rfl : ov = Value.ref a := rx
 exact setattrX I2 ea c n ry fun dx s3 z1 z2 I3 => ⟨σ, _, I3, q2 dx z1 z2⟩
end
end L2
end
section
set_option maxHeartbeats 1000000
namespace L2
open PySem PySem.Spec PyProof.Rows
section
variable {X : Cx} {pins : List (Addr × Obj)} {σ : St} {H : Hp} {s : Shared} {h' : Heap}
theorem Inv.turnedL {t' : Nat} {fp : List Addr} (I : Inv X pins σ H s) (k : ∀ b o, b ∉ fp -> s.heap.get? b = some o -> h'.get? b = some o) (hf : ∀ b ∈ fp, FpOk X pins H b) : Inv X pins σ H { s with heap := h', toks := t' } := by
 have nit : ∀ b u, H b = some u -> b ∉ fp := fun b u e z => by rw [(hf b z).1] at e; cases e
 refine I.step (g' := s.gens) (d' := s.drawn) (ch := fp) (fun b hb => ?_) (fun b o _ _ hc e _ => k b o hc e) (fun b o _ _ hc e _ => ⟨o.slots, k b o hc e⟩) (fun _ _ _ _ n => n)
  (fun b o hc e => ⟨o, k b o hc e⟩) (fun _ _ e => e) (fun _ _ _ e => e) (fun b ps e => ⟨#[], by rw [e]; simp⟩) (fun m hm => ?_) (fun b u e => ?_) I.bare
 ·obtain ⟨f0, f1, f2, f3, f4, f5⟩ := hf b hb
  exact ⟨f3, f1, f4, f5⟩
 ·obtain ⟨o, es, ep, ho, r⟩ := hm
  exact ⟨o, es, ep, k _ o (fun z => (hf _ z).2.1 rfl) ho, r⟩
 ·refine (I.hok b u e).stay (fun c v hc q => k c v ?_ q) (fun _ q => q) fun _ _ q => q
  rcases hc with z | z
  ·rw [z]; exact nit b u e
  ·exact nit c _ z
def Ite (K : PySem.W.Frag) (a : Addr) : It :=
 ⟨fun i H => ∃ xs x, SqL K H a xs /\ xs[i]? = some x, fun i H x H' => ∃ p y, x = .ref p /\ H p = none /\ H' = upd H p (.tup [.int (i : Nat), y]) /\ ∀ xs, SqL K H a xs -> xs[i]? = some y, fun i H => ∃ xs, SqL K H a xs /\ xs.length <= i⟩
theorem turn_enum {P : Program} {w : World} {K : PySem.W.Frag} {elts : List Expr} {x1} {pos : Pos} (a e it : Addr) (hne : e ≠ it) : Turn P w K (.Tuple elts x1 pos) (Ite K a) [e, it] e (fun i h => (∃ old, IsEnum h e it (i : Nat) old) /\ h.IsListIter it a i) where
 mem := by simp
 obj := fun i h st b hb => by
  obtain ⟨⟨old, s1⟩, s2⟩ := st
  rcases List.mem_cons.mp hb with z | z
  ·subst z
   exact ⟨_, s1, fun v z => by cases z⟩
  ·have z' : b = it := by simpa using z
   subst z'
   obtain ⟨o, e, c, d⟩ := s2
   exact ⟨o, e, fun v z => by rw [d] at z; cases z⟩
 keep := fun i h h' st k => by
  obtain ⟨⟨old, s1⟩, s2⟩ := st
  exact ⟨⟨old, k e (by simp) _ s1⟩, s2.at fun o q => k it (by simp) o q⟩
 item := by
  intro X hP hw hK hc i pins s σ H E I hf st hg
  subst hP hw hK
  obtain ⟨xs, x, hq, hx⟩ := hg
  obtain ⟨its, rv, p, hz⟩ := I.list hq
  obtain ⟨u, hu, ru⟩ := rv.get hx
  obtain ⟨⟨old, s1⟩, s2⟩ := st
  refine wpAny_pyNext_enum_item s1 s2 p.isList (x := u) (by simpa using hu) hne fun h1 a1 a2 a3 a4 a5 => ⟨_, rfl, ?_⟩
  refine wpAny_letOwnedTupleGo_enum a1 fun h2 b1 b2 => ?_
  have lt1 : e < s.heap.objs.size := Heap.lt_size s1
  have hp0 : H s.heap.objs.size = none := I.hok.fresh (Nat.le_refl _)
  have g1 : (s.heap.push { cls := .type "tuple", data := .seq #[.int (i : Nat) s.toks, u] }).get? s.heap.objs.size = some { cls := .type "tuple", data := .seq #[.int (i : Nat) s.toks, u] } := Heap.get?_push_size _ rfl
  have I1 : Inv X pins σ (upd H s.heap.objs.size (.tup [.int (i : Nat), x])) { s with heap := s.heap.push { cls := .type "tuple", data := .seq #[.int (i : Nat) s.toks, u] }, toks := s.toks + 1 } :=
   I.laid (fun b o q => Heap.get?_push_of_some _ q) (Nat.le_refl _) ⟨by show 2 <= sizeLine; decide, [.int (i : Nat) s.toks, u], .cons ⟨_, rfl⟩ (.cons ru .nil), ⟨_, g1, rfl, _, rfl⟩⟩
  have hf1 : ∀ b ∈ [e, it], FpOk X pins (upd H s.heap.objs.size (.tup [.int (i : Nat), x])) b := fun b hb => by
   refine ⟨?_, (hf b hb).2⟩
   have lb : b ≠ s.heap.objs.size := by
    rcases List.mem_cons.mp hb with z | z
    ·subst z; exact Nat.ne_of_lt lt1
    ·have z' : b = it := by simpa using z
     subst z'
     obtain ⟨o, q, _⟩ := s2
     exact Nat.ne_of_lt (Heap.lt_size q)
   rw [upd_ne lb]
   exact (hf b hb).1
  have I2 : Inv X pins σ (upd H s.heap.objs.size (.tup [.int (i : Nat), x])) { s with heap := h2, toks := s.toks + 1 } :=
   I1.turnedL (t' := s.toks + 1) (fun b o hb q => by
    have nb : b ≠ e /\ b ≠ it := by simpa using hb
    have q1 : h1.get? b = some o := by
     by_cases z : b = s.heap.objs.size
     ·subst z
      have q' : (s.heap.push { cls := .type "tuple", data := .seq #[.int (i : Nat) s.toks, u] }).get? s.heap.objs.size = some o := q
      rw [g1] at q'
      cases q'
      exact a3
     ·exact a5 b o nb.1 nb.2 (get_push_ne q z)
    exact (b2.2 b nb.1).trans q1) hf1
  refine ⟨.ref s.heap.objs.size, _, I2, rfl, ⟨_, x, rfl, hp0, rfl, fun ys hy => by rw [I.list_inj hy hq]; exact hx⟩, ⟨⟨u, ?_⟩, ?_⟩, fun b hb => (hf1 b hb).1⟩
  ·exact b1
  ·obtain ⟨o, q, r⟩ := a2
   exact ⟨o, (b2.2 it (Ne.symm hne)).trans q, r⟩
 done := by
  intro X hP hw hK hc i pins s σ H E I hf st hg
  subst hP hw hK
  obtain ⟨xs, hq, hx⟩ := hg
  obtain ⟨its, rv, p, hz⟩ := I.list hq
  obtain ⟨⟨old, s1⟩, s2⟩ := st
  have hl := rv.length
  obtain ⟨f0, f1, f2, f3, f4, f5⟩ := hf it (by simp)
  exact wpAny_pyNext_enum_end (I.ok.hd hc) s1 s2 p.isList (by simp; omega) fun h' eb => ⟨rfl, I.turned (t' := s.toks) (fun b o hb q => eb b o hb q) f0 f1 f3 f4 f5⟩
 self := fun _ _ _ _ _ st h => by
  obtain ⟨⟨old, s1⟩, s2⟩ := st
  exact wpAny_pyIter_enum s1 h
def iEnum (K : PySem.W.Frag) (ta : TA) : TI := fun σ H R => ta σ H fun vs H1 => ∃ a, vs = [.ref a] /\ (∃ xs, SqL K H1 a xs) /\ R (Ite K a) H1
theorem pi_enum {a : Expr} {ta : TA} {p pos : Pos} {elts : List Expr} {x1} {tp : Pos} (hg : Gl X "enumerate") (hm : X.mg "enumerate" = none) (ha : PA X [a] ta) (hs : starEach [a] X.env = [(false, eval a X.env)] := by rfl) : PI X (.Tuple elts x1 tp) (.Call (.Name "enumerate" p) [a] [] pos) (iEnum X.K ta) := by
 intro pins s σ H R I h
 refine Call_ (ld_blt I hg hm boot_enumerate (PyProof.Rows.callWith_type1 (thn (ha pos pins s σ H _ I h) fun us s1 ⟨vs, H1, I1, r1, q1⟩ => ?_) hs rfl))
 obtain ⟨l, e, ⟨xs, hq⟩, q⟩ := q1
 subst e
 cases r1 with
 | cons r rr =>
  cases rr
  obtain rfl := r
  obtain ⟨its, rv, pl, hz⟩ := I1.list hq
  refine call_enumerate_list pl.isList fun h' e1 e2 e3 e4 => wpAny_pyIter_enum e1 ?_
  refine ⟨s1.heap.objs.size + 1, [s1.heap.objs.size + 1, s1.heap.objs.size], _, _, H1, rfl, I1.kept (t' := s1.toks) e4, turn_enum l _ _ (Nat.succ_ne_self _), ⟨⟨_, e1⟩, e2⟩, fun b hb => ?_, q⟩
  have hb' : b = s1.heap.objs.size + 1 \/ b = s1.heap.objs.size := by simpa using hb
  rcases hb' with z | z <;> subst z
  ·exact I1.fpOk (Nat.le_succ _) (I1.hok.fresh (Nat.le_succ _))
  ·exact I1.fpOk (Nat.le_refl _) (I1.hok.fresh (Nat.le_refl _))
end
end L2
end
section
namespace M
open PySem
inductive Tr where
 | w (x : List Nat)
 | l (ts : List Tr)
mutual
def Tr.cs : Tr -> List Nat
 | .w x => x
 | .l ts => 40 :: (bs ts).tail ++ [41]
def bs : List Tr -> List Nat
 | [] => []
 | t :: ts => 32 :: (t.cs ++ bs ts)
end
mutual
def Tr.nest : Tr -> Nat
 | .w _ => 0
 | .l ts => nests ts + 1
def nests : List Tr -> Nat
 | [] => 0
 | t :: ts => max t.nest (nests ts)
end
def Plain (x : List Nat) : Prop := x ≠ [] /\ ∀ c ∈ x, c ≠ 32 /\ c ≠ 40 /\ c ≠ 41
mutual
def Tr.Good : Tr -> Prop
 | .w x => Plain x
 | .l ts => 2 <= ts.length /\ (∃ h r, ts = .w h :: r) /\ Goods ts
def Goods : List Tr -> Prop
 | [] => True
 | t :: ts => t.Good /\ Goods ts
end
abbrev Pile := List (List Tr)
def push (t : Tr) : Pile -> Pile
 | [] => []
 | top :: st => (top ++ [t]) :: st
def close : Nat -> Pile -> Pile
 | 0, st => st
 | k + 1, top :: par :: st => close k ((par ++ [.l top]) :: st)
 | _ + 1, st => st
def coreOf (x : List Nat) : List Nat := (x.reverse.dropWhile (· == 41)).reverse
def closeN (c : Nat) (st : Pile) : Option Pile := if c < st.length then some (close c st) else none
def putC (core : List Nat) (c : Nat) (st : Pile) : Option Pile :=
 if core.head? = some 40 then (if st.length <= 20 then closeN c (push (.w core.tail) ([] :: st)) else none) else closeN c (push (.w core) st)
def putW (x : List Nat) (st : Pile) : Option Pile := putC (coreOf x) (x.length - (coreOf x).length) st
def runW : List (List Nat) -> Pile -> Option Pile
 | [], st => some st
 | x :: xs, st => (putW x st).bind (runW xs)
theorem runW_append : ∀ (a b : List (List Nat)) (st : Pile), runW (a ++ b) st = (runW a st).bind (runW b)
 | [], _, _ => rfl
 | x :: a, b, st => by
  show (putW x st).bind (runW (a ++ b)) = ((putW x st).bind (runW a)).bind (runW b)
  cases putW x st with
  | none => rfl
  | some st' => exact runW_append a b st'
theorem push_length (t : Tr) (st : Pile) : (push t st).length = st.length := by
 cases st <;> rfl
theorem coreOf_rep {x : List Nat} (k : Nat) (h : x ≠ []) (hx : ∀ c ∈ x, c ≠ 41) : coreOf (x ++ List.replicate k 41) = x := by
 unfold coreOf
 rw [List.reverse_append, List.reverse_replicate]
 have e : ∀ k : Nat, ((List.replicate k 41 ++ x.reverse).dropWhile (· == 41)) = x.reverse := by
  intro k
  induction k with
  | zero =>
   rw [List.replicate_zero, List.nil_append]
   cases hr : x.reverse with
   | nil => rfl
   | cons c r =>
    have hc : c ∈ x := by
     have : c ∈ x.reverse := by rw [hr]; exact List.mem_cons_self
     exact List.mem_reverse.mp this
    rw [List.dropWhile_cons, if_neg]
    simpa using hx c hc
  | succ k ih =>
   rw [List.replicate_succ, List.cons_append, List.dropWhile_cons, if_pos (by rfl)]
   exact ih
 rw [e, List.reverse_reverse]
theorem put_plain {x : List Nat} (k : Nat) (st : Pile) (h : Plain x) : putW (x ++ List.replicate k 41) st = closeN k (push (.w x) st) := by
 have e := coreOf_rep k h.1 (fun c hc => (h.2 c hc).2.2)
 unfold putW
 rw [e]
 unfold putC
 rw [if_neg, List.length_append, List.length_replicate, Nat.add_sub_cancel_left]
 intro hh
 cases x with
 | nil => cases hh
 | cons c r =>
  have := (h.2 c List.mem_cons_self).2.1
  simp at hh
  exact this hh
theorem put_open {x : List Nat} (k : Nat) (st : Pile) (h : Plain x) (hs : st.length <= 20) : putW (40 :: x ++ List.replicate k 41) st = closeN k (push (.w x) ([] :: st)) := by
 have e := coreOf_rep (x := 40 :: x) k (by simp) (fun c hc => by
  rcases List.mem_cons.mp hc with rfl | hc
  ·decide
  ·exact (h.2 c hc).2.2)
 unfold putW
 rw [e]
 unfold putC
 rw [if_pos (show (40 :: x).head? = some 40 from rfl), if_pos hs, List.length_append, List.length_replicate, Nat.add_sub_cancel_left]
 rfl
def joinB : List (List Nat) -> List Nat
 | [] => []
 | [x] => x
 | x :: y :: r => x ++ 32 :: joinB (y :: r)
theorem joinB_append : ∀ (a b : List (List Nat)), a ≠ [] -> b ≠ [] -> joinB (a ++ b) = joinB a ++ 32 :: joinB b
 | [], _, h, _ => absurd rfl h
 | [x], b, _, h => by
  cases b with
  | nil => exact absurd rfl h
  | cons y r => rfl
 | x :: y :: a, b, _, h => by
  show x ++ 32 :: joinB ((y :: a) ++ b) = (x ++ 32 :: joinB (y :: a)) ++ 32 :: joinB b
  rw [joinB_append (y :: a) b (by simp) h]
  simp
theorem joinB_last (a : List (List Nat)) (x y : List Nat) : joinB (a ++ [x ++ y]) = joinB (a ++ [x]) ++ y := by
 cases a with
 | nil => rfl
 | cons z r =>
  rw [joinB_append _ _ (by simp) (by simp), joinB_append _ _ (by simp) (by simp)]
  show _ ++ 32 :: (x ++ y) = (_ ++ 32 :: x) ++ y
  simp
theorem close_length : ∀ (a : Nat) (st : Pile), a < st.length -> (close a st).length + a = st.length
 | 0, st, _ => rfl
 | a + 1, st, h => by
  match st, h with
  | [], h => simp at h
  | [_], h => simp at h
  | top :: par :: st, h =>
   have := close_length a ((par ++ [.l top]) :: st) (by simp at h ⊢; omega)
   show (close a ((par ++ [.l top]) :: st)).length + (a + 1) = _
   simp at this ⊢
   omega
structure Words (t : Tr) (pre : List (List Nat)) (last : List Nat) : Prop where
 join : joinB (pre ++ [last]) = t.cs
 free : ∀ x ∈ pre ++ [last], 32 ∉ x
 run : ∀ (k : Nat) (st : Pile), 1 <= st.length -> st.length + t.nest <= 21 -> k < st.length -> runW (pre ++ [last ++ List.replicate k 41]) st = some (close k (push t st))
structure WordsL (ts : List Tr) (pre : List (List Nat)) (last : List Nat) : Prop where
 join : joinB (pre ++ [last]) = (bs ts).tail
 free : ∀ x ∈ pre ++ [last], 32 ∉ x
 run : ∀ (k : Nat) (top : List Tr) (st : Pile), st.length + 1 + nests ts <= 21 -> k < st.length + 1 -> runW (pre ++ [last ++ List.replicate k 41]) (top :: st) = some (close k ((top ++ ts) :: st))
theorem closeN_some {k : Nat} {st : Pile} (h : k < st.length) : closeN k st = some (close k st) := by
 unfold closeN
 rw [if_pos h]
theorem words_w {x : List Nat} (h : Plain x) : Words (.w x) [] x where
 join := rfl
 free := fun y hy => by
  simp at hy
  subst hy
  intro hm
  exact (h.2 _ hm).1 rfl
 run := fun k st h1 _ hk => by
  show (putW (x ++ List.replicate k 41) st).bind (runW []) = _
  rw [put_plain k st h, closeN_some (by rw [push_length]; exact hk)]
  rfl
theorem bs_tail (t : Tr) (ts : List Tr) : (bs (t :: ts)).tail = t.cs ++ bs ts := rfl
theorem bs_cons {ts : List Tr} (h : ts ≠ []) : bs ts = 32 :: (bs ts).tail := by
 cases ts with
 | nil => exact absurd rfl h
 | cons t r => rfl
mutual
theorem words : ∀ (t : Tr), t.Good -> ∃ pre last, Words t pre last
 | .w x, h => ⟨[], x, words_w h⟩
 | .l [], h => by have := h.1; simp at this
 | .l (t :: ts), h => by
  obtain ⟨h2, ⟨hd, r, e⟩, g⟩ := h
  cases e
  have hne : ts ≠ [] := by
   intro e
   subst e
   simp at h2
  have g0 : Plain hd := g.1
  obtain ⟨pre, last, W⟩ := wordsL ts hne g.2
  refine ⟨(40 :: hd) :: pre, last ++ [41], ?_, ?_, ?_⟩
  ·show joinB (((40 :: hd) :: pre) ++ [last ++ [41]]) = 40 :: (bs (.w hd :: ts)).tail ++ [41]
   rw [joinB_last, bs_tail, List.cons_append]
   rw [show (40 :: hd) :: (pre ++ [last]) = [40 :: hd] ++ (pre ++ [last]) from rfl, joinB_append _ _ (by simp) (by simp), W.join, bs_cons hne]
   show (40 :: hd ++ _) ++ [41] = 40 :: (hd ++ _) ++ [41]
   simp
  ·intro x hx
   rw [List.cons_append] at hx
   rcases List.mem_cons.mp hx with rfl | hx
   ·intro hm
    rcases List.mem_cons.mp hm with e | hm
    ·exact absurd e (by decide)
    ·exact (g0.2 _ hm).1 rfl
   ·rcases List.mem_append.mp hx with hx | hx
    ·exact W.free x (List.mem_append_left _ hx)
    ·have := List.mem_singleton.mp hx
     subst this
     intro hm
     rcases List.mem_append.mp hm with hm | hm
     ·exact W.free last (List.mem_append_right _ (by simp)) hm
     ·simp at hm
  ·intro k st h1 hn hk
   have hn' : st.length + (max 0 (nests ts) + 1) <= 21 := hn
   have hn2 : st.length + 1 + nests ts <= 21 := by omega
   have e : last ++ [41] ++ List.replicate k 41 = last ++ List.replicate (k + 1) 41 := by
    rw [List.append_assoc, List.replicate_succ]
    rfl
   rw [List.cons_append]
   show (putW (40 :: hd) st).bind (runW (pre ++ [last ++ [41] ++ List.replicate k 41])) = _
   rw [e]
   have p := put_open 0 st g0 (by omega)
   rw [List.replicate_zero, List.append_nil] at p
   rw [p, closeN_some (by rw [push_length]; simp)]
   show runW (pre ++ [last ++ List.replicate (k + 1) 41]) ([.w hd] :: st) = _
   rw [W.run (k + 1) [.w hd] st (by omega) (by omega)]
   cases st with
   | nil => simp at h1
   | cons par st' => rfl
theorem wordsL : ∀ (ts : List Tr), ts ≠ [] -> Goods ts -> ∃ pre last, WordsL ts pre last
 | [], h, _ => absurd rfl h
 | t :: ts, _, g => by
  obtain ⟨pre, last, W⟩ := words t g.1
  by_cases hne : ts = []
  ·subst hne
   refine ⟨pre, last, ?_, W.free, ?_⟩
   ·rw [W.join, bs_tail]
    show _ = t.cs ++ []
    simp
   ·intro k top st hn hk
    have hn' : st.length + 1 + max t.nest 0 <= 21 := hn
    rw [W.run k (top :: st) (by simp) (by simp; omega) (by simpa using hk)]
    rfl
  ·obtain ⟨pre2, last2, W2⟩ := wordsL ts hne g.2
   refine ⟨pre ++ [last] ++ pre2, last2, ?_, ?_, ?_⟩
   ·rw [List.append_assoc, joinB_append _ _ (by simp) (by simp), W.join, W2.join, bs_tail, <- bs_cons hne]
   ·intro x hx
    rw [List.append_assoc] at hx
    rcases List.mem_append.mp hx with hx | hx
    ·exact W.free x hx
    ·exact W2.free x hx
   ·intro k top st hn hk
    have hn' : st.length + 1 + max t.nest (nests ts) <= 21 := hn
    rw [List.append_assoc, runW_append]
    have r1 := W.run 0 (top :: st) (by simp) (by simp; omega) (by simp)
    rw [List.replicate_zero, List.append_nil] at r1
    rw [r1]
    show runW (pre2 ++ [last2 ++ List.replicate k 41]) ((top ++ [t]) :: st) = _
    rw [W2.run k (top ++ [t]) st (by omega) hk]
    simp
end
end M
end
section
namespace M
open PySem
inductive D where
 | int (i : Int)
 | str (x : Str)
 | tup (ds : List D)
mutual
def D.size : D -> Nat
 | .int _ => 1
 | .str _ => 1
 | .tup ds => sizes ds + 1
def sizes : List D -> Nat
 | [] => 0
 | d :: ds => d.size + sizes ds
end
theorem sizes_append : ∀ (a b : List D), sizes (a ++ b) = sizes a + sizes b
 | [], b => by simp [sizes]
 | d :: a, b => by
  show d.size + sizes (a ++ b) = d.size + sizes a + sizes b
  rw [sizes_append a b]
  omega
theorem size_pos (d : D) : 1 <= d.size := by
 cases d <;> simp [D.size]
theorem length_le_sizes : ∀ (ds : List D), ds.length <= sizes ds
 | [] => Nat.le_refl _
 | d :: ds => by
  have := length_le_sizes ds
  have := size_pos d
  show ds.length + 1 <= d.size + sizes ds
  omega
inductive All2 {α β : Type} (R : α -> β -> Prop) : List α -> List β -> Prop where
 | nil : All2 R [] []
 | cons {a b as bs} (h : R a b) (t : All2 R as bs) : All2 R (a :: as) (b :: bs)
theorem All2.length {α β : Type} {R : α -> β -> Prop} {as : List α} {bs : List β} (h : All2 R as bs) : as.length = bs.length := by
 induction h with
 | nil => rfl
 | cons _ _ ih => simp [ih]
theorem All2.append {α β : Type} {R : α -> β -> Prop} {as as' : List α} {bs bs' : List β} (h : All2 R as bs) (k : All2 R as' bs') : All2 R (as ++ as') (bs ++ bs') := by
 induction h with
 | nil => exact k
 | cons h _ ih => exact .cons h ih
theorem All2.get {α β : Type} {R : α -> β -> Prop} {as : List α} {bs : List β} (h : All2 R as bs) : ∀ {i : Nat} {a : α}, as[i]? = some a -> ∃ b, bs[i]? = some b /\ R a b := by
 induction h with
 | nil => intro i a e; simp at e
 | cons h _ ih =>
  intro i a e
  cases i with
  | zero => simp at e; subst e; exact ⟨_, by simp, h⟩
  | succ i => simpa using ih (i := i) (a := a) (by simpa using e)
def S (s : String) : Str := Str.ofString s
def isLetter (c : Nat) : Bool := 97 <= c && c <= 122
def isFigure (c : Nat) : Bool := 48 <= c && c <= 57
def nameL (x : List Nat) : Bool := 1 <= x.length && x.length <= 6 && x.all isLetter && x != [110, 117, 109] && x != [105, 116]
def Name (x : Str) : Prop := nameL x.cps.toList = true
def ops : List Str := [S "+", S "-", S "*", S "<", S "="]
def tx (x : Str) : Tr := .w x.cps.toList
theorem letter_plain {c : Nat} (h : isLetter c = true) : c ≠ 32 /\ c ≠ 40 /\ c ≠ 41 := by
 simp [isLetter] at h
 omega
theorem figure_plain {c : Nat} (h : isFigure c = true) : c ≠ 32 /\ c ≠ 40 /\ c ≠ 41 := by
 simp [isFigure] at h
 omega
theorem Name.letters {x : Str} (h : Name x) : ∀ c ∈ x.cps.toList, isLetter c = true := by
 unfold Name nameL at h
 simp only [Bool.and_eq_true, List.all_eq_true] at h
 exact h.1.1.2
theorem Name.pos {x : Str} (h : Name x) : x.cps.toList ≠ [] := by
 unfold Name nameL at h
 simp only [Bool.and_eq_true, decide_eq_true_eq] at h
 intro e
 rw [e] at h
 simp at h
theorem Name.le {x : Str} (h : Name x) : x.cps.toList.length <= 6 := by
 unfold Name nameL at h
 simp only [Bool.and_eq_true, decide_eq_true_eq] at h
 exact h.1.1.1.2
theorem Name.plain {x : Str} (h : Name x) : Plain x.cps.toList := ⟨h.pos, fun c hc => letter_plain (h.letters c hc)⟩
def numS (n : Int) : Str := Str.ofString (toString n)
def Leaf (d : D) (t : Tr) : Prop :=
 (∃ n : Int, 0 <= n /\ n < 10 ^ 10 /\ d = .tup [.str (S "num"), .int n] /\ t = tx (numS n)) \/ (∃ x : Str, Name x /\ d = .tup [.str (S "box"), .str x] /\ t = tx x)
def Arm (R : D -> Tr -> Prop) (d : D) (t : Tr) : Prop := ∃ g x e te, Name g /\ Name x /\ R e te /\ d = .tup [.str g, .str x, e] /\ t = .l [tx g, tx x, te]
def Node (R : D -> Tr -> Prop) (d : D) (t : Tr) : Prop :=
  (∃ s a b ta tb, s ∈ ops /\ R a ta /\ R b tb /\ d = .tup [.str (S "op"), .str s, a, b] /\ t = .l [tx s, ta, tb])
  \/ (∃ k es ts, Name k /\ es.length <= 5 /\ All2 R es ts /\ d = .tup [.str (S "rec"), .str k, .tup es] /\ t = .l (tx (S "rec") :: tx k :: ts))
  \/ (∃ a ta f, Name f /\ R a ta /\ d = .tup [.str (S "get"), a, .str f] /\ t = .l [tx (S "get"), ta, tx f])
  \/ (∃ k g a ta, Name k /\ Name g /\ R a ta /\ d = .tup [.str (S "tag"), .str k, .str g, a] /\ t = .l [tx (S "tag"), tx k, tx g, ta])
  \/ (∃ a ta arms ts, R a ta /\ 1 <= arms.length /\ arms.length <= 4 /\ All2 (Arm R) arms ts /\ d = .tup [.str (S "case"), a, .tup arms] /\ t = .l (tx (S "case") :: ta :: ts))
  \/ (∃ a b c ta tb tc, R a ta /\ R b tb /\ R c tc /\ d = .tup [.str (S "if"), a, b, c] /\ t = .l [tx (S "if"), ta, tb, tc])
def T2 : Nat -> D -> Tr -> Prop
 | 0, d, t => Leaf d t
 | n + 1, d, t => Leaf d t \/ Node (T2 n) d t
theorem T2.leaf {n : Nat} {d : D} {t : Tr} (h : Leaf d t) : T2 n d t := by
 cases n with
 | zero => exact h
 | succ n => exact .inl h
theorem num_reads (m : Nat) : (numS (m : Int)).cps.toList = (Nat.toDigits 10 m).map Char.toNat := by
 unfold numS
 rw [Str.ofString_eq_toList]
 show (Nat.repr m).toList.map Char.toNat = _
 rw [Nat.toList_repr]
theorem num_figures {n : Int} (h : 0 <= n) : ∀ c ∈ (numS n).cps.toList, isFigure c = true := by
 obtain ⟨m, rfl⟩ := Int.eq_ofNat_of_zero_le h
 intro c hc
 rw [num_reads] at hc
 obtain ⟨ch, hch, e⟩ := List.mem_map.mp hc
 have r := Nat.isDigit_of_mem_toDigits (by decide) (by decide) hch
 subst e
 simp [isFigure]
 simp [Char.isDigit] at r
 have h1 : (48 : Nat) <= ch.val.toNat := r.1
 have h2 : ch.val.toNat <= 57 := r.2
 exact ⟨h1, h2⟩
theorem num_ne {n : Int} (h : 0 <= n) : (numS n).cps.toList ≠ [] := by
 obtain ⟨m, rfl⟩ := Int.eq_ofNat_of_zero_le h
 rw [num_reads]
 intro e
 have := Nat.length_toDigits_pos (b := 10) (n := m)
 rw [List.map_eq_nil_iff.mp e] at this
 simp at this
theorem num_len {n : Int} (h : 0 <= n) (h1 : n < 10 ^ 10) : (numS n).cps.toList.length <= 10 := by
 obtain ⟨m, rfl⟩ := Int.eq_ofNat_of_zero_le h
 rw [num_reads, List.length_map]
 have hm : m < 10 ^ 10 := by omega
 exact (Nat.length_toDigits_le_iff (b := 10) (k := 10) (by decide) (by decide)).mpr hm
end M
end
section
namespace M
open PySem
theorem goods_of {R : D -> Tr -> Prop} {es : List D} {ts : List Tr} (h : All2 R es ts) (g : ∀ d t, R d t -> t.Good) : Goods ts := by
 induction h with
 | nil => exact True.intro
 | cons h _ ih => exact ⟨g _ _ h, ih⟩
theorem nests_of {R : D -> Tr -> Prop} {m : Nat} {es : List D} {ts : List Tr} (h : All2 R es ts) (g : ∀ d t, R d t -> t.nest <= m) : nests ts <= m := by
 induction h with
 | nil => exact Nat.zero_le _
 | cons h _ ih => exact Nat.max_le.mpr ⟨g _ _ h, ih⟩
theorem bs_len_of {R : D -> Tr -> Prop} {m : Nat} {es : List D} {ts : List Tr} (h : All2 R es ts) (g : ∀ d t, R d t -> t.cs.length <= m) : (bs ts).length <= ts.length * (m + 1) := by
 induction h with
 | nil => exact Nat.zero_le _
 | @cons a b as bs' h _ ih =>
  have := g _ _ h
  show (32 :: (b.cs ++ bs bs')).length <= (bs'.length + 1) * (m + 1)
  rw [List.length_cons, List.length_append, Nat.succ_mul]
  omega
theorem leaf_good {d : D} {t : Tr} (h : Leaf d t) : t.Good := by
 rcases h with ⟨n, h0, h1, _, rfl⟩ | ⟨x, hx, _, rfl⟩
 ·exact ⟨num_ne h0, fun c hc => figure_plain (num_figures h0 c hc)⟩
 ·exact hx.plain
theorem plain_ops : ∀ s ∈ ops, Plain s.cps.toList := by
 have e : ∀ s ∈ ops, (decide (s.cps.toList ≠ []) && s.cps.toList.all fun c => c != 32 && c != 40 && c != 41) = true := by walk_at "k"
 intro s hs
 have := e s hs
 simp only [Bool.and_eq_true, decide_eq_true_eq, List.all_eq_true, bne_iff_ne] at this
 exact ⟨this.1, fun c hc => ⟨(this.2 c hc).1.1, (this.2 c hc).1.2, (this.2 c hc).2⟩⟩
def heads : List Str := [S "rec", S "get", S "tag", S "case", S "if"]
theorem plain_heads : ∀ s ∈ heads, Plain s.cps.toList := by
 have e : ∀ s ∈ heads, (decide (s.cps.toList ≠ []) && s.cps.toList.all fun c => c != 32 && c != 40 && c != 41) = true := by walk_at "k"
 intro s hs
 have := e s hs
 simp only [Bool.and_eq_true, decide_eq_true_eq, List.all_eq_true, bne_iff_ne] at this
 exact ⟨this.1, fun c hc => ⟨(this.2 c hc).1.1, (this.2 c hc).1.2, (this.2 c hc).2⟩⟩
theorem arm_good {R : D -> Tr -> Prop} (g : ∀ d t, R d t -> t.Good) {d : D} {t : Tr} (h : Arm R d t) : t.Good := by
 obtain ⟨a, x, e, te, ha, hx, he, _, rfl⟩ := h
 exact ⟨by simp, ⟨_, _, rfl⟩, ha.plain, hx.plain, g _ _ he, True.intro⟩
theorem T2.good : ∀ {n : Nat} {d : D} {t : Tr}, T2 n d t -> t.Good
 | 0, d, t, h => leaf_good h
 | n + 1, d, t, h => by
  have ih : ∀ d t, T2 n d t -> t.Good := fun d t h => T2.good h
  rcases h with h | ⟨s, a, b, ta, tb, hs, ha, hb, _, rfl⟩ | ⟨k, es, ts, hk, _, hes, _, rfl⟩ | ⟨a, ta, f, hf, ha, _, rfl⟩ | ⟨k, g, a, ta, hk, hg, ha, _, rfl⟩ | ⟨a, ta, arms, ts, ha, h1, _, hs, _, rfl⟩ | ⟨a, b, c, ta, tb, tc, ha, hb, hc, _, rfl⟩
  ·exact leaf_good h
  ·exact ⟨by simp, ⟨_, _, rfl⟩, plain_ops s hs, ih _ _ ha, ih _ _ hb, True.intro⟩
  ·exact ⟨by simp, ⟨_, _, rfl⟩, plain_heads _ (by walk_at "k"), hk.plain, goods_of hes ih⟩
  ·exact ⟨by simp, ⟨_, _, rfl⟩, plain_heads _ (by walk_at "k"), ih _ _ ha, hf.plain, True.intro⟩
  ·exact ⟨by simp, ⟨_, _, rfl⟩, plain_heads _ (by walk_at "k"), hk.plain, hg.plain, ih _ _ ha, True.intro⟩
  ·exact ⟨by simp, ⟨_, _, rfl⟩, plain_heads _ (by walk_at "k"), ih _ _ ha, goods_of hs fun d t h => arm_good ih h⟩
  ·exact ⟨by simp, ⟨_, _, rfl⟩, plain_heads _ (by walk_at "k"), ih _ _ ha, ih _ _ hb, ih _ _ hc, True.intro⟩
theorem leaf_nest {d : D} {t : Tr} (h : Leaf d t) : t.nest = 0 := by
 rcases h with ⟨n, h0, h1, _, rfl⟩ | ⟨x, hx, _, rfl⟩ <;> rfl
theorem nest_tx (x : Str) : (tx x).nest = 0 := rfl
theorem T2.nest : ∀ {n : Nat} {d : D} {t : Tr}, T2 n d t -> t.nest <= 2 * n
 | 0, d, t, h => by rw [leaf_nest h]; omega
 | n + 1, d, t, h => by
  have ih : ∀ d t, T2 n d t -> t.nest <= 2 * n := fun d t h => T2.nest h
  rcases h with h | ⟨s, a, b, ta, tb, hs, ha, hb, _, rfl⟩ | ⟨k, es, ts, hk, _, hes, _, rfl⟩ | ⟨a, ta, f, hf, ha, _, rfl⟩ | ⟨k, g, a, ta, hk, hg, ha, _, rfl⟩ | ⟨a, ta, arms, ts, ha, h1, _, hs, _, rfl⟩ | ⟨a, b, c, ta, tb, tc, ha, hb, hc, _, rfl⟩
  ·rw [leaf_nest h]; omega
  ·have := ih _ _ ha; have := ih _ _ hb
   simp only [Tr.nest, nests, nest_tx]; omega
  ·have := nests_of hes ih
   simp only [Tr.nest, nests, nest_tx]; omega
  ·have := ih _ _ ha
   simp only [Tr.nest, nests, nest_tx]; omega
  ·have := ih _ _ ha
   simp only [Tr.nest, nests, nest_tx]; omega
  ·have := ih _ _ ha
   have := nests_of (m := 2 * n + 1) hs fun d t h => by
    obtain ⟨g, x, e, te, _, _, he, _, rfl⟩ := h
    have := ih _ _ he
    simp only [Tr.nest, nests, nest_tx]; omega
   simp only [Tr.nest, nests, nest_tx]; omega
  ·have := ih _ _ ha; have := ih _ _ hb; have := ih _ _ hc
   simp only [Tr.nest, nests, nest_tx]; omega
theorem leaf_len {d : D} {t : Tr} (h : Leaf d t) : t.cs.length <= 10 := by
 rcases h with ⟨n, h0, h1, _, rfl⟩ | ⟨x, hx, _, rfl⟩
 ·exact num_len h0 h1
 ·have := hx.le
  show x.cps.toList.length <= 10
  omega
theorem cs_tx (x : Str) : (tx x).cs = x.cps.toList := rfl
theorem ops_len : ∀ s ∈ ops, s.cps.toList.length = 1 := by walk_at "k"
theorem heads_len : ∀ s ∈ heads, s.cps.toList.length <= 4 := by walk_at "k"
theorem T2.len : ∀ {n : Nat} {d : D} {t : Tr}, T2 n d t -> t.cs.length + 20 <= 30 * 5 ^ n
 | 0, d, t, h => by have := leaf_len h; omega
 | n + 1, d, t, h => by
  have ih : ∀ d t, T2 n d t -> t.cs.length <= 30 * 5 ^ n - 20 := fun d t h => by have := T2.len h; omega
  have hp : 1 <= 5 ^ n := Nat.pow_pos (by decide)
  have e5 : 5 ^ (n + 1) = 5 * 5 ^ n := by rw [Nat.pow_succ, Nat.mul_comm]
  generalize hP : 5 ^ n = P at *
  have hr := heads_len (S "rec") (by walk_at "k")
  have hge := heads_len (S "get") (by walk_at "k")
  have hta := heads_len (S "tag") (by walk_at "k")
  have hca := heads_len (S "case") (by walk_at "k")
  have hif := heads_len (S "if") (by walk_at "k")
  rcases h with h | ⟨s, a, b, ta, tb, hs, ha, hb, _, rfl⟩ | ⟨k, es, ts, hk, h5, hes, _, rfl⟩ | ⟨a, ta, f, hf, ha, _, rfl⟩ | ⟨k, g, a, ta, hk, hg, ha, _, rfl⟩ | ⟨a, ta, arms, ts, ha, h1, h4, hs, _, rfl⟩ | ⟨a, b, c, ta, tb, tc, ha, hb, hc, _, rfl⟩
  ·have := leaf_len h; omega
  ·have := ih _ _ ha; have := ih _ _ hb; have := ops_len s hs
   simp only [Tr.cs, bs, List.tail_cons, List.length_cons, List.length_append, List.length_nil, cs_tx]; omega
  ·have hb := bs_len_of (m := 30 * P - 20) hes ih
   have := hk.le
   have hl := hes.length
   have : ts.length * (30 * P - 20 + 1) <= 5 * (30 * P - 20 + 1) := Nat.mul_le_mul_right _ (by omega)
   simp only [Tr.cs, bs, List.tail_cons, List.length_cons, List.length_append, List.length_nil, cs_tx]; omega
  ·have := ih _ _ ha; have := hf.le
   simp only [Tr.cs, bs, List.tail_cons, List.length_cons, List.length_append, List.length_nil, cs_tx]; omega
  ·have := ih _ _ ha; have := hk.le; have := hg.le
   simp only [Tr.cs, bs, List.tail_cons, List.length_cons, List.length_append, List.length_nil, cs_tx]; omega
  ·have := ih _ _ ha
   have hb := bs_len_of (m := 30 * P - 4) hs fun d t h => by
    obtain ⟨g, x, e, te, hg, hx, he, _, rfl⟩ := h
    have := ih _ _ he; have := hg.le; have := hx.le
    simp only [Tr.cs, bs, List.tail_cons, List.length_cons, List.length_append, List.length_nil, cs_tx]; omega
   have hl := hs.length
   have : ts.length * (30 * P - 4 + 1) <= 4 * (30 * P - 4 + 1) := Nat.mul_le_mul_right _ (by omega)
   simp only [Tr.cs, bs, List.tail_cons, List.length_cons, List.length_append, List.length_nil, cs_tx]; omega
  ·have := ih _ _ ha; have := ih _ _ hb; have := ih _ _ hc
   simp only [Tr.cs, bs, List.tail_cons, List.length_cons, List.length_append, List.length_nil, cs_tx]; omega
end M
end
section
namespace M
open PySem
def L (x : Str) : List Nat := x.cps.toList
def ofL (l : List Nat) : Str := ⟨l.toArray⟩
theorem ofL_L (x : Str) : ofL (L x) = x := by
 cases x
 rfl
theorem L_inj {x y : Str} (h : L x = L y) : x = y := by
 rw [<- ofL_L x, <- ofL_L y, h]
theorem L_append (x y : Str) : L (x ++ y) = L x ++ L y := by
 show (x.cps ++ y.cps).toList = _
 simp [L]
theorem L_length (x : Str) : (L x).length = x.length := by
 simp [L, Str.length]
theorem L_join (sep : Nat) : ∀ ys : List Str, sep = 32 -> L (Str.join ⟨#[sep]⟩ ys) = joinB (ys.map L)
 | [], _ => rfl
 | [x], _ => rfl
 | x :: y :: r, h => by
  subst h
  show L (x ++ ⟨#[32]⟩ ++ Str.join ⟨#[32]⟩ (y :: r)) = L x ++ 32 :: joinB ((y :: r).map L)
  rw [L_append, L_append, L_join 32 (y :: r) rfl, List.append_assoc]
  rfl
theorem joinB_bs : ∀ ts : List Tr, joinB (ts.map Tr.cs) = (bs ts).tail
 | [] => rfl
 | [t] => by
  show t.cs = t.cs ++ bs []
  simp [bs]
 | t :: u :: r => by
  show t.cs ++ 32 :: joinB ((u :: r).map Tr.cs) = t.cs ++ bs (u :: r)
  rw [joinB_bs (u :: r), <- bs_cons (by simp)]
theorem cut_eq {x y a b : List Nat} (hx : 32 ∉ x) (hy : 32 ∉ y) (h : x ++ 32 :: a = y ++ 32 :: b) : x = y /\ a = b := by
 induction x generalizing y with
 | nil =>
  cases y with
  | nil => simpa using h
  | cons c y =>
   simp at h
   exact absurd (by rw [h.1]; simp) hy
 | cons c x ih =>
  cases y with
  | nil =>
   simp at h
   exact absurd (by rw [h.1]; simp) hx
  | cons d y =>
   simp at h
   obtain ⟨h1, h2⟩ := h
   obtain ⟨e1, e2⟩ := ih (y := y) (fun hm => hx (List.mem_cons_of_mem _ hm)) (fun hm => hy (List.mem_cons_of_mem _ hm)) (by simpa using h2)
   exact ⟨by rw [h1, e1], e2⟩
theorem joinB_inj : ∀ (a b : List (List Nat)), a ≠ [] -> b ≠ [] -> (∀ x ∈ a, 32 ∉ x) -> (∀ x ∈ b, 32 ∉ x) -> joinB a = joinB b -> a = b
 | [], _, h, _, _, _, _ => absurd rfl h
 | _, [], _, h, _, _, _ => absurd rfl h
 | [x], [y], _, _, _, _, h => by
  have : x = y := h
  rw [this]
 | [x], y :: z :: r, _, _, ha, _, h => by
  have h' : x = y ++ 32 :: joinB (z :: r) := h
  exact absurd (by rw [h']; simp) (ha x (by simp))
 | x :: z :: r, [y], _, _, _, hb, h => by
  have h' : x ++ 32 :: joinB (z :: r) = y := h
  exact absurd (by rw [<- h']; simp) (hb y (by simp))
 | x :: z :: r, y :: z' :: r', _, _, ha, hb, h => by
  obtain ⟨e1, e2⟩ := cut_eq (ha x (by simp)) (hb y (by simp)) h
  have := joinB_inj (z :: r) (z' :: r') (by simp) (by simp) (fun u hu => ha u (List.mem_cons_of_mem _ hu)) (fun u hu => hb u (List.mem_cons_of_mem _ hu)) e2
  rw [e1, this]
theorem split_ne (x y : Str) : Txt.split x y ≠ [] := by
 unfold Txt.split
 split
 ·simp
 ·split
  ·simp
  ·rw [StrLaws.partsBetween_eq]
   obtain ⟨p, r, e⟩ := StrLaws.partsFrom_ne x y.length 0 (Builtin.Str.occurrences x y 0 x.length (x.length + 1))
   rw [e]
   simp
theorem split_is {x : Str} {ws : List (List Nat)} (hn : ws ≠ []) (hf : ∀ z ∈ ws, 32 ∉ z) (hj : joinB ws = L x) : (Txt.split x ⟨#[32]⟩).map L = ws := by
 refine joinB_inj _ _ ?_ hn ?_ hf ?_
 ·intro e
  exact split_ne x ⟨#[32]⟩ (List.map_eq_nil_iff.mp e)
 ·intro z hz
  obtain ⟨p, hp, rfl⟩ := List.mem_map.mp hz
  exact StrLaws.split_free x 32 p hp
 ·rw [<- L_join 32 _ rfl, StrLaws.join_split, hj]
theorem parts_len (x : Str) (w : Nat) : ∀ (cuts : List Nat) (a : Nat), (StrLaws.partsFrom x w a cuts).length = cuts.length + 1
 | [], _ => rfl
 | c :: r, a => by
  show (StrLaws.partsFrom x w (c + w) r).length + 1 = _
  rw [parts_len x w r]
  rfl
theorem read_tree {t : Tr} (g : t.Good) (hn : t.nest <= 20) {x : Str} (hx : L x = t.cs) : ∃ ws, (Txt.split x ⟨#[32]⟩).map L = ws /\ runW ws [[]] = some [[t]] := by
 obtain ⟨pre, last, W⟩ := words t g
 refine ⟨pre ++ [last], split_is (by simp) W.free (by rw [W.join, hx]), ?_⟩
 have := W.run 0 [[]] (by simp) (by simp; omega) (by simp)
 rw [List.replicate_zero, List.append_nil] at this
 rw [this]
 rfl
end M
end
section
namespace M
open PySem
theorem take_core (p : Nat -> Bool) (l : List Nat) : l.take (l.length - (l.reverse.takeWhile p).length) = (l.reverse.dropWhile p).reverse := by
 have e : l = (l.reverse.dropWhile p).reverse ++ (l.reverse.takeWhile p).reverse := by
  rw [<- List.reverse_append, List.takeWhile_append_dropWhile, List.reverse_reverse]
 generalize ha : (l.reverse.dropWhile p).reverse = a at *
 generalize hb : (l.reverse.takeWhile p) = b at *
 rw [e, List.length_append, List.length_reverse, Nat.add_sub_cancel]
 simp
theorem contains41 (c : Nat) : (⟨#[41]⟩ : Str).cps.contains c = (c == 41) := by
 show (#[41] : Array Nat).contains c = _
 simp
 rfl
theorem rstrip_core (x : Str) : L (Txt.rstripChars x ⟨#[41]⟩) = coreOf (L x) := by
 have hp : (⟨#[41]⟩ : Str).cps.contains = fun c => c == 41 := funext contains41
 have key : L (stripped (⟨#[41]⟩ : Str).cps.contains false true x) = coreOf (L x) := by
  unfold stripped
  show (Builtin.Str.strSub x _ _).cps.toList = _
  rw [StrLaws.strSub_toList, hp]
  unfold stripLo stripHi coreOf L
  simp only [Bool.false_eq_true, if_false, if_true, List.drop_zero, Nat.sub_zero]
  have hl : x.length = x.cps.toList.length := by simp [Str.length]
  rw [hl]
  exact take_core _ _
 unfold Txt.rstripChars Txt.stripBy
 split
 ·rename_i h
  unfold stripSame at h
  rw [Bool.and_eq_true, beq_iff_eq, beq_iff_eq] at h
  rw [<- key]
  unfold stripped
  have h1 := h.1
  have h2 := h.2
  rw [h1] at h2
  rw [h1, h2, StrLaws.sub_whole]
 ·exact key
theorem rstrip_len (x : Str) : (Txt.rstripChars x ⟨#[41]⟩).length <= x.length := by
 have h := rstrip_core x
 rw [<- L_length, h, <- L_length]
 unfold coreOf
 rw [List.length_reverse]
 have := (List.dropWhile_suffix (l := (L x).reverse) (· == 41)).length_le
 simpa using this
theorem starts_open (x : Str) : Txt.startswith x ⟨#[40]⟩ = decide ((L x).head? = some 40) := by
 unfold Txt.startswith
 rw [StrLaws.subAt_eq]
 have hl : x.length = (L x).length := (L_length x).symm
 show (decide (0 + 1 <= x.length) && ((L x).drop 0).take 1 == [40]) = _
 rw [hl]
 cases L x with
 | nil => rfl
 | cons c r =>
  simp
  rw [Bool.eq_iff_iff]
  simp
theorem slice_tail (x : Str) (h : 1 <= x.length) : L (Txt.slice x (some 1) none) = (L x).tail := by
 have e : Txt.slice x (some 1) none = StrLaws.sliceText x (some 1) none := rfl
 rw [e, StrLaws.sliceText_from ⟨by decide, by rw [show x.cps.toList.length = x.length by simp [Str.length]]; omega⟩]
 show ((L x).drop 1).take _ = _
 rw [List.drop_one]
 refine List.take_of_length_le ?_
 rw [List.length_tail]
 show (L x).length - 1 <= (((L x).length : Int) - 1).toNat
 omega
end M
end
section
namespace M
open PySem
def letters : Str := S "abcdefghijklmnopqrstuvwxyz"
def figures : Str := S "0123456789"
def inS (y : Str) (c : Nat) : Bool := !(Builtin.Str.occurrences y ⟨#[c]⟩ 0 y.length 1).isEmpty
theorem inS_mem (y : Str) (c : Nat) : inS y c = decide (c ∈ L y) := StrLaws.found_one y c
def madeOf (x y : Str) (m : Int) : Bool := decide (1 <= x.length) && decide ((x.length : Int) <= m) && (L x).all (inS y)
theorem letters_is (c : Nat) : inS letters c = isLetter c := by
 rw [inS_mem]
 have e : L letters = List.range' 97 26 := by walk_at "k"
 rw [e, Bool.eq_iff_iff]
 simp [isLetter, List.mem_range']
 constructor
 ·rintro ⟨i, h1, h2⟩; omega
 ·rintro ⟨h1, h2⟩; exact ⟨c - 97, by omega, by omega⟩
theorem figures_is (c : Nat) : inS figures c = isFigure c := by
 rw [inS_mem]
 have e : L figures = List.range' 48 10 := by walk_at "k"
 rw [e, Bool.eq_iff_iff]
 simp [isFigure, List.mem_range']
 constructor
 ·rintro ⟨i, h1, h2⟩; omega
 ·rintro ⟨h1, h2⟩; exact ⟨c - 48, by omega, by omega⟩
def numL (x : List Nat) : Bool := decide (1 <= x.length) && decide (x.length <= 10) && x.all isFigure && (decide (x = [48]) || decide (x.head? ≠ some 48))
theorem made_letters (x : Str) : madeOf x letters 6 = (decide (1 <= (L x).length) && decide ((L x).length <= 6) && (L x).all isLetter) := by
 unfold madeOf
 rw [show inS letters = isLetter from funext letters_is, L_length]
 congr 2
 rw [Bool.eq_iff_iff]
 simp
 omega
theorem made_figures (x : Str) : madeOf x figures 10 = (decide (1 <= (L x).length) && decide ((L x).length <= 10) && (L x).all isFigure) := by
 unfold madeOf
 rw [show inS figures = isFigure from funext figures_is, L_length]
 congr 2
 rw [Bool.eq_iff_iff]
 simp
 omega
theorem name_is (x : Str) : nameL (L x) = (madeOf x letters 6 && !(decide (x = S "num") || decide (x = S "it"))) := by
 rw [made_letters]
 unfold nameL
 have e1 : (L x != [110, 117, 109]) = !decide (x = S "num") := by
  by_cases h : x = S "num"
  ·subst h
   decide +kernel
  ·rw [decide_eq_false h]
   have : L x ≠ [110, 117, 109] := fun e => h (L_inj (e.trans (by walk_at "k")))
   simpa using this
 have e2 : (L x != [105, 116]) = !decide (x = S "it") := by
  by_cases h : x = S "it"
  ·subst h
   decide +kernel
  ·rw [decide_eq_false h]
   have : L x ≠ [105, 116] := fun e => h (L_inj (e.trans (by walk_at "k")))
   simpa using this
 rw [e1, e2, Bool.not_or, Bool.and_assoc]
theorem number_is (x : Str) : numL (L x) = (madeOf x figures 10 && (decide (x = S "0") || !decide ((⟨#[(L x).getD 0 0]⟩ : Str) = S "0"))) := by
 rw [made_figures]
 unfold numL
 cases h : (decide (1 <= (L x).length) && decide ((L x).length <= 10) && (L x).all isFigure)
 ·rfl
 ·rw [Bool.true_and, Bool.true_and]
  have h1 : 1 <= (L x).length := by
   simp only [Bool.and_eq_true, decide_eq_true_eq] at h
   exact h.1.1
  have e1 : decide (L x = [48]) = decide (x = S "0") := by
   rw [decide_eq_decide]
   constructor
   ·intro e; exact L_inj (e.trans (by walk_at "k"))
   ·intro e; rw [e]; decide +kernel
  have e2 : decide ((L x).head? ≠ some 48) = !decide ((⟨#[(L x).getD 0 0]⟩ : Str) = S "0") := by
   cases hx : L x with
   | nil => rw [hx] at h1; simp at h1
   | cons c r =>
    by_cases hc : c = 48
    ·subst hc
     have : (⟨#[(48 :: r).getD 0 0]⟩ : Str) = S "0" := by
      show (⟨#[48]⟩ : Str) = S "0"
      decide +kernel
     rw [decide_eq_true this]
     simp
    ·have : ¬ (⟨#[(c :: r).getD 0 0]⟩ : Str) = S "0" := by
      show ¬ (⟨#[c]⟩ : Str) = S "0"
      intro e
      have := congrArg L e
      have e0 : L (S "0") = [48] := by walk_at "k"
      rw [e0] at this
      have : [c] = [48] := this
      simp at this
      exact hc this
     rw [decide_eq_false this]
     simpa using hc
  rw [e1, e2]
theorem digits_head : ∀ (m : Nat), 0 < m -> ((Nat.toDigits 10 m).map Char.toNat).head? ≠ some 48 := by
 intro m
 induction m using Nat.strongRecOn with
 | _ m ih =>
  intro h0
  by_cases h : m < 10
  ·rw [Nat.toDigits_of_lt_base h]
   have : ∀ m : Nat, m < 10 -> 0 < m -> [(Nat.digitChar m).toNat].head? ≠ some 48 := by decide
   exact this m h h0
  ·have hm : m % 10 < 10 := Nat.mod_lt m (by decide)
   have t : Nat.toDigits 10 (m / 10) ++ Nat.toDigits 10 (m % 10) = Nat.toDigits 10 (10 * (m / 10) + m % 10) := Nat.toDigits_append_toDigits (by decide) (by omega) hm
   rw [Nat.div_add_mod] at t
   have hi := ih (m / 10) (by omega) (by omega)
   rw [<- t, List.map_append]
   have hp := Nat.length_toDigits_pos (b := 10) (n := m / 10)
   cases hd : Nat.toDigits 10 (m / 10) with
   | nil => rw [hd] at hp; simp at hp
   | cons c r =>
    rw [hd] at hi
    simpa using hi
theorem num_number {n : Int} (h : 0 <= n) (h1 : n < 10 ^ 10) : numL (L (numS n)) = true := by
 have hf := num_figures h
 have hl := num_len h h1
 have hn := num_ne h
 unfold numL
 have a1 : 1 <= (L (numS n)).length := by
  cases e : L (numS n) with
  | nil => exact absurd e hn
  | cons c r => simp
 rw [decide_eq_true a1, decide_eq_true (show (L (numS n)).length <= 10 from hl)]
 have a2 : (L (numS n)).all isFigure = true := List.all_eq_true.mpr hf
 rw [a2, Bool.true_and, Bool.true_and]
 obtain ⟨m, rfl⟩ := Int.eq_ofNat_of_zero_le h
 by_cases hm : m = 0
 ·subst hm
  decide +kernel
 ·have := digits_head m (by omega)
  rw [<- num_reads] at this
  rw [Bool.true_and, Bool.or_eq_true]
  exact .inr (decide_eq_true this)
theorem name_no_number {x : Str} (h : Name x) : numL (L x) = false := by
 cases e : L x with
 | nil => exact absurd e h.pos
 | cons c r =>
  have := h.letters c (by show c ∈ L x; rw [e]; exact List.mem_cons_self)
  have : isFigure c = false := by
   simp [isLetter] at this
   simp [isFigure]
   omega
  unfold numL
  simp [this]
end M
end
section
namespace M
open PySem L2
mutual
def RelD (H : Hp) : V -> D -> Prop
 | v, .int i => v = .int i
 | v, .str x => v = .str x
 | v, .tup ds => ∃ a vs, v = .ref a /\ H a = some (.tup vs) /\ RelDs H vs ds
def RelDs (H : Hp) : List V -> List D -> Prop
 | vs, [] => vs = []
 | vs, d :: ds => ∃ v r, vs = v :: r /\ RelD H v d /\ RelDs H r ds
end
mutual
def RelT (H : Hp) : V -> Tr -> Prop
 | v, .w x => v = .str (ofL x)
 | v, .l ts => ∃ a vs, v = .ref a /\ H a = some (.lst vs) /\ RelTs H vs ts
def RelTs (H : Hp) : List V -> List Tr -> Prop
 | vs, [] => vs = []
 | vs, t :: ts => ∃ v r, vs = v :: r /\ RelT H v t /\ RelTs H r ts
end
mutual
theorem RelD.same {H H' : Hp} (s : Same H H') : ∀ {v : V} (d : D), RelD H v d -> RelD H' v d
 | v, .int i, h => h
 | v, .str x, h => h
 | v, .tup ds, ⟨a, vs, e, ha, h⟩ => ⟨a, vs, e, s _ _ ha, RelDs.same s ds h⟩
theorem RelDs.same {H H' : Hp} (s : Same H H') : ∀ {vs : List V} (ds : List D), RelDs H vs ds -> RelDs H' vs ds
 | vs, [], h => h
 | vs, d :: ds, ⟨v, r, e, h1, h2⟩ => ⟨v, r, e, RelD.same s d h1, RelDs.same s ds h2⟩
end
mutual
theorem RelT.same {H H' : Hp} (s : Same H H') : ∀ {v : V} (t : Tr), RelT H v t -> RelT H' v t
 | v, .w x, h => h
 | v, .l ts, ⟨a, vs, e, ha, h⟩ => ⟨a, vs, e, s _ _ ha, RelTs.same s ts h⟩
theorem RelTs.same {H H' : Hp} (s : Same H H') : ∀ {vs : List V} (ts : List Tr), RelTs H vs ts -> RelTs H' vs ts
 | vs, [], h => h
 | vs, t :: ts, ⟨v, r, e, h1, h2⟩ => ⟨v, r, e, RelT.same s t h1, RelTs.same s ts h2⟩
end
theorem RelDs.length {H : Hp} : ∀ {vs : List V} {ds : List D}, RelDs H vs ds -> vs.length = ds.length
 | vs, [], h => by rw [show vs = [] from h]; rfl
 | vs, d :: ds, ⟨v, r, e, _, h2⟩ => by rw [e, List.length_cons, List.length_cons, RelDs.length h2]
theorem RelTs.length {H : Hp} : ∀ {vs : List V} {ds : List Tr}, RelTs H vs ds -> vs.length = ds.length
 | vs, [], h => by rw [show vs = [] from h]; rfl
 | vs, d :: ds, ⟨v, r, e, _, h2⟩ => by rw [e, List.length_cons, List.length_cons, RelTs.length h2]
theorem RelDs.append {H : Hp} : ∀ {vs us : List V} {ds es : List D}, RelDs H vs ds -> RelDs H us es -> RelDs H (vs ++ us) (ds ++ es)
 | vs, us, [], es, h, k => by rw [show vs = [] from h]; exact k
 | vs, us, d :: ds, es, ⟨v, r, e, h1, h2⟩, k => by subst e; exact ⟨v, r ++ us, rfl, h1, RelDs.append h2 k⟩
theorem RelTs.append {H : Hp} : ∀ {vs us : List V} {ds es : List Tr}, RelTs H vs ds -> RelTs H us es -> RelTs H (vs ++ us) (ds ++ es)
 | vs, us, [], es, h, k => by rw [show vs = [] from h]; exact k
 | vs, us, d :: ds, es, ⟨v, r, e, h1, h2⟩, k => by subst e; exact ⟨v, r ++ us, rfl, h1, RelTs.append h2 k⟩
theorem RelDs.get {H : Hp} : ∀ {vs : List V} {ds : List D} {i : Nat} {v : V}, RelDs H vs ds -> vs[i]? = some v -> ∃ d, ds[i]? = some d /\ RelD H v d
 | vs, [], i, v, h, e => by rw [show vs = [] from h] at e; simp at e
 | vs, d :: ds, 0, v, ⟨u, r, e0, h1, _⟩, e => by
  subst e0
  simp at e
  subst e
  exact ⟨d, rfl, h1⟩
 | vs, d :: ds, i + 1, v, ⟨u, r, e0, _, h2⟩, e => by
  subst e0
  obtain ⟨x, hx, hr⟩ := RelDs.get (i := i) (v := v) h2 (by simpa using e)
  exact ⟨x, by simpa using hx, hr⟩
theorem RelTs.get {H : Hp} : ∀ {vs : List V} {ds : List Tr} {i : Nat} {v : V}, RelTs H vs ds -> vs[i]? = some v -> ∃ d, ds[i]? = some d /\ RelT H v d
 | vs, [], i, v, h, e => by rw [show vs = [] from h] at e; simp at e
 | vs, d :: ds, 0, v, ⟨u, r, e0, h1, _⟩, e => by
  subst e0
  simp at e
  subst e
  exact ⟨d, rfl, h1⟩
 | vs, d :: ds, i + 1, v, ⟨u, r, e0, _, h2⟩, e => by
  subst e0
  obtain ⟨x, hx, hr⟩ := RelTs.get (i := i) (v := v) h2 (by simpa using e)
  exact ⟨x, by simpa using hx, hr⟩
end M
namespace M
open PySem L2
def strOf (t : Tr) : Str := ofL t.cs
def vOf (t : Tr) : V := .str (strOf t)
theorem blank_is : S " " = ⟨#[32]⟩ := by walk_at "k"
theorem L_txtjoin (ys : List Str) : L (Txt.join (S " ") ys) = joinB (ys.map L) := by
 rw [blank_is]
 show L (Builtin.Str.glued ⟨#[32]⟩ ys) = _
 rw [StrLaws.glued_eq_join, L_join 32 ys rfl]
theorem map_strOf (ts : List Tr) : (ts.map strOf).map L = ts.map Tr.cs := by
 rw [List.map_map]
 rfl
theorem join_trees (ts : List Tr) : L (Txt.join (S " ") (ts.map strOf)) = (bs ts).tail := by
 rw [L_txtjoin, map_strOf, joinB_bs]
theorem open_is : L (S "(") = [40] := by walk_at "k"
theorem shut_is : L (S ")") = [41] := by walk_at "k"
theorem bracket_text (ts : List Tr) : S "(" ++ Txt.join (S " ") (ts.map strOf) ++ S ")" = strOf (.l ts) := by
 apply L_inj
 rw [L_append, L_append, join_trees, open_is, shut_is]
 rfl
theorem sum_trees : ∀ ts : List Tr, ((ts.map strOf).map (·.length)).sum + ts.length = (bs ts).length
 | [] => rfl
 | t :: ts => by
  have := sum_trees ts
  show (strOf t).length + ((ts.map strOf).map (·.length)).sum + (ts.length + 1) = (32 :: (t.cs ++ bs ts)).length
  rw [List.length_cons, List.length_append, <- this, show (strOf t).length = t.cs.length from by rw [<- L_length]; rfl]
  omega
theorem bs_le (ts : List Tr) : (bs ts).length <= (Tr.l ts).cs.length := by
 show _ <= (40 :: (bs ts).tail ++ [41]).length
 rw [List.length_append, List.length_cons, List.length_tail]
 simp
 omega
theorem cs_l (ts : List Tr) : (Tr.l ts).cs.length = (bs ts).tail.length + 2 := by
 show (40 :: (bs ts).tail ++ [41]).length = _
 simp
theorem strOf_len (t : Tr) : (strOf t).length = t.cs.length := by
 rw [<- L_length]
 rfl
theorem strOf_tx (x : Str) : strOf (tx x) = x := ofL_L x
theorem iteKF {c A B : Prop} [Decidable c] (h : decide c = false) (b : B) : if decide c = true then A else B := by
 rw [h]
 exact b
theorem iteKT {c A B : Prop} [Decidable c] (h : decide c = true) (a : A) : if decide c = true then A else B := by
 rw [h]
 exact a
theorem iteBF {c : Bool} {A B : Prop} (h : c = false) (b : B) : if c = true then A else B := by
 rw [h]
 exact b
theorem iteBT {c : Bool} {A B : Prop} (h : c = true) (a : A) : if c = true then A else B := by
 rw [h]
 exact a
theorem pow7 {n : Nat} (h : n <= 7) : 5 ^ n <= 78125 := Nat.le_trans (Nat.pow_le_pow_right (by decide) h) (by decide)
theorem T2.short {n : Nat} {d : D} {t : Tr} (h : T2 n d t) (hn : n <= 7) : t.cs.length <= 2400000 := by
 have := h.len
 have := pow7 hn
 omega
end M
end
section
namespace M
open PySem L2
def hide (bad : List Addr) (H : Hp) : Hp := fun b => if b ∈ bad then none else H b
theorem hide_get {bad : List Addr} {H : Hp} {b : Addr} {o : HO} : hide bad H b = some o ↔ b ∉ bad /\ H b = some o := by
 unfold hide
 by_cases h : b ∈ bad
 ·rw [if_pos h]; simp [h]
 ·rw [if_neg h]; simp [h]
structure PileAt (H : Hp) (p : Addr) (as : List Addr) (st : Pile) : Prop where
 pile : H p = some (.lst (as.map V.ref).reverse)
 nd : as.Nodup
 np : p ∉ as
 lists : All2 (fun a ts => ∃ vs, H a = some (.lst vs) /\ RelTs (hide (p :: as) H) vs ts) as st
def sumP (st : Pile) : Nat := (st.map List.length).sum
theorem PileAt.len {H : Hp} {p : Addr} {as : List Addr} {st : Pile} (h : PileAt H p as st) : as.length = st.length := h.lists.length
theorem All2.mono_mem {α β : Type} {R S : α -> β -> Prop} {as : List α} {bs : List β} (h : All2 R as bs) (f : ∀ a b, a ∈ as -> R a b -> S a b) : All2 S as bs := by
 induction h with
 | nil => exact .nil
 | cons h t ih => exact .cons (f _ _ List.mem_cons_self h) (ih fun a b ha => f a b (List.mem_cons_of_mem _ ha))
theorem hide_other {bad : List Addr} {H : Hp} {a : Addr} {o : HO} (ha : a ∈ bad) : hide bad (upd H a o) = hide bad H := by
 funext b
 unfold hide
 by_cases h : b ∈ bad
 ·rw [if_pos h, if_pos h]
 ·rw [if_neg h, if_neg h, upd_ne (fun (e : b = a) => h (e ▸ ha))]
theorem PileAt.push {H : Hp} {p a : Addr} {as : List Addr} {top : List Tr} {st : Pile} {vs : List V} {v : V} {t : Tr} (h : PileAt H p (a :: as) (top :: st)) (ha : H a = some (.lst vs)) (hv : RelT (hide (p :: a :: as) H) v t) :
  PileAt (upd H a (.lst (vs ++ [v]))) p (a :: as) ((top ++ [t]) :: st) where
 pile := by rw [upd_ne (fun e => h.np (by rw [e]; exact List.mem_cons_self))]; exact h.pile
 nd := h.nd
 np := h.np
 lists := by
  have hh : hide (p :: a :: as) (upd H a (.lst (vs ++ [v]))) = hide (p :: a :: as) H := hide_other (by simp)
  rw [hh]
  cases h.lists with
  | cons h1 h2 =>
   obtain ⟨vs', e, r⟩ := h1
   rw [ha] at e
   cases e
   refine .cons ⟨_, ups, r.append ⟨v, [], rfl, hv, rfl⟩⟩ (h2.mono_mem fun b ts hb ⟨us, e, r⟩ => ⟨us, ?_, r⟩)
   rw [upd_ne (fun (e : b = a) => (List.nodup_cons.mp h.nd).1 (e ▸ hb))]
   exact e
theorem PileAt.push_same {H : Hp} {p a : Addr} {as : List Addr} {o : HO} : Same (hide (p :: a :: as) H) (hide (p :: a :: as) (upd H a o)) := by
 rw [hide_other (by simp)]
 exact Same.refl _
theorem PileAt.opens {H : Hp} {p n : Addr} {as : List Addr} {st : Pile} (h : PileAt H p as st) (hn : H n = none) :
  PileAt (upd (upd H n (.lst [])) p (.lst ((as.map V.ref).reverse ++ [.ref n]))) p (n :: as) ([] :: st) /\ Same (hide (p :: as) H) (hide (p :: n :: as) (upd (upd H n (.lst [])) p (.lst ((as.map V.ref).reverse ++ [.ref n])))) := by
 have pn : p ≠ n := fun e => by have := h.pile; rw [e, hn] at this; cases this
 have na : n ∉ as := fun hm => by
  obtain ⟨i, hi⟩ := List.getElem?_of_mem hm
  obtain ⟨ts, _, vs, e, _⟩ := h.lists.get hi
  rw [hn] at e; cases e
 have sm : Same (hide (p :: as) H) (hide (p :: n :: as) (upd (upd H n (.lst [])) p (.lst ((as.map V.ref).reverse ++ [.ref n])))) := fun b o e => by
  obtain ⟨hb, e⟩ := hide_get.mp e
  have b1 : b ≠ p := fun q => hb (by rw [q]; exact List.mem_cons_self)
  have b2 : b ≠ n := fun q => by rw [q, hn] at e; cases e
  refine hide_get.mpr ⟨fun hm => ?_, by rw [upd_ne b1, upd_ne b2]; exact e⟩
  rcases List.mem_cons.mp hm with q | hm
  ·exact b1 q
  ·rcases List.mem_cons.mp hm with q | hm
   ·exact b2 q
   ·exact hb (List.mem_cons_of_mem _ hm)
 refine ⟨⟨by rw [ups]; simp, List.nodup_cons.mpr ⟨na, h.nd⟩, fun hm => ?_, .cons ⟨[], ?_, rfl⟩ (h.lists.mono_mem fun b ts hb ⟨us, e, r⟩ => ⟨us, ?_, r.same sm _⟩)⟩, sm⟩
 ·rcases List.mem_cons.mp hm with q | hm
  ·exact pn q
  ·exact h.np hm
 ·rw [upd_ne pn.symm, ups]
 ·rw [upd_ne (fun (q : b = p) => h.np (q ▸ hb)), upd_ne (fun (q : b = n) => na (q ▸ hb))]
  exact e
theorem PileAt.shuts {H : Hp} {p a b : Addr} {as : List Addr} {top par : List Tr} {st : Pile} {vs : List V} (h : PileAt H p (a :: b :: as) (top :: par :: st)) (hb : H b = some (.lst vs)) :
  PileAt (upd (upd H p (.lst ((b :: as).map V.ref).reverse)) b (.lst (vs ++ [.ref a]))) p (b :: as) ((par ++ [.l top]) :: st) ∧
  Same (hide (p :: a :: b :: as) H) (hide (p :: b :: as) (upd (upd H p (.lst ((b :: as).map V.ref).reverse)) b (.lst (vs ++ [.ref a])))) := by
 have pb : b ≠ p := fun e => h.np (by rw [<- e]; simp)
 have pa : a ≠ p := fun e => h.np (by rw [<- e]; simp)
 have ab : a ≠ b := fun e => (List.nodup_cons.mp h.nd).1 (by rw [e]; simp)
 have sm : Same (hide (p :: a :: b :: as) H) (hide (p :: b :: as) (upd (upd H p (.lst ((b :: as).map V.ref).reverse)) b (.lst (vs ++ [.ref a])))) := fun c o e => by
  obtain ⟨hc, e⟩ := hide_get.mp e
  refine hide_get.mpr ⟨fun hm => hc ?_, ?_⟩
  ·rcases List.mem_cons.mp hm with q | hm
   ·rw [q]; simp
   ·exact List.mem_cons_of_mem _ (List.mem_cons_of_mem _ hm)
  ·rw [upd_ne (fun q => hc (by rw [q]; simp)), upd_ne (fun q => hc (by rw [q]; simp))]
   exact e
 cases h.lists with
 | cons h1 h2 =>
  cases h2 with
  | cons h2 h3 =>
   obtain ⟨us, ea, ra⟩ := h1
   obtain ⟨vs', eb, rb⟩ := h2
   rw [hb] at eb
   cases eb
   have nd2 := List.nodup_cons.mp h.nd
   have nd3 := List.nodup_cons.mp nd2.2
   refine ⟨⟨by rw [upd_ne pb.symm, ups], nd2.2, fun hm => h.np (List.mem_cons_of_mem _ hm), .cons ⟨_, ups, ?_⟩ (h3.mono_mem fun c ts hc ⟨ws, e, r⟩ => ⟨ws, ?_, r.same sm _⟩)⟩, sm⟩
   ·refine (rb.same sm _).append ⟨.ref a, [], rfl, ⟨a, us, rfl, ?_, ra.same sm _⟩, rfl⟩
    refine hide_get.mpr ⟨fun hm => ?_, by rw [upd_ne ab, upd_ne pa]; exact ea⟩
    rcases List.mem_cons.mp hm with q | hm
    ·exact pa q
    ·exact nd2.1 hm
   ·rw [upd_ne (fun (q : c = b) => nd3.1 (q ▸ hc)), upd_ne (fun q => h.np (by rw [<- q]; exact List.mem_cons_of_mem _ (List.mem_cons_of_mem _ hc)))]
    exact e
theorem sum_close : ∀ (k : Nat) (st : Pile), (∀ top r, st = top :: r -> 1 <= top.length) -> sumP (close k st) <= sumP st
 | 0, st, _ => Nat.le_refl _
 | k + 1, [], _ => Nat.le_refl _
 | k + 1, [x], _ => Nat.le_refl _
 | k + 1, top :: par :: st, h => by
  have := sum_close k ((par ++ [.l top]) :: st) fun t r e => by cases e; simp
  have h1 := h top (par :: st) rfl
  show sumP (close k ((par ++ [.l top]) :: st)) <= _
  refine Nat.le_trans this ?_
  simp [sumP]
  omega
theorem sum_closeN {k : Nat} {st st' : Pile} (h : closeN k st = some st') (ht : ∀ top r, st = top :: r -> 1 <= top.length) : sumP st' <= sumP st := by
 unfold closeN at h
 split at h
 ·cases h; exact sum_close k st ht
 ·cases h
theorem sum_push (t : Tr) (st : Pile) : sumP (push t st) <= sumP st + 1 := by
 cases st with
 | nil => simp [push, sumP]
 | cons top r => simp [push, sumP]; omega
theorem push_ne (t : Tr) (st : Pile) : ∀ top r, push t st = top :: r -> 1 <= top.length := by
 intro top r e
 cases st with
 | nil => cases e
 | cons a b => cases e; simp
theorem sum_put {x : List Nat} {st st' : Pile} (h : putW x st = some st') : sumP st' <= sumP st + 1 := by
 unfold putW putC at h
 split at h
 ·split at h
  ·have := sum_closeN h (push_ne _ _)
   have h2 := sum_push (.w (coreOf x).tail) ([] :: st)
   have h3 : sumP ([] :: st) = sumP st := by simp [sumP]
   omega
  ·cases h
 ·have := sum_closeN h (push_ne _ _)
  have h2 := sum_push (.w (coreOf x)) st
  omega
theorem len_closeN {k : Nat} {st st' : Pile} (h : closeN k st = some st') : st'.length + k = st.length := by
 unfold closeN at h
 split at h
 ·cases h; exact close_length k st (by assumption)
 ·cases h
theorem len_put {x : List Nat} {st st' : Pile} (h : putW x st = some st') (h1 : 1 <= st.length) (h2 : st.length <= 21) : 1 <= st'.length /\ st'.length <= 21 := by
 unfold putW putC at h
 split at h
 ·split at h
  ·rename_i hl
   have := len_closeN h
   rw [push_length, List.length_cons] at this
   unfold closeN at h
   split at h
   ·rename_i hk
    rw [push_length, List.length_cons] at hk
    omega
   ·cases h
  ·cases h
 ·have := len_closeN h
  rw [push_length] at this
  unfold closeN at h
  split at h
  ·rename_i hk
   rw [push_length] at hk
   omega
  ·cases h
theorem top_le {top : List Tr} {st : Pile} : top.length <= sumP (top :: st) := by simp [sumP]
theorem runW_snoc (a : List (List Nat)) (x : List Nat) (st : Pile) : runW (a ++ [x]) st = (runW a st).bind (putW x) := by
 rw [runW_append]
 congr 1
 funext s
 show (putW x s).bind (runW []) = putW x s
 cases putW x s <;> rfl
theorem Txt_split_len (x : Str) : (Txt.split x (S " ")).length <= x.length + 2 := by
 unfold Txt.split
 split
 ·simp
 ·split
  ·simp
  ·rw [StrLaws.partsBetween_eq, parts_len]
   have := StrLaws.occ_length_le_len x (S " ") 0 x.length (x.length + 1)
   omega
theorem joinB_len : ∀ {ws : List (List Nat)} {z : List Nat}, z ∈ ws -> z.length <= (joinB ws).length
 | [x], z, h => by
  rw [List.mem_singleton.mp h]
  exact Nat.le_refl _
 | x :: y :: r, z, h => by
  show z.length <= (x ++ 32 :: joinB (y :: r)).length
  rw [List.length_append, List.length_cons]
  rcases List.mem_cons.mp h with e | h
  ·rw [e]; omega
  ·have := joinB_len (ws := y :: r) h
   omega
theorem Txt_split_part (x y : Str) (h : y ∈ Txt.split x (S " ")) : y.length <= x.length := by
 have e : joinB ((Txt.split x (S " ")).map L) = L x := by
  rw [blank_is, <- L_join 32 _ rfl, StrLaws.join_split]
 have := joinB_len (ws := (Txt.split x (S " ")).map L) (z := L y) (List.mem_map.mpr ⟨y, h, rfl⟩)
 rw [e, L_length, L_length] at this
 exact this
end M
end
section
namespace M
open PySem L2
mutual
theorem RelD.tups {H H' : Hp} (s : ∀ b vs, H b = some (.tup vs) -> H' b = some (.tup vs)) : ∀ {v : V} (d : D), RelD H v d -> RelD H' v d
 | v, .int i, h => h
 | v, .str x, h => h
 | v, .tup ds, ⟨a, vs, e, ha, h⟩ => ⟨a, vs, e, s _ _ ha, RelDs.tups s ds h⟩
theorem RelDs.tups {H H' : Hp} (s : ∀ b vs, H b = some (.tup vs) -> H' b = some (.tup vs)) : ∀ {vs : List V} (ds : List D), RelDs H vs ds -> RelDs H' vs ds
 | vs, [], h => h
 | vs, d :: ds, ⟨v, r, e, h1, h2⟩ => ⟨v, r, e, RelD.tups s d h1, RelDs.tups s ds h2⟩
end
structure Src (H : Hp) (a b : Addr) : Prop where
 ne : a ≠ b
 feed : ∃ p q : Int, H a = some (.lst [.int p, .int q])
 pool : ∃ ys : List Str, H b = some (.lst (ys.map V.str)) /\ ys.length = 8 /\ ∀ y ∈ ys, Name y
theorem fed_tups {a : Addr} {H H' : Hp} (hf : ∃ p q : Int, H a = some (.lst [.int p, .int q])) (f : Fed a H H') : ∀ b vs, H b = some (.tup vs) -> H' b = some (.tup vs) := fun b vs e => f.1 b _ e fun z => by
 obtain ⟨p, q, h⟩ := hf
 rw [z, h] at e
 cases e
theorem Src.fed {H H' : Hp} {a b : Addr} (s : Src H a b) (f : Fed a H H') : Src H' a b := by
 obtain ⟨ys, e, h⟩ := s.pool
 exact ⟨s.ne, f.2, ys, f.1 b _ e s.ne.symm, h⟩
theorem Src.same {H H' : Hp} {a b : Addr} (s : Src H a b) (f : Same H H') : Src H' a b := by
 obtain ⟨ys, e, h⟩ := s.pool
 obtain ⟨p, q, e2⟩ := s.feed
 exact ⟨s.ne, ⟨p, q, f _ _ e2⟩, ys, f _ _ e, h⟩
theorem Src.relD {H H' : Hp} {a b : Addr} (s : Src H a b) (f : Fed a H H') {v : V} {d : D} (h : RelD H v d) : RelD H' v d := h.tups (fed_tups s.feed f) _
theorem Src.relDs {H H' : Hp} {a b : Addr} (s : Src H a b) (f : Fed a H H') {v : List V} {d : List D} (h : RelDs H v d) : RelDs H' v d := h.tups (fed_tups s.feed f) _
theorem Src.refl {H : Hp} {a b : Addr} (s : Src H a b) : Fed a H H := by
 obtain ⟨p, q, e⟩ := s.feed
 exact Fed.refl e
def single (c : Nat) : Str := ⟨#[c]⟩
theorem join_singles : ∀ cs : List Nat, Txt.join (S "") (cs.map single) = ofL cs := by
 have h : ∀ cs : List Nat, L (Str.join (S "") (cs.map single)) = cs := by
  intro cs
  induction cs with
  | nil => rfl
  | cons c r ih =>
   cases r with
   | nil => rfl
   | cons d r =>
    show L (single c ++ S "" ++ Str.join (S "") ((d :: r).map single)) = _
    rw [L_append, L_append, ih]
    have e : L (S "") = [] := by walk_at "k"
    rw [e]
    rfl
 intro cs
 apply L_inj
 show L (Builtin.Str.glued (S "") (cs.map single)) = cs
 rw [StrLaws.glued_eq_join, h]
theorem sum_singles (cs : List Nat) : ((cs.map single).map (·.length)).sum = cs.length := by
 induction cs with
 | nil => rfl
 | cons c r ih =>
  show (single c).length + ((r.map single).map (·.length)).sum = r.length + 1
  rw [ih, show (single c).length = 1 from rfl]
  omega
abbrev nA : List Str := [Str.ofString "rec", Str.ofString "alt", Str.ofString "hand", Str.ofString "box", Str.ofString "set", Str.ofString "send", Str.ofString "take", Str.ofString "tell", Str.ofString "go", Str.ofString "if", Str.ofString "end", Str.ofString "get", Str.ofString "tag", Str.ofString "case"]
abbrev nB : List Str := [Str.ofString "numx", Str.ofString "recq", Str.ofString "takes", Str.ofString "iff", Str.ofString "itq", Str.ofString "goes", Str.ofString "sends", Str.ofString "tags", Str.ofString "ends", Str.ofString "gets", Str.ofString "way", Str.ofString "with"]
theorem names26_all : ∀ y ∈ nA ++ nB, nameL (L y) = true := by walk_at "k"
theorem name_drawn {cs : List Nat} (h1 : 1 <= cs.length) (h6 : cs.length <= 6) (hl : ∀ c ∈ cs, isLetter c = true) (n1 : ofL cs ≠ S "num") (n2 : ofL cs ≠ S "it") : Name (ofL cs) := by
 show nameL cs = true
 unfold nameL
 have e1 : (cs != [110, 117, 109]) = true := by
  rw [bne_iff_ne]
  intro e
  apply n1
  rw [e]
  decide +kernel
 have e2 : (cs != [105, 116]) = true := by
  rw [bne_iff_ne]
  intro e
  apply n2
  rw [e]
  decide +kernel
 rw [e1, e2, decide_eq_true h1, decide_eq_true h6, List.all_eq_true.mpr hl]
 rfl
theorem letter_at {r : Int} {c : Nat} (h : atI (S "abcdefghijklmnopqrstuvwxyz").cps.toList r = some c) : isLetter c = true := by
 obtain ⟨j, _, e, _⟩ := atI_get h
 have hm := List.mem_of_getElem? e
 have all : ∀ c ∈ (S "abcdefghijklmnopqrstuvwxyz").cps.toList, isLetter c = true := by walk_at "k"
 exact all c hm
theorem at_codes {α : Type} {cs : List α} {r : Int} (h0 : 0 <= r) (h : r < (cs.length : Int)) : ∃ c ∈ cs, atI cs r = some c := by
 have hk : r.toNat < cs.length := by omega
 have ek : r = ((r.toNat : Nat) : Int) := by omega
 refine ⟨cs[r.toNat], List.getElem_mem hk, ?_⟩
 have q : atI cs ((r.toNat : Nat) : Int) = some cs[r.toNat] := atI_nat (List.getElem?_eq_getElem hk)
 rw [<- ek] at q
 exact q
theorem at26 {r : Int} (h0 : 0 <= r) (h : r < 26) : ∃ y ∈ nA ++ nB, atI (nA.map V.str ++ nB.map V.str) r = some (.str y) := by
 have e : nA.map V.str ++ nB.map V.str = (nA ++ nB).map V.str := List.map_append.symm
 obtain ⟨z, hz, hv⟩ := at_codes (cs := (nA ++ nB).map V.str) h0 (by rw [List.length_map]; exact h)
 obtain ⟨y, hy, rfl⟩ := List.mem_map.mp hz
 exact ⟨y, hy, by rw [e]; exact hv⟩
end M
end
section
set_option maxHeartbeats 1000000
namespace L2
open PySem PySem.Spec PyProof.Rows
section
variable {X : Cx}
theorem for_enum {K : PySem.W.Frag} {a : Addr} {xs : List V} {g : TG} {tb : TS} {D : Ends} {σ : St} {H : Hp} (Pv : Nat -> St -> Hp -> Prop) (h0 : Pv 0 σ H) (hl : ∀ i σ H, i <= xs.length -> Pv i σ H -> SqL K H a xs)
  (hs : ∀ i x σ H p, xs[i]? = some x -> Pv i σ H -> H p = none -> g (.ref p) σ (upd H p (.tup [.int (i : Nat), x])) fun σ2 H2 => tb { D with nx := Pv (i + 1), ct := Pv (i + 1), bk := D.nx } σ2 H2) (hd : ∀ σ H, Pv xs.length σ H -> D.nx σ H) :
  ∃ W : Nat -> Nat -> St -> Hp -> Prop, (∃ m, W 0 m σ H) /\ ∀ i m σ H, W i m σ H ->
   ((Ite K a).stop i H /\ D.nx σ H) \/ ((Ite K a).go i H /\ ∃ N : St -> Hp -> Prop, (∀ σ' H', N σ' H' -> ∃ m', m' < m /\ W (i + 1) m' σ' H') /\ ∀ x H', (Ite K a).yld i H x H' -> g x σ H' fun σ2 H2 => tb { D with nx := N, ct := N, bk := D.nx } σ2 H2) := by
 refine ⟨fun i m σ H => m = xs.length - i /\ i <= xs.length /\ Pv i σ H, ⟨xs.length, by simp, Nat.zero_le _, h0⟩, ?_⟩
 rintro i m σ H ⟨rfl, hi, p⟩
 have q := hl i σ H hi p
 by_cases hlt : i < xs.length
 ·refine .inr ⟨⟨xs, xs[i], q, by simp [hlt]⟩, Pv (i + 1), fun σ' H' p' => ⟨xs.length - (i + 1), by omega, rfl, hlt, p'⟩, fun x H' y => ?_⟩
  obtain ⟨pp, z, rfl, hp, rfl, hy⟩ := y
  exact hs i z σ H pp (hy xs q) p hp
 ·have e : i = xs.length := by omega
  subst e
  exact .inl ⟨⟨xs, q, Nat.le_refl _⟩, hd σ H p⟩
end
open PySem.W in
def ad (K : Frag) (x : Str) : Addr := match nsIn K mainGlobals x with | some (some (.ref C)) => C | _ => 0
theorem ad_of {K : PySem.W.Frag} {x : Str} {C : Addr} (e : PySem.W.nsIn K mainGlobals x = some (some (.ref C))) : ad K x = C := by unfold ad; rw [e]
def names11 : List Str := ["BadText", "Twice", "NoName", "NoCount", "WrongKind", "Lacks", "NotOwn", "Falls", "TooBig", "NoFit", "NoCode"]
def cAt (K : PySem.W.Frag) (i : Nat) : Addr := ad K (names11.getD i "")
open PySem.W in
def xclIn (K : Frag) (C : Addr) : Bool :=
 findIn K (.ref C) "__getattribute__" == some (some (.builtin "BaseException.__getattribute__")) && (findIn K (.ref C) "__getattr__" == some none && (mroIn K C (.type "BaseException") == some true && (mroIn K C (.type "object") == some true &&
 (hasDictIn K C && (findIn K (.ref C) "__class__" == some (some (.builtin "object.__class__")) && (specialIn K (.builtin "object.__class__") "__get__" == some (some (.builtin "getset_descriptor.__get__")) && (takesIn K (.builtin "object.__class__") == some true &&
 (xIn K C bmV "ValueError.__new__" && (keepIn K (.ref C) && findIn K (.ref C) "__setattr__" == some (some (.builtin "object.__setattr__")))))))))))
theorem xcl_of {K : PySem.W.Frag} {C : Addr} (e : xclIn K C = true) : XCl K C := by
 unfold xclIn at e
 simp only [Bool.and_eq_true, beq_iff_eq] at e
 obtain ⟨e1, e2, e3, e4, e5, e6, e7, e8, e9, e10, e11⟩ := e
 exact ⟨⟨e1, e2, e3, e4, e5, e6, e7, e8⟩, e9, e10, e11⟩
def clsDef (s : Stmt) (j : Nat) : Stmt := match s with
 | .ClassDef _ _ _ b _ _ _ _ _ _ _ => b.getD j (.Pass ⟨0, 0, 0, 0⟩)
 | _ => .Pass ⟨0, 0, 0, 0⟩
structure InitTx (K : PySem.W.Frag) (q : Str) (C : Addr) (st : Stmt) (ps : List Str) : Prop where
 ex : ∃ (f : Addr) (fd : FuncData), PySem.W.findIn K (.ref C) "__init__" = some (some (.ref f)) /\ PySem.W.isFn K (.ref f) = true /\ Fun K "__init__" q st f fd /\ ∀ us : List Value, us.length = ps.length -> bindArgs fd ⟨us, []⟩ = pure (ps.zip us)
theorem init_mk {K : PySem.W.Frag} {x q : Str} {C f : Addr} {st : Stmt} {ps : List Str} {oc : Value} {od an : Option Addr} {osl : Array (Option Value)} {kV doc pm cdv ct : Value} (a : PySem.W.nsIn K mainGlobals x = some (some (.ref C)))
  (i : PySem.W.findIn K (.ref C) "__init__" = some (some (.ref f))) (n : PySem.W.isFn K (.ref f) = true)
  (l : K.lookup f = some ⟨oc, od, .func (PySem.W.fnOf "__init__" q (defArgs st) (defBody st) (defScope st) .none kV doc pm an cdv ct), osl⟩) (c : PySem.W.codeIn K cdv q = true) (k : PySem.W.keepIn K (.ref f) = true)
  (b : ∀ (kV doc pm : Value) (an : Option Addr) (cdv ct : Value) (us : List Value), us.length = ps.length -> bindArgs (PySem.W.fnOf "__init__" q (defArgs st) (defBody st) (defScope st) .none kV doc pm an cdv ct) ⟨us, []⟩ = pure (ps.zip us)) : InitTx K q (ad K x) st ps := by
 rw [ad_of a]
 exact ⟨f, _, i, n, fun_mk (st := st) l c k, b kV doc pm an cdv ct⟩
structure InitIs (P : Program) (w : World) (K : PySem.W.Frag) (mg : Str -> Option Value) (base : Heap) (n : Nat) (C : Addr) (ps : List Str) (sp : Sp) : Prop where
 ex : ∃ (f : Addr) (fd : FuncData), PySem.W.findIn K (.ref C) "__init__" = some (some (.ref f)) /\ PySem.W.isFn K (.ref f) = true /\ FnOk P w K mg base CX0 n f fd ps sp /\ Binds K fd ps []
theorem InitIs.of {P : Program} {w : World} {K : PySem.W.Frag} {mg : Str -> Option Value} {base : Heap} {n : Nat} {q : Str} {C : Addr} {st : Stmt} {ps N : List Str} {sp : Sp} (T : InitTx K q C st ps) (S : FnScope N ps (defScope st)) (len : ∀ vs H Q E, sp vs H Q E -> vs.length = ps.length)
  (hbody : ∀ (f : Addr) (cdv : Value) (A : Around) (outer : List Env) (s : Shared) (H : Hp) (vs : List V) (Q : VK) (E : XK), Room n (A.deeper (envOfC q (defScope st) s.heap.objs.size f cdv)) -> sp vs H Q E ->
   ∃ t, PSs (cxOf CX0 P w K mg base N q (defScope st) f cdv A outer s H E).nox (defBody st) t /\ t { nx := fun _ H' => Q .non H', rt := Q } (start N vs) H) : InitIs P w K mg base (n + 1) C ps sp := by
 obtain ⟨f, fd, i, nn, F, b⟩ := T.ex
 exact ⟨f, fd, i, nn, F.ok S len (fun cdv A outer s H vs Q E hr h => hbody f cdv A outer s H vs Q E hr h), Binds.all b⟩
end L2
end
section
set_option maxHeartbeats 1000000
namespace L2
open PySem PySem.Spec PyProof.Rows
def Trc (h : Heap) (e C : Addr) (d : Option Addr) (c2 : Value) (T : Option Addr) (fl : Value) : Prop :=
 ∃ vs : Array Value, (vs.size = 6 /\ vs[2]? = some c2) /\ h.get? e = some { cls := .ref C, dict := d, data := .fields vs } ∧
  match T with
  | none => vs[1]? = some .none
  | some T => vs[1]? = some (.ref T) /\ T ≠ e /\ ∃ oT ts, h.get? T = some oT /\ oT.data = .fields ts /\ ts[3]? = some fl
structure FlyTo (fs : List Addr) (e : Addr) (T : Option Addr) (h h' : Heap) : Prop where
 keep : ∀ b o, b ∉ fs -> b ≠ e -> T ≠ some b -> h.get? b = some o -> h'.get? b = some o
 slot : ∀ b o, b ∈ fs -> b ≠ e -> T ≠ some b -> h.get? b = some o -> ∃ sl, h'.get? b = some { o with slots := sl }
 size : h.objs.size <= h'.objs.size
theorem FlyTo.refl {fs : List Addr} {e : Addr} {T : Option Addr} {h : Heap} : FlyTo fs e T h h := ⟨fun _ _ _ _ _ q => q, fun _ o _ _ _ q => ⟨o.slots, q⟩, Nat.le_refl _⟩
theorem FlyTo.trans {fs : List Addr} {e T' : Addr} {T : Option Addr} {h h1 h2 : Heap} (a : FlyTo fs e T h h1) (b : FlyTo fs e (some T') h1 h2) (t : T = some T' \/ h.objs.size <= T') : FlyTo fs e T h h2 := by
 have nt : ∀ c o, T ≠ some c -> h.get? c = some o -> (some T' : Option Addr) ≠ some c := fun c o n q z => by
  have z' : T' = c := Option.some.inj z
  rcases t with t | t
  ·exact n (by rw [t, z'])
  ·exact absurd (Heap.lt_size q) (Nat.not_lt.mpr (by rw [<- z']; exact t))
 refine ⟨fun c o n1 n2 n3 q => b.keep c o n1 n2 (nt c o n3 q) (a.keep c o n1 n2 n3 q), fun c o n1 n2 n3 q => ?_, Nat.le_trans a.size b.size⟩
 obtain ⟨sl, q1⟩ := a.slot c o n1 n2 n3 q
 obtain ⟨sl', q2⟩ := b.slot c _ n1 n2 (nt c o n3 q) q1
 exact ⟨sl', q2⟩
section
variable {M : Model} {A : Around} {E : Value -> Shared -> Prop} {s : Shared} {c2 : Value}
theorem fly_flight {fs : List Addr} {e C T : Addr} {d fr : Option Addr} {fl : Value} {Q : Unit -> Shared -> Prop} (t : Trc s.heap e C d c2 (some T) fl)
  (h : ∀ h', FlyTo fs e (some T) s.heap h' -> Trc h' e C d c2 (some T) (fr.elim .none fun f => rawInt f) -> Q () { s with heap := h' }) : wpAny M A (setFlight (.ref e) fr) Q E s := by
 obtain ⟨vs, hz, he, h1, hTe, oT, ts, hT, hdT, h3⟩ := t
 have h1 : vs[1]? = some (.ref T) := h1
 have other : ∀ b, b ≠ T -> (s.heap.update T (Obj.mapFields (·.setIfInBounds 3 (fr.elim Value.none fun f => rawInt f)))).get? b = s.heap.get? b := fun b hb => Heap.get?_update_other _ _ (Ne.symm hb)
 unfold setFlight
 refine wpAny_bind (wpAny_field he rfl h1 ?_)
 rw [if_pos (show (Value.ref T != Value.none) = true from by simp)]
 have h3s : 3 < ts.size := (Array.getElem?_eq_some_iff.mp h3).1
 refine wpAny_setField hT hdT h3s (h _ ⟨fun b o _ _ n q => (other b fun z => n (by rw [z])).trans q, fun b o _ _ n q => ⟨o.slots, (other b fun z => n (by rw [z])).trans q⟩, ?_⟩ ?_)
 ·rw [Heap.size_after_update]; exact Nat.le_refl _
 ·exact ⟨vs, hz, (other e (Ne.symm hTe)).trans he, h1, hTe, _, _, Heap.get?_update_self _ hT (Obj.isFreed_of_fields (Obj.data_mapFields hdT _)), Obj.data_mapFields hdT _, by simp [h3s]⟩
theorem fly_new {base : Heap} {env : Env} {outer : List Env} {L e C : Addr} {d : Option Addr} {vs : Array Value} {head : Value} {hadNext : Bool} {Q : Unit -> Shared -> Prop}
  (hfr : A.frames = some (env :: outer)) (hl : s.heap.FunFrames base (env :: outer)) (hf : env.frame = some L)
  (he : s.heap.get? e = some { cls := .ref C, dict := d, data := .fields vs }) (hz : vs.size = 6 /\ vs[2]? = some c2)
  (h : ∀ h', FlyTo (frs (env :: outer)) e none s.heap h' -> Trc h' e C d c2 (some s.heap.objs.size) (rawInt L) -> Q () { s with heap := h' }) :
  wpAny M A (do let a <- frameOf env; let pl <- entryPlaceOf L hadNext; let b <- EntryCells.newEntry head a .none (rawInt L) .none pl; setField (.ref e) 1 b) Q E s := by
 have hene : e ∉ frs (env :: outer) := fun hm => by
  obtain ⟨_, o, ho, hnf⟩ := hl.mem hm
  rw [he] at ho; injection ho with ho; subst ho; exact hnf vs rfl
 refine wpAny_bind (wpAny_frameOf_fun hfr hl hf fun h₁ hs₁ => ?_)
 refine wpAny_bind (wpAny_entryPlaceOf fun pl hpl => ?_)
 unfold EntryCells.newEntry newFields
 refine wpAny_bind (wpAny_newObj_type ?_ (hpl.sizeOk5 _ _ _ _ _))
 have he₁ : h₁.get? e = some { cls := .ref C, dict := d, data := .fields vs } := (hs₁.2.1 e hene).trans he
 have hz₁ : h₁.objs.size = s.heap.objs.size := hs₁.1
 have he₂ := Heap.get?_push_of_some (h := h₁) { cls := .type "traceback", dict := none, data := .fields ([head, .ref L, .none, rawInt L, .none] ++ (if pl.isEmpty then List.replicate 6 Value.none else pl)).toArray } he₁
 refine wpAny_setField he₂ rfl (by rw [hz.1]; decide) ?_
 have hTe : h₁.objs.size ≠ e := Nat.ne_of_gt (Heap.lt_size he₁)
 have he₃ := Heap.get?_update_self (Obj.mapFields (·.setIfInBounds 1 (Value.ref h₁.objs.size))) he₂ rfl
 have hT₃ := (Heap.get?_update_other (h₁.push { cls := .type "traceback", dict := none, data := .fields ([head, .ref L, .none, rawInt L, .none] ++ (if pl.isEmpty then List.replicate 6 Value.none else pl)).toArray })
  (Obj.mapFields (·.setIfInBounds 1 (Value.ref h₁.objs.size))) (Ne.symm hTe)).trans (Heap.get?_push_size h₁ rfl)
 have keep : ∀ b o, b ≠ e -> h₁.get? b = some o ->
   ((h₁.push { cls := .type "traceback", dict := none, data := .fields ([head, .ref L, .none, rawInt L, .none] ++ (if pl.isEmpty then List.replicate 6 Value.none else pl)).toArray }).update e (Obj.mapFields (·.setIfInBounds 1 (Value.ref h₁.objs.size)))).get? b = some o := fun b o hbe hb => by
  rw [Heap.get?_update_other _ _ (Ne.symm hbe)]
  exact Heap.get?_push_of_some _ hb
 refine h _ ⟨fun b o hb n _ q => keep b o n ((hs₁.2.1 b hb).trans q), fun b o hb n _ q => ?_, ?_⟩ ?_
 ·obtain ⟨sl, hs⟩ := hs₁.2.2 b o q
  exact ⟨sl, keep b _ n hs⟩
 ·rw [Heap.size_after_update, Heap.size_push, hz₁]; exact Nat.le_succ _
 ·refine ⟨vs.setIfInBounds 1 (Value.ref h₁.objs.size), ⟨by simpa using hz.1, by rw [Array.getElem?_setIfInBounds_ne (by decide)]; exact hz.2⟩, ?_, ?_, ?_, ?_⟩
  ·exact he₃
  ·rw [hz₁]; simp [hz.1]
  ·rw [<- hz₁]; exact hTe
  ·refine ⟨{ cls := .type "traceback", dict := none, data := .fields ([head, .ref L, .none, rawInt L, .none] ++ (if pl.isEmpty then List.replicate 6 Value.none else pl)).toArray }, _, by rw [<- hz₁]; exact hT₃, rfl, ?_⟩
   first | (simp; done) | (rcases hpl with rfl | ⟨_, _, _, _, _, _, _, rfl⟩ <;> simp)
theorem fly_note {base : Heap} {env : Env} {outer : List Env} {L e C : Addr} {d T : Option Addr} {fl : Value} {Q : Unit -> Shared -> Prop}
  (hfr : A.frames = some (env :: outer)) (hl : s.heap.FunFrames base (env :: outer)) (hf : env.frame = some L) (t : Trc s.heap e C d c2 T fl)
  (h : ∀ h' T', FlyTo (frs (env :: outer)) e T s.heap h' -> (T = some T' \/ s.heap.objs.size <= T') -> Trc h' e C d c2 (some T') (rawInt L) -> Q () { s with heap := h' }) : wpAny M A (noteFrame (.ref e) env) Q E s := by
 obtain ⟨vs, hz, he, tt⟩ := id t
 unfold noteFrame
 simp only [hf]
 cases T with
 | none =>
  refine wpAny_bind (wpAny_field he rfl tt ?_)
  rw [if_neg (by decide)]
  exact fly_new hfr hl hf he hz fun h' a b => h h' _ a (.inr (Nat.le_refl _)) b
 | some T =>
  obtain ⟨h1, hTe, oT, ts, hT, hdT, h3⟩ := tt
  have h1 : vs[1]? = some (.ref T) := h1
  refine wpAny_bind (wpAny_field he rfl h1 ?_)
  rw [if_pos (show (Value.ref T != Value.none) = true from by simp)]
  refine wpAny_bind (wpAny_field hT hdT h3 ?_)
  by_cases q : (fl == rawInt L) = true
  ·rw [if_pos q]
   obtain rfl := beq_iff_eq.mp q
   exact wpAny_pure (h _ T FlyTo.refl (.inl rfl) t)
  ·rw [if_neg q]
   have h3s : 3 < ts.size := (Array.getElem?_eq_some_iff.mp h3).1
   refine wpAny_bind (wpAny_setField hT hdT h3s ?_)
   have other : ∀ b, b ≠ T -> (s.heap.update T (Obj.mapFields (·.setIfInBounds 3 Value.none))).get? b = s.heap.get? b := fun b hb => Heap.get?_update_other _ _ (Ne.symm hb)
   have noRecord : ∀ b o, s.heap.get? b = some o -> (∀ vs, o.data ≠ .fields vs) -> b ≠ T := fun b o hb hnf q => by
    rw [q, hT] at hb; injection hb with hb; subst hb; exact hnf ts hdT
   have hsz : (s.heap.update T (Obj.mapFields (·.setIfInBounds 3 Value.none))).objs.size = s.heap.objs.size := Heap.size_after_update ..
   refine fly_new (s := { s with heap := s.heap.update T (Obj.mapFields (·.setIfInBounds 3 Value.none)) }) hfr (hl.of_keeps fun b o hb hnf => ⟨o, (other b (noRecord b o hb hnf)).trans hb, rfl⟩) hf ((other e (Ne.symm hTe)).trans he) hz fun h' a b => ?_
   refine h h' _ ⟨fun c o n1 n2 n3 w => a.keep c o n1 n2 (fun z => nomatch z) ((other c fun z => n3 (by rw [z])).trans w), fun c o n1 n2 n3 w => a.slot c o n1 n2 (fun z => nomatch z) ((other c fun z => n3 (by rw [z])).trans w), ?_⟩ (.inr (Nat.le_refl _)) ?_
   ·rw [<- hsz]; exact a.size
   ·rw [<- hsz]; exact b
theorem fly_leave {base : Heap} {env : Env} {outer : List Env} {L e C : Addr} {d T : Option Addr} {fl : Value} {Q : Unit -> Shared -> Prop}
  (hfr : A.frames = some (env :: outer)) (hl : s.heap.FunFrames base (env :: outer)) (hf : env.frame = some L) (t : Trc s.heap e C d c2 T fl)
  (h : ∀ h' T', FlyTo (frs (env :: outer)) e T s.heap h' -> (T = some T' \/ s.heap.objs.size <= T') -> Trc h' e C d c2 (some T') .none -> Q () { s with heap := h' }) : wpAny M A (leaving env (.ref e)) Q E s := by
 unfold leaving
 refine wpAny_bind (fly_note hfr hl hf t fun h1 T' a w b => ?_)
 exact fly_flight (s := { s with heap := h1 }) (fs := frs (env :: outer)) (fr := none) b fun h2 a2 b2 => h h2 T' (a.trans a2 w) w b2
end
end L2
end
section
set_option maxHeartbeats 1000000
namespace L2
open PySem PySem.Spec PyProof.Rows
def excF (e C : Addr) (d : Option Addr) (c2 : Value) : HO := .ext fun h => ∃ vs : Array Value, (vs.size = 6 /\ vs[2]? = some c2) /\ h.get? e = some { cls := .ref C, dict := d, data := .fields vs }
theorem ObjOk.excF {P : Program} {w : World} {H : Hp} {h : Heap} {e C : Addr} {d : Option Addr} {c2 : Value} {vs : Array Value} (hz : vs.size = 6 /\ vs[2]? = some c2) (he : h.get? e = some { cls := .ref C, dict := d, data := .fields vs }) : ObjOk P w H h e (L2.excF e C d c2) :=
 ⟨⟨vs, hz, he⟩, ⟨_, he⟩, fun h1 h2 ⟨v, z, a⟩ k => ⟨v, z, k _ a⟩⟩
theorem HOk.excF {P : Program} {w : World} {H : Hp} {h : Heap} {e C : Addr} {d : Option Addr} {c2 : Value} (x : HOk P w H h) (q : H e = some (L2.excF e C d c2)) : ∃ vs : Array Value, (vs.size = 6 /\ vs[2]? = some c2) /\ h.get? e = some { cls := .ref C, dict := d, data := .fields vs } :=
 (show ObjOk P w H h e (L2.excF e C d c2) from x e _ q).1
section
variable {X : Cx} {pins : List (Addr × Obj)} {σ : St} {H : Hp} {s : Shared} {h' : Heap} {x C : Addr} {d T T1 : Option Addr} {fl c2 : Value}
theorem Inv.flight (I : Inv X pins σ H s) (hx : H x = some (excF x C d c2)) (hT : ∀ T', T = some T' -> FpOk X pins H T') (a : FlyTo (frs X.stack) x T s.heap h') (t : Trc h' x C d c2 T1 fl) : Inv X pins σ H { s with heap := h' } := by
 obtain ⟨vs, hz, he, _⟩ := t
 have nT : ∀ b u, H b = some u -> T ≠ some b := fun b u e z => by rw [(hT b z).1] at e; cases e
 have nF : ∀ b u, H b = some u -> b ∉ frs X.stack := fun b u e z => by rw [I.stkFree b z] at e; cases e
 have nx : ∀ b, H b = none -> b ≠ x := fun b n z => by rw [z, hx] at n; cases n
 have there : ∀ b o, T ≠ some b -> s.heap.get? b = some o -> ∃ o', h'.get? b = some o' := fun b o n q => by
  by_cases z : b = x
  ·exact ⟨_, by rw [z]; exact he⟩
  ·by_cases f : b ∈ frs X.stack
   ·obtain ⟨sl, w⟩ := a.slot b o f z n q
    exact ⟨_, w⟩
   ·exact ⟨_, a.keep b o f z n q⟩
 have tl : ∀ b, b ∉ T.toList -> T ≠ some b := fun b n z => n (by rw [z]; simp)
 refine I.call (g' := s.gens) (t' := s.toks) (d' := s.drawn) (ch := T.toList) ⟨fun b o q n hb hc => a.keep b o hb (nx b n) (tl b hc) q, fun b o q n hb hc => a.slot b o hb (nx b n) (tl b hc) q, fun _ _ _ n _ => n, fun b o q hc => there b o (tl b hc) q, fun _ _ q => q, fun _ _ _ q => q, fun b ps q => ⟨#[], by rw [q]; simp⟩⟩ (fun b u e => ?_) I.bare (fun b hb => ?_)
 ·by_cases z : b = x
  ·subst z
   rw [hx] at e
   cases e
   exact ObjOk.excF hz he
  ·refine (I.hok b u e).stay (fun c v hc q => ?_) (fun _ q => q) fun _ _ q => q
   rcases hc with w | w
   ·rw [w]
    rw [w] at q
    exact a.keep b v (nF b u e) z (nT b u e) q
   ·have cx : c ≠ x := fun z => by rw [z, hx] at w; cases w
    exact a.keep c v (nF c _ w) cx (nT c _ w) q
 ·have hb' : T = some b := by simpa using hb
  obtain ⟨f0, f1, f2, f3, f4, f5⟩ := hT b hb'
  exact ⟨f3, f1, f4, f5⟩
abbrev XS := Value -> Option Addr -> St -> Hp -> Prop
def Thrown (X : Cx) (E : XS) (e : Value) (s : Shared) : Prop :=
 ∃ (x C : Addr) (d T : Option Addr) (c2 fl : Value) (pins : List (Addr × Obj)) (σ : St) (H : Hp), e = .ref x /\ Inv X pins σ H s /\ H x = some (excF x C d c2) /\ (∀ T', T = some T' -> FpOk X pins H T') /\ Trc s.heap x C d c2 T fl /\ E (.ref x) d σ H
abbrev Cx.thr (X : Cx) (E : XS) : Cx := X.wish (Thrown X E)
def CX1 (P : Program) (w : World) : CXT := fun outer H s E e s' =>
 ∃ (x C : Addr) (d T : Option Addr) (c2 fl : Value) (H' : Hp), e = .ref x /\ s'.os = s.os /\ AllBare s'.gens /\ Un (frs outer) [] H H' s.heap s'.heap /\ HOk P w H' s'.heap /\ H' x = some (excF x C d c2) ∧
  (∀ T', T = some T' -> s.heap.objs.size <= T' /\ H' T' = none) /\ Trc s'.heap x C d c2 T fl /\ E (.ref x) d H'
theorem pass1 {E : XS} {e : Value} {s' : Shared} (I0 : Inv X pins σ H s) (h : CX1 X.prog X.w X.stack H s (fun v d H' => E v d σ H') e s') : Thrown X E e s' := by
 obtain ⟨x, C, d, T, c2, fl, H', rfl, os, bare, un, hok, hx, hT, t, q⟩ := h
 have I1 : Inv X pins σ H' s' := by
  obtain ⟨hh, g, dr, tk, os'⟩ := s'
  obtain rfl : os' = s.os := os
  exact I0.call (h' := hh) (g' := g) (d' := dr) (t' := tk) (ch := []) un hok bare (fun b z => absurd z (by simp))
 exact ⟨x, C, d, T, c2, fl, pins, σ, H', rfl, I1, hx, fun T' z => I0.fpOk (hT T' z).1 (hT T' z).2, t, q⟩
end
section
variable {P : Program} {w : World} {K : PySem.W.Frag} {mg : Str -> Option Value} {base : Heap} {N : List Str} {qual : Str} {scope : Scope} {f : Addr} {cd : Value} {A : Around} {outer : List Env} {s : Shared} {H : Hp} {E : XK}
theorem thr_leave {e : Value} {s' : Shared} (h : Thrown (cxOf (CX1 P w) P w K mg base N qual scope f cd A outer s H E) (fun v d _ H' => E v d H') e s') : (cxOf (CX1 P w) P w K mg base N qual scope f cd A outer s H E).xe e s' := by
 obtain ⟨x, C, d, T, c2, fl, pins, σ, H', rfl, I, hx, hT, t, q⟩ := h
 show wpAny (model P w) (A.deeper (envOfC qual scope s.heap.objs.size f cd)) (leaving (envOfC qual scope s.heap.objs.size f cd) (.ref x)) _ _ s'
 refine fly_leave (base := base) I.ok.frames I.stack rfl t fun h2 T' a w2 t2 => ?_
 have I2 := I.flight hx hT a t2
 refine ⟨x, C, d, some T', c2, .none, H', rfl, I2.os, I2.bare, I2.base, I2.hok, hx, fun T2 z => ?_, t2, q⟩
 cases z
 rcases w2 with z | z
 ·obtain ⟨f0, f1, f2, f3, f4, f5⟩ := hT T' z
  refine ⟨?_, f0⟩
  rcases f3 with y | y
  ·exact absurd y (by show T' ∉ ([] : List Addr); simp)
  ·exact y
 ·exact ⟨Nat.le_trans I.sz z, I.hok.fresh z⟩
theorem PSs.thr {E : XS} {X : Cx} {st : List Stmt} {t : TS} (h : PSs (X.thr E) st t) (hx : ∀ e s', Thrown X E e s' -> X.xe e s') : PSs X st t := fun pins s σ H D I hw =>
 wpAny_mono (h pins s σ H D (I.wish _) hw) (fun _ _ q => q.unwish) fun e s' z => hx e s' z
end
section
variable {X : Cx} {E : XS}
theorem thr_own (hs : X.stack = X.env :: X.outer) (hf : X.env.frame = some X.env.locals) : PassesOwn (model X.prog X.w) X.A X.env (Thrown X E) := by
 intro e s h
 obtain ⟨x, C, d, T, c2, fl, pins, σ, H, rfl, I, hx, hT, t, q⟩ := h
 have fr : X.A.frames = some (X.env :: X.outer) := by rw [I.ok.frames, hs]
 have fn : s.heap.FunFrames X.base (X.env :: X.outer) := by rw [<- hs]; exact I.stack
 refine fly_note (base := X.base) fr fn hf t fun h1 T' a w t1 => ?_
 rw [<- hs] at a
 have I1 := I.flight hx hT a t1
 have hT1 : FpOk X pins H T' := by
  rcases w with z | z
  ·exact hT T' z
  ·exact I.fpOk z (I.hok.fresh z)
 show wpAny _ _ _ _ _ _
 obtain ⟨vs, hz, he, h1', _⟩ := id t1
 have h1' : vs[1]? = some (.ref T') := h1'
 refine wpAny_bind (wpAny_field he rfl h1' ?_)
 rw [if_neg (show ¬ ((Value.ref T' == Value.none) = true) from Bool.false_ne_true)]
 show wpAny _ _ (setFlight (.ref x) X.env.frame) _ _ _
 refine fly_flight (fs := frs X.stack) t1 fun h2 a2 t2 => ?_
 exact ⟨x, C, d, some T', c2, _, pins, σ, H, rfl, I1.flight hx (fun T2 z => by cases z; exact hT1) a2 t2, hx, fun T2 z => by cases z; exact hT1, t2, q⟩
end
end L2
end
section
set_option maxHeartbeats 1000000
namespace L2
open PySem PySem.Spec PyProof.Rows
structure DefXs (P : Program) (w : World) (K : PySem.W.Frag) (mg : Str -> Option Value) (base : Heap) (n : Nat) (x : Str) (ps : List Str) (sp : Sp) : Prop where
 ex : ∃ (f : Addr) (fd : FuncData), FnOk P w K mg base (CX1 P w) n f fd ps sp /\ Binds K fd ps [] /\ PySem.W.keepIn K (.ref f) = true /\ mg x = some (.ref f) /\ ∃ oc od osl, K.lookup f = some ⟨oc, od, .func fd, osl⟩
section
variable {P : Program} {w : World} {K : PySem.W.Frag} {mg : Str -> Option Value} {base : Heap} {n m : Nat} {x : Str} {ps N : List Str} {sp : Sp} {st : Stmt}
theorem DefIs.xs (D : DefIs P w K mg base n x ps sp) : DefXs P w K mg base n x ps sp := by
 obtain ⟨f, fd, F, r⟩ := D.ex
 refine ⟨f, fd, ⟨F.len, fun A outer s H args us vs Q E hr he hb hv hs => codeAny_mono (F.run A outer s H args us vs Q E hr he hb hv hs) fun r s' q => ?_⟩, r⟩
 cases r with
 | error e => exact False.elim q
 | ok fl => cases fl <;> exact q
theorem DefXs.of (T : DefTx K mg x st ps) (S : FnScope N ps (defScope st)) (len : ∀ vs H Q E, sp vs H Q E -> vs.length = ps.length)
  (hbody : ∀ (f : Addr) (cdv : Value) (A : Around) (outer : List Env) (s : Shared) (H : Hp) (vs : List V) (Q : VK) (E : XK), Room n (A.deeper (envOfC x (defScope st) s.heap.objs.size f cdv)) -> sp vs H Q E ->
   ∃ t, PSs ((cxOf (CX1 P w) P w K mg base N x (defScope st) f cdv A outer s H E).thr fun v d _ H' => E v d H') (defBody st) t /\ t { nx := fun _ H' => Q .non H', rt := Q } (start N vs) H) : DefXs P w K mg base (n + 1) x ps sp := by
 obtain ⟨f, fd, F, m, b⟩ := T.ex
 refine ⟨f, fd, ?_, Binds.all b, F.kp, m, fun_at F⟩
 obtain ⟨oc, od, kV, doc, pm, an, cdv, ct, osl, rfl, lk, hcd⟩ := F.ex
 refine fn_of lk hcd S len fun A outer s H vs Q E hr hsp => ?_
 obtain ⟨t, h, q⟩ := hbody f cdv A outer s H vs Q E hr hsp
 exact ⟨t, h.thr fun e s' z => thr_leave z, q⟩
end
section
variable {X : Cx} {E : XS} {n : Nat} {x : Str} {ps : List Str} {sp : Sp} {e : Expr} {es : List Expr} {p pos : Pos} {t : TA}
def tCallX (sp : Sp) (E : XS) (t : TA) : TE := fun σ H Q => t σ H fun vs H1 => sp vs H1 Q fun v d H' => E v d σ H'
theorem pe_xcall (D : DefXs X.prog X.w X.K X.mg X.base n x ps sp) (hr : Room n X.A) (ha : PA (X.thr E) (e :: es) t) (hg : Gl X x := by rfl) (hdb : (x == ("__debug__" : Str)) = false := by decide)
  (he : starEach (e :: es) X.env = (false, eval e X.env) :: starEach es X.env := by rfl) (hpl : (backTo pos (starEach es X.env)).any (·.1) = false := by rfl) : PE (X.thr E) (.Call (.Name x p) (e :: es) [] pos) (tCallX sp E t) := by
 obtain ⟨f, fd, F, b, k, m, _⟩ := D.ex
 intro pins s σ H Q I h
 refine wpAny_Call_Name_kw (ld_glob (X := X.thr E) I hg m ?_ hdb)
 refine PySem.W.callWith_K (h₀ := X.base) I.ok.mod.kin k (thn (ha pos pins s σ H _ I h) fun us s1 ⟨vs, H1, I1, r, q⟩ => ⟨I1.kIn, ?_⟩) he hpl
 have hl : (us ++ []).length = ps.length := by rw [List.append_nil, <- r.length]; exact F.len _ _ _ _ q
 have hb := b s1 us I1.kIn hl
 rw [List.append_nil] at hb
 refine wpAny_call (codeAny_mono (F.run X.A X.stack s1 H1 ⟨us, []⟩ us vs Q _ hr I1.unwish.env0 hb r q) fun r s' hq => ?_)
 cases r with
 | error e => exact pass1 I1.unwish hq
 | ok fl =>
  cases fl with
  | ret u => exact I1.after hq
  | next => exact False.elim hq
  | brk => exact False.elim hq
  | cont => exact False.elim hq
end
end L2
end
section
set_option maxHeartbeats 1000000
namespace L2
open PySem PySem.Spec PyProof.Rows
abbrev Cx.mkd (X : Cx) (e : Value) : Cx := { X with A := X.A.mark (some e), calm := false }
abbrev Cx.pnd (X : Cx) (pn : List (Addr × Obj)) : Cx := { X with pn := pn }
section
variable {X : Cx} {pins pn : List (Addr × Obj)} {σ : St} {H : Hp} {s : Shared} {e : Value}
theorem Cx.Ok.mkd (ok : X.Ok) (e : Value) : (X.mkd e).Ok :=
 ⟨ok.mod, ok.kind, ok.glob, ok.blt, ok.above, ok.inj, ok.has, ok.cab, fun z => Bool.noConfusion z, ok.frames, ok.stk, ok.exf, ok.bs, ok.bsz, ok.noex, ok.exfs, ok.funs, ok.frf⟩
theorem Cx.Ok.pnd (ok : X.Ok) (pn : List (Addr × Obj)) : (X.pnd pn).Ok :=
 ⟨ok.mod, ok.kind, ok.glob, ok.blt, ok.above, ok.inj, ok.has, ok.cab, ok.hd, ok.frames, ok.stk, ok.exf, ok.bs, ok.bsz, ok.noex, ok.exfs, ok.funs, ok.frf⟩
theorem Inv.mkd (I : Inv X pins σ H s) (e : Value) : Inv (X.mkd e) pins σ H s := ⟨I.ok.mkd e, I.os, I.bare, I.base, I.loc, I.cell, I.free, I.freeC, I.pin, I.hok, I.len⟩
theorem Inv.unmkd (ok : X.Ok) (I : Inv (X.mkd e) pins σ H s) : Inv X pins σ H s := ⟨ok, I.os, I.bare, I.base, I.loc, I.cell, I.free, I.freeC, I.pin, I.hok, I.len⟩
theorem Inv.pnd (I : Inv X pins σ H s) : Inv (X.pnd (X.pn ++ pins)) [] σ H s :=
 ⟨I.ok.pnd _, I.os, I.bare, I.base, I.loc, I.cell, I.free, I.freeC, fun p hp => I.pin p (by simpa using hp), I.hok, I.len⟩
theorem Inv.unpnd {pins' : List (Addr × Obj)} (ok : X.Ok) (I : Inv (X.pnd (X.pn ++ pins)) pins' σ H s) : Inv X pins σ H s :=
 ⟨ok, I.os, I.bare, I.base, I.loc, I.cell, I.free, I.freeC, fun p hp => I.pin p (List.mem_append_left _ hp), I.hok, I.len⟩
theorem FpOk.unpnd {pins' : List (Addr × Obj)} {b : Addr} (h : FpOk (X.pnd (X.pn ++ pins)) pins' H b) : FpOk X pins H b :=
 ⟨h.1, h.2.1, h.2.2.1, h.2.2.2.1, h.2.2.2.2.1, fun p hp => h.2.2.2.2.2 p (List.mem_append_left _ hp)⟩
theorem SP.unpnd {D : Ends} {f : Flow} {s' : Shared} (ok : X.Ok) (h : SP (X.pnd (X.pn ++ pins)) [] D f s') : SP X pins D f s' := by
 cases f with
 | next => obtain ⟨σ', H', I, q⟩ := h; exact ⟨σ', H', I.unpnd ok, q⟩
 | brk => obtain ⟨σ', H', I, q⟩ := h; exact ⟨σ', H', I.unpnd ok, q⟩
 | cont => obtain ⟨σ', H', I, q⟩ := h; exact ⟨σ', H', I.unpnd ok, q⟩
 | ret u => obtain ⟨v, σ', H', I, r, q⟩ := h; exact ⟨v, σ', H', I.unpnd ok, r, q⟩
theorem exc_match {M : Model} {A : Around} {E' : Value -> Shared -> Prop} {s : Shared} {K : PySem.W.Frag} {x C C0 : Addr} {d : Option Addr} {vs : Array Value} {Q : Bool -> Shared -> Prop} (hx : s.heap.get? x = some { cls := .ref C, dict := d, data := .fields vs })
  (O : XObj s.heap C bmV "ValueError.__new__") (O0 : XObj s.heap C0 bmV "ValueError.__new__") (kin : K.In s.heap) (hsub : PySem.W.mroIn K C (.ref C0) = some true) (hq : Q true s) : wpAny M A (excMatches (.ref x) (.ref C0)) Q E' s := by
 obtain ⟨nm, qn, N, bs, bm, sn, sub, ab, col, dd, k0, k1, k2, k3, k5, hC, T⟩ := O
 obtain ⟨nm', qn', N', bs', bm', sn', sub', ab', col', dd', k0', k1', k2', k3', k5', hC0, T'⟩ := O0
 have hcB : (Value.ref C0 :: bm').contains (.type "BaseException") = true := by rw [List.contains_cons, T'.hasType (show bmV.contains (.type "BaseException") = true by decide), Bool.or_true]
 have LS := PySem.W.looks_mroIn (M := M) kin hsub
 have f := tc_notTuple
 obtain ⟨hp, g, dr, tk, os⟩ := s
 unfold excMatches
 repeat (first | with_reducible refine wpAny_loadPart_at hx ?_ | with_reducible refine wpAny_loadPart_at hC0 ?_ | (with_reducible refine wpAny_isSubtype_exc hC0 ?_; rw [hcB]) | with_reducible refine LS.at ?_ | wp_step)
 exact hq
end
end L2
end
section
set_option maxHeartbeats 1000000
namespace L2
open PySem PySem.Spec PyProof.Rows
end L2
end
section
set_option maxHeartbeats 1000000
namespace L2
open PySem PySem.Spec PyProof.Rows
structure RoomQ (k : Nat) (A : Around) : Prop where
 dp : A.depth + 3 * k + 5 < recursionLimit
 un : A.units + 16 * k + 200 < cLine
theorem Room.q {k : Nat} {A : Around} (r : Room k A) : RoomQ k A := ⟨r.dp, r.un⟩
theorem RoomQ.mark {k : Nat} {A : Around} (r : RoomQ k A) (h : Option Value) : RoomQ k (A.mark h) := ⟨r.dp, r.un⟩
theorem RoomQ.deeper {k : Nat} {A : Around} (r : RoomQ (k + 1) A) (env : Env) : RoomQ k (A.deeper env) :=
 ⟨by have := r.dp; show A.depth + 1 + 3 * k + 5 < _; omega, by have := r.un; show A.units + 3 + 16 * k + 200 < _; omega⟩
theorem RoomQ.make {k : Nat} {A : Around} (r : RoomQ (k + 1) A) (C : Addr) (us : List Value) (kw : List (Str × Value)) : RoomQ k (A.under (.builtin "type.__call__" ⟨.ref C :: us, kw⟩)) :=
 ⟨by have := r.dp; rw [make_depth]; omega, by have := r.un; rw [make_units]; omega⟩
structure FnOkQ (P : Program) (w : World) (K : PySem.W.Frag) (mg : Str -> Option Value) (base : Heap) (CX : CXT) (k : Nat) (f : Addr) (fd : FuncData) (ps : List Str) (sp : Sp) : Prop where
 len : ∀ vs H Q E, sp vs H Q E -> vs.length = ps.length
 run : ∀ (A : Around) (outer : List Env) (s : Shared) (H : Hp) (args : Args) (us : List Value) (vs : List V) (Q : VK) (E : XK), RoomQ k A -> Env0 P w K mg base A outer s H -> BindsTo s fd args (ps.zip us) -> Vals vs us -> sp vs H Q E ->
  codeAny (model P w) A (.call (.ref f) args) (CR CX outer P w H s Q E) s
abbrev Cx.rough (X : Cx) : Cx := { X with calm := false }
theorem fn_ofQ {CX : CXT} {P : Program} {w : World} {K : PySem.W.Frag} {mg : Str -> Option Value} {base : Heap} {k : Nat} {f : Addr} {name qual : Str} {params : Arguments} {body : List Stmt} {scope : Scope} {dV kV doc pm cdv ct oc : Value} {an od : Option Addr}
  {osl : Array (Option Value)} {N ps : List Str} {sp : Sp} (lk : K.lookup f = some ⟨oc, od, .func (PySem.W.fnOf name qual params body scope dV kV doc pm an cdv ct), osl⟩) (hcd : PySem.W.codeIn K cdv qual = true) (S : FnScope N ps scope)
  (len : ∀ vs H Q E, sp vs H Q E -> vs.length = ps.length)
  (hbody : ∀ (A : Around) (outer : List Env) (s : Shared) (H : Hp) (vs : List V) (Q : VK) (E : XK), RoomQ k (A.deeper (envOfC qual scope s.heap.objs.size f cdv)) -> sp vs H Q E ->
   ∃ t, PSs (cxOf CX P w K mg base N qual scope f cdv A outer s H E).rough body t /\ t { nx := fun _ H' => Q .non H', rt := Q } (start N vs) H) :
  FnOkQ P w K mg base CX (k + 1) f (PySem.W.fnOf name qual params body scope dV kV doc pm an cdv ct) ps sp := by
 refine ⟨len, fun A outer s H args us vs Q E hr e0 hb r hsp => ?_⟩
 have hl := len _ _ _ _ hsp
 have KX : K.In s.heap := e0.mod.kin.keeps fun b o e => (e0.bs b o e).1
 have lim : s.heap.NoLimit := e0.mod.nolimit.keeps fun b o e => (e0.bs b o e).1
 have hkind : ∀ y ∈ ps.zip us, scope.names.lookup y.1 = some .local \/ (scope.names.lookup y.1 = some .cell /\ ((cellsFrom (s.heap.objs.size + 1) scope.names []).lookup y.1).isSome = true) := fun ⟨n, v⟩ hy => by
  rcases S.par n (List.of_mem_zip hy).1 with q | q
  ·exact .inl q
  ·exact .inr ⟨q, PySem.W.cellsFrom_some _ _ _ (.inl q)⟩
 refine codeAny_call_function (by have := hr.dp; omega) (KX _ _ lk) rfl S.co S.gen rfl (PySem.W.codeRec_of KX hcd) (hb _ _ _ _ ?_)
 refine wpAny_newFunctionEnv_cells S.kind hkind fun env he s1 x => ?_
 subst he
 refine ⟨lim.keeps x.toInCall.keep, codeAny_func ?_⟩
 obtain ⟨t, ht, hq⟩ := hbody A outer s H vs Q E (hr.deeper _) hsp
 have I0 : Inv (cxOf CX P w K mg base N qual scope f cdv { A with handled := none } outer s H E) [] (start N vs) H s1 := inv_start S rfl ⟨e0.frames, e0.mod, e0.bs, e0.bsz, e0.funs, e0.frf, e0.hok, e0.bare⟩ hl r x
 have ok := I0.ok
 have fr : (A.deeper (envOfC qual scope s.heap.objs.size f cdv)).frames = some (envOfC qual scope s.heap.objs.size f cdv :: outer) := ok.frames
 have I : Inv (cxOf CX P w K mg base N qual scope f cdv A outer s H E).rough [] (start N vs) H s1 :=
  ⟨⟨ok.mod, ok.kind, ok.glob, ok.blt, ok.above, ok.inj, ok.has, ok.cab, fun z => Bool.noConfusion z, fr, ok.stk, ok.exf, ok.bs, ok.bsz, ok.noex, ok.exfs, ok.funs, ok.frf⟩, I0.os, I0.bare, I0.base, I0.loc, I0.cell, I0.free, I0.freeC, I0.pin, I0.hok, I0.len⟩
 refine wpAny_mono (ht [] s1 (start N vs) H _ I hq) (fun fl s' hs => ?_) fun e s' hs => hs
 have fin : ∀ {σ' : St} {H' : Hp} {v : V} {u : Value}, Inv (cxOf CX P w K mg base N qual scope f cdv A outer s H E).rough [] σ' H' s' -> RelV v u -> Q v H' -> CE outer P w H s Q u s' :=
  fun {σ' H' v u} J rv q => ⟨v, H', J.os, J.bare, J.base, J.hok, rv, q⟩
 cases fl with
 | ret u =>
  obtain ⟨v, σ', H', J, rv, q⟩ := hs
  exact fin J rv q
 | next =>
  obtain ⟨σ', H', J, q⟩ := hs
  exact fin (v := V.non) (u := Value.none) J rfl q
 | brk =>
  obtain ⟨_, _, _, q⟩ := hs
  exact False.elim q
 | cont =>
  obtain ⟨_, _, _, q⟩ := hs
  exact False.elim q
end L2
end
section
set_option maxHeartbeats 1000000
namespace L2
open PySem PySem.Spec PyProof.Rows
structure InitQ (P : Program) (w : World) (K : PySem.W.Frag) (mg : Str -> Option Value) (base : Heap) (n : Nat) (C : Addr) (ps : List Str) (sp : Sp) : Prop where
 ex : ∃ (f : Addr) (fd : FuncData), PySem.W.findIn K (.ref C) "__init__" = some (some (.ref f)) /\ PySem.W.isFn K (.ref f) = true /\ FnOkQ P w K mg base CX0 n f fd ps sp /\ Binds K fd ps []
theorem InitQ.of {P : Program} {w : World} {K : PySem.W.Frag} {mg : Str -> Option Value} {base : Heap} {n : Nat} {q : Str} {C : Addr} {st : Stmt} {ps N : List Str} {sp : Sp} (T : InitTx K q C st ps) (S : FnScope N ps (defScope st)) (len : ∀ vs H Q E, sp vs H Q E -> vs.length = ps.length)
  (hbody : ∀ (f : Addr) (cdv : Value) (A : Around) (outer : List Env) (s : Shared) (H : Hp) (vs : List V) (Q : VK) (E : XK), RoomQ n (A.deeper (envOfC q (defScope st) s.heap.objs.size f cdv)) -> sp vs H Q E ->
   ∃ t, PSs (cxOf CX0 P w K mg base N q (defScope st) f cdv A outer s H E).rough.nox (defBody st) t /\ t { nx := fun _ H' => Q .non H', rt := Q } (start N vs) H) : InitQ P w K mg base (n + 1) C ps sp := by
 obtain ⟨f, fd, i, nn, F, b⟩ := T.ex
 refine ⟨f, fd, i, nn, ?_, Binds.all b⟩
 obtain ⟨oc, od, kV, doc, pm, an, cdv, ct, osl, rfl, lk, hcd⟩ := F.ex
 refine fn_ofQ lk hcd S len fun A outer s H vs Q E hr hsp => ?_
 obtain ⟨t, h, q⟩ := hbody f cdv A outer s H vs Q E hr hsp
 exact ⟨t, h.nox, q⟩
section
variable {X : Cx} {pins : List (Addr × Obj)} {σ : St} {H : Hp} {s : Shared} {C : Addr} {Q : VK} {us : List Value} {vs : List V} {k : Nat} {ps : List Str} {sp : Sp}
theorem run_excQ (M : XCl X.K C) (D : InitQ X.prog X.w X.K X.mg X.base k C ps sp) (hr : RoomQ (k + 1) X.A) (I : Inv X pins σ H s) (r : Vals vs us) (hl : vs.length <= sizeLine)
  (h : ∀ e, H e = none -> sp (.ref e :: vs) (upd H e (excO e C none)) (fun v H2 => v = .non /\ Q (.ref e) H2) E0) : wpAny (model X.prog X.w) X.A (call (.ref C) us) (EP X pins σ Q) X.xe s := by
 obtain ⟨f, fd, hi, hf, F, hb⟩ := D.ex
 have hl' : us.length <= sizeLine := by rw [<- r.length]; exact hl
 have kin := I.kIn
 obtain ⟨nm, qn, N, bs, bm, sn, sub, ab, col, dd, k0, k1, k2, k3, k5, hC, T⟩ := x_of_in kin M.obj
 have hq := h (s.heap.objs.size + 1) (I.hok.fresh (Nat.le_succ _))
 have I2 := Inv.newExc (C := C) (us := us) I
 have r2 : Vals (V.ref (s.heap.objs.size + 1) :: vs) (Value.ref (s.heap.objs.size + 1) :: us) := .cons rfl r
 have hlen : (Value.ref (s.heap.objs.size + 1) :: us ++ []).length = ps.length := by
  rw [List.append_nil, <- r2.length]; exact F.len _ _ _ _ hq
 have hbd := hb _ (Value.ref (s.heap.objs.size + 1) :: us) I2.kIn hlen
 rw [List.append_nil] at hbd
 obtain ⟨hh, g, d, t, os⟩ := s
 refine exc_call PySem.F.excBase_ValueError T hC (PySem.W.looks_findIn kin hi) (fun self => PySem.W.bind_fn kin self (beq_iff_eq.mp hf)) ?_ hl'
 refine wpAny_call (codeAny_mono (F.run _ X.stack _ _ ⟨Value.ref (hh.objs.size + 1) :: us, []⟩ (Value.ref (hh.objs.size + 1) :: us) _ _ E0 (hr.make C us []) (I2.env0.make C us []) hbd r2 hq) fun r s' hq' => ?_)
 cases r with
 | error e => exact False.elim hq'
 | ok fl =>
  cases fl with
  | ret u =>
   obtain ⟨v, H', I3, rv, ev, q3⟩ := I2.after hq'
   subst ev
   exact ⟨rv, ⟨V.ref (hh.objs.size + 1), H', I3, rfl, q3⟩⟩
  | next => exact False.elim hq'
  | brk => exact False.elim hq'
  | cont => exact False.elim hq'
variable {x : Str} {p pos : Pos} {e : Expr} {es : List Expr} {t : TA}
theorem pe_excQ (D : InitQ X.prog X.w X.K X.mg X.base k C ps sp) (M : XCl X.K C) (hr : RoomQ (k + 1) X.A) (hm : X.mg x = some (.ref C)) (ha : PA X (e :: es) t) (hg : Gl X x := by rfl)
  (hdb : (x == ("__debug__" : Str)) = false := by decide) (he : starEach (e :: es) X.env = (false, eval e X.env) :: starEach es X.env := by rfl) (hpl : (backTo pos (starEach es X.env)).any (·.1) = false := by rfl) :
  PE X (.Call (.Name x p) (e :: es) [] pos) (tExcI C sp E0 t) := by
 intro pins s σ H Q I h
 refine wpAny_Call_Name_kw (ld_glob I hg hm ?_ hdb)
 refine PySem.W.callWith_K (h₀ := X.base) I.ok.mod.kin M.kp (thn (ha pos pins s σ H _ I h) fun us s1 ⟨vs, H1, I1, r, q⟩ => ⟨I1.kIn, ?_⟩) he hpl
 exact run_excQ M D hr I1 r q.1 q.2
end
section
variable {prog : Program} {w : World} {A : Around} {E' : Value -> Shared -> Prop} {env : Env}
theorem entry_unchain : entryFor table "proto.unchain" = some Builtin.«proto.unchain» := entryFor_of_tree (by kernel_rfl)
theorem raise_from {s : Shared} {x c : Sem Value} {old : Addr} {Q : Flow -> Shared -> Prop} (hh : A.handled = some (.ref old))
  (h : wpAny (model prog w) A x (fun v s₁ => ∃ e t C d bmB oo vs, v = .ref e /\ e ≠ old /\ bmB.contains (.type "BaseException") = true /\ XObj s₁.heap C bmB "ValueError.__new__" /\ s₁.heap.get? e = some (newExc C t d) ∧
   s₁.heap.get? old = some oo /\ oo.data = .fields vs /\ vs[2]? = some .none ∧
   ∀ h', (∀ b o, b ≠ e -> s₁.heap.get? b = some o -> h'.get? b = some o) -> h'.get? e = some { cls := .ref C, dict := d, data := .fields #[.ref t, .none, .ref old, .none, .bool true, .none] } -> E' (.ref e) { s₁ with heap := h' }) E' s)
  (hc : ∀ (s : Shared) (Q : Value -> Shared -> Prop), Q .none s -> wpAny (model prog w) A c Q E' s) :
  wpAny (model prog w) A (raiseStmt env (some x) (some c)) Q E' s := by
 unfold raiseStmt
 refine wpAny_bind (wpAny_mono h (fun v s₁ h₁ => ?_) fun _ _ x => x)
 obtain ⟨e, t, C, d, bmB, oo, vs, rfl, hne, hbase, ⟨nm, qn, N, bs, bm, sn, sub, ab, col, dd, k0, k1, k2, k3, k5, hC, T⟩, he, hold, hod, h2, hE⟩ := h₁
 have hcB : (Value.ref C :: bm).contains (.type "BaseException") = true := by rw [List.contains_cons, T.hasType hbase, Bool.or_true]
 refine wpAny_bind (wpAny_holding (hc _ _ (wpAny_bind (wpAny_pure ?_))))
 obtain ⟨hp, g, dr, tk, os⟩ := s₁
 have neC : C ≠ e := fun z => by
  have h1 : hp.get? e = some (newExc C t d) := he
  rw [<- z, show hp.get? C = _ from hC] at h1
  cases h1
 have he1 : (hp.update e (Obj.mapFields fun x => x.setIfInBounds 3 Value.none)).get? e = some { cls := .ref C, dict := d, data := .fields #[.ref t, .none, .none, .none, .bool false, .none] } := Heap.get?_update_self _ he rfl
 have he2 : ((hp.update e (Obj.mapFields fun x => x.setIfInBounds 3 Value.none)).update e (Obj.mapFields fun x => x.setIfInBounds 4 (Value.bool true))).get? e = some { cls := .ref C, dict := d, data := .fields #[.ref t, .none, .none, .none, .bool true, .none] } := Heap.get?_update_self _ he1 rfl
 have ot : ∀ b, b ≠ e -> ((hp.update e (Obj.mapFields fun x => x.setIfInBounds 3 Value.none)).update e (Obj.mapFields fun x => x.setIfInBounds 4 (Value.bool true))).get? b = hp.get? b := fun b hb => by
  rw [Heap.get?_update_other _ _ (Ne.symm hb), Heap.get?_update_other _ _ (Ne.symm hb)]
 have hC2 := (ot C neC).trans hC
 have ho2 := (ot old (Ne.symm hne)).trans hold
 repeat (first | with_reducible refine wpAny_loadPart_at he ?_ | with_reducible refine wpAny_loadPart_at hC ?_ | (with_reducible refine wpAny_isSubtype_exc hC ?_; rw [hcB]) | wp_step)
 generalize ((hp.update e (Obj.mapFields fun x => x.setIfInBounds 3 Value.none)).update e (Obj.mapFields fun x => x.setIfInBounds 4 (Value.bool true))) = h2' at he2 ot hC2 ho2 ⊢
 unfold raiseNew
 refine wpAny_bind (wpAny_handled ?_)
 rw [hh]
 have hb : (Value.ref old != Value.ref e) = true := by
  rw [bne_iff_ne]
  exact fun z => hne (Value.ref.inj z).symm
 dsimp only
 rw [if_pos hb]
 refine wpAny_bind (wpAny_holding (wpAny_runValue (codeAny_builtin entry_unchain ?_)))
 unfold Builtin.«proto.unchain»
 refine wpAny_bind (wpAny_field (s := ⟨h2', g, dr, tk, os⟩) ho2 hod h2 ?_)
 rw [if_pos (show (Value.none == Value.none) = true by decide)]
 refine wpAny_bind (wpAny_pure (wpAny_pure ?_))
 show wpAny _ _ (do updateField e 2 (Value.ref old); throw (Value.ref e)) _ _ _
 refine wpAny_bind ?_
 have hs2 : wpAny (model prog w) A (setField (.ref e) 2 (Value.ref old)) (fun _ s' => wpAny (model prog w) A (throw (Value.ref e)) Q E' s') E' ⟨h2', g, dr, tk, os⟩ := by
  refine wpAny_setField he2 rfl (by show 2 < 6; decide) (wpAny_throw ?_)
  refine hE _ (fun b o nb q => ?_) (Heap.get?_update_self _ he2 rfl)
  rw [Heap.get?_update_other _ _ (Ne.symm nb)]
  exact (ot b nb).trans q
 exact hs2
end
section
variable {X : Cx} {E : XS}
theorem thr_ownAt {A' : Around} (fr : A'.frames = some (X.env :: X.outer)) (hs : X.stack = X.env :: X.outer) (hf : X.env.frame = some X.env.locals) : PassesOwnAt (model X.prog X.w) A' X.A X.env (Thrown X E) := by
 intro e s h
 obtain ⟨x, C, d, T, c2, fl, pins, σ, H, rfl, I, hx, hT, t, q⟩ := h
 have fn : s.heap.FunFrames X.base (X.env :: X.outer) := by rw [<- hs]; exact I.stack
 refine fly_note (base := X.base) fr fn hf t fun h1 T' a w t1 => ?_
 rw [<- hs] at a
 have I1 := I.flight hx hT a t1
 have hT1 : FpOk X pins H T' := by
  rcases w with z | z
  ·exact hT T' z
  ·exact I.fpOk z (I.hok.fresh z)
 show wpAny _ _ _ _ _ _
 obtain ⟨vs, hz, he, h1', _⟩ := id t1
 have h1' : vs[1]? = some (.ref T') := h1'
 refine wpAny_bind (wpAny_field he rfl h1' ?_)
 rw [if_neg (show ¬ ((Value.ref T' == Value.none) = true) from Bool.false_ne_true)]
 show wpAny _ _ (setFlight (.ref x) X.env.frame) _ _ _
 refine fly_flight (fs := frs X.stack) t1 fun h2 a2 t2 => ?_
 exact ⟨x, C, d, some T', c2, _, pins, σ, H, rfl, I1.flight hx (fun T2 z => by cases z; exact hT1) a2 t2, hx, fun T2 z => by cases z; exact hT1, t2, q⟩
def sTryRe (K : PySem.W.Frag) (C0 : Addr) (E : XS) (tb : XS -> TS) (te : TE) : TS := fun D σ H => ∃ Es : XS, tb Es D σ H /\ ∀ x C d c2 σ' H', Es (.ref x) d σ' H' -> H' x = some (excF x C d c2) ->
 XCl K C /\ PySem.W.mroIn K C (.ref C0) = some true /\ c2 = .none ∧
 te σ' H' fun v H1 => ∃ x' C' d', v = .ref x' /\ H1 x' = some (excO x' C' d') /\ x' ≠ x /\ H1 x = some (excF x C d .none) /\ XCl K C' /\ E (.ref x') d' σ' (upd H1 x' (excF x' C' d' (.ref x)))
theorem ps_tryRe {body : List Stmt} {ex : Expr} {tb : XS -> TS} {te : TE} {y : Str} {C0 : Addr} {np hpos rpos cp pos : Pos} {cj} (hc : X.calm = true) (hs : X.stack = X.env :: X.outer) (hf : X.env.frame = some X.env.locals)
  (hm : X.mg y = some (.ref C0)) (M0 : xIn X.K C0 bmV "ValueError.__new__" = true) (hb : ∀ pn Es, PSs ((X.pnd pn).thr Es) body (tb Es)) (he : ∀ e, PE ((X.mkd e).nox) ex te)
  (hg : Gl X y := by rfl) (hdb : (y == ("__debug__" : Str)) = false := by decide) :
  PS (X.thr E) (.Try body [.ExceptHandler (some (.Name y np)) none [.Raise (some ex) (some (.Constant .none cj cp)) rpos] hpos] [] [] pos) (sTryRe X.K C0 E tb te) := by
 intro pins s σ H D I h
 have I := I.unwish
 obtain ⟨Es, hb', hh⟩ := h
 refine wpAny_Try_except ?_
 refine wpAny_mono (hb (X.pn ++ pins) Es [] s σ H D (I.pnd.wish _) hb') (fun f s1 q => ?_) (fun e s1 q => ?_)
 ·have q' : SP X pins D f s1 := SP.unpnd I.ok q.unwish
  have q2 : SP (X.thr E) pins D f s1 := by
   cases f with
   | next => obtain ⟨σ', H', J, q⟩ := q'; exact ⟨σ', H', J.wish _, q⟩
   | brk => obtain ⟨σ', H', J, q⟩ := q'; exact ⟨σ', H', J.wish _, q⟩
   | cont => obtain ⟨σ', H', J, q⟩ := q'; exact ⟨σ', H', J.wish _, q⟩
   | ret u => obtain ⟨v, σ', H', J, r, q⟩ := q'; exact ⟨v, σ', H', J.wish _, r, q⟩
  cases f with
  | next => exact wpAny_execs_nil q2
  | brk => exact q2
  | cont => exact q2
  | ret u => exact q2
 ·obtain ⟨x, C, d, T, c2, fl, pins', σ', H', rfl, I1, hx, hT, t, qe⟩ := q
  have I1' : Inv X pins σ' H' s1 := I1.unpnd I.ok
  have hT' : ∀ T', T = some T' -> FpOk X pins H' T' := fun T' z => (hT T' z).unpnd
  obtain ⟨M, hsub, hc2, qs⟩ := hh x C d c2 σ' H' qe hx
  subst hc2
  have fr : X.A.frames = some (X.env :: X.outer) := by rw [I.ok.frames, hs]
  have fn : s1.heap.FunFrames X.base (X.env :: X.outer) := by rw [<- hs]; exact I1'.stack
  refine fly_note (base := X.base) fr fn hf t fun h1 T' a w t1 => ?_
  rw [<- hs] at a
  have I2 := I1'.flight hx hT' a t1
  have hT1 : ∀ T2, some T' = some T2 -> FpOk X pins H' T2 := fun T2 z => by
   cases z
   rcases w with z | z
   ·exact hT' T' z
   ·exact I1'.fpOk z (I1'.hok.fresh z)
  refine fly_flight (s := { s1 with heap := h1 }) (fs := frs X.stack) (fr := none) t1 fun h2 a2 t2 => ?_
  have I3 := I2.flight hx hT1 a2 t2
  refine wpAny_handleBy_cons (codeAny_handlers_test ?_) (by intro q; cases q)
  refine ld_glob (X := X.mkd (.ref x)) (I3.mkd _) hg hm ?_ hdb
  obtain ⟨vs, hz, hex, _⟩ := id t2
  refine exc_match hex (x_of_in I3.kIn M.obj) (x_of_in I3.kIn M0) I3.kIn hsub ?_
  refine codeAny_handlers_suite ?_
  refine fly_flight (s := { s1 with heap := h2 }) (fs := frs X.stack) (fr := none) t2 fun h3 a3 t3 => ?_
  have I4 := I3.flight hx hT1 a3 t3
  refine wpAny_passesOwnAt (thr_ownAt (X := X) (E := E) fr hs hf) ?_
  refine wpAny_execs_cons ?_
  rw [arm_exec_Raise]
  simp only [evalOpt, Option.map]
  have hhd : (X.A.mark (some (.ref x))).handled = some (.ref x) := rfl
  refine wpAny_bind (wpAny_standAt (raise_from (old := x) hhd ?_ ?_))
  ·refine wpAny_bind (wpAny_mono (he (.ref x) pins _ σ' H' _ ((I4.mkd _).wish _) qs) (fun v s5 h5 => wpAny_bind (wpAny_standAt (wpAny_pure ?_))) fun _ _ z => False.elim z)
   obtain ⟨u, H1, I5, r, x', C', d', ex', ea, hne, eo, c', q⟩ := h5
   subst ex'
   obtain rfl : v = Value.ref x' := r
   have I5' : Inv X pins σ' H1 s5 := I5.unwish.unmkd I.ok
   obtain ⟨t0, hx'⟩ := I5'.hok.exc ea
   obtain ⟨vo, hzo, hxo⟩ := I5'.hok.excF eo
   refine ⟨x', t0, C', d', bmV, _, vo, rfl, hne, by decide, x_of_in I5'.kIn c'.obj, hx', hxo, rfl, hzo.2, fun h' kk e' => ?_⟩
   have I6 : Inv X pins σ' (upd H1 x' (excF x' C' d' (.ref x))) { s5 with heap := h' } := by
    have mu : Mut (H1 x') := by rw [ea]; exact True.intro
    exact I5'.write (t' := s5.toks) (x := x') (e := x') mu (.inl rfl) kk ⟨_, e'⟩ (ObjOk.excF ⟨rfl, rfl⟩ e')
   exact ⟨x', C', d', none, .ref x, .none, pins, σ', _, rfl, I6, ups, fun T' z => (nomatch z), ⟨_, ⟨rfl, rfl⟩, e', rfl⟩, q⟩
  ·intro s' Q' q'
   exact wpAny_bind (Constant_none (wpAny_bind (wpAny_standAt (wpAny_pure q'))))
theorem thr_ownT (hs : X.stack = X.env :: X.outer) (hf : X.env.frame = some X.env.locals) : PassesOwn (model (X.thr E).prog (X.thr E).w) (X.thr E).A (X.thr E).env (X.thr E).xe := thr_own hs hf
end
end L2
end
section
set_option maxHeartbeats 1000000
namespace L2
open PySem PySem.Spec PyProof.Rows
theorem DefXs.is {P : Program} {w : World} {K : PySem.W.Frag} {mg : Str -> Option Value} {base : Heap} {n : Nat} {x : Str} {ps : List Str} {sp : Sp} (D : DefXs P w K mg base n x ps sp) (h : ∀ vs H Q E, sp vs H Q E -> sp vs H Q E0) : DefIs P w K mg base n x ps sp := by
 obtain ⟨f, fd, F, r⟩ := D.ex
 refine ⟨f, fd, ⟨F.len, fun A outer s H args us vs Q E hr he hb hv hs => codeAny_mono (F.run A outer s H args us vs Q E0 hr he hb hv (h _ _ _ _ hs)) fun r s' q => ?_⟩, r⟩
 cases r with
 | error e =>
  obtain ⟨_, _, _, _, _, _, _, _, _, _, _, _, _, _, _, z⟩ := q
  exact z.elim
 | ok fl => cases fl <;> exact q
end L2
end
section
namespace L2
open PySem PySem.Spec PyProof.Rows
end L2
namespace L2
open PySem PySem.Spec PyProof.Rows
end L2
end
section
namespace L2
open PySem PySem.Spec PyProof.Rows
section
variable {ix : Cap} {tt : TT} {te : TE} {g : TG} {σ : St} {H : Hp} {Q : VK}
def NxtG (Pv : Nat -> List V -> Hp -> Prop) (n i : Nat) (ys : List V) : VK := fun y H2 => ∃ m', m' < n - i /\ m' = n - (i + 1) /\ i + 1 <= n /\ (ys ++ [y]).length <= i + 1 /\ Pv (i + 1) (ys ++ [y]) H2
def NxtN (Pv : Nat -> List V -> Hp -> Prop) (n i : Nat) (ys : List V) : Hp -> Prop := fun H2 => ∃ m', m' < n - i /\ m' = n - (i + 1) /\ i + 1 <= n /\ ys.length <= i + 1 /\ Pv (i + 1) ys H2
theorem nxtG {Pv : Nat -> List V -> Hp -> Prop} {n i : Nat} {ys : List V} {y : V} {H2 : Hp} (hi : i < n) (hl : ys.length <= i) (h : Pv (i + 1) (ys ++ [y]) H2) : NxtG Pv n i ys y H2 :=
 ⟨n - (i + 1), by omega, rfl, hi, by rw [List.length_append, List.length_singleton]; omega, h⟩
theorem comp_tupG {K : PySem.W.Frag} {a : Addr} {xs : List V} (Pv : Nat -> List V -> Hp -> Prop) (h0 : Pv 0 [] H) (hn : xs.length < sizeLine) (hl' : ∀ i ys H, i <= xs.length -> Pv i ys H -> SqT K H a xs)
  (hs : ∀ i x ys H, xs[i]? = some x -> i < xs.length -> ys.length <= i -> Pv i ys H -> g x (capt ix σ) H fun σ2 H2 => Ext (capt ix σ) σ2 /\ tt σ2 H2 fun b H3 => if b = true then te σ2 H3 (NxtG Pv xs.length i ys) else NxtN Pv xs.length i ys H3)
  (hd : ∀ ys H, ys.length <= xs.length -> Pv xs.length ys H -> ∀ D, H D = none -> Q (.ref D) (upd H D (.lst ys))) : CompGo (Itt K a) ix g tt te σ H Q := by
 refine ⟨fun i m ys H => m = xs.length - i /\ i <= xs.length /\ ys.length <= i /\ Pv i ys H, ⟨xs.length, by simp, Nat.zero_le _, Nat.le_refl _, h0⟩, ?_⟩
 rintro i m ys H ⟨rfl, hi, hl, p⟩
 have q := hl' i ys H hi p
 by_cases hlt : i < xs.length
 ·refine .inr ⟨⟨xs, xs[i], q, by simp [hlt]⟩, by omega, fun v H' y => ?_⟩
  obtain ⟨e, y⟩ := y
  subst e
  exact hs i v ys _ (y xs q) hlt hl p
 ·have e : i = xs.length := by omega
  subst e
  exact .inl ⟨⟨xs, q, Nat.le_refl _⟩, hd ys H hl p⟩
theorem comp_listG {K : PySem.W.Frag} {a : Addr} {xs : List V} (Pv : Nat -> List V -> Hp -> Prop) (h0 : Pv 0 [] H) (hn : xs.length < sizeLine) (hl' : ∀ i ys H, i <= xs.length -> Pv i ys H -> SqL K H a xs)
  (hs : ∀ i x ys H, xs[i]? = some x -> i < xs.length -> ys.length <= i -> Pv i ys H -> g x (capt ix σ) H fun σ2 H2 => Ext (capt ix σ) σ2 /\ tt σ2 H2 fun b H3 => if b = true then te σ2 H3 (NxtG Pv xs.length i ys) else NxtN Pv xs.length i ys H3)
  (hd : ∀ ys H, ys.length <= xs.length -> Pv xs.length ys H -> ∀ D, H D = none -> Q (.ref D) (upd H D (.lst ys))) : CompGo (Itl K a) ix g tt te σ H Q := by
 refine ⟨fun i m ys H => m = xs.length - i /\ i <= xs.length /\ ys.length <= i /\ Pv i ys H, ⟨xs.length, by simp, Nat.zero_le _, Nat.le_refl _, h0⟩, ?_⟩
 rintro i m ys H ⟨rfl, hi, hl, p⟩
 have q := hl' i ys H hi p
 by_cases hlt : i < xs.length
 ·refine .inr ⟨⟨xs, xs[i], q, by simp [hlt]⟩, by omega, fun v H' y => ?_⟩
  obtain ⟨e, y⟩ := y
  subst e
  exact hs i v ys _ (y xs q) hlt hl p
 ·have e : i = xs.length := by omega
  subst e
  exact .inl ⟨⟨xs, q, Nat.le_refl _⟩, hd ys H hl p⟩
theorem ext2 {σ : St} {i j : Nat} {v w : Option V} (h : σ[i]? = some none) (k : σ[j]? = some none) : Ext σ ((σ.set i v).set j w) := by
 refine ⟨by simp, fun n w' e => ?_⟩
 have h1 : i ≠ n := fun z => by subst z; rw [h] at e; cases e
 have h2 : j ≠ n := fun z => by subst z; rw [k] at e; cases e
 rw [List.getElem?_set_ne h2, List.getElem?_set_ne h1]
 exact e
theorem ext3 {σ : St} {i j k : Nat} {u v w : Option V} (h : σ[i]? = some none) (h2 : σ[j]? = some none) (h3 : σ[k]? = some none) : Ext σ (((σ.set i u).set j v).set k w) := by
 refine ⟨by simp, fun n w' e => ?_⟩
 have n1 : i ≠ n := fun z => by subst z; rw [h] at e; cases e
 have n2 : j ≠ n := fun z => by subst z; rw [h2] at e; cases e
 have n3 : k ≠ n := fun z => by subst z; rw [h3] at e; cases e
 rw [List.getElem?_set_ne n3, List.getElem?_set_ne n2, List.getElem?_set_ne n1]
 exact e
end
end L2
namespace L2
open PySem PySem.Spec PyProof.Rows
end L2
namespace L2
open PySem PySem.Spec PyProof.Rows
section
variable {X : Cx} {K : PySem.W.Frag}
theorem ix_tupC (h : X.K = K) : IxR X (rIxT K) := by subst h; exact ix_tup
theorem ix_listC (h : X.K = K) : IxR X (rIxL K) := by subst h; exact ix_list
theorem pg_tupC {es : List Expr} {k : Nat} {t : TGs} {n : Nat} {pos : Pos} (hK : X.K = K) (hc : X.calm = true) (h : PGs X es t)
  (hn : (assignEach es X.env).length = n := by rfl) (hst : (assignEach es X.env).findIdx? (·.1) = none := by rfl) : PG X (.Tuple es k pos) (gTup K n t) := by subst hK; exact pg_tup hc h hn hst
end
end L2
end
section
namespace L2
open PySem PySem.Spec PyProof.Rows
def Itr2 (lo : Int) (n : Nat) : It := ⟨fun i _ => i < n, fun i H x H' => H' = H /\ x = .int (lo + (i : Nat) * 2), fun i _ => n <= i⟩
theorem turn_range2 {P : Program} {w : World} {K : PySem.W.Frag} {tg : Expr} (it : Addr) (lo : Int) (n : Nat) : Turn P w K tg (Itr2 lo n) [it] it (fun i h => IsRangeIter h it (lo + (i : Nat) * 2) ((n : Int) - (i : Nat)) 2) where
 mem := by simp
 obj := fun i h st b hb => by
  have e : b = it := by simpa using hb
  subst e
  exact ⟨_, st, fun v z => by
   have z' : Data.fields _ = Data.cell v := z
   cases z'⟩
 keep := fun i h h' st k => k it (by simp) _ st
 item := by
  intro X hP hw hK hc i pins s σ H E I hf st hg
  subst hP hw hK
  obtain ⟨f0, f1, f2, f3, f4, f5⟩ := hf it (by simp)
  have W := Walks.range (prog := X.prog) (w := X.w) (I.ok.hd hc) it lo 2 n
  refine W.item i s _ _ hg st fun v h' tk hv st' kk => ?_
  obtain ⟨t, rfl⟩ := hv
  have I1 : Inv X pins σ H { s with heap := h', toks := tk } := I.turned (fun b o hb e => kk b o (by simpa using hb) e) f0 f1 f3 f4 f5
  exact ⟨_, rfl, go_of (s := { s with heap := h', toks := tk }) (n := "range_iterator") st' rfl rfl (by decide) ⟨.int (lo + (i : Nat) * 2), H, I1, ⟨t, rfl⟩, ⟨rfl, rfl⟩, st', fun b hb => (hf b hb).1⟩⟩
 done := by
  intro X hP hw hK hc i pins s σ H E I hf st hg
  subst hP hw hK
  obtain ⟨f0, f1, f2, f3, f4, f5⟩ := hf it (by simp)
  exact wpAny_pyNext_range_end (I.ok.hd hc) st (by have : n <= i := hg; omega) fun h' eb => ⟨rfl, I.turned (t' := s.toks) (fun b o hb e => eb b o hb e) f0 f1 f3 f4 f5⟩
 self := fun _ _ _ _ _ st h => wpAny_pyIter_rangeiter st h
theorem rangeSize_two (a b : Int) : Builtin.Range.rangeSize a b 2 = if a < b then (b - a - 1) / 2 + 1 else 0 := by
 unfold Builtin.Range.rangeSize
 simp only [show (2 : Int) > 0 by decide, if_true]
section
variable {X : Cx}
theorem range2_it {pins : List (Addr × Obj)} {σ : St} {H : Hp} {s : Shared} {tg : Expr} {R : It -> Hp -> Prop} {E : Value -> Shared -> Prop} {lo hi : Int} {t u v : Tok} {tk : Nat} (I : Inv X pins σ H s) (hs : Builtin.Range.small lo hi 2 = true) (h0 : 0 <= lo) (h1 : lo <= hi)
  (q : R (Itr2 lo ((hi - lo + 1) / 2).toNat) H) : wpAny (model X.prog X.w) X.A (pyIter (.ref s.heap.objs.size)) (PIE X pins σ tg R) E { s with heap := s.heap.push { cls := .type "range", data := .fields #[.int lo t, .int hi u, .int 2 v] }, toks := tk } := by
 refine wpAny_pyIter_range (IsRange.new ..) hs ?_
 have I1 : Inv X pins σ H { s with heap := s.heap.push { cls := .type "range", data := .fields #[.int lo t, .int hi u, .int 2 v] }, toks := tk } := I.kept fun b o e => Heap.get?_push_of_some _ e
 refine ⟨(s.heap.push { cls := .type "range", data := .fields #[.int lo t, .int hi u, .int 2 v] }).objs.size, [(s.heap.push { cls := .type "range", data := .fields #[.int lo t, .int hi u, .int 2 v] }).objs.size], _, _, H, rfl,
  I1.kept (t' := tk) fun b o e => Heap.get?_push_of_some _ e, turn_range2 _ lo ((hi - lo + 1) / 2).toNat, ?_, fun b hb => ?_, q⟩
 ·have e1 : lo + ((0 : Nat) : Int) * 2 = lo := by simp
  have e2 : ((((hi - lo + 1) / 2).toNat : Nat) : Int) - ((0 : Nat) : Int) = Builtin.Range.rangeSize lo hi 2 := by rw [rangeSize_two]; split <;> omega
  show IsRangeIter _ _ (lo + ((0 : Nat) : Int) * 2) (((((hi - lo + 1) / 2).toNat : Nat) : Int) - ((0 : Nat) : Int)) 2
  rw [e1, e2]
  exact Heap.get?_push_size _ rfl
 ·have e : b = (s.heap.push { cls := .type "range", data := .fields #[.int lo t, .int hi u, .int 2 v] }).objs.size := by simpa using hb
  subst e
  exact I1.fpOk (Nat.le_refl _) (I1.hok.fresh (Nat.le_refl _))
def iRng3 (ta : TA) : TI := fun σ H R => ta σ H fun vs H1 => ∃ i j : Int, vs = [.int i, .int j, .int 2] /\ (0 <= i /\ i <= j /\ j < 2 ^ 40) /\ R (Itr2 i ((j - i + 1) / 2).toNat) H1
theorem small_two {i j : Int} (h0 : 0 <= i) (h1 : i <= j) (h2 : j < 2 ^ 40) : Builtin.Range.small i j 2 = true := by
 unfold Builtin.Range.small
 rw [rangeSize_two]
 simp only [Builtin.Range.rangeFitsLong, Bool.and_eq_true, Bool.or_eq_true, decide_eq_true_eq, beq_iff_eq, show (2 : Int) > 0 by decide, if_true]
 split <;> omega
theorem pi_range3 {a b c : Expr} {ta : TA} {p pos : Pos} {tg : Expr} (hg : Gl X "range") (hm : X.mg "range" = none) (ha : PA X [a, b, c] ta) (hs : starEach [a, b, c] X.env = [(false, eval a X.env), (false, eval b X.env), (false, eval c X.env)] := by rfl) (hs2 : starEach [b, c] X.env = [(false, eval b X.env), (false, eval c X.env)] := by rfl) :
  PI X tg (.Call (.Name "range" p) [a, b, c] [] pos) (iRng3 ta) := by
 intro pins s σ H R I h
 refine Call_ (ld_blt I hg hm boot_range (PyProof.Rows.callWith_type1 (thn (ha pos pins s σ H _ I h) fun us s1 ⟨vs, H1, I1, r1, q1⟩ => ?_) (by rw [hs, hs2]) (by rw [hs2]; rfl)))
 obtain ⟨i, j, e, ⟨q1, q2, q3⟩, q⟩ := q1
 subst e
 cases r1 with
 | cons r rr =>
  cases rr with
  | cons r' rr =>
   cases rr with
   | cons r2 rr =>
    cases rr
    obtain ⟨t, rfl⟩ := r
    obtain ⟨t', rfl⟩ := r'
    obtain ⟨t2, rfl⟩ := r2
    exact call_range_3 (by decide) (range2_it I1 (small_two q1 q2 q3) q1 q2 q)
theorem comp_range2 {lo : Int} {n j : Nat} {ix : List (Option Nat)} {σ : St} {H : Hp} {te : TE} {Q : VK} (Pv : Nat -> List V -> Hp -> Prop) (hj : (capt ix σ)[j]? = some none) (h0 : Pv 0 [] H) (hn : n < sizeLine)
  (hs : ∀ i ys H, i < n -> ys.length = i -> Pv i ys H -> te ((capt ix σ).set j (some (.int (lo + (i : Nat) * 2)))) H (Nxt Pv n i ys))
  (hd : ∀ ys H, ys.length = n -> Pv n ys H -> ∀ D, H D = none -> Q (.ref D) (upd H D (.lst ys))) : CompGo (Itr2 lo n) ix (gName j) tYes te σ H Q := by
 refine ⟨fun i m ys H => m = n - i /\ i <= n /\ ys.length = i /\ Pv i ys H, ⟨n, by simp, Nat.zero_le _, rfl, h0⟩, ?_⟩
 rintro i m ys H ⟨rfl, hi, hl, p⟩
 by_cases hlt : i < n
 ·refine .inr ⟨hlt, by omega, fun x H' y => ?_⟩
  obtain ⟨e, y⟩ := y
  subst e y
  refine ⟨ext_set hj, ?_⟩
  unfold tYes
  dsimp only
  rw [if_pos rfl]
  exact hs i ys _ hlt hl p
 ·have e : i = n := by omega
  subst e
  exact .inl ⟨Nat.le_refl _, hd ys H hl p⟩
theorem extend_tup (l : Addr) (items : Array Value) (n : Nat) (b : Addr) (items2 : Array Value) (n2 : Nat) (dd : Option Addr) (sl : Array (Option Value)) (hs0 : ¬(!items.isEmpty && Builtin.List.listTooLong (items.size + items2.size)) = true) (hs1 : items.size <= sizeLine) (hs2 : items.size + items2.size <= sizeLine + 1) :
  Meets (Builtin.«list.extend» ⟨[.ref l, .ref b], []⟩) (fun _ R s => s.heap.get? l = some { cls := .type "list", dict := none, data := .seq items n, slots := #[] } /\ s.heap.get? b = some { cls := .type "tuple", dict := dd, data := .seq items2 n2, slots := sl } /\ R (.ok (.ret Value.none)) { s with heap := s.heap.update l (Obj.mapSeq fun x => x ++ items2), toks := s.toks }) :=
 .of_wp fun prog w A R s h => by
  obtain ⟨hp, g, d, tk, os⟩ := s; obtain ⟨hl, hb, h⟩ := h; have f1 := AutoSeq1.idx_int; have f2 := AutoSeq1.sub_tuple_tuple; have f3 := AutoSeq1.sub_list_list; have f4 := AutoSeq1.sub_tuple_list; have f5 := AutoSeq1.sub_list_tuple;
  have hz' : (items ++ items2).size <= sizeLine + 1 := by rw [Array.size_append]; exact hs2
  wp_walk using (wpAny_updateSeq hl rfl (hz := hs1) (_hz' := hz')), AutoSeq1.wpAny_loadPart' hl, AutoSeq1.wpAny_loadPart' hb; exact ⟨_, rfl, h⟩
def rExtendT (K : PySem.W.Frag) : V -> List V -> Hp -> VK -> Prop := fun x vs H Q => ∃ l b xs zs, x = .ref l /\ vs = [.ref b] /\ H l = some (.lst xs) /\ SqT K H b zs /\ xs.length + zs.length <= sizeLine /\ Q .non (upd H l (.lst (xs ++ zs)))
theorem mt_extendT : MtM X "list.extend" (rExtendT X.K) := by
 intro pins s σ H x vs v us Q I rx rv h
 obtain ⟨l, b, xs, zs, rfl, rfl, hH, hB, hz, q⟩ := h
 cases rx
 obtain ⟨u, rfl, ru⟩ := rv.one
 cases ru
 obtain ⟨z, its, n, r, hl, e⟩ := I.lstM hH
 obtain ⟨its2, r2, p2, hz2⟩ := I.tuple hB
 obtain ⟨⟨cls, dd, data, sl⟩, ho, hc, n2, hd⟩ := id p2
 simp only at hc hd
 subst hc hd
 have l1 := r.length
 have l2 := r2.length
 have hsz : its.toArray.size + its2.toArray.size <= sizeLine := by rw [List.size_toArray, List.size_toArray]; omega
 have hlong : ¬ (!its.toArray.isEmpty && Builtin.List.listTooLong (its.toArray.size + its2.toArray.size)) = true := by
  rw [notLongL hsz, Bool.and_false]
  exact Bool.false_ne_true
 refine call_meets F.slot_list_extend ⟨_, e, rfl⟩ F.entry_list_extend (F.args_list_extend_2 _ _) (extend_tup l its.toArray n b its2.toArray n2 dd sl hlong (by rw [List.size_toArray]; omega) (by omega)) ⟨e, ho, ?_⟩
 refine ⟨.non, _, I.lset (its' := its ++ its2) hH e (by simp) (r.append r2) ?_, rfl, q⟩
 rw [List.length_append]
 omega
def rJoinT (K : PySem.W.Frag) : V -> List V -> Hp -> VK -> Prop := fun x vs H Q => ∃ (sep : Str) (p : Addr) (ys : List Str), x = .str sep /\ vs = [.ref p] /\ SqT K H p (ys.map V.str) /\ (ys.map (·.length)).sum + ys.length * sep.length <= 16777216 /\ Q (.str (Txt.join sep ys)) H
theorem mt_joinT : MtR X "str.join" (rJoinT X.K) := by
 intro pins s σ H x vs v us Q I rx rv h
 obtain ⟨sep, p, ys, rfl, rfl, hq, hz, q⟩ := h
 obtain ⟨t, rfl⟩ := rx
 obtain ⟨u, rfl, ru⟩ := rv.one
 cases ru
 obtain ⟨its, r, pl, _⟩ := I.tuple hq
 exact join_tuple pl (by simpa using strsAre_of r) hz fun t' k => ⟨.str _, H, I.tok k, ⟨t', rfl⟩, q⟩
end
section
variable {X : Cx} {K : PySem.W.Frag} {T : String} {name : Str} {id : String} {r : V -> List V -> Hp -> VK -> Prop} {o e : Expr} {es : List Expr} {to : TE} {t : TA} {apos cpos : Pos}
theorem pe_bmK (hK : X.K = K) (pa : PlainAttrs T) (slot : Slot T name id) (hty : typeOf (.builtin id) = pure (.type "method_descriptor")) (hm : MtR X id r) (ho : PE X o to) (ha : PA X (e :: es) t)
  (hbase : attributeBase o name X.env (eval o X.env) = eval o X.env := by rfl)
  (hfew : ((backTo cpos (starEach (e :: es) X.env)).all (fun x => !x.1) && (backToKw cpos (keywordEach [] X.env)).all (fun x => x.1.isSome)
   && decide ((e :: es).length + ([] : List Keyword).length + (if ([] : List Keyword).isEmpty then 0 else 1) < 30)) = true := by rfl)
  (hline : (apos.endLine == cpos.line) = true := by rfl) (hs : starEach (e :: es) X.env = (false, eval e X.env) :: starEach es X.env := by rfl) (hplain : (backTo cpos (starEach es X.env)).any (·.1) = false := by rfl) :
  PE X (.Call (.Attribute o name apos) (e :: es) [] cpos) (tBM K T r to t) := by
 subst hK
 exact pe_bm pa slot hty hm ho ha hbase hfew hline hs hplain
end
theorem mt_joinC {X : Cx} {K : PySem.W.Frag} (hK : X.K = K) : MtR X "str.join" (rJoin K) := by subst hK; exact mt_join
open PySem.W in
def xTableA (K : Frag) : Bool :=
 xclIn K (cAt K 0) && (readsIn K (ad K "SwapError") (.type "type") && (specialIn K (.ref (ad K "SwapError")) "__getattribute__" == some (some (.builtin "type.__getattribute__")) &&
 ((match findCls K (.ref (ad K "SwapError")) (.type "type") "__init__" with | some (.val v) => v == .builtin "ValueError.__init__" | _ => false) &&
 (findIn K (.ref (cAt K 0)) "at" == some none))))
structure XTabA (K : PySem.W.Frag) : Prop where
 cl : ∀ i, i < 1 -> XCl K (cAt K i)
 sup : XSup K (ad K "SwapError")
 na : NoAttr K (cAt K 0) "at"
theorem xtabA_of {K : PySem.W.Frag} (e : xTableA K = true) : XTabA K := by
 unfold xTableA at e
 simp only [Bool.and_eq_true, beq_iff_eq] at e
 obtain ⟨e1, e5, e6, e7, e9⟩ := e
 refine ⟨fun i h => ?_, ⟨e5, e6, ?_⟩, e9⟩
 ·obtain rfl : i = 0 := by omega
  exact xcl_of e1
 split at e7
 ·rename_i v q
  rw [q, beq_iff_eq.mp e7]
 ·cases e7
end L2
end
section
namespace L2
open PySem PySem.Spec PyProof.Rows
open PySem.W in
def dTable (K : Frag) (x : Str) (fs : List Str) : Bool :=
 plainGet K (ad K x) Str.empty && (hasDictIn K (ad K x) && (plainOver K (ad K x) && (findIn K (.ref (ad K x)) "__setattr__" == some (some (.builtin "object.__setattr__")) && (makesIn K (ad K x) && (keepIn K (.ref (ad K x)) &&
 fs.all fun f => findIn K (.ref (ad K x)) f == some none)))))
structure DTab (K : PySem.W.Frag) (x : Str) (fs : List Str) : Prop where
 cl : Cls K (ad K x)
 ms : PySem.W.makesIn K (ad K x) = true
 kp : PySem.W.keepIn K (.ref (ad K x)) = true
 no : ∀ f ∈ fs, NoAttr K (ad K x) f
theorem dtab_of {K : PySem.W.Frag} {x : Str} {fs : List Str} (e : dTable K x fs = true) : DTab K x fs := by
 unfold dTable at e
 simp only [Bool.and_eq_true, List.all_eq_true, beq_iff_eq] at e
 obtain ⟨e1, e2, e3, e4, e5, e6, e7⟩ := e
 exact ⟨⟨e1, e2, e3, e4⟩, e5, e6, e7⟩
section
variable {X : Cx} {n : Nat} {x : Str} {ps : List Str} {sp : Sp} {p pos : Pos} {fs : List Str}
theorem pe_dmake (D : InitIs X.prog X.w X.K X.mg X.base n (ad X.K x) ps sp) (M : DTab X.K x fs) (hr : Room (n + 1) X.A) (hm : X.mg x = some (.ref (ad X.K x))) (hg : Gl X x := by rfl) (hdb : (x == ("__debug__" : Str)) = false := by decide) :
  PE X (.Call (.Name x p) [] [] pos) (tMake (ad X.K x) sp [] E0 tNil) := by
 obtain ⟨f, fd, i, nn, F, b⟩ := D.ex
 exact pe_make0 ⟨M.ms, i, nn, M.kp⟩ F hr hg hm b .nil pass0 hdb
end
end L2
end
section
namespace Zt
open PySem PySem.Spec PyProof.Rows
end Zt
namespace L2
open PySem PySem.Spec PyProof.Rows
end L2
end
section
namespace M
open PySem L2
structure Kn where
 name : Str
 rc : Bool
 parts : List (Str × Str)
def Kn.sort (k : Kn) : Str := if k.rc = true then S "rec" else S "alt"
def dPart (p : Str × Str) : D := .tup [.str p.1, .str p.2]
def dParts (ps : List (Str × Str)) : D := .tup (ps.map dPart)
def Kn.d (k : Kn) : D := .tup [.str k.name, .str k.sort, dParts k.parts]
def dKinds (ks : List Kn) : D := .tup (ks.map Kn.d)
end M
end
section
namespace St
open PySem PySem.Spec PyProof.Rows
end St
end
section
namespace St
open PySem PySem.Spec PyProof.Rows
end St
namespace L2
open PySem PySem.Spec PyProof.Rows
end L2
end
section
namespace M
open PySem L2
end M
end
section
namespace M
open PySem L2
end M
namespace L2
open PySem PySem.Spec PyProof.Rows
end L2
end
section
namespace M
open PySem L2
end M
namespace L2
open PySem PySem.Spec PyProof.Rows
end L2
namespace L2
theorem yes_go {σ : St} {H : Hp} {A B : Hp -> Prop} (h : A H) : tYes σ H (fun b H3 => if b = true then A H3 else B H3) := by
 unfold tYes
 show if true = true then A H else B H
 rw [if_pos rfl]
 exact h
end L2
namespace M
open PySem L2
theorem lst_tups {H : Hp} {p : Addr} {us : List V} (h : H p = some (.lst us)) (o : HO) : ∀ b vs, H b = some (.tup vs) -> upd H p o b = some (.tup vs) := fun b vs hb => by
 rw [upd_ne fun e => by rw [e, h] at hb; cases hb]
 exact hb
end M
namespace M
open PySem L2
end M
end
section
namespace M
open PySem L2
end M
end
section
namespace M
open PySem L2
end M
end
section
namespace L2
open PySem PySem.Spec PyProof.Rows
end L2
end
section
namespace Rv
open PySem PySem.Spec PyProof.Rows PySem.W
end Rv
namespace L2
open PySem PySem.Spec PyProof.Rows
end L2
end
section
namespace St
open PySem PySem.Spec PyProof.Rows
end St
namespace L2
open PySem PySem.Spec PyProof.Rows
end L2
end
section
namespace M
open PySem L2
end M
end
section
namespace M
open PySem L2
end M
end
section
namespace M
open PySem L2
end M
end
section
namespace M
open PySem L2
end M
end
section
namespace Nt
open PySem
end Nt
end
section
namespace L2
open PySem PySem.Spec PyProof.Rows
end L2
end
section
namespace L2
open PySem PySem.Spec PyProof.Rows M
end L2
end
section
namespace L2
open PySem PySem.Spec PyProof.Rows M
end L2
namespace HT
open PySem PySem.Spec PyProof.Rows L2
end HT
namespace L2
open PySem PySem.Spec PyProof.Rows M
end L2
end
section
namespace PySem
open Sem (wp)
end PySem
namespace L2
open PySem PySem.Spec PyProof.Rows
end L2
namespace L2
open PySem PySem.Spec PyProof.Rows
end L2
namespace L2
open PySem PySem.Spec PyProof.Rows
end L2
end
section
namespace L2
open PySem PySem.Spec PySem.W PyProof.Rows M
end L2
end
section
namespace M
open PySem L2
end M
end
section
namespace L2
open PySem PySem.Spec PyProof.Rows M
section
variable {X : Cx}
def rEqE (K : PySem.W.Frag) : R2 := fun x y H Q => ∃ a b xs, x = .ref a /\ y = .ref b /\ SqL K H a xs /\ SqL K H b [] /\ Q (.bl xs.isEmpty) H
theorem op_eqE (hu : X.A.units < cLine) : OpR X (compareOp .Eq) (rEqE X.K) := by
 intro pins s σ H x y v u Q I rx ry h
 obtain ⟨a, b, xs, rfl, rfl, ha, hb, q⟩ := h
 cases rx
 cases ry
 obtain ⟨its, r1, p1, _⟩ := I.list ha
 obtain ⟨its2, r2, p2, _⟩ := I.list hb
 have l1 := r1.length
 have l2 := r2.length
 cases xs with
 | nil =>
  refine SeqAt.eq_listAt (e := fun _ => true) p1.isList p2.isList (by simp only [List.size_toArray]; omega) hu (fun j h1 h2 => ?_) ⟨.bl _, H, I, rfl, ?_⟩
  ·simp only [List.size_toArray] at h1
   simp at l1
   omega
  ·have : its = [] := List.eq_nil_of_length_eq_zero (by simpa using l1.symm)
   subst this
   exact q
 | cons x xs =>
  refine PySem.EqBoolInt.of_rc (SeqAt.RcAt.lists_lengths p1.isList p2.isList (by simp only [List.size_toArray]; simp at l1 l2 ⊢; omega) hu) ⟨.bl _, H, I, rfl, ?_⟩
  simpa using q
end
end L2
end
section
namespace St
open PySem PySem.Spec PyProof.Rows
end St
namespace L2
open PySem PySem.Spec PyProof.Rows
end L2
namespace L2
open PySem PySem.Spec PyProof.Rows
end L2
end
section
namespace K4
open PySem L2 M
seal L2.PE L2.PA L2.PS L2.PSs L2.PT L2.PW L2.PI L2.PG L2.PJ L2.PTs
def top (i : Nat) : Stmt := PySem.Challenge.pw_swapstride_k04_whole_makes_written_and_r.main.body.getD i (.Pass ⟨0, 0, 0, 0⟩)
abbrev s_is_name : Stmt := top 9
theorem sc_is_name : FnScope ["text"] ["text"] (defScope s_is_name) := by walk_at "q"
abbrev s_is_number : Stmt := top 10
theorem sc_is_number : FnScope ["text"] ["text"] (defScope s_is_number) := by walk_at "q"
abbrev s_is_kind : Stmt := top 11
theorem sc_is_kind : FnScope ["text"] ["text"] (defScope s_is_kind) := by walk_at "q"
abbrev s_is_made_of : Stmt := top 12
theorem sc_is_made_of : FnScope ["text", "signs", "most"] ["text", "signs", "most"] (defScope s_is_made_of) := by walk_at "q"
abbrev s_term_text : Stmt := top 17
theorem sc_term_text : FnScope ["term"] ["term"] (defScope s_term_text) := by walk_at "q"
abbrev s_bracketed : Stmt := top 18
theorem sc_bracketed : FnScope ["texts", "inside"] ["texts"] (defScope s_bracketed) := by walk_at "q"
abbrev s_inner_texts : Stmt := top 19
theorem sc_inner_texts : FnScope ["term", "head"] ["term"] (defScope s_inner_texts) := by walk_at "q"
abbrev s_term_texts : Stmt := top 20
theorem sc_term_texts : FnScope ["terms"] ["terms"] (defScope s_term_texts) := by walk_at "q"
abbrev s_arm_text : Stmt := top 21
theorem sc_arm_text : FnScope ["arm"] ["arm"] (defScope s_arm_text) := by walk_at "q"
abbrev s_term_of : Stmt := top 22
theorem sc_term_of : FnScope ["text"] ["text"] (defScope s_term_of) := by walk_at "q"
abbrev s_term_with : Stmt := top 23
theorem sc_term_with : FnScope ["text", "more", "trees"] ["text", "more"] (defScope s_term_with) := by walk_at "q"
abbrev s_need : Stmt := top 24
theorem sc_need : FnScope ["holds"] ["holds"] (defScope s_need) := by walk_at "q"
abbrev s_trees_of : Stmt := top 25
theorem sc_trees_of : FnScope ["text", "pile", "word"] ["text"] (defScope s_trees_of) := by walk_at "q"
abbrev s_put_word : Stmt := top 26
theorem sc_put_word : FnScope ["pile", "word", "core", "closed"] ["pile", "word"] (defScope s_put_word) := by walk_at "q"
abbrev s_close_brackets : Stmt := top 27
theorem sc_close_brackets : FnScope ["pile", "many", "inner"] ["pile", "many"] (defScope s_close_brackets) := by walk_at "q"
abbrev s_term_from : Stmt := top 28
theorem sc_term_from : FnScope ["tree", "more", "head"] ["tree", "more"] (defScope s_term_from) := by walk_at "q"
abbrev s_terms_from : Stmt := top 29
theorem sc_terms_from : FnScope ["trees", "more"] ["trees", "more"] (defScope s_terms_from) := by walk_at "q"
abbrev s_leaf_from : Stmt := top 30
theorem sc_leaf_from : FnScope ["word", "more"] ["word", "more"] (defScope s_leaf_from) := by walk_at "q"
abbrev s_name_from : Stmt := top 31
theorem sc_name_from : FnScope ["tree"] ["tree"] (defScope s_name_from) := by walk_at "q"
abbrev s_arm_from : Stmt := top 32
theorem sc_arm_from : FnScope ["tree", "more"] ["tree", "more"] (defScope s_arm_from) := by walk_at "q"
abbrev s_shown : Stmt := top 34
theorem sc_shown : FnScope ["make", "rows", "hand"] ["make"] (defScope s_shown) := by walk_at "q"
abbrev s_kind_text : Stmt := top 35
theorem sc_kind_text : FnScope ["kind", "words", "part"] ["kind"] (defScope s_kind_text) := by walk_at "q"
abbrev s_channel_text : Stmt := top 36
theorem sc_channel_text : FnScope ["channel"] ["channel"] (defScope s_channel_text) := by walk_at "q"
abbrev s_hand_texts : Stmt := top 37
theorem sc_hand_texts : FnScope ["hand", "boxes"] ["hand"] (defScope s_hand_texts) := by walk_at "q"
abbrev s_row_text : Stmt := top 38
theorem sc_row_text : FnScope ["row"] ["row"] (defScope s_row_text) := by walk_at "q"
abbrev s_word_text : Stmt := top 39
theorem sc_word_text : FnScope ["word"] ["word"] (defScope s_word_text) := by walk_at "q"
abbrev s_read : Stmt := top 43
theorem sc_read : FnScope ["text", "draft", "at", "row"] ["text"] (defScope s_read) := by walk_at "q"
abbrev s_rows_in : Stmt := top 44
theorem sc_rows_in : FnScope ["text"] ["text"] (defScope s_rows_in) := by walk_at "q"
abbrev s_made : Stmt := top 45
theorem sc_made : FnScope ["draft", "hands"] ["draft"] (defScope s_made) := by walk_at "q"
abbrev s_put_row : Stmt := top 46
theorem sc_put_row : FnScope ["draft", "words", "head"] ["draft", "words"] (defScope s_put_row) := by walk_at "q"
abbrev s_put_in_hand : Stmt := top 47
theorem sc_put_in_hand : FnScope ["hand", "words", "boxes", "rows"] ["hand", "words"] (defScope s_put_in_hand) := by walk_at "q"
abbrev s_kind_row : Stmt := top 48
theorem sc_kind_row : FnScope ["words", "fewest", "parts"] ["words"] (defScope s_kind_row) := by walk_at "q"
abbrev s_channel_row : Stmt := top 49
theorem sc_channel_row : FnScope ["words"] ["words"] (defScope s_channel_row) := by walk_at "q"
abbrev s_hand_row : Stmt := top 50
theorem sc_hand_row : FnScope ["words", "head"] ["words"] (defScope s_hand_row) := by walk_at "q"
abbrev s_term_in : Stmt := top 51
theorem sc_term_in : FnScope ["words"] ["words"] (defScope s_term_in) := by walk_at "q"
abbrev s_number_from : Stmt := top 52
theorem sc_number_from : FnScope ["word"] ["word"] (defScope s_number_from) := by walk_at "q"
abbrev s_kind_from : Stmt := top 53
theorem sc_kind_from : FnScope ["word"] ["word"] (defScope s_kind_from) := by walk_at "q"
abbrev sl_feed : Stmt := top 55
theorem scl_feed : FnScope ["_law_script", "_law_k", "_law_cell"] ["_law_script", "_law_k"] (defScope sl_feed) := by walk_at "q"
abbrev sl_take : Stmt := top 56
theorem scl_take : FnScope ["_law_feed_here", "_law_many", "_law_digit", "_law_one"] ["_law_feed_here", "_law_many"] (defScope sl_take) := by walk_at "q"
abbrev sl_name : Stmt := top 57
theorem scl_name : FnScope ["_law_feed_here", "_law_letters", "_law_some_here", "_law_name_here"] ["_law_feed_here"] (defScope sl_name) := by walk_at "q"
abbrev sl_whole : Stmt := top 58
theorem scl_whole : FnScope ["_law_feed_here", "_law_form"] ["_law_feed_here"] (defScope sl_whole) := by walk_at "q"
abbrev sl_some : Stmt := top 59
theorem scl_some : FnScope ["_law_feed_here", "_law_pool"] ["_law_feed_here", "_law_pool"] (defScope sl_some) := by walk_at "q"
abbrev sl_leaf : Stmt := top 60
theorem scl_leaf : FnScope ["_law_feed_here", "_law_pool"] ["_law_feed_here", "_law_pool"] (defScope sl_leaf) := by walk_at "q"
abbrev sl_term : Stmt := top 61
theorem scl_term : FnScope ["_law_feed_here", "_law_pool", "_law_room_here", "_law_deep", "_law_form", "_law_many", "_law_some_here", "_law_arms"] ["_law_feed_here", "_law_pool", "_law_room_here", "_law_deep"] (defScope sl_term) := by walk_at "q"
abbrev sl_text : Stmt := top 62
theorem scl_text : FnScope ["_law_term_here", "_law_word", "_law_words", "_law_t", "_law_x", "_law_one"] ["_law_term_here"] (defScope sl_text) := by walk_at "q"
abbrev sl_parts : Stmt := top 63
theorem scl_parts : FnScope ["_law_feed_here", "_law_pool", "_law_least", "_law_many"] ["_law_feed_here", "_law_pool", "_law_least"] (defScope sl_parts) := by walk_at "q"
abbrev sl_kinds : Stmt := top 64
theorem scl_kinds : FnScope ["_law_feed_here", "_law_pool", "_law_found", "_law_k", "_law_sort"] ["_law_feed_here", "_law_pool"] (defScope sl_kinds) := by walk_at "q"
abbrev sl_channels : Stmt := top 65
theorem scl_channels : FnScope ["_law_feed_here", "_law_pool", "_law_found", "_law_k", "_law_ends"] ["_law_feed_here", "_law_pool"] (defScope sl_channels) := by walk_at "q"
abbrev sl_room : Stmt := top 66
theorem scl_room : FnScope ["_law_feed_here", "_law_left", "_law_room_here"] ["_law_feed_here", "_law_left"] (defScope sl_room) := by walk_at "q"
abbrev sl_row : Stmt := top 67
theorem scl_row : FnScope ["_law_feed_here", "_law_pool", "_law_left", "_law_form", "_law_term_here"] ["_law_feed_here", "_law_pool", "_law_left"] (defScope sl_row) := by walk_at "q"
abbrev sl_hand : Stmt := top 68
theorem scl_hand : FnScope ["_law_feed_here", "_law_pool", "_law_left", "_law_boxes", "_law_many"] ["_law_feed_here", "_law_pool", "_law_left"] (defScope sl_hand) := by walk_at "q"
abbrev sl_make : Stmt := top 69
theorem scl_make : FnScope ["_law_script", "_law_at", "_law_pool", "_law_feed_here", "_law_kinds_here", "_law_channels_here", "_law_left", "_law_many"] ["_law_script", "_law_at", "_law_pool"] (defScope sl_make) := by walk_at "q"
abbrev sl_row_line : Stmt := top 70
theorem scl_row_line : FnScope ["_law_row_here"] ["_law_row_here"] (defScope sl_row_line) := by walk_at "q"
abbrev sl_lines : Stmt := top 71
theorem scl_lines : FnScope ["_law_make_here", "_law_lines_here", "_law_name_here", "_law_sort", "_law_parts_here", "_law_channel", "_law_boxes", "_law_rows"] ["_law_make_here"] (defScope sl_lines) := by walk_at "q"
abbrev sl_alike : Stmt := top 72
theorem scl_alike : FnScope ["_law_found", "_law_due", "_law_left", "_law_one", "_law_other"] ["_law_found", "_law_due"] (defScope sl_alike) := by walk_at "q"
abbrev s_law : Stmt := top 73
theorem sc_law : FnScope ["_law_script", "_law_names", "_law_pool", "_law_one", "_law_other", "_law_make_here", "_law_text_here"] ["_law_script"] (defScope s_law) := by walk_at "q"
abbrev s_init : Stmt := clsDef (top 2) 0
theorem sc_init : FnScope ["self", "at"] ["self", "at"] (defScope s_init) := by walk_at "q"
abbrev s_dinit : Stmt := clsDef (top 42) 0
theorem sc_dinit : FnScope ["self"] ["self"] (defScope s_dinit) := by walk_at "q"
structure Tx (K : PySem.W.Frag) (mg : Str -> Option Value) : Prop where
 d_is_name : DefTx K mg "is_name" s_is_name ["text"]
 d_is_number : DefTx K mg "is_number" s_is_number ["text"]
 d_is_kind : DefTx K mg "is_kind" s_is_kind ["text"]
 d_is_made_of : DefTx K mg "is_made_of" s_is_made_of ["text", "signs", "most"]
 d_term_text : DefTx K mg "term_text" s_term_text ["term"]
 d_bracketed : DefTx K mg "bracketed" s_bracketed ["texts"]
 d_inner_texts : DefTx K mg "inner_texts" s_inner_texts ["term"]
 d_term_texts : DefTx K mg "term_texts" s_term_texts ["terms"]
 d_arm_text : DefTx K mg "arm_text" s_arm_text ["arm"]
 d_term_of : DefTx K mg "term_of" s_term_of ["text"]
 d_term_with : DefTx K mg "term_with" s_term_with ["text", "more"]
 d_need : DefTx K mg "need" s_need ["holds"]
 d_trees_of : DefTx K mg "trees_of" s_trees_of ["text"]
 d_put_word : DefTx K mg "put_word" s_put_word ["pile", "word"]
 d_close_brackets : DefTx K mg "close_brackets" s_close_brackets ["pile", "many"]
 d_term_from : DefTx K mg "term_from" s_term_from ["tree", "more"]
 d_terms_from : DefTx K mg "terms_from" s_terms_from ["trees", "more"]
 d_leaf_from : DefTx K mg "leaf_from" s_leaf_from ["word", "more"]
 d_name_from : DefTx K mg "name_from" s_name_from ["tree"]
 d_arm_from : DefTx K mg "arm_from" s_arm_from ["tree", "more"]
 d_shown : DefTx K mg "shown" s_shown ["make"]
 d_kind_text : DefTx K mg "kind_text" s_kind_text ["kind"]
 d_channel_text : DefTx K mg "channel_text" s_channel_text ["channel"]
 d_hand_texts : DefTx K mg "hand_texts" s_hand_texts ["hand"]
 d_row_text : DefTx K mg "row_text" s_row_text ["row"]
 d_word_text : DefTx K mg "word_text" s_word_text ["word"]
 d_read : DefTx K mg "read" s_read ["text"]
 d_rows_in : DefTx K mg "rows_in" s_rows_in ["text"]
 d_made : DefTx K mg "made" s_made ["draft"]
 d_put_row : DefTx K mg "put_row" s_put_row ["draft", "words"]
 d_put_in_hand : DefTx K mg "put_in_hand" s_put_in_hand ["hand", "words"]
 d_kind_row : DefTx K mg "kind_row" s_kind_row ["words"]
 d_channel_row : DefTx K mg "channel_row" s_channel_row ["words"]
 d_hand_row : DefTx K mg "hand_row" s_hand_row ["words"]
 d_term_in : DefTx K mg "term_in" s_term_in ["words"]
 d_number_from : DefTx K mg "number_from" s_number_from ["word"]
 d_kind_from : DefTx K mg "kind_from" s_kind_from ["word"]
 dl_feed : DefTx K mg "_law_feed" sl_feed ["_law_script", "_law_k"]
 dl_take : DefTx K mg "_law_take" sl_take ["_law_feed_here", "_law_many"]
 dl_name : DefTx K mg "_law_name" sl_name ["_law_feed_here"]
 dl_whole : DefTx K mg "_law_whole" sl_whole ["_law_feed_here"]
 dl_some : DefTx K mg "_law_some" sl_some ["_law_feed_here", "_law_pool"]
 dl_leaf : DefTx K mg "_law_leaf" sl_leaf ["_law_feed_here", "_law_pool"]
 dl_term : DefTx K mg "_law_term" sl_term ["_law_feed_here", "_law_pool", "_law_room_here", "_law_deep"]
 dl_text : DefTx K mg "_law_text" sl_text ["_law_term_here"]
 dl_parts : DefTx K mg "_law_parts" sl_parts ["_law_feed_here", "_law_pool", "_law_least"]
 dl_kinds : DefTx K mg "_law_kinds" sl_kinds ["_law_feed_here", "_law_pool"]
 dl_channels : DefTx K mg "_law_channels" sl_channels ["_law_feed_here", "_law_pool"]
 dl_room : DefTx K mg "_law_room" sl_room ["_law_feed_here", "_law_left"]
 dl_row : DefTx K mg "_law_row" sl_row ["_law_feed_here", "_law_pool", "_law_left"]
 dl_hand : DefTx K mg "_law_hand" sl_hand ["_law_feed_here", "_law_pool", "_law_left"]
 dl_make : DefTx K mg "_law_make" sl_make ["_law_script", "_law_at", "_law_pool"]
 dl_row_line : DefTx K mg "_law_row_line" sl_row_line ["_law_row_here"]
 dl_lines : DefTx K mg "_law_lines" sl_lines ["_law_make_here"]
 dl_alike : DefTx K mg "_law_alike" sl_alike ["_law_found", "_law_due"]
 d_law : DefTx K mg "law" s_law ["_law_script"]
 g_LONGEST_NAME : ∃ t, mg "LONGEST_NAME" = some (.int 6 t)
 g_LONGEST_NUMBER : ∃ t, mg "LONGEST_NUMBER" = some (.int 10 t)
 g_DEEPEST : ∃ t, mg "DEEPEST" = some (.int 20 t)
 g_MOST_ARMS : ∃ t, mg "MOST_ARMS" = some (.int 4 t)
 g_MOST_PARTS : ∃ t, mg "MOST_PARTS" = some (.int 4 t)
 g_LETTERS : ∃ t, mg "LETTERS" = some (.str (Str.ofString "abcdefghijklmnopqrstuvwxyz") t)
 g_FIGURES : ∃ t, mg "FIGURES" = some (.str (Str.ofString "0123456789") t)
 g_NO_NAMES : ∃ a, mg "NO_NAMES" = some (.ref a) /\ ∀ H, SqT K H a [.str (Str.ofString "num"), .str (Str.ofString "it")]
 g_OPS : ∃ a, mg "OPS" = some (.ref a) /\ ∀ H, SqT K H a [.str (Str.ofString "+"), .str (Str.ofString "-"), .str (Str.ofString "*"), .str (Str.ofString "<"), .str (Str.ofString "=")]
 z_all : mg "all" = none
 z_bool : mg "bool" = none
 z_enumerate : mg "enumerate" = none
 z_int : mg "int" = none
 z_isinstance : mg "isinstance" = none
 z_len : mg "len" = none
 z_list : mg "list" = none
 z_max : mg "max" = none
 z_min : mg "min" = none
 z_range : mg "range" = none
 z_str : mg "str" = none
 z_tuple : mg "tuple" = none
 z_zip : mg "zip" = none
 c_BadText : mg "BadText" = some (.ref (cAt K 0))
 c_SwapError : mg "SwapError" = some (.ref (ad K "SwapError"))
 c_Draft : mg "Draft" = some (.ref (ad K "Draft"))
 dt : DTab K "Draft" ["kinds", "channels", "hands"]
 di : InitTx K "Draft.__init__" (ad K "Draft") s_dinit ["self"]
 xt : XTabA K
 it : InitTx K "BadText.__init__" (cAt K 0) s_init ["self", "at"]
def spMade : Sp := fun vs H Q _ => ∃ (x y : Str) (m : Int), vs = [.str x, .str y, .int m] /\ x.length <= 3000000 /\ ∀ H', Same H H' -> Q (.bl (madeOf x y m)) H'
def spName : Sp := fun vs H Q _ => ∃ x : Str, vs = [.str x] /\ x.length <= 3000000 /\ ∀ H', Same H H' -> Q (.bl (nameL (L x))) H'
def spNumber : Sp := fun vs H Q _ => ∃ x : Str, vs = [.str x] /\ x.length <= 3000000 /\ ∀ H', Same H H' -> Q (.bl (numL (L x))) H'
theorem fits {n : Nat} (h : n <= 4000000) : n <= sizeLine := Nat.le_trans h (by decide)
theorem fitsLt {n : Nat} (h : n <= 4000000) : n < sizeLine := Nat.lt_of_le_of_lt h (by decide)
section
variable {P : Program} {w : World} {K : PySem.W.Frag} {mg : Str -> Option Value} {base : Heap} {n : Nat}
theorem ok_is_made_of (T : Tx K mg) : DefIs P w K mg base (n + 1) "is_made_of" ["text", "signs", "most"] spMade := by
 refine DefIs.of T.d_is_made_of sc_is_made_of (fun vs H Q E h => ?_) (fun f cdv A outer s H vs Q E hr h => ?_)
 ·obtain ⟨x, y, m, rfl, _⟩ := h
  rfl
 obtain ⟨x, y, m, rfl, hx, k⟩ := h
 have nd := sc_is_made_of.nd
 have hu := hu_of hr
 refine ⟨_, (zpo (ps_ret (pe_and (pe_chain op_le op_le pe_int (pe_callB call_len_str rfl T.z_len PySem.boot_len (zpc (pv 0) pa_nil zsn)) (pv 2)) (pe_one (pe_callB (call_all rfl) rfl T.z_all PyProof.Rows.boot_all (zpc (pe_comp ["sign", "signs"] [none, some 1] rfl (by kernel_rfl) (pi_str (pv 0)) (fun _ _ _ _ => (pg_name (i := 0) (by show List.Nodup (["sign", "signs"] : List Str); decide +kernel) rfl (Or.inl rfl))) (fun _ _ _ _ => pts_nil) (fun _ _ _ _ => (pe_cmpR op_in_str (pv 0) (pv 1) (by with_unfolding_all rfl)))) pa_nil star_comp)))))), ?_⟩
 refine ⟨_, rfl, x, rfl, fits (by omega), _, _, rfl, rfl, _, rfl, ?_⟩
 refine ite2 (fun c1 => ?_) (fun c1 => ?_)
 ·have d1 : (1 : Int) <= x.length := of_decide_eq_true c1
  refine ⟨_, rfl, _, _, rfl, rfl, _, rfl, ?_⟩
  refine ite2 (fun c2 => ?_) (fun c2 => ?_)
  ·have d2 := of_decide_eq_true c2
   refine ⟨_, rfl, x, rfl, ?_⟩
   refine comp_str (j := 0) (fun i ys H' => Same H H' /\ ys = ((L x).take i).map fun c => V.bl (inS y c)) (by rfl) ⟨Same.refl _, rfl⟩ ?_ ?_ ?_
   ·have : x.cps.size = x.length := rfl
    exact fitsLt (by omega)
   ·rintro i c ys H' hc hl ⟨sm, rfl⟩
    have hi : i < x.cps.size := (Array.getElem?_eq_some_iff.mp hc).1
    refine ⟨_, rfl, _, rfl, _, _, rfl, rfl, ?_⟩
    refine nxt hi hl ⟨sm, ?_⟩
    rw [List.take_add_one, show (L x)[i]? = some c by rw [L, Array.getElem?_toList]; exact hc]
    simp [inS]
   ·rintro ys H' hl ⟨sm, rfl⟩ D hD
    refine ⟨D, (L x).map (inS y), rfl, SqL.of ?_, ?_⟩
    ·rw [ups, List.map_map]
     congr 2
     rw [List.take_of_length_le (by simp [L])]
     rfl
    ·have e : madeOf x y m = ((L x).map (inS y)).all id := by
      unfold madeOf
      rw [decide_eq_true (show 1 <= x.length by omega), decide_eq_true d2, List.all_map]
      rfl
     rw [<- e]
     exact k _ (sm.trans (Same.new hD _))
  ·have d2 := of_decide_eq_false (Bool.eq_false_iff.mpr c2)
   have e : madeOf x y m = false := by
    unfold madeOf
    rw [decide_eq_false d2, Bool.and_false, Bool.false_and]
   rw [<- e]
   exact k _ (Same.refl _)
 ·have d1 : ¬ (1 : Int) <= x.length := of_decide_eq_false (Bool.eq_false_iff.mpr c1)
  refine ⟨_, rfl, ?_⟩
  have e : madeOf x y m = false := by
   unfold madeOf
   rw [decide_eq_false (show ¬ 1 <= x.length by omega), Bool.false_and, Bool.false_and]
  refine iteF ?_
  rw [<- e]
  exact k _ (Same.refl _)
theorem inNames (x : Str) : inV (.str x) [.str (S "num"), .str (S "it")] = (decide (x = S "num") || decide (x = S "it")) := by
 unfold inV
 show ((S "num" == x) || ((S "it" == x) || false)) = _
 rw [Bool.or_false]
 have h : ∀ y : Str, (y == x) = decide (x = y) := fun y => by
  rw [Bool.eq_iff_iff]
  simp
  exact eq_comm
 rw [h, h]
theorem ok_is_name (T : Tx K mg) (D_is_made_of : DefIs P w K mg base n "is_made_of" ["text", "signs", "most"] spMade) : DefIs P w K mg base (n + 1) "is_name" ["text"] spName := by
 obtain ⟨o, g_NO_NAMES, hO⟩ := T.g_NO_NAMES
 refine DefIs.of T.d_is_name sc_is_name (fun vs H Q E h => ?_) (fun f cdv A outer s H vs Q E hr h => ?_)
 ·obtain ⟨x, rfl, _⟩ := h
  rfl
 obtain ⟨x, rfl, hx, k⟩ := h
 refine ⟨_, (zpo (ps_ret (pe_and (pd D_is_made_of hr (zpc (pv 0) (zpc (pe_gstr T.g_LETTERS) (zpc (pe_gint T.g_LONGEST_NAME) pa_nil zsn) zsn) zsn)) (pe_one (pe_cmpR op_notIn_seq (pv 0) (pe_gref g_NO_NAMES) (by with_unfolding_all rfl)))))), ?_⟩
 refine ⟨_, rfl, x, _, _, rfl, hx, fun H1 s1 => ⟨_, rfl, ?_⟩⟩
 have k1 := k H1 s1
 rw [name_is] at k1
 refine ite2 (fun c => ?_) (fun c => ?_)
 ·refine ⟨_, rfl, o, _, rfl, .inr (hO _), rfl, by walk_at "k", ?_⟩
  rw [show madeOf x letters 6 = true from c, Bool.true_and, <- inNames] at k1
  exact k1
 ·rw [show madeOf x letters 6 = false from Bool.eq_false_iff.mpr c, Bool.false_and] at k1
  exact k1
theorem first_at {x : Str} (h : 1 <= x.length) : atI x.cps.toList 0 = some ((L x).getD 0 0) := by
 have : 0 < x.cps.toList.length := by rw [Array.length_toList]; exact h
 refine atI_nat (j := 0) ?_
 rw [List.getElem?_eq_getElem this]
 show _ = some ((L x).getD 0 0)
 rw [List.getD_eq_getElem?_getD, show (L x)[0]? = some x.cps.toList[0] from List.getElem?_eq_getElem this]
 rfl
theorem ok_is_number (T : Tx K mg) (D_is_made_of : DefIs P w K mg base n "is_made_of" ["text", "signs", "most"] spMade) : DefIs P w K mg base (n + 1) "is_number" ["text"] spNumber := by
 refine DefIs.of T.d_is_number sc_is_number (fun vs H Q E h => ?_) (fun f cdv A outer s H vs Q E hr h => ?_)
 ·obtain ⟨x, rfl, _⟩ := h
  rfl
 obtain ⟨x, rfl, hx, k⟩ := h
 refine ⟨_, (zpo (ps_ret (pe_and (pd D_is_made_of hr (zpc (pv 0) (zpc (pe_gstr T.g_FIGURES) (zpc (pe_gint T.g_LONGEST_NUMBER) pa_nil zsn) zsn) zsn)) (pe_one (pe_or (pe_cmpR op_eq (pv 0) pe_str (nomark _)) (pe_one (pe_cmpR op_ne (pe_ix ix_str (pv 0) pe_int (fun _ _ => rfl)) pe_str (nomark _)))))))), ?_⟩
 refine ⟨_, rfl, x, _, _, rfl, hx, fun H1 s1 => ⟨_, rfl, ?_⟩⟩
 have K1 := k H1 s1
 rw [number_is] at K1
 refine ite2 (fun c => ?_) (fun c => ?_)
 ·have c' : madeOf x figures 10 = true := c
  rw [c', Bool.true_and] at K1
  have hp : 1 <= x.length := by
   unfold madeOf at c'
   simp only [Bool.and_eq_true, decide_eq_true_eq] at c'
   exact c'.1.1
  refine ⟨_, rfl, rfl, _, rfl, ?_⟩
  refine ite2 (fun c2 => ?_) (fun c2 => ?_)
  ·have d2 : V.str x = V.str (S "0") := of_decide_eq_true c2
   rw [decide_eq_true (V.str.inj d2), Bool.true_or] at K1
   exact K1
  ·have d2 : ¬ V.str x = V.str (S "0") := of_decide_eq_false (Bool.eq_false_iff.mpr c2)
   rw [decide_eq_false (fun e => d2 (congrArg V.str e)), Bool.false_or] at K1
   refine ⟨_, rfl, x, 0, _, rfl, rfl, fits (by omega), first_at hp, rfl, ?_⟩
   have e : decide (V.str (⟨#[(L x).getD 0 0]⟩ : Str) = V.str (S "0")) = decide ((⟨#[(L x).getD 0 0]⟩ : Str) = S "0") := by
    rw [Bool.eq_iff_iff]
    simp
   rw [<- e] at K1
   exact K1
 ·rw [show madeOf x figures 10 = false from Bool.eq_false_iff.mpr c, Bool.false_and] at K1
  exact K1
end
end K4
end
section
local macro_rules | `(tactic| walk_at "rd1") => `(tactic| first
 | refine ⟨_, rfl, ?_⟩
 | refine ⟨_, _, rfl, rfl, ?_⟩
 | refine ⟨_, _, _, _, rfl, rfl, (by assumption), (by first | rfl | assumption), ?_⟩
 | refine ⟨_, _, rfl, .inl (by assumption), ?_⟩
 | refine ⟨_, _, rfl, .inr (by assumption), ?_⟩
 | refine ⟨rfl, ?_⟩
 | refine M.iteKF (by walk_at "k") ?_
 | refine M.iteKT (by walk_at "k") ?_)
local macro_rules | `(tactic| walk_at "rd") => `(tactic| repeat walk_at "rd1")
namespace K4
open PySem L2 M
seal L2.PE L2.PA L2.PS L2.PSs L2.PT L2.PW L2.PI L2.PG L2.PJ L2.PTs
def spText (R : D -> Tr -> Prop) : Sp := fun vs H Q _ => ∃ v d t, vs = [v] /\ RelD H v d /\ R d t /\ ∀ H', Same H H' -> Q (vOf t) H'
def spBracketed : Sp := fun vs H Q _ => ∃ a ts, vs = [.ref a] /\ H a = some (.lst (ts.map vOf)) /\ (Tr.l ts).cs.length <= 3000000 /\ ∀ H', Same H H' -> Q (vOf (.l ts)) H'
def spInner (R : D -> Tr -> Prop) : Sp := fun vs H Q _ => ∃ v d ts, vs = [v] /\ RelD H v d /\ R d (.l ts) /\ ∀ a H', Same H H' -> H' a = some (.lst (ts.map vOf)) -> Q (.ref a) H'
def spTexts (R : D -> Tr -> Prop) : Sp := fun vs H Q _ => ∃ a us ds ts, vs = [.ref a] /\ H a = some (.tup us) /\ RelDs H us ds /\ All2 R ds ts /\ ds.length <= 1000 /\ ∀ b H', Same H H' -> H' b = some (.lst (ts.map vOf)) -> Q (.ref b) H'
theorem log_small {i : Int} (h : i.natAbs < 2 ^ 64) : i.natAbs.log2 < 1920 := by
 by_cases h0 : i.natAbs = 0
 ·rw [h0]; decide
 ·have := (Nat.log2_lt h0).mpr h
  omega
theorem mapV (ts : List Tr) : ts.map vOf = (ts.map strOf).map V.str := by
 rw [List.map_map]
 rfl
section
variable {P : Program} {w : World} {K : PySem.W.Frag} {mg : Str -> Option Value} {base : Heap} {n m : Nat}
theorem ok_bracketed (T : Tx K mg) : DefIs P w K mg base (n + 1) "bracketed" ["texts"] spBracketed := by
 refine DefIs.of T.d_bracketed sc_bracketed (fun vs H Q E h => ?_) (fun f cdv A outer s H vs Q E hr h => ?_)
 ·obtain ⟨x, y, rfl, _⟩ := h
  rfl
 obtain ⟨a, ts, rfl, ha, hz, k⟩ := h
 have nd := sc_bracketed.nd
 refine ⟨_, (zpn (ps_set (i := 1) nd rfl (by walk_at "o") (pe_bm PySem.F.plainAttrs_str PySem.F.slot_str_join PySem.F.type_str_join mt_join pe_str (zpc (pv 0) pa_nil zsn)))
   (zpo (ps_ret (pe_fstr (pj_lit (pj_str (pv 1) (pj_lit pj_nil))))))), ?_⟩
 rw [mapV] at ha
 have h1 := sum_trees ts
 have h2 := bs_le ts
 have h3 := cs_l ts
 have hj : (Txt.join (S " ") (ts.map strOf)).length = (bs ts).tail.length := by rw [<- L_length, join_trees]
 refine ⟨rfl, _, rfl, S " ", a, ts.map strOf, rfl, rfl, SqL.of ha, ?_, ?_⟩
 ·have e : (S " ").length = 1 := by walk_at "k"
  rw [e, List.length_map]
  omega
 have l1 : (Str.empty ++ S "(").length = 1 := by walk_at "k"
 have l2 : (S ")").length = 1 := by walk_at "k"
 refine ⟨fits (by show (Str.empty ++ S "(").length <= _; omega), _, rfl, _, rfl, fits (by rw [hj]; omega), ?_, ?_, ?_, ?_⟩
 ·refine fits ?_
  rw [Str.length_append, show (Str.empty ++ Str.ofString "(").length = 1 from l1, hj]
  omega
 ·refine fits ?_
  rw [Str.length_append, Str.length_append, show (Str.empty ++ Str.ofString "(").length = 1 from l1, show (Str.ofString ")").length = 1 from l2, hj]
  omega
 ·refine fits ?_
  rw [Str.length_append, Str.length_append, show (Str.empty ++ Str.ofString "(").length = 1 from l1, show (Str.ofString ")").length = 1 from l2, hj]
  omega
 ·have := k H (Same.refl _)
  unfold vOf at this
  rw [<- bracket_text] at this
  rw [Str.empty_append]
  exact this
theorem ok_term_texts (T : Tx K mg) (R : D -> Tr -> Prop) (D_term_text : DefIs P w K mg base n "term_text" ["term"] (spText R)) : DefIs P w K mg base (n + 1) "term_texts" ["terms"] (spTexts R) := by
 refine DefIs.of T.d_term_texts sc_term_texts (fun vs H Q E h => ?_) (fun f cdv A outer s H vs Q E hr h => ?_)
 ·obtain ⟨_, _, _, _, rfl, _⟩ := h
  rfl
 obtain ⟨a, us, ds, ts, rfl, ha, hd, hR, hl, k⟩ := h
 refine ⟨_, (zpo (ps_ret (pe_comp ["term"] [none] rfl (by kernel_rfl) (pi_tup (pv 0)) (fun _ _ _ _ => (pg_name (i := 0) (by show List.Nodup (["term"] : List Str); decide +kernel) rfl (Or.inl rfl))) (fun _ _ _ _ => pts_nil) (fun _ _ _ _ => (pd D_term_text hr (zpc (pv 0) pa_nil zsn)))))), ?_⟩
 refine ⟨_, rfl, a, rfl, ⟨_, SqT.of ha⟩, ?_⟩
 have e1 := hd.length
 have e2 := hR.length
 refine comp_tup (j := 0) (xs := us) (fun i ys H' => Same H H' /\ ys = (ts.take i).map vOf) (by rfl) ⟨Same.refl _, rfl⟩ (fitsLt (by omega)) (fun i ys H' _ p => SqT.of (p.1 _ _ ha)) ?_ ?_
 ·rintro i x ys H' hx hl ⟨sm, rfl⟩
  obtain ⟨d, hdi, rd⟩ := hd.get hx
  obtain ⟨t, hti, rt⟩ := hR.get hdi
  have hi : i < us.length := (List.getElem?_eq_some_iff.mp hx).1
  refine ⟨_, rfl, x, d, t, rfl, rd.same sm _, rt, fun H2 s2 => nxt hi hl ⟨sm.trans s2, ?_⟩⟩
  rw [List.take_add_one, hti]
  simp
 ·rintro ys H' hl ⟨sm, rfl⟩ D hD
  refine k D _ (sm.trans (Same.new hD _)) ?_
  rw [ups, List.take_of_length_le (by omega)]
def spArmText (R : D -> Tr -> Prop) : Sp := fun vs H Q _ => ∃ v d t, vs = [v] /\ RelD H v d /\ Arm R d t /\ t.cs.length <= 3000000 /\ ∀ H', Same H H' -> Q (vOf t) H'
theorem vOf_tx (x : Str) : vOf (tx x) = .str x := by
 unfold vOf
 rw [strOf_tx]
theorem three : 3 <= sizeLine := by decide
theorem few {n : Nat} (h : n <= 100) : n <= sizeLine := Nat.le_trans h (by decide)
theorem ok_arm_text (T : Tx K mg) (R : D -> Tr -> Prop) (D_term_text : DefIs P w K mg base n "term_text" ["term"] (spText R)) (D_bracketed : DefIs P w K mg base n "bracketed" ["texts"] spBracketed) : DefIs P w K mg base (n + 1) "arm_text" ["arm"] (spArmText R) := by
 refine DefIs.of T.d_arm_text sc_arm_text (fun vs H Q E h => ?_) (fun f cdv A outer s H vs Q E hr h => ?_)
 ·obtain ⟨_, _, _, rfl, _⟩ := h
  rfl
 obtain ⟨v, d, t, rfl, hv, ⟨g, x, e, te, hg, hx, he, rfl, rfl⟩, hz, k⟩ := h
 obtain ⟨a, us, rfl, ha, _, _, rfl, rfl, _, _, rfl, rfl, ve, _, rfl, re, rfl⟩ := hv
 have hS : SqT K H a [.str g, .str x, ve] := SqT.of ha
 refine ⟨_, (zpo (ps_ret (pd D_bracketed hr (zpc (pe_lst (zpc (pe_ix ix_tup (pv 0) pe_int (fun _ _ => rfl)) (zpc (pe_ix ix_tup (pv 0) pe_int (fun _ _ => rfl)) (zpc (pd D_term_text hr (zpc (pe_ix ix_tup (pv 0) pe_int (fun _ _ => rfl)) pa_nil ss)) pa_nil zsc) ss) ss)) pa_nil star_lst)))), ?_⟩
 walk_at "rd"
 refine ⟨_, e, te, rfl, re, he, fun H1 s1 => ⟨three, fun l hl => ?_⟩⟩
 refine ⟨l, [tx g, tx x, te], rfl, ?_, hz, fun H2 s2 => k H2 (s1.trans ((Same.new hl _).trans s2))⟩
 rw [ups]
 show some (HO.lst [V.str g, V.str x, vOf te]) = some (HO.lst [vOf (tx g), vOf (tx x), vOf te])
 rw [vOf_tx, vOf_tx]
theorem ok_term_text (T : Tx K mg) (R : D -> Tr -> Prop) (hz : ∀ d t, R d t -> t.cs.length <= 3000000) (D_inner_texts : DefIs P w K mg base n "inner_texts" ["term"] (spInner R)) (D_bracketed : DefIs P w K mg base n "bracketed" ["texts"] spBracketed)
  (hN : ∀ d t, R d t -> ∃ ts a r, t = .l ts /\ d = .tup (.str a :: r) /\ a ≠ S "num" /\ a ≠ S "box") : DefIs P w K mg base (n + 1) "term_text" ["term"] (spText fun d t => Leaf d t \/ R d t) := by
 refine DefIs.of T.d_term_text sc_term_text (fun vs H Q E h => ?_) (fun f cdv A outer s H vs Q E hr h => ?_)
 ·obtain ⟨_, _, _, rfl, _⟩ := h
  rfl
 obtain ⟨v, d, t, rfl, hv, hR, k⟩ := h
 refine ⟨_, (zpn (ps_if (pt_cmpR op_eq (pe_ix ix_tup (pv 0) pe_int (fun _ _ => rfl)) pe_str (nomark _)) (zpo (ps_ret (pe_callTy (call_str_int.or call_str_str) rfl T.z_str PyProof.Rows.boot_str (zpc (pe_ix ix_tup (pv 0) pe_int (fun _ _ => rfl)) pa_nil ss)))) pss_nil)
   (zpn (ps_if (pt_cmpR op_eq (pe_ix ix_tup (pv 0) pe_int (fun _ _ => rfl)) pe_str (nomark _)) (zpo (ps_ret (pe_ix ix_tup (pv 0) pe_int (fun _ _ => rfl)))) pss_nil)
   (zpo (ps_ret (pd D_bracketed hr (zpc (pd D_inner_texts hr (zpc (pv 0) pa_nil zsn)) pa_nil zsc)))))), ?_⟩
 rcases hR with (⟨i, i0, i1, rfl, rfl⟩ | ⟨x, hx, rfl, rfl⟩) | hR
 ·obtain ⟨a, us, rfl, ha, _, _, rfl, rfl, _, _, rfl, rfl, rfl⟩ := hv
  have hS : SqT K H a [.str (S "num"), .int i] := SqT.of ha
  walk_at "rd"
  refine .inl ⟨i, rfl, log_small (by omega), ?_⟩
  have := k H (Same.refl _)
  rw [vOf_tx] at this
  exact this
 ·obtain ⟨a, us, rfl, ha, _, _, rfl, rfl, _, _, rfl, rfl, rfl⟩ := hv
  have hS : SqT K H a [.str (S "box"), .str x] := SqT.of ha
  walk_at "rd"
  have := k H (Same.refl _)
  rw [vOf_tx] at this
  exact this
 ·have hz' := hz d t hR
  obtain ⟨ts, h0, r, rfl, rfl, hn, hb⟩ := hN d t hR
  have hv' := hv
  obtain ⟨a, us, rfl, ha, _, rest, rfl, rfl, _⟩ := hv
  have hS : SqT K H a (.str h0 :: rest) := SqT.of ha
  have hx : atI (V.str h0 :: rest) 0 = some (.str h0) := atI_nat (j := 0) rfl
  refine ⟨_, rfl, a, _, 0, _, rfl, rfl, hS, hx, rfl, _, rfl, iteKF (decide_eq_false fun e => hn (V.str.inj e)) ?_⟩
  refine ⟨_, rfl, a, _, 0, _, rfl, rfl, hS, hx, rfl, _, rfl, iteKF (decide_eq_false fun e => hb (V.str.inj e)) ?_⟩
  refine ⟨_, rfl, _, _, ts, rfl, hv', hR, fun l H1 s1 hl => ?_⟩
  exact ⟨l, ts, rfl, hl, hz', fun H2 s2 => k H2 (s1.trans s2)⟩
end
end K4
end
section
local macro_rules | `(tactic| walk_at "rd1") => `(tactic| first
 | refine ⟨_, rfl, ?_⟩
 | refine ⟨_, _, rfl, rfl, ?_⟩
 | refine ⟨_, _, _, _, rfl, rfl, (by assumption), (by first | rfl | assumption), ?_⟩
 | refine ⟨_, _, rfl, .inl (by assumption), ?_⟩
 | refine ⟨_, _, rfl, .inr (by assumption), ?_⟩
 | refine ⟨rfl, ?_⟩
 | refine M.iteKF (by walk_at "k") ?_
 | refine M.iteKT (by walk_at "k") ?_)
local macro_rules | `(tactic| walk_at "rd") => `(tactic| repeat walk_at "rd1")
namespace K4
open PySem L2 M
seal L2.PE L2.PA L2.PS L2.PSs L2.PT L2.PW L2.PI L2.PG L2.PJ L2.PTs
def spNeed : Sp := fun vs H Q _ => vs = [.bl true] /\ Q .non H
def spClose : Sp := fun vs H Q _ => ∃ p as st k, vs = [.ref p, .int k] /\ PileAt H p as st /\ 0 <= k /\ k.toNat < st.length /\ sumP st <= 3900000 /\ (∀ top r, st = top :: r -> 1 <= top.length) /\ ∀ as' H', PileAt H' p as' (close k.toNat st) -> Same (hide (p :: as) H) (hide (p :: as') H') -> Q .non H'
def spPut : Sp := fun vs H Q _ => ∃ p as st st' x, vs = [.ref p, .str x] /\ PileAt H p as st /\ 1 <= st.length /\ st.length <= 21 /\ sumP st <= 3800000 /\ x.length <= 3000000 /\ putW (L x) st = some st' /\ ∀ as' H', PileAt H' p as' st' -> Same (hide (p :: as) H) (hide (p :: as') H') -> Q .non H'
def spTreesOf : Sp := fun vs H Q _ => ∃ x t, vs = [.str x] /\ L x = t.cs /\ t.Good /\ t.nest <= 20 /\ x.length <= 3000000 /\ ∀ a v H', Same H H' -> H' a = some (.lst [v]) -> RelT H' v t -> Q (.ref a) H'
section
variable {P : Program} {w : World} {K : PySem.W.Frag} {mg : Str -> Option Value} {base : Heap} {n m : Nat}
theorem bl_true {c : Bool} (h : c = true) : [V.bl c] = [V.bl true] := by rw [h]
theorem ok_need (T : Tx K mg) : DefIs P w K mg base (n + 1) "need" ["holds"] spNeed := by
 refine DefIs.of T.d_need sc_need (fun vs H Q E h => ?_) (fun f cdv A outer s H vs Q E hr h => ?_)
 ·obtain ⟨rfl, _⟩ := h
  rfl
 obtain ⟨rfl, k⟩ := h
 refine ⟨_, (zpo (ps_if (pt_not (pt_val (pv 0))) (zpo ps_never) pss_nil)), ?_⟩
 refine ⟨_, rfl, _, rfl, iteF ?_⟩
 exact k
theorem pile_last {as : List Addr} {a : Addr} : atI (((a :: as).map V.ref).reverse) (-1) = some (.ref a) := by
 rw [List.map_cons, List.reverse_cons]
 exact atI_last _ _
theorem ok_close_brackets (T : Tx K mg) (D_need : DefIs P w K mg base n "need" ["holds"] spNeed) : DefIs P w K mg base (n + 1) "close_brackets" ["pile", "many"] spClose := by
 refine DefIs.of T.d_close_brackets sc_close_brackets (fun vs H Q E h => ?_) (fun f cdv A outer s H vs Q E hr h => ?_)
 ·obtain ⟨_, _, _, _, rfl, _⟩ := h
  rfl
 obtain ⟨p, as, st, k, rfl, hp, k0, k1, hsum, htop, q⟩ := h
 have nd := sc_close_brackets.nd
 refine ⟨_, (zpn (ps_expr (pd D_need hr (zpc (pe_cmpR op_lt (pv 1) (pe_callB call_len_seq rfl T.z_len PySem.boot_len (zpc (pv 0) pa_nil zsn)) (nomark _)) pa_nil star_cmp)))
   (zpo (ps_while PassesOwn.never (pt_cmpR op_gt (pv 1) pe_int (nomark _))
   (zpn (ps_set (i := 2) nd rfl (by walk_at "o") (pe_bm0 PySem.F.plainAttrs_list PySem.F.slot_list_pop PySem.F.type_list_pop mt_pop (pv 0)))
   (zpn (ps_expr (pe_bm PySem.F.plainAttrs_list PySem.F.slot_list_append PySem.F.type_list_append mt_append (pe_ix ix_list (pv 0) (pe_un un_neg pe_int) (fun _ _ => rfl)) (zpc (pv 2) pa_nil zsn)))
   (zpo (ps_set (i := 1) nd rfl (by walk_at "o") (pe_op op_sub (pv 1) pe_int)))))))), ?_⟩
 have hl := hp.len
 refine ⟨_, rfl, _, rfl, p, _, rfl, .inl (SqL.of hp.pile), _, _, rfl, rfl, ?_, ?_⟩
 ·exact bl_true (decide_eq_true (by rw [List.length_reverse, List.length_map]; omega))
 refine while_by (fun σ H' => ∃ (j : Int) (v : Option V) (as' : List Addr) (st' : Pile), σ = [some (.ref p), some (.int j), v] /\ 0 <= j /\ PileAt H' p as' st' /\ j.toNat < st'.length /\ close j.toNat st' = close k.toNat st /\ sumP st' <= 3900000 /\ (∀ top r, st' = top :: r -> 1 <= top.length) /\ Same (hide (p :: as) H) (hide (p :: as') H'))
  (fun σ _ => match σ with | [_, some (.int j), _] => j.toNat | _ => 0) ⟨k, none, as, st, rfl, k0, hp, k1, rfl, hsum, htop, Same.refl _⟩ ?_ ?_
 ·rintro σ H1 ⟨j, v, as1, st1, rfl, j0, hp1, j1, ec, hs1, ht1, sm1⟩
  refine ⟨_, rfl, _, _, rfl, rfl, _, rfl, ?_⟩
  refine ite2 (fun c => ?_) (fun c => ?_)
  ·have c' : (0 : Int) < j := of_decide_eq_true c
   have hl1 := hp1.len
   match as1, st1, hp1, j1, ec, hs1, ht1, hl1 with
   | [], st1, hp1, j1, _, _, _, hl1 => simp at hl1; omega
   | [a], st1, hp1, j1, _, _, _, hl1 => simp at hl1; omega
   | a :: b :: as2, [], hp1, j1, _, _, _, hl1 => simp at hl1
   | a :: b :: as2, [top], hp1, j1, _, _, _, hl1 => simp at hl1
   | a :: b :: as2, top :: par :: st2, hp1, j1, ec, hs1, ht1, hl1 =>
    have pb : b ≠ p := fun e => hp1.np (by rw [<- e]; simp)
    obtain ⟨vs, hb, lenb⟩ : ∃ vs, H1 b = some (.lst vs) /\ vs.length = par.length := by
     cases hp1.lists with
     | cons h1 h2 => cases h2 with
      | cons h2 h3 => obtain ⟨vs, e, r⟩ := h2; exact ⟨vs, e, r.length⟩
    obtain ⟨hp2, sm2⟩ := hp1.shuts hb
    have el : ((a :: b :: as2).map V.ref).reverse = ((b :: as2).map V.ref).reverse ++ [.ref a] := by simp
    have hpile := hp1.pile
    rw [el] at hpile
    refine ⟨_, rfl, .inl ⟨rfl, _, SqL.of hpile⟩, p, _, .ref a, rfl, rfl, hpile, ?_, ?_⟩
    ·rw [List.length_append, List.length_singleton, Nat.add_sub_cancel, List.getElem?_append_right (Nat.le_refl _), Nat.sub_self]
     rfl
    rw [List.dropLast_concat]
    refine ⟨_, rfl, _, rfl, p, _, -1, .ref b, rfl, rfl, SqL.of ups, pile_last, .inl ⟨rfl, vs, SqL.of (by rw [upd_ne pb]; exact hb)⟩, _, rfl, b, vs, .ref a, rfl, rfl, ?_, ?_, ?_⟩
    ·rw [upd_ne pb]; exact hb
    ·have : par.length <= sumP (top :: par :: st2) := by simp [sumP]; omega
     rw [lenb]
     exact fitsLt (by omega)
    refine ⟨_, rfl, _, _, rfl, rfl, ?_⟩
    refine ⟨⟨j - 1, _, _, _, rfl, by omega, hp2, ?_, ?_, ?_, ?_, sm1.trans sm2⟩, ?_⟩
    ·simp at j1 ⊢; omega
    ·rw [<- ec]
     have ej : j.toNat = (j - 1).toNat + 1 := by omega
     rw [ej]
     rfl
    ·have h1 := ht1 top (par :: st2) rfl
     simp [sumP] at hs1 ⊢
     omega
    ·intro t r e
     cases e
     simp
    ·show (j - 1).toNat < j.toNat
     omega
  ·have c' : ¬ (0 : Int) < j := of_decide_eq_false (Bool.eq_false_iff.mpr c)
   have ej : j.toNat = 0 := by omega
   rw [ej] at ec
   exact q as1 H1 (by rw [<- ec]; exact hp1) sm1
 ·rintro σ H1 Q1 Q2 hQ ⟨x, e, y, z, e1, e2, c, e3, h⟩
  exact ⟨x, e, y, z, e1, e2, c, e3, hQ _ _ h⟩
theorem shut41 : S ")" = ⟨#[41]⟩ := by walk_at "k"
theorem open40 : S "(" = ⟨#[40]⟩ := by walk_at "k"
theorem ok_put_word (T : Tx K mg) (D_need : DefIs P w K mg base n "need" ["holds"] spNeed) (D_close_brackets : DefIs P w K mg base n "close_brackets" ["pile", "many"] spClose) : DefIs P w K mg base (n + 1) "put_word" ["pile", "word"] spPut := by
 refine DefIs.of T.d_put_word sc_put_word (fun vs H Q E h => ?_) (fun f cdv A outer s H vs Q E hr h => ?_)
 ·obtain ⟨_, _, _, _, _, rfl, _⟩ := h
  rfl
 obtain ⟨p, as, st, st', x, rfl, hp, l1, l21, hsum, hx, hput, q⟩ := h
 have nd := sc_put_word.nd
 refine ⟨_, (zpn (ps_set (i := 2) nd rfl (by walk_at "o") (pe_bm PySem.F.plainAttrs_str PySem.F.slot_str_rstrip PySem.F.type_str_rstrip mt_rstrip (pv 1) (zpc pe_str pa_nil so)))
   (zpn (ps_set (i := 3) nd rfl (by walk_at "o") (pe_op op_sub (pe_callB call_len_str rfl T.z_len PySem.boot_len (zpc (pv 1) pa_nil zsn)) (pe_callB call_len_str rfl T.z_len PySem.boot_len (zpc (pv 2) pa_nil zsn))))
   (zpn (ps_if (pt_val (pe_bm PySem.F.plainAttrs_str PySem.F.slot_str_startswith PySem.F.type_str_startswith mt_startswith (pv 2) (zpc pe_str pa_nil so))) (zpn (ps_expr (pd D_need hr (zpc (pe_cmpR op_le (pe_callB call_len_seq rfl T.z_len PySem.boot_len (zpc (pv 0) pa_nil zsn)) (pe_gint T.g_DEEPEST) (nomark _)) pa_nil star_cmp)))
   (zpn (ps_expr (pe_bm PySem.F.plainAttrs_list PySem.F.slot_list_append PySem.F.type_list_append mt_append (pv 0) (zpc (pe_lst pa_nil) pa_nil star_lst)))
   (zpo (ps_set (i := 2) nd rfl (by walk_at "o") (pe_slice sl_str (pv 2) (po_some pe_int) po_none))))) pss_nil)
   (zpn (ps_expr (pe_bm PySem.F.plainAttrs_list PySem.F.slot_list_append PySem.F.type_list_append mt_append (pe_ix ix_list (pv 0) (pe_un un_neg pe_int) (fun _ _ => rfl)) (zpc (pv 2) pa_nil zsn)))
   (zpo (ps_expr (pd D_close_brackets hr (zpc (pv 0) (zpc (pv 3) pa_nil zsn) zsn)))))))), ?_⟩
 have hcore := rstrip_core x
 have hclen := rstrip_len x
 rw [<- shut41] at hcore hclen
 have hlc : (coreOf (L x)).length = (Txt.rstripChars x (S ")")).length := by rw [<- hcore, L_length]
 have hlx := L_length x
 have hpl : ((as.map V.ref).reverse).length = st.length := by rw [List.length_reverse, List.length_map, hp.len]
 refine ⟨_, rfl, rfl, x, S ")", rfl, rfl, fits (by omega), ?_⟩
 refine ⟨_, rfl, x, rfl, fits (by omega), _, rfl, _, rfl, fits (by show (Txt.rstripChars x (S ")")).length <= _; omega), _, _, rfl, rfl, ?_⟩
 refine ⟨_, rfl, rfl, _, S "(", rfl, rfl, _, rfl, ?_⟩
 have hst := starts_open (Txt.rstripChars x (S ")"))
 rw [hcore, <- open40] at hst
 have tail : ∀ (core : Str) (as1 : List Addr) (st1 : Pile) (H1 : Hp), PileAt H1 p as1 st1 -> 1 <= st1.length -> sumP st1 <= 3800000 -> closeN (x.length - (coreOf (L x)).length) (push (.w (L core)) st1) = some st' -> Same (hide (p :: as) H) (hide (p :: as1) H1) ->
   ∃ a as2, as1 = a :: as2 /\ ∃ vs, H1 a = some (.lst vs) /\ vs.length < sizeLine /\ ∃ st2, PileAt (upd H1 a (.lst (vs ++ [.str core]))) p as1 st2 /\ (x.length - (coreOf (L x)).length) < st2.length /\ sumP st2 <= 3900000 /\ (∀ top r, st2 = top :: r -> 1 <= top.length) /\ close (x.length - (coreOf (L x)).length) st2 = st' ∧
    Same (hide (p :: as) H) (hide (p :: as1) (upd H1 a (.lst (vs ++ [.str core])))) := by
  intro core as1 st1 H1 hp1 h1 hs1 hc sm
  match as1, st1, hp1, h1, hs1, hc with
  | [], st1, hp1, h1, _, _ => have := hp1.len; simp at this; omega
  | a :: as2, [], hp1, h1, _, _ => simp at h1
  | a :: as2, top :: st2, hp1, h1, hs1, hc =>
   obtain ⟨vs, ha, hr⟩ : ∃ vs, H1 a = some (.lst vs) /\ vs.length = top.length := by
    cases hp1.lists with
    | cons g1 _ => obtain ⟨vs, e, r⟩ := g1; exact ⟨vs, e, r.length⟩
   have hpu := hp1.push (v := .str core) (t := .w (L core)) ha (by show V.str core = V.str (ofL (L core)); rw [ofL_L])
   have ht := @top_le top st2
   have hlt : (x.length - (coreOf (L x)).length) < ((top ++ [.w (L core)]) :: st2).length := by
    unfold closeN at hc
    split at hc
    ·assumption
    ·cases hc
   refine ⟨a, as2, rfl, vs, ha, fitsLt (by omega), _, hpu, hlt, ?_, ?_, ?_, sm.trans PileAt.push_same⟩
   ·have := sum_push (.w (L core)) (top :: st2)
    exact Nat.le_trans this (by omega)
   ·intro t r e; cases e; simp
   ·unfold closeN at hc
    rw [if_pos (show x.length - (coreOf (L x)).length < (push (.w (L core)) (top :: st2)).length from hlt)] at hc
    exact Option.some.inj hc
 have he0 : (x.length : Int) - ((Txt.rstripChars x (S ")")).length : Nat) = ((x.length - (coreOf (L x)).length : Nat) : Int) := by omega
 unfold putW putC at hput
 rw [hlx] at hput
 by_cases ho : (coreOf (L x)).head? = some 40
 ·rw [if_pos ho] at hput
  rw [decide_eq_true ho] at hst
  refine iteBT hst ?_
  by_cases h20 : st.length <= 20
  ·rw [if_pos h20] at hput
   refine ⟨_, rfl, p, _, rfl, .inl (SqL.of hp.pile), _, _, rfl, rfl, ?_, ?_⟩
   ·exact bl_true (decide_eq_true (by rw [hpl]; omega))
   refine ⟨_, rfl, .inl ⟨rfl, _, SqL.of hp.pile⟩, Nat.zero_le _, fun nn hn => ⟨p, _, .ref nn, rfl, rfl, Same.new hn _ _ _ hp.pile, ?_, ?_⟩⟩
   ·rw [hpl]; exact fitsLt (by omega)
   obtain ⟨hp1, sm1⟩ := hp.opens hn
   have h1c : 1 <= (Txt.rstripChars x (S ")")).length := by
    rw [<- hlc]
    cases hh : coreOf (L x) with
    | nil => rw [hh] at ho; cases ho
    | cons c r => simp
   have esl : L (Txt.slice (Txt.rstripChars x (S ")")) (some 1) none) = (coreOf (L x)).tail := by rw [slice_tail _ h1c, hcore]
   obtain ⟨a, as2, e1, vs, ha, hvl, st2, hp2, hk, hs2, ht2, ec, sm2⟩ := tail (Txt.slice (Txt.rstripChars x (S ")")) (some 1) none) _ _ _ hp1 (by simp) (by simp [sumP] at hsum ⊢; omega) (by rw [esl]; exact hput) sm1
   refine ⟨_, rfl, _, rfl, _, rfl, fits (by omega), ?_⟩
   have hpile := hp1.pile
   rw [e1] at hpile
   refine ⟨_, rfl, _, rfl, p, _, -1, .ref a, rfl, rfl, SqL.of hpile, pile_last, .inl ⟨rfl, _, SqL.of ha⟩, _, rfl, a, vs, _, rfl, rfl, ha, hvl, ?_⟩
   refine ⟨_, rfl, _, rfl, p, _, st2, _, rfl, hp2, ?_, ?_, hs2, ht2, fun as' H' hp' sm' => ?_⟩
   ·rw [he0]; omega
   ·rw [he0]; exact hk
   ·rw [he0, Int.toNat_natCast, ec] at hp'
    exact q as' H' hp' (sm2.trans sm')
  ·rw [if_neg h20] at hput
   cases hput
 ·rw [if_neg ho] at hput
  rw [decide_eq_false ho] at hst
  refine iteBF hst ?_
  obtain ⟨a, as2, e1, vs, ha, hvl, st2, hp2, hk, hs2, ht2, ec, sm2⟩ := tail (Txt.rstripChars x (S ")")) _ _ _ hp l1 hsum (by rw [hcore]; exact hput) (Same.refl _)
  have hpile := hp.pile
  rw [e1] at hpile
  refine ⟨_, rfl, _, rfl, p, _, -1, .ref a, rfl, rfl, SqL.of hpile, pile_last, .inl ⟨rfl, _, SqL.of ha⟩, _, rfl, a, vs, _, rfl, rfl, ha, hvl, ?_⟩
  refine ⟨_, rfl, _, rfl, p, _, st2, _, rfl, hp2, ?_, ?_, hs2, ht2, fun as' H' hp' sm' => ?_⟩
  ·rw [he0]; omega
  ·rw [he0]; exact hk
  ·rw [he0, Int.toNat_natCast, ec] at hp'
   exact q as' H' hp' (sm2.trans sm')
theorem run_prefix {a b : List (List Nat)} {st r : Pile} (h : runW (a ++ b) st = some r) : ∃ s, runW a st = some s := by
 rw [runW_append] at h
 cases e : runW a st with
 | none => rw [e] at h; cases h
 | some s => exact ⟨s, rfl⟩
theorem ok_trees_of (T : Tx K mg) (D_need : DefIs P w K mg base n "need" ["holds"] spNeed) (D_put_word : DefIs P w K mg base n "put_word" ["pile", "word"] spPut) : DefIs P w K mg base (n + 1) "trees_of" ["text"] spTreesOf := by
 refine DefIs.of T.d_trees_of sc_trees_of (fun vs H Q E h => ?_) (fun f cdv A outer s H vs Q E hr h => ?_)
 ·obtain ⟨_, _, rfl, _⟩ := h
  rfl
 obtain ⟨x, t, rfl, hx, hg, hn, hlen, q⟩ := h
 have nd := sc_trees_of.nd
 obtain ⟨ws, hws, hrun⟩ := read_tree hg hn hx
 rw [<- blank_is] at hws
 refine ⟨_, (zpn (ps_set (i := 1) nd rfl (by walk_at "o") (pe_lst (zpc (pe_lst pa_nil) pa_nil star_lst)))
   (zpn (ps_for PassesOwn.never rfl (pi_list (pe_bm PySem.F.plainAttrs_str PySem.F.slot_str_split PySem.F.type_str_split mt_split (pv 0) (zpc pe_str pa_nil so))) (pg_name (i := 2) nd rfl (by walk_at "o"))
   (zpo (ps_expr (pd D_put_word hr (zpc (pv 1) (zpc (pv 2) pa_nil zsn) zsn)))))
   (zpn (ps_expr (pd D_need hr (zpc (pe_cmpR op_eq (pe_callB call_len_seq rfl T.z_len PySem.boot_len (zpc (pv 1) pa_nil zsn)) pe_int (nomark _)) pa_nil star_cmp)))
   (zpo (ps_ret (pe_ix ix_list (pv 1) pe_int (fun _ _ => rfl))))))), ?_⟩
 refine ⟨Nat.zero_le _, fun a0 h0 => ⟨(by show 1 <= sizeLine; decide), fun p hp0 => ?_⟩⟩
 have ap : a0 ≠ p := fun e => by rw [<- e, ups] at hp0; cases hp0
 have hp1 : PileAt (upd (upd H a0 (.lst [])) p (.lst [.ref a0])) p [a0] [[]] :=
  ⟨by rw [ups]; rfl, by simp, by simp [ap.symm], .cons ⟨[], by rw [upd_ne ap, ups], rfl⟩ .nil⟩
 have sm0 : Same H (hide [p, a0] (upd (upd H a0 (.lst [])) p (.lst [.ref a0]))) := fun b o e => by
  have b1 : b ≠ a0 := fun z => by rw [z, h0] at e; cases e
  have b2 : b ≠ p := fun z => by rw [upd_ne ap.symm] at hp0; rw [z, hp0] at e; cases e
  exact hide_get.mpr ⟨by simp [b1, b2], by rw [upd_ne b2, upd_ne b1]; exact e⟩
 have hsl : (Txt.split x (S " ")).length = ws.length := by rw [<- hws, List.length_map]
 have hwl : ws.length <= 3000002 := by
  have := Txt_split_len x
  omega
 refine ⟨_, rfl, rfl, x, S " ", rfl, rfl, (by walk_at "k"), fits (by omega), fun wl hwl0 => ⟨wl, rfl, ⟨_, SqL.of ups⟩, ?_⟩⟩
 have hww : ∀ (i : Nat) z, ((Txt.split x (S " ")).map V.str)[i]? = some z -> ∃ y, z = .str y /\ ws[i]? = some (L y) /\ y.length <= 3000000 := fun i z e => by
  rw [List.getElem?_map] at e
  cases e1 : (Txt.split x (S " "))[i]? with
  | none => rw [e1] at e; cases e
  | some y =>
   rw [e1] at e
   cases e
   refine ⟨y, rfl, ?_, ?_⟩
   ·rw [<- hws, List.getElem?_map, e1]; rfl
   ·have := Txt_split_part x y (List.mem_of_getElem? e1)
    omega
 have wlp : wl ≠ p := fun e => by rw [e, ups] at hwl0; cases hwl0
 have wla : wl ≠ a0 := fun e => by rw [e, upd_ne ap, ups] at hwl0; cases hwl0
 refine for_list (xs := (Txt.split x (S " ")).map V.str) (fun i σ H' => ∃ as st v, σ = [some (.str x), some (.ref p), v] /\ PileAt H' p as st /\ runW (ws.take i) [[]] = some st /\ 1 <= st.length /\ st.length <= 21 /\ sumP st <= i /\ hide (p :: as) H' wl = some (.lst ((Txt.split x (S " ")).map V.str)) /\ Same H (hide (p :: as) H')) ?_ ?_ ?_ ?_
 ·have sm1 : Same (hide [p, a0] (upd (upd H a0 (.lst [])) p (.lst [.ref a0]))) (hide [p, a0] (upd (upd (upd H a0 (.lst [])) p (.lst [.ref a0])) wl (.lst ((Txt.split x (S " ")).map V.str)))) := fun b o e => by
   obtain ⟨e1, e2⟩ := hide_get.mp e
   exact hide_get.mpr ⟨e1, Same.new hwl0 _ _ _ e2⟩
  refine ⟨[a0], [[]], none, rfl, ⟨Same.new hwl0 _ _ _ hp1.pile, hp1.nd, hp1.np, .cons ⟨[], Same.new hwl0 _ _ _ (by rw [upd_ne ap, ups]), rfl⟩ .nil⟩, rfl, by simp, by simp, by simp [sumP], hide_get.mpr ⟨by simp [wlp, wla], ups⟩, sm0.trans sm1⟩
 ·rintro i σ H' _ ⟨as, st, v, _, _, _, _, _, _, hw, _⟩
  exact SqL.of (hide_get.mp hw).2
 ·rintro i z σ H' hz ⟨as, st, v, rfl, hp', hr', l1, l21, hs', hw, sm⟩
  obtain ⟨y, rfl, hy, hyl⟩ := hww i z hz
  have hi : i < ws.length := (List.getElem?_eq_some_iff.mp hy).1
  obtain ⟨st', hst'⟩ : ∃ s, runW (ws.take (i + 1)) [[]] = some s := run_prefix (b := ws.drop (i + 1)) (by rw [List.take_append_drop]; exact hrun)
  have hput : putW (L y) st = some st' := by
   rw [List.take_add_one, hy] at hst'
   simp only [Option.toList_some] at hst'
   rw [runW_snoc, hr'] at hst'
   exact hst'
  refine ⟨_, rfl, _, rfl, p, as, st, st', y, rfl, hp', l1, l21, by omega, hyl, hput, fun as' H2 hp2 sm2 => ?_⟩
  have hl2 := len_put hput l1 l21
  have hs2 := sum_put hput
  exact ⟨as', st', _, rfl, hp2, hst', hl2.1, hl2.2, by omega, sm2 _ _ hw, sm.trans sm2⟩
 ·rintro σ H' ⟨as, st, v, rfl, hp', hr', l1, l21, hs', hw, sm⟩
  rw [List.length_map, hsl, List.take_length, hrun] at hr'
  cases hr'
  have hl := hp'.len
  match as, hp', hl with
  | [a], hp', _ =>
   cases hp'.lists with
   | cons g1 _ =>
    obtain ⟨vs, ha, v0, r0, rfl, rv, e0⟩ := g1
    subst e0
    have hpile : H' p = some (.lst [.ref a]) := hp'.pile
    refine ⟨_, rfl, p, _, rfl, .inl (SqL.of hpile), rfl, rfl, ?_⟩
    refine ⟨_, rfl, p, _, 0, .ref a, rfl, rfl, SqL.of hpile, rfl, ?_⟩
    have smH : Same (hide [p, a] H') H' := fun b o e => (hide_get.mp e).2
    exact q a v0 H' (sm.trans smH) ha (rv.same smH _)
end
end K4
end
section
local macro_rules | `(tactic| walk_at "rd1") => `(tactic| first
 | refine ⟨_, rfl, ?_⟩
 | refine ⟨_, _, rfl, rfl, ?_⟩
 | refine ⟨_, _, _, _, rfl, rfl, (by assumption), (by first | rfl | assumption), ?_⟩
 | refine ⟨_, _, rfl, .inl (by assumption), ?_⟩
 | refine ⟨_, _, rfl, .inr (by assumption), ?_⟩
 | refine ⟨_, _, _, _, _, rfl, (fun u hu' => hu'), (by assumption), rfl, ?_⟩
 | refine ⟨_, _, rfl, .inr (by assumption), rfl, (by walk_at "k"), ?_⟩
 | refine ⟨rfl, ?_⟩
 | refine M.iteKF (by walk_at "k") ?_
 | refine M.iteKT (by walk_at "k") ?_
 | refine L2.iteT ?_
 | refine L2.iteF ?_
 | refine M.iteBF (by assumption) ?_
 | refine M.iteBT (by assumption) ?_)
local macro_rules | `(tactic| walk_at "rd") => `(tactic| repeat walk_at "rd1")
namespace K4
open PySem L2 M
seal L2.PE L2.PA L2.PS L2.PSs L2.PT L2.PW L2.PI L2.PG L2.PJ L2.PTs
def spNameFrom : Sp := fun vs H Q _ => ∃ x : Str, vs = [.str x] /\ Name x /\ ∀ H', Same H H' -> Q (.str x) H'
def spLeafFrom : Sp := fun vs H Q _ => ∃ (x : Str) (mr : Addr) (d : D), vs = [.str x, .ref mr] /\ H mr = some (.tup []) /\ Leaf d (tx x) /\ ∀ v H', Same H H' -> RelD H' v d -> Q v H'
def spTermsFrom (R : D -> Tr -> Prop) : Sp := fun vs H Q _ => ∃ a mr us ts ds, vs = [.ref a, .ref mr] /\ H mr = some (.tup []) /\ H a = some (.lst us) /\ RelTs H us ts /\ All2 R ds ts /\ ts.length <= 1000 /\ ∀ p ys H', Same H H' -> H' p = some (.tup ys) -> RelDs H' ys ds -> Q (.ref p) H'
def spTermFrom (R : D -> Tr -> Prop) : Sp := fun vs H Q _ => ∃ v mr d t, vs = [v, .ref mr] /\ H mr = some (.tup []) /\ RelT H v t /\ R d t /\ ∀ v' H', Same H H' -> RelD H' v' d -> Q v' H'
theorem relT_tx {H : Hp} {v : V} {x : Str} (h : RelT H v (tx x)) : v = .str x := by
 have : v = .str (ofL (L x)) := h
 rw [ofL_L] at this
 exact this
theorem name_len {x : Str} (h : Name x) : x.length <= 6 := by
 have := h.le
 rw [show x.cps.toList.length = x.length by simp [Str.length]] at this
 exact this
section
variable {P : Program} {w : World} {K : PySem.W.Frag} {mg : Str -> Option Value} {base : Heap} {n m : Nat}
theorem ok_name_from (T : Tx K mg) (D_need : DefIs P w K mg base n "need" ["holds"] spNeed) (D_is_name : DefIs P w K mg base n "is_name" ["text"] spName) : DefIs P w K mg base (n + 1) "name_from" ["tree"] spNameFrom := by
 refine DefIs.of T.d_name_from sc_name_from (fun vs H Q E h => ?_) (fun f cdv A outer s H vs Q E hr h => ?_)
 ·obtain ⟨_, rfl, _⟩ := h
  rfl
 obtain ⟨x, rfl, hx, q⟩ := h
 refine ⟨_, (zpn (ps_expr (pd D_need hr (zpc (pe_and (pe_callB call_isinst rfl T.z_isinstance PyProof.Rows.boot_isinstance (zpc (pv 0) (zpc (pe_gty T.z_str PyProof.Rows.boot_str) pa_nil zsn) zsn)) (pe_one (pd D_is_name hr (zpc (pv 0) pa_nil zsn)))) pa_nil star_bool)))
   (zpo (ps_ret (pv 0)))), ?_⟩
 have := name_len hx
 refine ⟨_, rfl, _, _, _, _, _, rfl, fun u hu' => hu', TyOf.str _, rfl, _, rfl, iteT ?_⟩
 refine ⟨_, rfl, x, rfl, by omega, fun H1 s1 => ⟨bl_true hx, _, rfl, q H1 s1⟩⟩
theorem ok_leaf_from (T : Tx K mg) (D_name_from : DefIs P w K mg base n "name_from" ["tree"] spNameFrom) (D_is_number : DefIs P w K mg base n "is_number" ["text"] spNumber) : DefIs P w K mg base (n + 1) "leaf_from" ["word", "more"] spLeafFrom := by
 refine DefIs.of T.d_leaf_from sc_leaf_from (fun vs H Q E h => ?_) (fun f cdv A outer s H vs Q E hr h => ?_)
 ·obtain ⟨_, _, _, rfl, _⟩ := h
  rfl
 obtain ⟨x, mr, d, rfl, hm, hl, q⟩ := h
 refine ⟨_, (zpn (ps_if (pt_val (pd D_is_number hr (zpc (pv 0) pa_nil zsn))) (zpo (ps_ret (pe_tup (zpc pe_str (zpc (pe_callTy call_int_str rfl T.z_int PyProof.Rows.boot_int (zpc (pv 0) pa_nil zsn)) pa_nil zsc) so)))) pss_nil)
   (zpn (ps_if (pt_cmpR op_in_seq (pv 0) (pv 1) (by with_unfolding_all rfl)) (zpo (ps_ret (pe_tup (zpc pe_str (zpc (pv 0) pa_nil zsn) so)))) pss_nil)
   (zpo (ps_ret (pe_tup (zpc pe_str (zpc (pd D_name_from hr (zpc (pv 0) pa_nil zsn)) pa_nil zsc) so)))))), ?_⟩
 have inj : ∀ {y : Str}, tx x = tx y -> x = y := fun {y} e => L_inj (Tr.w.inj e)
 rcases hl with ⟨i, i0, i1, rfl, e⟩ | ⟨y, hy, rfl, e⟩
 ·obtain rfl := inj e
  have hn := num_len i0 i1
  have hl : (numS i).length <= 10 := by rw [<- L_length]; exact hn
  refine ⟨_, rfl, _, rfl, by omega, fun H1 s1 => ⟨_, rfl, iteBT (num_number i0 i1) ?_⟩⟩
  refine ⟨_, rfl, _, i, rfl, PySem.W.KIN.num_reads i0 i1, by omega, (by show 2 <= sizeLine; decide), fun l hl' => ?_⟩
  exact q _ _ (s1.trans (Same.new hl' _)) ⟨l, _, rfl, ups, _, _, rfl, rfl, _, _, rfl, rfl, rfl⟩
 ·obtain rfl := inj e
  have hl := name_len hy
  refine ⟨_, rfl, _, rfl, by omega, fun H1 s1 => ⟨_, rfl, iteBF (name_no_number hy) ?_⟩⟩
  refine ⟨_, rfl, _, rfl, mr, _, rfl, .inr (SqT.of (s1 _ _ hm)), rfl, (by walk_at "k"), _, rfl, iteBF rfl ?_⟩
  refine ⟨_, rfl, x, rfl, hy, fun H2 s2 => ⟨(by show 2 <= sizeLine; decide), fun l hl' => ?_⟩⟩
  exact q _ _ (s1.trans (s2.trans (Same.new hl' _))) ⟨l, _, rfl, ups, _, _, rfl, rfl, _, _, rfl, rfl, rfl⟩
theorem ok_arm_from (T : Tx K mg) (R : D -> Tr -> Prop) (D_need : DefIs P w K mg base n "need" ["holds"] spNeed) (D_name_from : DefIs P w K mg base n "name_from" ["tree"] spNameFrom) (D_term_from : DefIs P w K mg base n "term_from" ["tree", "more"] (spTermFrom R)) :
  DefIs P w K mg base (n + 1) "arm_from" ["tree", "more"] (spTermFrom (Arm R)) := by
 refine DefIs.of T.d_arm_from sc_arm_from (fun vs H Q E h => ?_) (fun f cdv A outer s H vs Q E hr h => ?_)
 ·obtain ⟨_, _, _, _, rfl, _⟩ := h
  rfl
 obtain ⟨v, mr, d, t, rfl, hm, hv, ⟨g, x, e, te, hg, hx, he, rfl, rfl⟩, q⟩ := h
 obtain ⟨a, us, rfl, ha, v0, _, rfl, r0, v1, _, rfl, r1, ve, _, rfl, re, rfl⟩ := hv
 obtain rfl := relT_tx r0
 obtain rfl := relT_tx r1
 have hS : SqL K H a [.str g, .str x, ve] := SqL.of ha
 have hT : TyOf K H (.ref a) (.type "list") := TyOf.lst ha
 refine ⟨_, (zpn (ps_expr (pd D_need hr (zpc (pe_and (pe_callB call_isinst rfl T.z_isinstance PyProof.Rows.boot_isinstance (zpc (pv 0) (zpc (pe_gty T.z_list PyProof.Rows.boot_list) pa_nil zsn) zsn)) (pe_one (pe_cmpR op_eq (pe_callB call_len_seq rfl T.z_len PySem.boot_len (zpc (pv 0) pa_nil zsn)) pe_int (nomark _)))) pa_nil star_bool)))
   (zpo (ps_ret (pe_tup (zpc (pd D_name_from hr (zpc (pe_ix ix_list (pv 0) pe_int (fun _ _ => rfl)) pa_nil ss)) (zpc (pd D_name_from hr (zpc (pe_ix ix_list (pv 0) pe_int (fun _ _ => rfl)) pa_nil ss)) (zpc (pd D_term_from hr (zpc (pe_ix ix_list (pv 0) pe_int (fun _ _ => rfl)) (zpc (pv 1) pa_nil zsn) ss)) pa_nil zsc) zsc) zsc))))), ?_⟩
 refine ⟨_, rfl, _, _, _, _, _, rfl, fun u hu' => hu', hT, rfl, _, rfl, iteT ?_⟩
 refine ⟨_, rfl, a, _, rfl, .inl hS, rfl, bl_true rfl, ?_⟩
 refine ⟨_, rfl, a, _, _, _, rfl, rfl, hS, rfl, g, rfl, hg, fun H1 s1 => ?_⟩
 refine ⟨_, rfl, a, _, _, _, rfl, rfl, SqL.of (s1 _ _ ha), rfl, x, rfl, hx, fun H2 s2 => ?_⟩
 have s12 := s1.trans s2
 refine ⟨_, rfl, a, _, _, _, rfl, rfl, SqL.of (s12 _ _ ha), rfl, _, rfl, ve, mr, e, te, rfl, s12 _ _ hm, re.same s12 _, he, fun v3 H3 s3 r3 => ⟨(by show 3 <= sizeLine; decide), fun l hl => ?_⟩⟩
 exact q _ _ (s12.trans (s3.trans (Same.new hl _))) ⟨l, _, rfl, ups, _, _, rfl, rfl, _, _, rfl, rfl, v3, _, rfl, r3.same (Same.new hl _) _, rfl⟩
theorem ops_in : ∀ s ∈ ops, inV (.str s) [.str (Str.ofString "+"), .str (Str.ofString "-"), .str (Str.ofString "*"), .str (Str.ofString "<"), .str (Str.ofString "=")] = true := by walk_at "k"
theorem cut2 (x y : V) (r : List V) : cutV (x :: y :: r) (some 2) none = r := by
 unfold cutV
 have e1 : HT.sIx (x :: y :: r).length 0 (some 2) = 2 := by
  rw [show ((2 : Int)) = ((2 : Nat) : Int) from rfl, HT.sIx_nat]
  simp
 rw [e1, HT.sIx_none]
 show List.take (_ - 2) r = r
 exact List.take_of_length_le (by simp)
theorem cutA (x : V) (r : List V) : cutV (x :: r) (some 1) none = r := by
 unfold cutV
 have e1 : HT.sIx (x :: r).length 0 (some 1) = 1 := by
  rw [show ((1 : Int)) = ((1 : Nat) : Int) from rfl, HT.sIx_nat]
  simp
 rw [e1, HT.sIx_none]
 show List.take (_ - 1) r = r
 exact List.take_of_length_le (by simp)
theorem comp_read {R : D -> Tr -> Prop} {a mr : Addr} {us : List V} {ts : List Tr} {ds : List D} {H : Hp} {s0 : Option V} {σ : St} {Q : VK} (ha : H a = some (.lst us)) (hm : H mr = some (.tup [])) (ht : RelTs H us ts) (hR : All2 R ds ts) (hl : ts.length <= 1000)
  (q : ∀ D vs H', Same H H' -> H' D = some (.lst vs) -> RelDs H' vs ds -> Q (.ref D) H') : CompGo (Itl K a) [none, some 1] (gName 0) tYes (tCall (spTermFrom R) [] E0 (tCons (tVar 0) (tCons (tVar 1) tNil))) (s0 :: some (.ref mr) :: σ) H Q := by
 have e1 := ht.length
 have e2 := hR.length
 refine comp_list (j := 0) (xs := us) (fun i ys H' => Same H H' /\ RelDs H' ys (ds.take i)) (by rfl) ⟨Same.refl _, by simp [RelDs]⟩ (fitsLt (by omega)) (fun i ys H' _ p => SqL.of (p.1 _ _ ha)) ?_ ?_
 ·rintro i x ys H' hx hly ⟨sm, rd⟩
  obtain ⟨t, hti, rt⟩ := ht.get hx
  have hi : i < us.length := (List.getElem?_eq_some_iff.mp hx).1
  obtain ⟨d, hdi⟩ : ∃ d, ds[i]? = some d := ⟨ds[i]'(by omega), List.getElem?_eq_getElem (by omega)⟩
  obtain ⟨t', hti', r'⟩ := hR.get hdi
  rw [hti] at hti'
  cases hti'
  refine ⟨_, rfl, _, rfl, x, mr, d, t, rfl, sm _ _ hm, rt.same sm _, r', fun v2 H2 s2 r2 => nxt hi hly ⟨sm.trans s2, ?_⟩⟩
  rw [List.take_add_one, hdi]
  exact (rd.same s2 _).append ⟨v2, [], rfl, r2, rfl⟩
 ·rintro ys H' hly ⟨sm, rd⟩ D hD
  rw [List.take_of_length_le (by omega)] at rd
  exact q D ys _ (sm.trans (Same.new hD _)) ups (rd.same (Same.new hD _) _)
theorem ok_terms_from (T : Tx K mg) (R : D -> Tr -> Prop) (D_term_from : DefIs P w K mg base n "term_from" ["tree", "more"] (spTermFrom R)) : DefIs P w K mg base (n + 1) "terms_from" ["trees", "more"] (spTermsFrom R) := by
 refine DefIs.of T.d_terms_from sc_terms_from (fun vs H Q E h => ?_) (fun f cdv A outer s H vs Q E hr h => ?_)
 ·obtain ⟨_, _, _, _, _, rfl, _⟩ := h
  rfl
 obtain ⟨a, mr, us, ts, ds, rfl, hm, ha, ht, hR, hl, q⟩ := h
 refine ⟨_, (zpo (ps_ret (pe_callTy call_tuple_of rfl T.z_tuple PyProof.Rows.boot_tuple (zpc (pe_comp ["tree", "more"] [none, some 1] rfl (by kernel_rfl) (pi_list (pv 0)) (fun _ _ _ _ => (pg_name (i := 0) (by show List.Nodup (["tree", "more"] : List Str); decide +kernel) rfl (Or.inl rfl))) (fun _ _ _ _ => pts_nil) (fun _ _ _ _ => (pd D_term_from hr (zpc (pv 0) (zpc (pv 1) pa_nil zsn) zsn)))) pa_nil star_comp)))), ?_⟩
 refine ⟨_, rfl, a, rfl, ⟨_, SqL.of ha⟩, comp_read ha hm ht hR hl fun D vs H1 s1 e1 r1 => ?_⟩
 refine ⟨D, vs, rfl, .inl ⟨SqL.of e1, fun t2 ht2 => ?_⟩⟩
 have st := Same.new ht2 (.tup vs)
 exact q t2 vs _ (s1.trans st) ups (r1.same st _)
theorem catT_to {H : Hp} {Q : VK} {a b : Addr} {x : V} {xs ys : List V} (ha : H a = some (.tup (x :: xs))) (hb : H b = some (.tup ys)) (hz : (x :: xs).length + ys.length <= sizeLine) (hy : ys ≠ []) (q : ∀ c H', Same H H' -> H' c = some (.tup (x :: xs ++ ys)) -> Q (.ref c) H') : rCatT K (.ref a) (.ref b) H Q :=
 ⟨a, b, _, ys, rfl, rfl, SqT.of ha, SqT.of hb, by simp, hz, fun z => absurd z hy, fun _ p hp => q p _ (Same.new hp _) ups⟩
theorem ok_term_from (T : Tx K mg) (R : D -> Tr -> Prop) (D_need : DefIs P w K mg base n "need" ["holds"] spNeed) (D_name_from : DefIs P w K mg base n "name_from" ["tree"] spNameFrom) (D_leaf_from : DefIs P w K mg base n "leaf_from" ["word", "more"] spLeafFrom)
  (D_terms_from : DefIs P w K mg base n "terms_from" ["trees", "more"] (spTermsFrom R)) (D_arm_from : DefIs P w K mg base n "arm_from" ["tree", "more"] (spTermFrom (Arm R))) (D_term_from : DefIs P w K mg base n "term_from" ["tree", "more"] (spTermFrom R)) :
  DefIs P w K mg base (n + 1) "term_from" ["tree", "more"] (spTermFrom fun d t => Leaf d t \/ Node R d t) := by
 obtain ⟨o, g_OPS, hO⟩ := T.g_OPS
 refine DefIs.of T.d_term_from sc_term_from (fun vs H Q E h => ?_) (fun f cdv A outer s H vs Q E hr h => ?_)
 ·obtain ⟨_, _, _, _, rfl, _⟩ := h
  rfl
 obtain ⟨v, mr, d, t, rfl, hm, hv, hR, q⟩ := h
 have nd := sc_term_from.nd
 refine ⟨_, (zpn (ps_if (pt_val (pe_callB call_isinst rfl T.z_isinstance PyProof.Rows.boot_isinstance (zpc (pv 0) (zpc (pe_gty T.z_str PyProof.Rows.boot_str) pa_nil zsn) zsn))) (zpo (ps_ret (pd D_leaf_from hr (zpc (pv 0) (zpc (pv 1) pa_nil zsn) zsn)))) pss_nil)
   (zpn (ps_set (i := 2) nd rfl (by walk_at "o") (pe_ix ix_list (pv 0) pe_int (fun _ _ => rfl)))
   (zpn (ps_if (pt_cmpR op_in_seq (pv 2) (pe_gref g_OPS) (by with_unfolding_all rfl)) (zpn (ps_expr (pd D_need hr (zpc (pe_cmpR op_eq (pe_callB call_len_seq rfl T.z_len PySem.boot_len (zpc (pv 0) pa_nil zsn)) pe_int (nomark _)) pa_nil star_cmp)))
   (zpo (ps_ret (pe_op op_catT (pe_tup (zpc pe_str (zpc (pv 2) pa_nil zsn) so)) (pd D_terms_from hr (zpc (pe_slice sl_list (pv 0) (po_some pe_int) po_none) (zpc (pv 1) pa_nil zsn) ss)))))) pss_nil)
   (zpn (ps_if (pt_cmpR op_eq (pv 2) pe_str (nomark _)) (zpn (ps_expr (pd D_need hr (zpc (pe_cmpR op_ge (pe_callB call_len_seq rfl T.z_len PySem.boot_len (zpc (pv 0) pa_nil zsn)) pe_int (nomark _)) pa_nil star_cmp)))
   (zpo (ps_ret (pe_tup (zpc pe_str (zpc (pd D_name_from hr (zpc (pe_ix ix_list (pv 0) pe_int (fun _ _ => rfl)) pa_nil ss)) (zpc (pd D_terms_from hr (zpc (pe_slice sl_list (pv 0) (po_some pe_int) po_none) (zpc (pv 1) pa_nil zsn) ss)) pa_nil zsc) zsc) so))))) pss_nil)
   (zpn (ps_if (pt_cmpR op_eq (pv 2) pe_str (nomark _)) (zpn (ps_expr (pd D_need hr (zpc (pe_cmpR op_eq (pe_callB call_len_seq rfl T.z_len PySem.boot_len (zpc (pv 0) pa_nil zsn)) pe_int (nomark _)) pa_nil star_cmp)))
   (zpo (ps_ret (pe_tup (zpc pe_str (zpc (pd D_term_from hr (zpc (pe_ix ix_list (pv 0) pe_int (fun _ _ => rfl)) (zpc (pv 1) pa_nil zsn) ss)) (zpc (pd D_name_from hr (zpc (pe_ix ix_list (pv 0) pe_int (fun _ _ => rfl)) pa_nil ss)) pa_nil zsc) zsc) so))))) pss_nil)
   (zpn (ps_if (pt_cmpR op_eq (pv 2) pe_str (nomark _)) (zpn (ps_expr (pd D_need hr (zpc (pe_cmpR op_eq (pe_callB call_len_seq rfl T.z_len PySem.boot_len (zpc (pv 0) pa_nil zsn)) pe_int (nomark _)) pa_nil star_cmp)))
   (zpo (ps_ret (pe_tup (zpc pe_str (zpc (pd D_name_from hr (zpc (pe_ix ix_list (pv 0) pe_int (fun _ _ => rfl)) pa_nil ss)) (zpc (pd D_name_from hr (zpc (pe_ix ix_list (pv 0) pe_int (fun _ _ => rfl)) pa_nil ss)) (zpc (pd D_term_from hr (zpc (pe_ix ix_list (pv 0) pe_int (fun _ _ => rfl)) (zpc (pv 1) pa_nil zsn) ss)) pa_nil zsc) zsc) zsc) so))))) pss_nil)
   (zpn (ps_if (pt_cmpR op_eq (pv 2) pe_str (nomark _)) (zpn (ps_expr (pd D_need hr (zpc (pe_chain op_le op_le pe_int (pe_callB call_len_seq rfl T.z_len PySem.boot_len (zpc (pv 0) pa_nil zsn)) (pe_op op_add pe_int (pe_gint T.g_MOST_ARMS))) pa_nil star_cmp)))
   (zpo (ps_ret (pe_tup (zpc pe_str (zpc (pd D_term_from hr (zpc (pe_ix ix_list (pv 0) pe_int (fun _ _ => rfl)) (zpc (pv 1) pa_nil zsn) ss)) (zpc (pe_callTy call_tuple_of rfl T.z_tuple PyProof.Rows.boot_tuple (zpc (pe_comp ["each", "more"] [none, some 1] rfl (by kernel_rfl) (pi_list (pe_slice sl_list (pv 0) (po_some pe_int) po_none)) (fun _ _ _ _ => (pg_name (i := 0) (by show List.Nodup (["each", "more"] : List Str); decide +kernel) rfl (Or.inl rfl))) (fun _ _ _ _ => pts_nil) (fun _ _ _ _ => (pd D_arm_from hr (zpc (pv 0) (zpc (pv 1) pa_nil zsn) zsn)))) pa_nil star_comp)) pa_nil zsc) zsc) so))))) pss_nil)
   (zpn (ps_expr (pd D_need hr (zpc (pe_and (pe_cmpR op_eq (pv 2) pe_str (nomark _)) (pe_one (pe_cmpR op_eq (pe_callB call_len_seq rfl T.z_len PySem.boot_len (zpc (pv 0) pa_nil zsn)) pe_int (nomark _)))) pa_nil star_bool)))
   (zpo (ps_ret (pe_op op_catT (pe_tup (zpc pe_str pa_nil so)) (pd D_terms_from hr (zpc (pe_slice sl_list (pv 0) (po_some pe_int) po_none) (zpc (pv 1) pa_nil zsn) ss))))))))))))), ?_⟩
 rcases hR with hL | hR
 ·have hw : ∃ x : Str, v = .str x /\ Leaf d (tx x) := by
   rcases hL with ⟨i, i0, i1, rfl, rfl⟩ | ⟨x, hx, rfl, rfl⟩
   ·exact ⟨_, relT_tx hv, .inl ⟨i, i0, i1, rfl, rfl⟩⟩
   ·exact ⟨x, relT_tx hv, .inr ⟨x, hx, rfl, rfl⟩⟩
  obtain ⟨x, rfl, hl⟩ := hw
  refine ⟨_, rfl, _, _, _, _, _, rfl, fun u hu' => hu', TyOf.str _, rfl, _, rfl, iteT ?_⟩
  exact ⟨_, rfl, _, rfl, x, mr, d, rfl, hm, hl, q⟩
 have ty : ∀ {a : Addr} {us : List V}, H a = some (.lst us) -> TyOf K H (.ref a) (.type "list") := fun e => TyOf.lst e
 have opsT := hO H
 rcases hR with ⟨sg, x, y, tx', ty', hs, hx, hy, rfl, rfl⟩ | ⟨k, es, ts, hk, h5, hes, rfl, rfl⟩ | ⟨x, tx', g, hg, hx, rfl, rfl⟩ | ⟨k, g, x, tx', hk, hg, hx, rfl, rfl⟩ | ⟨x, tx', arms, ts, hx, h1, h4, har, rfl, rfl⟩ | ⟨x, y, z, tx', ty', tz', hx, hy, hz, rfl, rfl⟩
 ·obtain ⟨a, us, rfl, ha, v0, _, rfl, r0, v1, _, rfl, r1, v2, _, rfl, r2, rfl⟩ := hv
  obtain rfl := relT_tx r0
  have hS : SqL K H a [.str sg, v1, v2] := SqL.of ha
  refine ⟨_, rfl, _, _, _, _, _, rfl, fun u hu' => hu', ty ha, rfl, _, rfl, iteF ?_⟩
  refine ⟨_, rfl, a, _, _, _, rfl, rfl, hS, rfl, ?_⟩
  refine ⟨_, rfl, o, _, rfl, .inr opsT, rfl, (by walk_at "k"), _, rfl, iteBT (ops_in sg hs) ?_⟩
  refine ⟨_, rfl, a, _, rfl, .inl hS, rfl, bl_true rfl, ?_⟩
  refine ⟨_, rfl, (by show 2 <= sizeLine; decide), fun l hl => ?_⟩
  have sl := Same.new hl (.tup [.str (S "op"), .str sg])
  refine ⟨_, rfl, _, rfl, a, _, rfl, SqL.of (sl _ _ ha), fun c hc => ?_⟩
  rw [cutA]
  have sc := Same.new hc (.lst [v1, v2])
  have slc := sl.trans sc
  refine ⟨_, rfl, c, mr, _, [tx', ty'], [x, y], rfl, slc _ _ hm, ups, ⟨v1, _, rfl, r1.same slc _, v2, _, rfl, r2.same slc _, rfl⟩, .cons hx (.cons hy .nil), (by show 2 <= 1000; decide), fun p ys H3 s3 hp r3 => ?_⟩
  obtain ⟨u1, _, rfl, p1, u2, _, rfl, p2, rfl⟩ := r3
  refine catT_to (s3 _ _ (sc _ _ ups)) hp (by show 4 <= sizeLine; decide) (by simp) fun c2 H4 s4 h4 => ?_
  exact q _ _ (slc.trans (s3.trans s4)) ⟨c2, _, rfl, h4, _, _, rfl, rfl, _, _, rfl, rfl, u1, _, rfl, p1.same s4 _, u2, _, rfl, p2.same s4 _, rfl⟩
 ·obtain ⟨a, us, rfl, ha, v0, _, rfl, r0, v1, rest, rfl, r1, rr⟩ := hv
  obtain rfl := relT_tx r0
  obtain rfl := relT_tx r1
  have hS : SqL K H a (.str (S "rec") :: .str k :: rest) := SqL.of ha
  have hx0 : atI (V.str (S "rec") :: .str k :: rest) 0 = some (.str (S "rec")) := atI_nat (j := 0) rfl
  have hx1 : atI (V.str (S "rec") :: .str k :: rest) 1 = some (.str k) := atI_nat (j := 1) rfl
  refine ⟨_, rfl, _, _, _, _, _, rfl, fun u hu' => hu', ty ha, rfl, _, rfl, iteF ?_⟩
  refine ⟨_, rfl, a, _, _, _, rfl, rfl, hS, hx0, ?_⟩
  refine ⟨_, rfl, o, _, rfl, .inr opsT, rfl, (by walk_at "k"), _, rfl, iteBF (by walk_at "k") ?_⟩
  refine ⟨_, rfl, rfl, _, rfl, iteKT (by walk_at "k") ?_⟩
  refine ⟨_, rfl, a, _, rfl, .inl hS, _, _, rfl, rfl, bl_true (decide_eq_true (by rw [List.length_cons, List.length_cons]; omega)), ?_⟩
  refine ⟨_, rfl, a, _, _, _, rfl, rfl, hS, hx1, k, rfl, hk, fun H1 s1 => ?_⟩
  have l1 := hes.length
  refine ⟨_, rfl, _, rfl, a, _, rfl, SqL.of (s1 _ _ ha), fun c hc => ?_⟩
  rw [cut2]
  have sc := Same.new hc (.lst rest)
  refine ⟨_, rfl, c, mr, _, ts, es, rfl, sc _ _ (s1 _ _ hm), ups, rr.same (s1.trans sc) _, hes, by omega, fun t2 us H3 s3 e3 r3 => ⟨(by show 3 <= sizeLine; decide), fun l hl => ?_⟩⟩
  have sl := Same.new hl (.tup [.str (S "rec"), .str k, .ref t2])
  exact q _ _ (s1.trans (sc.trans (s3.trans sl))) ⟨l, _, rfl, ups, _, _, rfl, rfl, _, _, rfl, rfl, .ref t2, _, rfl, ⟨t2, us, rfl, sl _ _ e3, r3.same sl _⟩, rfl⟩
 ·obtain ⟨a, us, rfl, ha, v0, _, rfl, r0, v1, _, rfl, r1, v2, _, rfl, r2, rfl⟩ := hv
  obtain rfl := relT_tx r0
  obtain rfl := relT_tx r2
  have hS : SqL K H a [.str (S "get"), v1, .str g] := SqL.of ha
  refine ⟨_, rfl, _, _, _, _, _, rfl, fun u hu' => hu', ty ha, rfl, _, rfl, iteF ?_⟩
  refine ⟨_, rfl, a, _, _, _, rfl, rfl, hS, rfl, ?_⟩
  refine ⟨_, rfl, o, _, rfl, .inr opsT, rfl, (by walk_at "k"), _, rfl, iteBF (by walk_at "k") ?_⟩
  refine ⟨_, rfl, rfl, _, rfl, iteKF (by walk_at "k") ?_⟩
  refine ⟨_, rfl, rfl, _, rfl, iteKT (by walk_at "k") ?_⟩
  refine ⟨_, rfl, a, _, rfl, .inl hS, rfl, bl_true rfl, ?_⟩
  refine ⟨_, rfl, a, _, _, _, rfl, rfl, hS, rfl, _, rfl, v1, mr, x, tx', rfl, hm, r1, hx, fun u1 H1 s1 p1 => ?_⟩
  refine ⟨_, rfl, a, _, _, _, rfl, rfl, SqL.of (s1 _ _ ha), rfl, g, rfl, hg, fun H2 s2 => ⟨(by show 3 <= sizeLine; decide), fun l hl => ?_⟩⟩
  have sl := Same.new hl (.tup [.str (S "get"), u1, .str g])
  exact q _ _ (s1.trans (s2.trans sl)) ⟨l, _, rfl, ups, _, _, rfl, rfl, u1, _, rfl, p1.same (s2.trans sl) _, _, _, rfl, rfl, rfl⟩
 ·obtain ⟨a, us, rfl, ha, v0, _, rfl, r0, v1, _, rfl, r1, v2, _, rfl, r2, v3, _, rfl, r3, rfl⟩ := hv
  obtain rfl := relT_tx r0
  obtain rfl := relT_tx r1
  obtain rfl := relT_tx r2
  have hS : SqL K H a [.str (S "tag"), .str k, .str g, v3] := SqL.of ha
  refine ⟨_, rfl, _, _, _, _, _, rfl, fun u hu' => hu', ty ha, rfl, _, rfl, iteF ?_⟩
  refine ⟨_, rfl, a, _, _, _, rfl, rfl, hS, rfl, ?_⟩
  refine ⟨_, rfl, o, _, rfl, .inr opsT, rfl, (by walk_at "k"), _, rfl, iteBF (by walk_at "k") ?_⟩
  refine ⟨_, rfl, rfl, _, rfl, iteKF (by walk_at "k") ?_⟩
  refine ⟨_, rfl, rfl, _, rfl, iteKF (by walk_at "k") ?_⟩
  refine ⟨_, rfl, rfl, _, rfl, iteKT (by walk_at "k") ?_⟩
  refine ⟨_, rfl, a, _, rfl, .inl hS, rfl, bl_true rfl, ?_⟩
  refine ⟨_, rfl, a, _, _, _, rfl, rfl, hS, rfl, k, rfl, hk, fun H1 s1 => ?_⟩
  refine ⟨_, rfl, a, _, _, _, rfl, rfl, SqL.of (s1 _ _ ha), rfl, g, rfl, hg, fun H2 s2 => ?_⟩
  have s12 := s1.trans s2
  refine ⟨_, rfl, a, _, _, _, rfl, rfl, SqL.of (s12 _ _ ha), rfl, _, rfl, v3, mr, x, tx', rfl, s12 _ _ hm, r3.same s12 _, hx, fun u3 H3 s3 p3 => ⟨(by show 4 <= sizeLine; decide), fun l hl => ?_⟩⟩
  have sl := Same.new hl (.tup [.str (S "tag"), .str k, .str g, u3])
  exact q _ _ (s12.trans (s3.trans sl)) ⟨l, _, rfl, ups, _, _, rfl, rfl, _, _, rfl, rfl, _, _, rfl, rfl, u3, _, rfl, p3.same sl _, rfl⟩
 ·obtain ⟨a, us, rfl, ha, v0, _, rfl, r0, v1, rest, rfl, r1, rr⟩ := hv
  obtain rfl := relT_tx r0
  have hS : SqL K H a (.str (S "case") :: v1 :: rest) := SqL.of ha
  have hx0 : atI (V.str (S "case") :: v1 :: rest) 0 = some (.str (S "case")) := atI_nat (j := 0) rfl
  have hx1 : atI (V.str (S "case") :: v1 :: rest) 1 = some v1 := atI_nat (j := 1) rfl
  have l1 := har.length
  have l2 := rr.length
  refine ⟨_, rfl, _, _, _, _, _, rfl, fun u hu' => hu', ty ha, rfl, _, rfl, iteF ?_⟩
  refine ⟨_, rfl, a, _, _, _, rfl, rfl, hS, hx0, ?_⟩
  refine ⟨_, rfl, o, _, rfl, .inr opsT, rfl, (by walk_at "k"), _, rfl, iteBF (by walk_at "k") ?_⟩
  refine ⟨_, rfl, rfl, _, rfl, iteKF (by walk_at "k") ?_⟩
  refine ⟨_, rfl, rfl, _, rfl, iteKF (by walk_at "k") ?_⟩
  refine ⟨_, rfl, rfl, _, rfl, iteKF (by walk_at "k") ?_⟩
  refine ⟨_, rfl, rfl, _, rfl, iteKT (by walk_at "k") ?_⟩
  refine ⟨_, rfl, a, _, rfl, .inl hS, _, _, rfl, rfl, _, rfl, iteKT (decide_eq_true (by rw [List.length_cons, List.length_cons]; omega)) ?_⟩
  refine ⟨_, _, rfl, rfl, _, _, rfl, rfl, bl_true (decide_eq_true (by rw [List.length_cons, List.length_cons]; omega)), ?_⟩
  refine ⟨_, rfl, a, _, _, _, rfl, rfl, hS, hx1, _, rfl, v1, mr, x, tx', rfl, hm, r1, hx, fun u1 H1 s1 p1 => ?_⟩
  refine ⟨_, rfl, _, rfl, a, _, rfl, SqL.of (s1 _ _ ha), fun c hc => ?_⟩
  rw [cut2]
  have sc := Same.new hc (.lst rest)
  refine ⟨c, rfl, ⟨_, SqL.of ups⟩, comp_read ups (sc _ _ (s1 _ _ hm)) (rr.same (s1.trans sc) _) har (by omega) fun D us H3 s3 e3 r3 => ?_⟩
  refine ⟨D, us, rfl, .inl ⟨SqL.of e3, fun t2 ht2 => ⟨(by show 3 <= sizeLine; decide), fun l hl => ?_⟩⟩⟩
  have st := Same.new ht2 (.tup us)
  have sl := Same.new hl (.tup [.str (S "case"), u1, .ref t2])
  exact q _ _ (s1.trans (sc.trans (s3.trans (st.trans sl)))) ⟨l, _, rfl, ups, _, _, rfl, rfl, u1, _, rfl, p1.same (sc.trans (s3.trans (st.trans sl))) _, .ref t2, _, rfl, ⟨t2, us, rfl, sl _ _ ups, r3.same (st.trans sl) _⟩, rfl⟩
 ·obtain ⟨a, us, rfl, ha, v0, _, rfl, r0, v1, _, rfl, r1, v2, _, rfl, r2, v3, _, rfl, r3, rfl⟩ := hv
  obtain rfl := relT_tx r0
  have hS : SqL K H a [.str (S "if"), v1, v2, v3] := SqL.of ha
  refine ⟨_, rfl, _, _, _, _, _, rfl, fun u hu' => hu', ty ha, rfl, _, rfl, iteF ?_⟩
  refine ⟨_, rfl, a, _, _, _, rfl, rfl, hS, rfl, ?_⟩
  refine ⟨_, rfl, o, _, rfl, .inr opsT, rfl, (by walk_at "k"), _, rfl, iteBF (by walk_at "k") ?_⟩
  refine ⟨_, rfl, rfl, _, rfl, iteKF (by walk_at "k") ?_⟩
  refine ⟨_, rfl, rfl, _, rfl, iteKF (by walk_at "k") ?_⟩
  refine ⟨_, rfl, rfl, _, rfl, iteKF (by walk_at "k") ?_⟩
  refine ⟨_, rfl, rfl, _, rfl, iteKF (by walk_at "k") ?_⟩
  refine ⟨_, rfl, rfl, _, rfl, iteKT (by walk_at "k") ?_⟩
  refine ⟨_, rfl, a, _, rfl, .inl hS, rfl, bl_true rfl, ?_⟩
  refine ⟨(by show 1 <= sizeLine; decide), fun l hl => ?_⟩
  have sl := Same.new hl (.tup [.str (S "if")])
  refine ⟨_, rfl, _, rfl, a, _, rfl, SqL.of (sl _ _ ha), fun c hc => ?_⟩
  rw [cutA]
  have sc := Same.new hc (.lst [v1, v2, v3])
  have slc := sl.trans sc
  refine ⟨_, rfl, c, mr, _, [tx', ty', tz'], [x, y, z], rfl, slc _ _ hm, ups, ⟨v1, _, rfl, r1.same slc _, v2, _, rfl, r2.same slc _, v3, _, rfl, r3.same slc _, rfl⟩, .cons hx (.cons hy (.cons hz .nil)), (by show 3 <= 1000; decide), fun p ys H3 s3 hp r4 => ?_⟩
  obtain ⟨u1, _, rfl, p1, u2, _, rfl, p2, u3, _, rfl, p3, rfl⟩ := r4
  refine catT_to (s3 _ _ (sc _ _ ups)) hp (by show 4 <= sizeLine; decide) (by simp) fun c2 H4 s4 h4 => ?_
  exact q _ _ (slc.trans (s3.trans s4)) ⟨c2, _, rfl, h4, _, _, rfl, rfl, u1, _, rfl, p1.same s4 _, u2, _, rfl, p2.same s4 _, u3, _, rfl, p3.same s4 _, rfl⟩
def spTermOf (n : Nat) : Sp := fun vs H Q _ => ∃ d t, vs = [vOf t] /\ T2 n d t /\ ∀ v' H', Same H H' -> RelD H' v' d -> Q v' H'
def spTermWith (n : Nat) : Sp := fun vs H Q _ => ∃ mr d t, vs = [vOf t, .ref mr] /\ H mr = some (.tup []) /\ T2 n d t /\ ∀ v' H', Same H H' -> RelD H' v' d -> Q v' H'
theorem ok_term_with (T : Tx K mg) (hm : m <= 7) (D_need : DefIs P w K mg base n "need" ["holds"] spNeed) (D_trees_of : DefIs P w K mg base n "trees_of" ["text"] spTreesOf) (D_term_from : DefIs P w K mg base n "term_from" ["tree", "more"] (spTermFrom (T2 m))) : DefIs P w K mg base (n + 1) "term_with" ["text", "more"] (spTermWith m) := by
 refine DefIs.of T.d_term_with sc_term_with (fun vs H Q E h => ?_) (fun f cdv A outer s H vs Q E hr h => ?_)
 ·obtain ⟨_, _, _, rfl, _⟩ := h
  rfl
 obtain ⟨mr, d, t, rfl, h0, h2, q⟩ := h
 have nd := sc_term_with.nd
 refine ⟨_, (zpn (ps_set (i := 2) nd rfl (by walk_at "o") (pd D_trees_of hr (zpc (pv 0) pa_nil zsn)))
   (zpn (ps_expr (pd D_need hr (zpc (pe_cmpR op_eq (pe_callB call_len_seq rfl T.z_len PySem.boot_len (zpc (pv 2) pa_nil zsn)) pe_int (nomark _)) pa_nil star_cmp)))
   (zpo (ps_ret (pd D_term_from hr (zpc (pe_ix ix_list (pv 2) pe_int (fun _ _ => rfl)) (zpc (pv 1) pa_nil zsn) ss)))))), ?_⟩
 have hs := h2.short hm
 have hn := h2.nest
 refine ⟨_, rfl, strOf t, t, rfl, rfl, h2.good, by omega, by rw [strOf_len]; omega, fun a v H1 s1 ha r1 => ?_⟩
 refine ⟨_, rfl, a, _, rfl, .inl (SqL.of ha), rfl, rfl, ?_⟩
 exact ⟨_, rfl, a, _, 0, v, rfl, rfl, SqL.of ha, rfl, _, rfl, v, mr, d, t, rfl, s1 _ _ h0, r1, h2, fun v' H2 s2 r2 => q v' H2 (s1.trans s2) r2⟩
theorem ok_term_of (T : Tx K mg) (D_term_with : DefIs P w K mg base n "term_with" ["text", "more"] (spTermWith m)) : DefIs P w K mg base (n + 1) "term_of" ["text"] (spTermOf m) := by
 refine DefIs.of T.d_term_of sc_term_of (fun vs H Q E h => ?_) (fun f cdv A outer s H vs Q E hr h => ?_)
 ·obtain ⟨_, _, rfl, _⟩ := h
  rfl
 obtain ⟨d, t, rfl, h2, q⟩ := h
 refine ⟨_, (zpo (ps_ret (pd D_term_with hr (zpc (pv 0) (zpc (pe_tup pa_nil) pa_nil star_tup) zsn)))), ?_⟩
 exact ⟨_, rfl, Nat.zero_le _, fun mr hmr => ⟨mr, d, t, rfl, ups, h2, fun v' H' s' r' => q v' H' ((Same.new hmr _).trans s') r'⟩⟩
end
end K4
end
section
namespace K4
open PySem L2 M
seal L2.PE L2.PA L2.PS L2.PSs L2.PT L2.PW L2.PI L2.PG L2.PJ L2.PTs
section
variable {P : Program} {w : World} {K : PySem.W.Frag} {mg : Str -> Option Value} {base : Heap} {n m : Nat}
theorem arm_len {R : D -> Tr -> Prop} (hz : ∀ d t, R d t -> t.cs.length <= 2400000) {d : D} {t : Tr} (h : Arm R d t) : t.cs.length <= 3000000 := by
 obtain ⟨g, x, e, te, hg, hx, he, rfl, rfl⟩ := h
 have := hz _ _ he
 have := hg.le
 have := hx.le
 simp only [Tr.cs, bs, List.tail_cons, List.length_cons, List.length_append, List.length_nil, cs_tx]
 omega
theorem ok_inner_texts (T : Tx K mg) (R : D -> Tr -> Prop) (hz : ∀ d t, R d t -> t.cs.length <= 2400000) (D_term_texts : DefIs P w K mg base n "term_texts" ["terms"] (spTexts R)) (D_term_text : DefIs P w K mg base n "term_text" ["term"] (spText R))
  (D_arm_text : DefIs P w K mg base n "arm_text" ["arm"] (spArmText R)) : DefIs P w K mg base (n + 1) "inner_texts" ["term"] (spInner (Node R)) := by
 refine DefIs.of T.d_inner_texts sc_inner_texts (fun vs H Q E h => ?_) (fun f cdv A outer s H vs Q E hr h => ?_)
 ·obtain ⟨_, _, _, rfl, _⟩ := h
  rfl
 obtain ⟨v, d, ts, rfl, hv, hR, q⟩ := h
 have nd := sc_inner_texts.nd
 refine ⟨_, (zpn (ps_set (i := 1) nd rfl (by walk_at "o") (pe_ix ix_tup (pv 0) pe_int (fun _ _ => rfl)))
   (zpn (ps_if (pt_cmpR op_eq (pv 1) pe_str (nomark _)) (zpo (ps_ret (pe_op op_cat (pe_lst (zpc (pe_ix ix_tup (pv 0) pe_int (fun _ _ => rfl)) pa_nil ss)) (pd D_term_texts hr (zpc (pe_slice sl_tup (pv 0) (po_some pe_int) po_none) pa_nil ss))))) pss_nil)
   (zpn (ps_if (pt_cmpR op_eq (pv 1) pe_str (nomark _)) (zpo (ps_ret (pe_op op_cat (pe_lst (zpc (pv 1) (zpc (pe_ix ix_tup (pv 0) pe_int (fun _ _ => rfl)) pa_nil ss) zsn)) (pd D_term_texts hr (zpc (pe_ix ix_tup (pv 0) pe_int (fun _ _ => rfl)) pa_nil ss))))) pss_nil)
   (zpn (ps_if (pt_cmpR op_eq (pv 1) pe_str (nomark _)) (zpo (ps_ret (pe_lst (zpc (pv 1) (zpc (pd D_term_text hr (zpc (pe_ix ix_tup (pv 0) pe_int (fun _ _ => rfl)) pa_nil ss)) (zpc (pe_ix ix_tup (pv 0) pe_int (fun _ _ => rfl)) pa_nil ss) zsc) zsn)))) pss_nil)
   (zpn (ps_if (pt_cmpR op_eq (pv 1) pe_str (nomark _)) (zpo (ps_ret (pe_lst (zpc (pv 1) (zpc (pe_ix ix_tup (pv 0) pe_int (fun _ _ => rfl)) (zpc (pe_ix ix_tup (pv 0) pe_int (fun _ _ => rfl)) (zpc (pd D_term_text hr (zpc (pe_ix ix_tup (pv 0) pe_int (fun _ _ => rfl)) pa_nil ss)) pa_nil zsc) ss) ss) zsn)))) pss_nil)
   (zpn (ps_if (pt_cmpR op_eq (pv 1) pe_str (nomark _)) (zpo (ps_ret (pe_op op_cat (pe_lst (zpc (pv 1) (zpc (pd D_term_text hr (zpc (pe_ix ix_tup (pv 0) pe_int (fun _ _ => rfl)) pa_nil ss)) pa_nil zsc) zsn)) (pe_comp ["arm"] [none] rfl (by kernel_rfl) (pi_tup (pe_ix ix_tup (pv 0) pe_int (fun _ _ => rfl))) (fun _ _ _ _ => (pg_name (i := 0) (by show List.Nodup (["arm"] : List Str); decide +kernel) rfl (Or.inl rfl))) (fun _ _ _ _ => pts_nil) (fun _ _ _ _ => (pd D_arm_text hr (zpc (pv 0) pa_nil zsn))))))) pss_nil)
   (zpo (ps_ret (pe_op op_cat (pe_lst (zpc (pv 1) pa_nil zsn)) (pd D_term_texts hr (zpc (pe_slice sl_tup (pv 0) (po_some pe_int) po_none) pa_nil ss))))))))))), ?_⟩
 rcases hR with ⟨sg, x, y, tx', ty', hs, hx, hy, rfl, e⟩ | ⟨k, es, ts', hk, h5, hes, rfl, e⟩ | ⟨x, tx', g, hg, hx, rfl, e⟩ | ⟨k, g, x, tx', hk, hg, hx, rfl, e⟩ | ⟨x, tx', arms, ts', hx, h1, h4, har, rfl, e⟩ | ⟨x, y, z, tx', ty', tz', hx, hy, hz', rfl, e⟩
 ·cases e
  obtain ⟨a, us, rfl, ha, _, _, rfl, rfl, _, _, rfl, rfl, v1, _, rfl, r1, v2, _, rfl, r2, rfl⟩ := hv
  have hS : SqT K H a [.str (S "op"), .str sg, v1, v2] := SqT.of ha
  refine ⟨_, rfl, a, _, _, _, rfl, rfl, hS, rfl, ?_⟩
  refine ⟨_, rfl, rfl, _, rfl, iteKT (by walk_at "k") ?_⟩
  refine ⟨_, rfl, a, _, _, _, rfl, rfl, hS, rfl, (by show 1 <= sizeLine; decide), fun l hl => ?_⟩
  have sl := Same.new hl (.lst [.str sg])
  refine ⟨_, rfl, _, rfl, a, _, rfl, SqT.of (sl _ _ ha), (fun z => absurd (show (2 : Nat) = 0 from z.1) (by decide)), fun c hc => ?_⟩
  have sc := Same.new hc (.tup (cutV [V.str (S "op"), .str sg, v1, v2] (some 2) none))
  refine ⟨c, [v1, v2], [x, y], [tx', ty'], rfl, ups, ⟨v1, _, rfl, r1.same (sl.trans sc) _, v2, _, rfl, r2.same (sl.trans sc) _, rfl⟩, .cons hx (.cons hy .nil), (by simp), fun b H2 s2 hb => ?_⟩
  refine ⟨l, b, [.str sg], [vOf tx', vOf ty'], rfl, rfl, s2 _ _ (sc _ _ ups), hb, (by show 3 <= sizeLine; decide), fun p hp => ?_⟩
  refine q p _ (sl.trans (sc.trans (s2.trans (Same.new hp _)))) ?_
  rw [ups]
  show some (HO.lst [V.str sg, vOf tx', vOf ty']) = some (HO.lst [vOf (tx sg), vOf tx', vOf ty'])
  rw [vOf_tx]
 ·cases e
  obtain ⟨a, us, rfl, ha, _, _, rfl, rfl, _, _, rfl, rfl, v1, _, rfl, ⟨b1, us1, rfl, hb1, rr⟩, rfl⟩ := hv
  have hS : SqT K H a [.str (S "rec"), .str k, .ref b1] := SqT.of ha
  have l1 := hes.length
  have l2 := rr.length
  refine ⟨_, rfl, a, _, _, _, rfl, rfl, hS, rfl, ?_⟩
  refine ⟨_, rfl, rfl, _, rfl, iteKF (by walk_at "k") ?_⟩
  refine ⟨_, rfl, rfl, _, rfl, iteKT (by walk_at "k") ?_⟩
  refine ⟨_, rfl, _, rfl, a, _, _, _, rfl, rfl, hS, rfl, (by show 2 <= sizeLine; decide), fun l hl => ?_⟩
  have sl := Same.new hl (.lst [.str (S "rec"), .str k])
  refine ⟨_, rfl, a, _, _, _, rfl, rfl, SqT.of (sl _ _ ha), rfl, b1, us1, es, ts', rfl, sl _ _ hb1, rr.same sl _, hes, by omega, fun b H2 s2 hb => ?_⟩
  refine ⟨l, b, [.str (S "rec"), .str k], ts'.map vOf, rfl, rfl, s2 _ _ ups, hb, ?_, fun p hp => ?_⟩
  ·rw [List.length_map]; exact fits (by simp; omega)
  refine q p _ (sl.trans (s2.trans (Same.new hp _))) ?_
  rw [ups]
  show some (HO.lst (V.str (S "rec") :: V.str k :: ts'.map vOf)) = some (HO.lst (vOf (tx (S "rec")) :: vOf (tx k) :: ts'.map vOf))
  rw [vOf_tx, vOf_tx]
 ·cases e
  obtain ⟨a, us, rfl, ha, _, _, rfl, rfl, v1, _, rfl, r1, _, _, rfl, rfl, rfl⟩ := hv
  have hS : SqT K H a [.str (S "get"), v1, .str g] := SqT.of ha
  refine ⟨_, rfl, a, _, _, _, rfl, rfl, hS, rfl, ?_⟩
  refine ⟨_, rfl, rfl, _, rfl, iteKF (by walk_at "k") ?_⟩
  refine ⟨_, rfl, rfl, _, rfl, iteKF (by walk_at "k") ?_⟩
  refine ⟨_, rfl, rfl, _, rfl, iteKT (by walk_at "k") ?_⟩
  refine ⟨_, rfl, _, rfl, a, _, _, _, rfl, rfl, hS, rfl, v1, x, tx', rfl, r1, hx, fun H1 s1 => ?_⟩
  refine ⟨_, rfl, a, _, _, _, rfl, rfl, SqT.of (s1 _ _ ha), rfl, (by show 3 <= sizeLine; decide), fun l hl => ?_⟩
  refine q l _ (s1.trans (Same.new hl _)) ?_
  rw [ups]
  show some (HO.lst [V.str (S "get"), vOf tx', V.str g]) = some (HO.lst [vOf (tx (S "get")), vOf tx', vOf (tx g)])
  rw [vOf_tx, vOf_tx]
 ·cases e
  obtain ⟨a, us, rfl, ha, _, _, rfl, rfl, _, _, rfl, rfl, _, _, rfl, rfl, v1, _, rfl, r1, rfl⟩ := hv
  have hS : SqT K H a [.str (S "tag"), .str k, .str g, v1] := SqT.of ha
  refine ⟨_, rfl, a, _, _, _, rfl, rfl, hS, rfl, ?_⟩
  refine ⟨_, rfl, rfl, _, rfl, iteKF (by walk_at "k") ?_⟩
  refine ⟨_, rfl, rfl, _, rfl, iteKF (by walk_at "k") ?_⟩
  refine ⟨_, rfl, rfl, _, rfl, iteKF (by walk_at "k") ?_⟩
  refine ⟨_, rfl, rfl, _, rfl, iteKT (by walk_at "k") ?_⟩
  refine ⟨_, rfl, _, rfl, a, _, _, _, rfl, rfl, hS, rfl, _, rfl, a, _, _, _, rfl, rfl, hS, rfl, _, rfl, a, _, _, _, rfl, rfl, hS, rfl, v1, x, tx', rfl, r1, hx, fun H1 s1 => ⟨(by show 4 <= sizeLine; decide), fun l hl => ?_⟩⟩
  refine q l _ (s1.trans (Same.new hl _)) ?_
  rw [ups]
  show some (HO.lst [V.str (S "tag"), V.str k, V.str g, vOf tx']) = some (HO.lst [vOf (tx (S "tag")), vOf (tx k), vOf (tx g), vOf tx'])
  rw [vOf_tx, vOf_tx, vOf_tx]
 ·cases e
  obtain ⟨a, us, rfl, ha, _, _, rfl, rfl, v1, _, rfl, r1, _, _, rfl, ⟨b1, us1, rfl, hb1, rr⟩, rfl⟩ := hv
  have hS : SqT K H a [.str (S "case"), v1, .ref b1] := SqT.of ha
  have l1 := har.length
  have l2 := rr.length
  refine ⟨_, rfl, a, _, _, _, rfl, rfl, hS, rfl, ?_⟩
  refine ⟨_, rfl, rfl, _, rfl, iteKF (by walk_at "k") ?_⟩
  refine ⟨_, rfl, rfl, _, rfl, iteKF (by walk_at "k") ?_⟩
  refine ⟨_, rfl, rfl, _, rfl, iteKF (by walk_at "k") ?_⟩
  refine ⟨_, rfl, rfl, _, rfl, iteKF (by walk_at "k") ?_⟩
  refine ⟨_, rfl, rfl, _, rfl, iteKT (by walk_at "k") ?_⟩
  refine ⟨_, rfl, _, rfl, a, _, _, _, rfl, rfl, hS, rfl, v1, x, tx', rfl, r1, hx, fun H1 s1 => ⟨(by show 2 <= sizeLine; decide), fun l hl => ?_⟩⟩
  have sl := Same.new hl (.lst [.str (S "case"), vOf tx'])
  have s1l := s1.trans sl
  refine ⟨_, rfl, a, _, _, _, rfl, rfl, SqT.of (s1l _ _ ha), rfl, b1, rfl, ⟨_, SqT.of (s1l _ _ hb1)⟩, ?_⟩
  refine comp_tup (j := 0) (xs := us1) (fun i ys H' => Same (upd H1 l (.lst [.str (S "case"), vOf tx'])) H' /\ ys = (ts'.take i).map vOf) (by rfl) ⟨Same.refl _, rfl⟩ (fitsLt (by omega)) (fun i ys H' _ p => SqT.of (p.1 _ _ (s1l _ _ hb1))) ?_ ?_
  ·rintro i v ys H' hv' hl' ⟨sm, rfl⟩
   obtain ⟨d', hdi, rd⟩ := rr.get hv'
   obtain ⟨t', hti, rt⟩ := har.get hdi
   have hi : i < us1.length := (List.getElem?_eq_some_iff.mp hv').1
   refine ⟨_, rfl, v, d', t', rfl, rd.same (s1l.trans sm) _, rt, arm_len hz rt, fun H2 s2 => nxt hi hl' ⟨sm.trans s2, ?_⟩⟩
   rw [List.take_add_one, hti]
   simp
  ·rintro ys H' hl' ⟨sm, rfl⟩ b hb
   have sb := Same.new hb (.lst ((ts'.take us1.length).map vOf))
   refine ⟨l, b, [.str (S "case"), vOf tx'], (ts'.take us1.length).map vOf, rfl, rfl, sb _ _ (sm _ _ ups), ups, ?_, fun p hp => ?_⟩
   ·rw [List.length_map, List.length_take]; exact fits (by simp; omega)
   refine q p _ (s1l.trans (sm.trans (sb.trans (Same.new hp _)))) ?_
   rw [ups, List.take_of_length_le (by omega)]
   show some (HO.lst (V.str (S "case") :: vOf tx' :: ts'.map vOf)) = some (HO.lst (vOf (tx (S "case")) :: vOf tx' :: ts'.map vOf))
   rw [vOf_tx]
 ·cases e
  obtain ⟨a, us, rfl, ha, _, _, rfl, rfl, v1, _, rfl, r1, v2, _, rfl, r2, v3, _, rfl, r3, rfl⟩ := hv
  have hS : SqT K H a [.str (S "if"), v1, v2, v3] := SqT.of ha
  refine ⟨_, rfl, a, _, _, _, rfl, rfl, hS, rfl, ?_⟩
  refine ⟨_, rfl, rfl, _, rfl, iteKF (by walk_at "k") ?_⟩
  refine ⟨_, rfl, rfl, _, rfl, iteKF (by walk_at "k") ?_⟩
  refine ⟨_, rfl, rfl, _, rfl, iteKF (by walk_at "k") ?_⟩
  refine ⟨_, rfl, rfl, _, rfl, iteKF (by walk_at "k") ?_⟩
  refine ⟨_, rfl, rfl, _, rfl, iteKF (by walk_at "k") ?_⟩
  refine ⟨_, rfl, (by show 1 <= sizeLine; decide), fun l hl => ?_⟩
  have sl := Same.new hl (.lst [.str (S "if")])
  refine ⟨_, rfl, _, rfl, a, _, rfl, SqT.of (sl _ _ ha), (fun z => absurd (show (1 : Nat) = 0 from z.1) (by decide)), fun c hc => ?_⟩
  have sc := Same.new hc (.tup (cutV [V.str (S "if"), v1, v2, v3] (some 1) none))
  have slc := sl.trans sc
  refine ⟨c, [v1, v2, v3], [x, y, z], [tx', ty', tz'], rfl, ups, ⟨v1, _, rfl, r1.same slc _, v2, _, rfl, r2.same slc _, v3, _, rfl, r3.same slc _, rfl⟩, .cons hx (.cons hy (.cons hz' .nil)), (by simp), fun b H2 s2 hb => ?_⟩
  refine ⟨l, b, [.str (S "if")], [vOf tx', vOf ty', vOf tz'], rfl, rfl, s2 _ _ (sc _ _ ups), hb, (by show 4 <= sizeLine; decide), fun p hp => ?_⟩
  refine q p _ (slc.trans (s2.trans (Same.new hp _))) ?_
  rw [ups]
  show some (HO.lst [V.str (S "if"), vOf tx', vOf ty', vOf tz']) = some (HO.lst [vOf (tx (S "if")), vOf tx', vOf ty', vOf tz'])
  rw [vOf_tx]
theorem node_head {R : D -> Tr -> Prop} : ∀ d t, Node R d t -> ∃ ts a r, t = .l ts /\ d = .tup (.str a :: r) /\ a ≠ S "num" /\ a ≠ S "box" := by
 intro d t h
 rcases h with ⟨sg, x, y, tx', ty', hs, hx, hy, rfl, rfl⟩ | ⟨k, es, ts', hk, h5, hes, rfl, rfl⟩ | ⟨x, tx', g, hg, hx, rfl, rfl⟩ | ⟨k, g, x, tx', hk, hg, hx, rfl, rfl⟩ | ⟨x, tx', arms, ts', hx, h1, h4, har, rfl, rfl⟩ | ⟨x, y, z, tx', ty', tz', hx, hy, hz', rfl, rfl⟩ <;> exact ⟨_, _, _, rfl, rfl, by walk_at "k", by walk_at "k"⟩
theorem writer (T : Tx K mg) : ∀ m, m <= 7 -> DefIs P w K mg base (3 * m + 2) "term_text" ["term"] (spText (T2 m))
 | 0, _ => by
  refine (ok_term_text (n := 1) T (fun _ _ => False) (fun _ _ h => h.elim) (DefIs.none T.d_inner_texts ?_) (ok_bracketed (n := 0) T) fun _ _ h => h.elim).imp ?_
  ·rintro vs H Q E ⟨_, _, _, _, _, h, _⟩
   exact h
  ·rintro vs H Q E ⟨v, d, t, h1, h2, h3, h4⟩
   exact ⟨v, d, t, h1, h2, .inl h3, h4⟩
 | m + 1, hm => by
  have ih := writer T m (by omega)
  have hz : ∀ d t, T2 m d t -> t.cs.length <= 2400000 := fun d t h => h.short (by omega)
  have b1 : ∀ k, DefIs P w K mg base (k + 1) "bracketed" ["texts"] spBracketed := fun k => ok_bracketed T
  have tt := ok_term_texts T (T2 m) ih
  have at' := ok_arm_text T (T2 m) ih (b1 (3 * m + 1))
  have it := ok_inner_texts T (T2 m) hz tt (ih.mono (by omega)) at'
  have := ok_term_text T (Node (T2 m)) (fun d t h => by have := T2.short (n := m + 1) (.inr h) hm; omega) it (b1 (3 * m + 3)) node_head
  exact this
theorem reader (T : Tx K mg) : ∀ m, m <= 7 -> DefIs P w K mg base (2 * m + 6) "term_from" ["tree", "more"] (spTermFrom (T2 m))
 | 0, _ => by
  have made : ∀ k, DefIs P w K mg base (k + 1) "is_made_of" ["text", "signs", "most"] spMade := fun k => ok_is_made_of T
  have name : ∀ k, DefIs P w K mg base (k + 2) "is_name" ["text"] spName := fun k => ok_is_name T (made k)
  have number : ∀ k, DefIs P w K mg base (k + 2) "is_number" ["text"] spNumber := fun k => ok_is_number T (made k)
  have need : ∀ k, DefIs P w K mg base (k + 1) "need" ["holds"] spNeed := fun k => ok_need T
  have nf : ∀ k, DefIs P w K mg base (k + 3) "name_from" ["tree"] spNameFrom := fun k => ok_name_from T (need (k + 1)) (name k)
  have lf : ∀ k, DefIs P w K mg base (k + 4) "leaf_from" ["word", "more"] spLeafFrom := fun k => ok_leaf_from T (nf k) (number (k + 1))
  refine (ok_term_from (n := 5) T (fun _ _ => False) (need 4) (nf 2) (lf 1) ((ok_terms_from T (fun _ _ => False) (DefIs.none (n := 4) T.d_term_from ?_)).mono (by omega)) (DefIs.none T.d_arm_from ?_) (DefIs.none T.d_term_from ?_)).imp ?_
  ·rintro vs H Q E ⟨_, _, _, _, _, _, _, h, _⟩
   exact h
  ·rintro vs H Q E ⟨_, _, _, _, _, _, _, ⟨_, _, _, _, _, _, h, _⟩, _⟩
   exact h
  ·rintro vs H Q E ⟨_, _, _, _, _, _, _, h, _⟩
   exact h
  ·rintro vs H Q E ⟨v, mr, d, t, h1, h0, h2, h3, h4⟩
   exact ⟨v, mr, d, t, h1, h0, h2, .inl h3, h4⟩
 | m + 1, hm => by
  have ih := reader T m (by omega)
  have made : ∀ k, DefIs P w K mg base (k + 1) "is_made_of" ["text", "signs", "most"] spMade := fun k => ok_is_made_of T
  have name : ∀ k, DefIs P w K mg base (k + 2) "is_name" ["text"] spName := fun k => ok_is_name T (made k)
  have number : ∀ k, DefIs P w K mg base (k + 2) "is_number" ["text"] spNumber := fun k => ok_is_number T (made k)
  have need : ∀ k, DefIs P w K mg base (k + 1) "need" ["holds"] spNeed := fun k => ok_need T
  have nf : ∀ k, DefIs P w K mg base (k + 3) "name_from" ["tree"] spNameFrom := fun k => ok_name_from T (need (k + 1)) (name k)
  have lf : ∀ k, DefIs P w K mg base (k + 4) "leaf_from" ["word", "more"] spLeafFrom := fun k => ok_leaf_from T (nf k) (number (k + 1))
  have af := ok_arm_from (n := 2 * m + 6) T (T2 m) (need _) (nf (2 * m + 3)) ih
  exact ok_term_from (n := 2 * m + 7) T (T2 m) (need _) (nf (2 * m + 4)) (lf (2 * m + 3)) (ok_terms_from T (T2 m) ih) af (ih.mono (by omega))
theorem whole_reader (T : Tx K mg) {m : Nat} (hm : m <= 7) : DefIs P w K mg base (2 * m + 8) "term_of" ["text"] (spTermOf m) := by
 have need : ∀ k, DefIs P w K mg base (k + 1) "need" ["holds"] spNeed := fun k => ok_need T
 have cb : ∀ k, DefIs P w K mg base (k + 2) "close_brackets" ["pile", "many"] spClose := fun k => ok_close_brackets T (need k)
 have pw : ∀ k, DefIs P w K mg base (k + 3) "put_word" ["pile", "word"] spPut := fun k => ok_put_word T (need (k + 1)) (cb k)
 have tr : ∀ k, DefIs P w K mg base (k + 4) "trees_of" ["text"] spTreesOf := fun k => ok_trees_of T (need (k + 2)) (pw k)
 exact ok_term_of T (ok_term_with T hm (need (2 * m + 5)) (tr (2 * m + 2)) (reader T m hm))
end
end K4
end
section
namespace M
open PySem
def joinC (c : Nat) : List (List Nat) -> List Nat
 | [] => []
 | [x] => x
 | x :: y :: r => x ++ c :: joinC c (y :: r)
theorem cut_eqC {s : Nat} {x y a b : List Nat} (hx : s ∉ x) (hy : s ∉ y) (h : x ++ s :: a = y ++ s :: b) : x = y /\ a = b := by
 induction x generalizing y with
 | nil =>
  cases y with
  | nil => simpa using h
  | cons c y =>
   simp at h
   exact absurd (by rw [h.1]; simp) hy
 | cons c x ih =>
  cases y with
  | nil =>
   simp at h
   exact absurd (by rw [h.1]; simp) hx
  | cons d y =>
   simp at h
   obtain ⟨h1, h2⟩ := h
   obtain ⟨e1, e2⟩ := ih (y := y) (fun hm => hx (List.mem_cons_of_mem _ hm)) (fun hm => hy (List.mem_cons_of_mem _ hm)) (by simpa using h2)
   exact ⟨by rw [h1, e1], e2⟩
theorem joinC_inj (s : Nat) : ∀ (a b : List (List Nat)), a ≠ [] -> b ≠ [] -> (∀ x ∈ a, s ∉ x) -> (∀ x ∈ b, s ∉ x) -> joinC s a = joinC s b -> a = b
 | [], _, h, _, _, _, _ => absurd rfl h
 | _, [], _, h, _, _, _ => absurd rfl h
 | [x], [y], _, _, _, _, h => by
  have : x = y := h
  rw [this]
 | [x], y :: z :: r, _, _, ha, _, h => by
  have h' : x = y ++ s :: joinC s (z :: r) := h
  exact absurd (by rw [h']; simp) (ha x (by simp))
 | x :: z :: r, [y], _, _, _, hb, h => by
  have h' : x ++ s :: joinC s (z :: r) = y := h
  exact absurd (by rw [<- h']; simp) (hb y (by simp))
 | x :: z :: r, y :: z' :: r', _, _, ha, hb, h => by
  obtain ⟨e1, e2⟩ := cut_eqC (ha x (by simp)) (hb y (by simp)) h
  have := joinC_inj s (z :: r) (z' :: r') (by simp) (by simp) (fun u hu => ha u (List.mem_cons_of_mem _ hu)) (fun u hu => hb u (List.mem_cons_of_mem _ hu)) e2
  rw [e1, this]
theorem L_joinC (c : Nat) : ∀ ys : List Str, L (Str.join ⟨#[c]⟩ ys) = joinC c (ys.map L)
 | [] => rfl
 | [x] => rfl
 | x :: y :: r => by
  show L (x ++ ⟨#[c]⟩ ++ Str.join ⟨#[c]⟩ (y :: r)) = L x ++ c :: joinC c ((y :: r).map L)
  rw [L_append, L_append, L_joinC c (y :: r), List.append_assoc]
  rfl
theorem map_L {a b : List Str} (h : a.map L = b.map L) : a = b := by
 have := congrArg (List.map ofL) h
 rw [List.map_map, List.map_map] at this
 rwa [show (ofL ∘ L) = id from funext ofL_L, List.map_id, List.map_id] at this
theorem split_joinC (x : Str) (c : Nat) : joinC c ((Txt.split x ⟨#[c]⟩).map L) = L x := by rw [<- L_joinC, StrLaws.join_split]
theorem splitC {c : Nat} {x : Str} {ys : List Str} (hn : ys ≠ []) (hf : ∀ z ∈ ys, c ∉ L z) (hj : joinC c (ys.map L) = L x) : Txt.split x ⟨#[c]⟩ = ys := by
 refine map_L (joinC_inj c _ _ ?_ ?_ ?_ ?_ ?_)
 ·exact fun e => split_ne x ⟨#[c]⟩ (List.map_eq_nil_iff.mp e)
 ·exact fun e => hn (List.map_eq_nil_iff.mp e)
 ·intro z hz
  obtain ⟨p, hp, rfl⟩ := List.mem_map.mp hz
  exact StrLaws.split_free x c p hp
 ·intro z hz
  obtain ⟨p, hp, rfl⟩ := List.mem_map.mp hz
  exact hf p hp
 ·rw [split_joinC, hj]
theorem split_one {w : Str} (hw : 32 ∉ L w) : Txt.split w (S " ") = [w] := by
 rw [blank_is]
 exact splitC (by simp) (fun z hz => by rw [List.mem_singleton.mp hz]; exact hw) rfl
theorem Name.no {x : Str} (h : Name x) {c : Nat} (hc : isLetter c = false) : c ∉ L x := fun hm => by
 have := h.letters c hm
 rw [hc] at this
 cases this
def Hi (l : List Nat) : Prop := ∀ c ∈ l, 32 <= c
theorem hi_l {ts : List Tr} (h : Hi (bs ts)) : Hi (Tr.l ts).cs := by
 intro c hc
 have hc' : c ∈ 40 :: ((bs ts).tail ++ [41]) := hc
 rcases List.mem_cons.mp hc' with rfl | hc'
 ·decide
 ·rcases List.mem_append.mp hc' with hc' | hc'
  ·exact h c (List.mem_of_mem_tail hc')
  ·rw [List.mem_singleton.mp hc']; decide
theorem hi_nil : Hi (bs []) := fun c hc => nomatch hc
theorem hi_cons {t : Tr} {ts : List Tr} (h : Hi t.cs) (h' : Hi (bs ts)) : Hi (bs (t :: ts)) := by
 intro c hc
 have hc' : c ∈ 32 :: (t.cs ++ bs ts) := hc
 rcases List.mem_cons.mp hc' with rfl | hc'
 ·decide
 ·rcases List.mem_append.mp hc' with hc' | hc'
  ·exact h c hc'
  ·exact h' c hc'
theorem hi_of {R : D -> Tr -> Prop} {es : List D} {ts : List Tr} (h : All2 R es ts) (g : ∀ d t, R d t -> Hi t.cs) : Hi (bs ts) := by
 induction h with
 | nil => exact hi_nil
 | cons h _ ih => exact hi_cons (g _ _ h) ih
theorem hi_name {x : Str} (h : Name x) : Hi (tx x).cs := fun c hc => by
 have := h.letters c hc
 simp [isLetter] at this
 omega
theorem hi_num {n : Int} (h : 0 <= n) : Hi (tx (numS n)).cs := fun c hc => by
 have := num_figures h c hc
 simp [isFigure] at this
 omega
theorem hi_ops : ∀ s ∈ ops, Hi (tx s).cs := by
 have e : ∀ s ∈ ops, (s.cps.toList.all fun c => decide (32 <= c)) = true := by walk_at "k"
 intro s hs c hc
 have := List.all_eq_true.mp (e s hs) c hc
 exact of_decide_eq_true this
theorem hi_heads : ∀ s ∈ heads, Hi (tx s).cs := by
 have e : ∀ s ∈ heads, (s.cps.toList.all fun c => decide (32 <= c)) = true := by walk_at "k"
 intro s hs c hc
 have := List.all_eq_true.mp (e s hs) c hc
 exact of_decide_eq_true this
theorem leaf_hi {d : D} {t : Tr} (h : Leaf d t) : Hi t.cs := by
 rcases h with ⟨n, h0, h1, _, rfl⟩ | ⟨x, hx, _, rfl⟩
 ·exact hi_num h0
 ·exact hi_name hx
theorem arm_hi {R : D -> Tr -> Prop} (g : ∀ d t, R d t -> Hi t.cs) {d : D} {t : Tr} (h : Arm R d t) : Hi t.cs := by
 obtain ⟨a, x, e, te, ha, hx, he, _, rfl⟩ := h
 exact hi_l (hi_cons (hi_name ha) (hi_cons (hi_name hx) (hi_cons (g _ _ he) hi_nil)))
theorem T2.hi : ∀ {n : Nat} {d : D} {t : Tr}, T2 n d t -> Hi t.cs
 | 0, d, t, h => leaf_hi h
 | n + 1, d, t, h => by
  have ih : ∀ d t, T2 n d t -> Hi t.cs := fun d t h => T2.hi h
  rcases h with h | ⟨s, a, b, ta, tb, hs, ha, hb, _, rfl⟩ | ⟨k, es, ts, hk, _, hes, _, rfl⟩ | ⟨a, ta, f, hf, ha, _, rfl⟩ | ⟨k, g, a, ta, hk, hg, ha, _, rfl⟩ | ⟨a, ta, arms, ts, ha, h1, _, hs, _, rfl⟩ | ⟨a, b, c, ta, tb, tc, ha, hb, hc, _, rfl⟩
  ·exact leaf_hi h
  ·exact hi_l (hi_cons (hi_ops s hs) (hi_cons (ih _ _ ha) (hi_cons (ih _ _ hb) hi_nil)))
  ·exact hi_l (hi_cons (hi_heads _ (by walk_at "k")) (hi_cons (hi_name hk) (hi_of hes ih)))
  ·exact hi_l (hi_cons (hi_heads _ (by walk_at "k")) (hi_cons (ih _ _ ha) (hi_cons (hi_name hf) hi_nil)))
  ·exact hi_l (hi_cons (hi_heads _ (by walk_at "k")) (hi_cons (hi_name hk) (hi_cons (hi_name hg) (hi_cons (ih _ _ ha) hi_nil))))
  ·exact hi_l (hi_cons (hi_heads _ (by walk_at "k")) (hi_cons (ih _ _ ha) (hi_of hs fun d t h => arm_hi ih h)))
  ·exact hi_l (hi_cons (hi_heads _ (by walk_at "k")) (hi_cons (ih _ _ ha) (hi_cons (ih _ _ hb) (hi_cons (ih _ _ hc) hi_nil))))
theorem Hi.no {l : List Nat} (h : Hi l) {c : Nat} (hc : c < 32) : c ∉ l := fun hm => absurd (h c hm) (by omega)
theorem lf_is : S "\n" = ⟨#[10]⟩ := by walk_at "k"
theorem join_words (x : Str) : Txt.join (S " ") (Txt.split x (S " ")) = x := by
 refine L_inj ?_
 rw [L_txtjoin, blank_is, <- L_join 32 _ rfl, StrLaws.join_split]
theorem joinB_sum : ∀ ws : List (List Nat), ws ≠ [] -> (ws.map List.length).sum + ws.length = (joinB ws).length + 1
 | [], h => absurd rfl h
 | [x], _ => by simp [joinB]
 | x :: y :: r, _ => by
  have ih := joinB_sum (y :: r) (by simp)
  show _ = (x ++ 32 :: joinB (y :: r)).length + 1
  rw [List.length_append, List.length_cons]
  simp only [List.map_cons, List.sum_cons, List.length_cons] at ih ⊢
  omega
theorem words_sum (x : Str) : ((Txt.split x (S " ")).map (·.length)).sum + (Txt.split x (S " ")).length = x.length + 1 := by
 have h := joinB_sum ((Txt.split x (S " ")).map L) (fun e => split_ne x (S " ") (List.map_eq_nil_iff.mp e))
 have e : joinB ((Txt.split x (S " ")).map L) = L x := by rw [blank_is, <- L_join 32 _ rfl, StrLaws.join_split]
 rw [e, L_length, List.length_map, List.map_map] at h
 rw [show (fun y : Str => y.length) = (List.length ∘ L) from funext fun y => (L_length y).symm]
 exact h
end M
end
section
namespace M
open PySem L2
def KWd (x : Str) : Prop := x = S "num" \/ Name x
abbrev Ch := Str × Str × Str × Str
inductive Rw where
 | en : Rw
 | go (n : Int) : Rw
 | take (l c x : Str) : Rw
 | tell (d : D) (t : Tr) : Rw
 | iff (d : D) (t : Tr) (n : Int) : Rw
 | set (b : Bool) (x : Str) (d : D) (t : Tr) : Rw
def setW (b : Bool) : Str := if b = true then S "set" else S "send"
def Rw.d : Rw -> D
 | .en => .tup [.str (S "end")]
 | .go n => .tup [.str (S "go"), .int n]
 | .take l c x => .tup [.str (S "take"), .str l, .str c, .str x]
 | .tell d _ => .tup [.str (S "tell"), d]
 | .iff d _ n => .tup [.str (S "if"), d, .int n]
 | .set b x d _ => .tup [.str (setW b), .str x, d]
def Rw.ws : Rw -> List Str
 | .en => [S "end"]
 | .go n => [S "go", numS n]
 | .take l c x => [S "take", l, c, x]
 | .tell _ t => [S "tell", strOf t]
 | .iff _ t n => [S "if", strOf t, numS n]
 | .set b x _ t => [setW b, x, strOf t]
def TOk (d : D) (t : Tr) : Prop := T2 7 d t /\ t.cs.length <= 3200
def Rw.Ok : Rw -> Prop
 | .en => True
 | .go n => 0 <= n /\ n < 10 ^ 10
 | .take l c x => Name l /\ Name c /\ Name x
 | .tell d t => TOk d t
 | .iff d t n => TOk d t /\ 0 <= n /\ n < 10 ^ 10
 | .set _ x d t => Name x /\ TOk d t
inductive Ln where
 | kind (k : Kn) : Ln
 | chan (c : Ch) : Ln
 | hand (x : Str) : Ln
 | box (p : Str × Str) : Ln
 | row (r : Rw) : Ln
def partWs (ps : List (Str × Str)) : List Str := ps.flatMap fun p => [p.1, p.2]
def Ln.ws : Ln -> List Str
 | .kind k => k.sort :: k.name :: partWs k.parts
 | .chan c => [S "channel", c.1, c.2.1, c.2.2.1, c.2.2.2]
 | .hand x => [S "hand", x]
 | .box p => [S "box", p.1, p.2]
 | .row r => r.ws
def PtOk (p : Str × Str) : Prop := Name p.1 /\ KWd p.2
def KnOk (k : Kn) : Prop := Name k.name /\ k.parts.length <= 4 /\ (k.rc = false -> k.parts ≠ []) /\ ∀ p ∈ k.parts, PtOk p
def ChOk (c : Ch) : Prop := Name c.1 /\ Name c.2.1 /\ Name c.2.2.1 /\ KWd c.2.2.2
def Ln.Ok : Ln -> Prop
 | .kind k => KnOk k
 | .chan c => ChOk c
 | .hand x => Name x
 | .box p => PtOk p
 | .row r => r.Ok
def lineOf (ws : List Str) : Str := Txt.join (S " ") ws
def Ln.line (l : Ln) : Str := lineOf l.ws
def WOk (w : Str) : Prop := Hi (L w) /\ L w ≠ [] /\ w.length <= 3200
theorem wok_name {x : Str} (h : Name x) : WOk x := ⟨hi_name h, h.pos, by have := h.le; rw [show x.cps.toList.length = x.length by simp [Str.length]] at this; omega⟩
theorem wok_num {n : Int} (h : 0 <= n) (h1 : n < 10 ^ 10) : WOk (numS n) := ⟨hi_num h, num_ne h, by have := num_len h h1; rw [show (numS n).cps.toList.length = (numS n).length by simp [Str.length]] at this; omega⟩
theorem cs_ne : ∀ {n : Nat} {d : D} {t : Tr}, T2 n d t -> t.cs ≠ []
 | 0, d, t, h => by
  rcases h with ⟨n, h0, h1, _, rfl⟩ | ⟨x, hx, _, rfl⟩
  ·exact num_ne h0
  ·exact hx.pos
 | n + 1, d, t, h => by
  have key : ∀ ts : List Tr, (Tr.l ts).cs ≠ [] := fun ts => by
   show 40 :: ((bs ts).tail ++ [41]) ≠ []
   simp
  rcases h with h | h
  ·exact cs_ne (n := 0) h
  ·rcases h with ⟨_, _, _, _, _, _, _, _, _, rfl⟩ | ⟨_, _, _, _, _, _, _, rfl⟩ | ⟨_, _, _, _, _, _, rfl⟩ | ⟨_, _, _, _, _, _, _, _, rfl⟩ | ⟨_, _, _, _, _, _, _, _, _, rfl⟩ | ⟨_, _, _, _, _, _, _, _, _, _, rfl⟩ <;> exact key _
theorem wok_term {d : D} {t : Tr} (h : TOk d t) : WOk (strOf t) := ⟨h.1.hi, cs_ne h.1, by rw [strOf_len]; exact h.2⟩
theorem wok_lit : ∀ w ∈ [S "end", S "go", S "take", S "tell", S "if", S "set", S "send", S "channel", S "hand", S "box", S "rec", S "alt", S "num"], WOk w := by
 have e : ∀ w ∈ [S "end", S "go", S "take", S "tell", S "if", S "set", S "send", S "channel", S "hand", S "box", S "rec", S "alt", S "num"], (w.cps.toList.all (fun c => decide (32 <= c)) && decide (w.cps.toList ≠ []) && decide (w.length <= 3200)) = true := by walk_at "k"
 intro w hw
 have := e w hw
 simp only [Bool.and_eq_true, List.all_eq_true, decide_eq_true_eq] at this
 exact ⟨fun c hc => this.1.1 c hc, this.1.2, this.2⟩
theorem wok_kwd {x : Str} (h : KWd x) : WOk x := by
 rcases h with rfl | h
 ·exact wok_lit _ (by simp)
 ·exact wok_name h
theorem kwd_len {x : Str} (h : KWd x) : x.length <= 6 := by
 rcases h with rfl | h
 ·decide +kernel
 ·have := h.le; rw [show x.cps.toList.length = x.length by simp [Str.length]] at this; omega
theorem name_len6 {x : Str} (h : Name x) : x.length <= 6 := kwd_len (.inr h)
theorem num_len10 {n : Int} (h : 0 <= n) (h1 : n < 10 ^ 10) : (numS n).length <= 10 := by
 have := num_len h h1; rw [show (numS n).cps.toList.length = (numS n).length by simp [Str.length]] at this; omega
theorem setW_cases (b : Bool) : setW b = S "set" \/ setW b = S "send" := by
 cases b
 ·exact .inr rfl
 ·exact .inl rfl
theorem sort_cases (k : Kn) : k.sort = S "rec" \/ k.sort = S "alt" := by
 unfold Kn.sort
 split
 ·exact .inl rfl
 ·exact .inr rfl
theorem wok_set (b : Bool) : WOk (setW b) := by
 rcases setW_cases b with e | e <;> rw [e] <;> exact wok_lit _ (by simp)
theorem wok_sort (k : Kn) : WOk k.sort := by
 rcases sort_cases k with e | e <;> rw [e] <;> exact wok_lit _ (by simp)
theorem partWs_ok : ∀ {ps : List (Str × Str)}, (∀ p ∈ ps, PtOk p) -> ∀ w ∈ partWs ps, WOk w := fun {ps} h w hw => by
 obtain ⟨p, hp, hw⟩ := List.mem_flatMap.mp hw
 rcases List.mem_cons.mp hw with rfl | hw
 ·exact wok_name (h p hp).1
 ·rw [List.mem_singleton.mp hw]; exact wok_kwd (h p hp).2
theorem Ln.words {l : Ln} (h : l.Ok) : ∀ w ∈ l.ws, WOk w := by
 intro w hw
 cases l with
 | kind k =>
  rcases List.mem_cons.mp hw with rfl | hw
  ·exact wok_sort k
  rcases List.mem_cons.mp hw with rfl | hw
  ·exact wok_name h.1
  ·exact partWs_ok h.2.2.2 w hw
 | chan c =>
  obtain ⟨h1, h2, h3, h4⟩ := h
  simp only [Ln.ws, List.mem_cons, List.not_mem_nil, or_false] at hw
  rcases hw with rfl | rfl | rfl | rfl | rfl
  ·exact wok_lit _ (by simp)
  ·exact wok_name h1
  ·exact wok_name h2
  ·exact wok_name h3
  ·exact wok_kwd h4
 | hand x =>
  simp only [Ln.ws, List.mem_cons, List.not_mem_nil, or_false] at hw
  rcases hw with rfl | rfl
  ·exact wok_lit _ (by simp)
  ·exact wok_name h
 | box p =>
  simp only [Ln.ws, List.mem_cons, List.not_mem_nil, or_false] at hw
  rcases hw with rfl | rfl | rfl
  ·exact wok_lit _ (by simp)
  ·exact wok_name h.1
  ·exact wok_kwd h.2
 | row r =>
  cases r with
  | en => rw [List.mem_singleton.mp hw]; exact wok_lit _ (by simp)
  | go n =>
   simp only [Ln.ws, Rw.ws, List.mem_cons, List.not_mem_nil, or_false] at hw
   rcases hw with rfl | rfl
   ·exact wok_lit _ (by simp)
   ·exact wok_num h.1 h.2
  | take a b c =>
   obtain ⟨h1, h2, h3⟩ := h
   simp only [Ln.ws, Rw.ws, List.mem_cons, List.not_mem_nil, or_false] at hw
   rcases hw with rfl | rfl | rfl | rfl
   ·exact wok_lit _ (by simp)
   ·exact wok_name h1
   ·exact wok_name h2
   ·exact wok_name h3
  | tell d t =>
   simp only [Ln.ws, Rw.ws, List.mem_cons, List.not_mem_nil, or_false] at hw
   rcases hw with rfl | rfl
   ·exact wok_lit _ (by simp)
   ·exact wok_term h
  | iff d t n =>
   simp only [Ln.ws, Rw.ws, List.mem_cons, List.not_mem_nil, or_false] at hw
   rcases hw with rfl | rfl | rfl
   ·exact wok_lit _ (by simp)
   ·exact wok_term h.1
   ·exact wok_num h.2.1 h.2.2
  | set b x d t =>
   simp only [Ln.ws, Rw.ws, List.mem_cons, List.not_mem_nil, or_false] at hw
   rcases hw with rfl | rfl | rfl
   ·exact wok_set b
   ·exact wok_name h.1
   ·exact wok_term h.2
theorem partWs_sum : ∀ {ps : List (Str × Str)}, (∀ p ∈ ps, PtOk p) -> ((partWs ps).map (·.length)).sum + (partWs ps).length <= 14 * ps.length
 | [], _ => Nat.le_refl _
 | p :: ps, h => by
  have ih := partWs_sum (ps := ps) fun q hq => h q (by simp [hq])
  have h1 := name_len6 (h p (by simp)).1
  have h2 := kwd_len (h p (by simp)).2
  show ((p.1 :: p.2 :: partWs ps).map (·.length)).sum + (p.1 :: p.2 :: partWs ps).length <= _
  simp only [List.map_cons, List.sum_cons, List.length_cons]
  omega
theorem Ln.sum {l : Ln} (h : l.Ok) : (l.ws.map (·.length)).sum + l.ws.length <= 3300 := by
 have e1 : (S "end").length = 3 := by walk_at "k"
 have e2 : (S "go").length = 2 := by walk_at "k"
 have e3 : (S "take").length = 4 := by walk_at "k"
 have e4 : (S "tell").length = 4 := by walk_at "k"
 have e5 : (S "if").length = 2 := by walk_at "k"
 have e6 : (S "channel").length = 7 := by walk_at "k"
 have e7 : (S "hand").length = 4 := by walk_at "k"
 have e8 : (S "box").length = 3 := by walk_at "k"
 have e9 : ∀ b, (setW b).length <= 4 := fun b => by rcases setW_cases b with e | e <;> rw [e] <;> decide +kernel
 cases l with
 | kind k =>
  have h1 := name_len6 h.1
  have h2 := partWs_sum h.2.2.2
  have h3 := h.2.1
  have h4 : k.sort.length <= 3 := by rcases sort_cases k with e | e <;> rw [e] <;> decide +kernel
  simp only [Ln.ws, List.map_cons, List.sum_cons, List.length_cons]
  omega
 | chan c =>
  have h1 := name_len6 h.1
  have h2 := name_len6 h.2.1
  have h3 := name_len6 h.2.2.1
  have h4 := kwd_len h.2.2.2
  simp only [Ln.ws, List.map_cons, List.map_nil, List.sum_cons, List.sum_nil, List.length_cons, List.length_nil]
  omega
 | hand x =>
  have h1 := name_len6 h
  simp only [Ln.ws, List.map_cons, List.map_nil, List.sum_cons, List.sum_nil, List.length_cons, List.length_nil]
  omega
 | box p =>
  have h1 := name_len6 h.1
  have h2 := kwd_len h.2
  simp only [Ln.ws, List.map_cons, List.map_nil, List.sum_cons, List.sum_nil, List.length_cons, List.length_nil]
  omega
 | row r =>
  cases r with
  | en => simp only [Ln.ws, Rw.ws, List.map_cons, List.map_nil, List.sum_cons, List.sum_nil, List.length_cons, List.length_nil]; omega
  | go n =>
   have h1 := num_len10 h.1 h.2
   simp only [Ln.ws, Rw.ws, List.map_cons, List.map_nil, List.sum_cons, List.sum_nil, List.length_cons, List.length_nil]; omega
  | take a b c =>
   have h1 := name_len6 h.1
   have h2 := name_len6 h.2.1
   have h3 := name_len6 h.2.2
   simp only [Ln.ws, Rw.ws, List.map_cons, List.map_nil, List.sum_cons, List.sum_nil, List.length_cons, List.length_nil]; omega
  | tell d t =>
   have h1 : t.cs.length <= 3200 := h.2
   have h2 := strOf_len t
   simp only [Ln.ws, Rw.ws, List.map_cons, List.map_nil, List.sum_cons, List.sum_nil, List.length_cons, List.length_nil]; omega
  | iff d t n =>
   have h1 : t.cs.length <= 3200 := h.1.2
   have h2 := strOf_len t
   have h3 := num_len10 h.2.1 h.2.2
   simp only [Ln.ws, Rw.ws, List.map_cons, List.map_nil, List.sum_cons, List.sum_nil, List.length_cons, List.length_nil]; omega
  | set b x d t =>
   have h1 : t.cs.length <= 3200 := h.2.2
   have h2 := strOf_len t
   have h3 := name_len6 h.1
   have h4 := e9 b
   simp only [Ln.ws, Rw.ws, List.map_cons, List.map_nil, List.sum_cons, List.sum_nil, List.length_cons, List.length_nil]; omega
theorem Ln.ne (l : Ln) : l.ws ≠ [] := by
 cases l with
 | row r => cases r <;> simp [Ln.ws, Rw.ws]
 | _ => simp [Ln.ws]
theorem L_line (ws : List Str) : L (lineOf ws) = joinB (ws.map L) := L_txtjoin ws
theorem mem_joinB {c : Nat} : ∀ {ws : List (List Nat)}, c ∈ joinB ws -> c = 32 \/ ∃ w ∈ ws, c ∈ w
 | [], h => nomatch h
 | [x], h => .inr ⟨x, by simp, h⟩
 | x :: y :: r, h => by
  have h' : c ∈ x ++ 32 :: joinB (y :: r) := h
  rcases List.mem_append.mp h' with h | h
  ·exact .inr ⟨x, by simp, h⟩
  rcases List.mem_cons.mp h with h | h
  ·exact .inl h
  rcases mem_joinB h with h | ⟨w, hw, hc⟩
  ·exact .inl h
  ·exact .inr ⟨w, by simp [hw], hc⟩
theorem joinB_ne : ∀ {ws : List (List Nat)}, ws ≠ [] -> (∀ w ∈ ws, w ≠ []) -> joinB ws ≠ []
 | [], h, _ => absurd rfl h
 | [x], _, h => h x (by simp)
 | x :: y :: r, _, _ => by
  show x ++ 32 :: joinB (y :: r) ≠ []
  simp
theorem Ln.hi {l : Ln} (h : l.Ok) : Hi (L l.line) := fun c hc => by
 unfold Ln.line at hc
 rw [L_line] at hc
 rcases mem_joinB hc with rfl | ⟨w, hw, hcw⟩
 ·decide
 ·obtain ⟨v, hv, rfl⟩ := List.mem_map.mp hw
  exact (Ln.words h v hv).1 c hcw
theorem Ln.pos {l : Ln} (h : l.Ok) : L l.line ≠ [] := by
 unfold Ln.line
 rw [L_line]
 refine joinB_ne (fun e => l.ne (List.map_eq_nil_iff.mp e)) fun w hw => ?_
 obtain ⟨v, hv, rfl⟩ := List.mem_map.mp hw
 exact (Ln.words h v hv).2.1
theorem line_len {ws : List Str} (h : ws ≠ []) : (lineOf ws).length + 1 = (ws.map (·.length)).sum + ws.length := by
 have e := joinB_sum (ws.map L) (fun z => h (List.map_eq_nil_iff.mp z))
 rw [<- L_line, L_length, List.length_map, List.map_map] at e
 rw [show (fun y : Str => y.length) = (List.length ∘ L) from funext fun y => (L_length y).symm]
 omega
theorem Ln.len {l : Ln} (h : l.Ok) : l.line.length <= 3300 := by
 have h1 := line_len l.ne
 have h2 := Ln.sum h
 unfold Ln.line
 omega
theorem joinB_flat : ∀ (ws : List Str), ws ≠ [] -> joinB ((ws.flatMap fun w => Txt.split w (S " ")).map L) = joinB (ws.map L)
 | [], h => absurd rfl h
 | [x], _ => by
  rw [List.flatMap_cons, List.flatMap_nil, List.append_nil, List.map_cons, List.map_nil]
  show _ = L x
  rw [<- L_txtjoin, join_words]
 | x :: y :: r, _ => by
  have ih := joinB_flat (y :: r) (by simp)
  rw [List.flatMap_cons, List.map_append, joinB_append _ _ (fun e => split_ne x (S " ") (List.map_eq_nil_iff.mp e)) (fun e => ?_), ih]
  ·show _ = L x ++ 32 :: joinB ((y :: r).map L)
   rw [<- L_txtjoin, join_words]
  ·rw [List.flatMap_cons, List.map_append] at e
   exact split_ne y (S " ") (List.map_eq_nil_iff.mp (List.append_eq_nil_iff.mp e).1)
theorem split_line {ws : List Str} (h : ws ≠ []) : Txt.split (lineOf ws) (S " ") = ws.flatMap fun w => Txt.split w (S " ") := by
 rw [blank_is]
 refine map_L (split_is ?_ (fun z hz => ?_) ?_)
 ·intro e
  cases ws with
  | nil => exact h rfl
  | cons x r =>
   rw [List.flatMap_cons, List.map_append] at e
   exact split_ne x ⟨#[32]⟩ (List.map_eq_nil_iff.mp (List.append_eq_nil_iff.mp e).1)
 ·obtain ⟨p, hp, rfl⟩ := List.mem_map.mp hz
  obtain ⟨w, _, hw⟩ := List.mem_flatMap.mp hp
  exact StrLaws.split_free w 32 p hw
 ·rw [<- blank_is, joinB_flat ws h, L_line]
structure Hn where
 name : Str
 boxes : List (Str × Str)
 rows : List Rw
structure Mk where
 kinds : List Kn
 chans : List Ch
 hands : List Hn
def Hn.d (h : Hn) : D := .tup [.str h.name, dParts h.boxes, .tup (h.rows.map Rw.d)]
def dCh (c : Ch) : D := .tup [.str c.1, .str c.2.1, .str c.2.2.1, .str c.2.2.2]
def Mk.d (m : Mk) : D := .tup [dKinds m.kinds, .tup (m.chans.map dCh), .tup (m.hands.map Hn.d)]
def Hn.lns (h : Hn) : List Ln := .hand h.name :: (h.boxes.map .box ++ h.rows.map .row)
def Mk.lns (m : Mk) : List Ln := m.kinds.map .kind ++ (m.chans.map .chan ++ m.hands.flatMap Hn.lns)
def HnOk (h : Hn) : Prop := Name h.name /\ h.boxes.length <= 5 /\ h.rows.length <= 24 /\ (∀ p ∈ h.boxes, PtOk p) /\ ∀ r ∈ h.rows, r.Ok
structure MkOk (m : Mk) : Prop where
 k6 : m.kinds.length <= 6
 c6 : m.chans.length <= 6
 h4 : m.hands.length <= 4
 ks : ∀ k ∈ m.kinds, KnOk k
 cs : ∀ c ∈ m.chans, ChOk c
 hs : ∀ h ∈ m.hands, HnOk h
theorem HnOk.lns {h : Hn} (o : HnOk h) : ∀ l ∈ h.lns, l.Ok := fun l hl => by
 obtain ⟨h1, _, _, h4, h5⟩ := o
 rcases List.mem_cons.mp hl with rfl | hl
 ·exact h1
 rcases List.mem_append.mp hl with hl | hl
 ·obtain ⟨p, hp, rfl⟩ := List.mem_map.mp hl
  exact h4 p hp
 ·obtain ⟨r, hr, rfl⟩ := List.mem_map.mp hl
  exact h5 r hr
theorem MkOk.lns {m : Mk} (o : MkOk m) : ∀ l ∈ m.lns, l.Ok := fun l hl => by
 rcases List.mem_append.mp hl with hl | hl
 ·obtain ⟨k, hk, rfl⟩ := List.mem_map.mp hl
  exact o.ks k hk
 rcases List.mem_append.mp hl with hl | hl
 ·obtain ⟨c, hc, rfl⟩ := List.mem_map.mp hl
  exact o.cs c hc
 ·obtain ⟨h, hh, hl⟩ := List.mem_flatMap.mp hl
  exact (o.hs h hh).lns l hl
theorem hands_len : ∀ {hs : List Hn}, (∀ h ∈ hs, HnOk h) -> (hs.flatMap Hn.lns).length <= 30 * hs.length
 | [], _ => Nat.le_refl _
 | h :: hs, o => by
  have ih := hands_len (hs := hs) fun g hg => o g (by simp [hg])
  obtain ⟨_, h2, h3, _, _⟩ := o h (by simp)
  rw [List.flatMap_cons, List.length_append]
  simp only [Hn.lns, List.length_cons, List.length_append, List.length_map]
  omega
theorem MkOk.few {m : Mk} (o : MkOk m) : m.lns.length <= 132 := by
 have h1 := hands_len o.hs
 have h2 := o.k6
 have h3 := o.c6
 have h4 := o.h4
 unfold Mk.lns
 rw [List.length_append, List.length_append, List.length_map, List.length_map]
 omega
def Mk.text (m : Mk) : Str := Txt.join (S "\n") (m.lns.map Ln.line)
theorem L_joinLF (ys : List Str) : L (Txt.join (S "\n") ys) = joinC 10 (ys.map L) := by
 rw [lf_is]
 show L (Builtin.Str.glued ⟨#[10]⟩ ys) = _
 rw [StrLaws.glued_eq_join, L_joinC 10]
theorem joinC_sum (c : Nat) : ∀ ws : List (List Nat), ws ≠ [] -> (joinC c ws).length + 1 = (ws.map List.length).sum + ws.length
 | [], h => absurd rfl h
 | [x], _ => by simp [joinC]
 | x :: y :: r, _ => by
  have ih := joinC_sum c (y :: r) (by simp)
  show (x ++ c :: joinC c (y :: r)).length + 1 = _
  rw [List.length_append, List.length_cons]
  simp only [List.map_cons, List.sum_cons, List.length_cons] at ih ⊢
  omega
theorem lines_sum : ∀ {ls : List Ln}, (∀ l ∈ ls, l.Ok) -> ((ls.map Ln.line).map (·.length)).sum <= 3300 * ls.length
 | [], _ => Nat.le_refl _
 | l :: ls, o => by
  have ih := lines_sum (ls := ls) fun g hg => o g (by simp [hg])
  have h1 := Ln.len (o l (by simp))
  simp only [List.map_cons, List.sum_cons, List.length_cons]
  omega
theorem Mk.text_len {m : Mk} (o : MkOk m) : m.text.length <= 440000 := by
 by_cases h : m.lns = []
 ·unfold Mk.text
  rw [h]
  decide
 ·have e := joinC_sum 10 ((m.lns.map Ln.line).map L) (fun z => h (List.map_eq_nil_iff.mp (List.map_eq_nil_iff.mp z)))
  rw [<- L_joinLF, L_length, List.length_map, List.length_map, List.map_map] at e
  have h1 := lines_sum o.lns
  rw [show (fun y : Str => y.length) = (List.length ∘ L) from funext fun y => (L_length y).symm] at h1
  have h2 := o.few
  unfold Mk.text
  omega
theorem Mk.split_text {m : Mk} (o : MkOk m) (h : m.lns ≠ []) : Txt.split m.text (S "\n") = m.lns.map Ln.line := by
 rw [lf_is]
 refine splitC (fun e => h (List.map_eq_nil_iff.mp e)) (fun z hz => ?_) ?_
 ·obtain ⟨l, hl, rfl⟩ := List.mem_map.mp hz
  exact (Ln.hi (o.lns l hl)).no (by decide)
 ·rw [<- L_joinLF]
  rfl
theorem Mk.text_ne {m : Mk} (o : MkOk m) (h : m.lns ≠ []) : m.text ≠ S "" := fun e => by
 have e1 : L m.text = [] := by rw [e]; decide +kernel
 unfold Mk.text at e1
 rw [L_joinLF] at e1
 cases hl : m.lns with
 | nil => exact h hl
 | cons l r =>
  rw [hl] at e1
  have hp := Ln.pos (o.lns l (by rw [hl]; simp))
  cases r with
  | nil => exact hp e1
  | cons l2 r =>
   have e2 : L l.line ++ 10 :: joinC 10 ((l2 :: r).map Ln.line |>.map L) = [] := e1
   simp at e2
abbrev Hs := Str × List D × List D
structure Stt where
 ks : List D
 cs : List D
 hs : List Hs
inductive Stp : Stt -> Ln -> Stt -> Prop
 | kind (ks : List D) (k : Kn) : Stp ⟨ks, [], []⟩ (.kind k) ⟨ks ++ [k.d], [], []⟩
 | chan (ks cs : List D) (c : Ch) : Stp ⟨ks, cs, []⟩ (.chan c) ⟨ks, cs ++ [dCh c], []⟩
 | hand (ks cs : List D) (hs : List Hs) (x : Str) : Stp ⟨ks, cs, hs⟩ (.hand x) ⟨ks, cs, hs ++ [(x, [], [])]⟩
 | box (ks cs : List D) (hs : List Hs) (x : Str) (ds : List D) (p : Str × Str) : Stp ⟨ks, cs, hs ++ [(x, ds, [])]⟩ (.box p) ⟨ks, cs, hs ++ [(x, ds ++ [dPart p], [])]⟩
 | row (ks cs : List D) (hs : List Hs) (x : Str) (ds es : List D) (r : Rw) : Stp ⟨ks, cs, hs ++ [(x, ds, es)]⟩ (.row r) ⟨ks, cs, hs ++ [(x, ds, es ++ [r.d])]⟩
inductive Run : Stt -> List Ln -> Stt -> Prop
 | nil (s : Stt) : Run s [] s
 | cons {s s1 s2 : Stt} {l : Ln} {ls : List Ln} (h : Stp s l s1) (k : Run s1 ls s2) : Run s (l :: ls) s2
theorem Run.append {s s1 s2 : Stt} {a b : List Ln} (h : Run s a s1) (k : Run s1 b s2) : Run s (a ++ b) s2 := by
 induction h with
 | nil => exact k
 | cons h _ ih => exact .cons h (ih k)
theorem run_kinds : ∀ (ks : List Kn) (ds : List D), Run ⟨ds, [], []⟩ (ks.map .kind) ⟨ds ++ ks.map Kn.d, [], []⟩
 | [], ds => by
  rw [List.map_nil, List.map_nil, List.append_nil]
  exact .nil _
 | k :: ks, ds => by
  have ih := run_kinds ks (ds ++ [k.d])
  rw [List.append_assoc] at ih
  exact .cons (.kind ds k) ih
theorem run_chans (ks : List D) : ∀ (cs : List Ch) (ds : List D), Run ⟨ks, ds, []⟩ (cs.map .chan) ⟨ks, ds ++ cs.map dCh, []⟩
 | [], ds => by
  rw [List.map_nil, List.map_nil, List.append_nil]
  exact .nil _
 | c :: cs, ds => by
  have ih := run_chans ks cs (ds ++ [dCh c])
  rw [List.append_assoc] at ih
  exact .cons (.chan ks ds c) ih
theorem run_boxes (ks cs : List D) (hs : List Hs) (x : Str) : ∀ (ps : List (Str × Str)) (ds : List D), Run ⟨ks, cs, hs ++ [(x, ds, [])]⟩ (ps.map .box) ⟨ks, cs, hs ++ [(x, ds ++ ps.map dPart, [])]⟩
 | [], ds => by
  rw [List.map_nil, List.map_nil, List.append_nil]
  exact .nil _
 | p :: ps, ds => by
  have ih := run_boxes ks cs hs x ps (ds ++ [dPart p])
  rw [List.append_assoc] at ih
  exact .cons (.box ks cs hs x ds p) ih
theorem run_rows (ks cs : List D) (hs : List Hs) (x : Str) (bs : List D) : ∀ (rs : List Rw) (ds : List D), Run ⟨ks, cs, hs ++ [(x, bs, ds)]⟩ (rs.map .row) ⟨ks, cs, hs ++ [(x, bs, ds ++ rs.map Rw.d)]⟩
 | [], ds => by
  rw [List.map_nil, List.map_nil, List.append_nil]
  exact .nil _
 | r :: rs, ds => by
  have ih := run_rows ks cs hs x bs rs (ds ++ [r.d])
  rw [List.append_assoc] at ih
  exact .cons (.row ks cs hs x bs ds r) ih
def hsOf (h : Hn) : Hs := (h.name, h.boxes.map dPart, h.rows.map Rw.d)
theorem run_hands (ks cs : List D) : ∀ (hn : List Hn) (hs : List Hs), Run ⟨ks, cs, hs⟩ (hn.flatMap Hn.lns) ⟨ks, cs, hs ++ hn.map hsOf⟩
 | [], hs => by
  rw [List.map_nil, List.append_nil]
  exact .nil _
 | h :: hn, hs => by
  have ih := run_hands ks cs hn (hs ++ [hsOf h])
  rw [List.append_assoc] at ih
  rw [List.flatMap_cons]
  refine Run.append (.cons (.hand ks cs hs h.name) (Run.append (run_boxes ks cs hs h.name h.boxes []) (run_rows ks cs hs h.name _ h.rows []))) ?_
  exact ih
def Mk.fin (m : Mk) : Stt := ⟨m.kinds.map Kn.d, m.chans.map dCh, m.hands.map hsOf⟩
theorem Mk.run (m : Mk) : Run ⟨[], [], []⟩ m.lns m.fin :=
 Run.append (run_kinds m.kinds []) (Run.append (run_chans _ m.chans []) (run_hands _ _ m.hands []))
end M
end
section
namespace K4
open PySem L2 M
seal L2.PE L2.PA L2.PS L2.PSs L2.PT L2.PW L2.PI L2.PG L2.PJ L2.PTs
def rd (ws : List Str) : List Str := ws.flatMap fun w => Txt.split w (S " ")
def spIsKind : Sp := fun vs H Q _ => ∃ x, vs = [.str x] /\ KWd x /\ ∀ H', Same H H' -> Q (.bl true) H'
def spKindFrom : Sp := fun vs H Q _ => ∃ x, vs = [.str x] /\ KWd x /\ ∀ H', Same H H' -> Q (.str x) H'
def spNumberFrom : Sp := fun vs H Q _ => ∃ i : Int, vs = [.str (numS i)] /\ 0 <= i /\ i < 10 ^ 10 /\ ∀ H', Same H H' -> Q (.int i) H'
def spTermIn (K : PySem.W.Frag) : Sp := fun vs H Q _ => ∃ a d t, vs = [.ref a] /\ SqL K H a ((Txt.split (strOf t) (S " ")).map V.str) /\ TOk d t /\ ∀ v' H', Same H H' -> RelD H' v' d -> Q v' H'
def spChRow (K : PySem.W.Frag) : Sp := fun vs H Q _ => ∃ a c, vs = [.ref a] /\ SqL K H a ((Ln.chan c).ws.map V.str) /\ ChOk c /\ ∀ v' H', Same H H' -> RelD H' v' (dCh c) -> Q v' H'
def spKRow (K : PySem.W.Frag) : Sp := fun vs H Q _ => ∃ a k, vs = [.ref a] /\ SqL K H a ((Ln.kind k).ws.map V.str) /\ KnOk k /\ ∀ v' H', Same H H' -> RelD H' v' k.d -> Q v' H'
def spHRow (K : PySem.W.Frag) : Sp := fun vs H Q _ => ∃ (a : Addr) (r : Rw), vs = [.ref a] /\ SqL K H a ((rd r.ws).map V.str) /\ r.Ok /\ ∀ v' H', Same H H' -> RelD H' v' r.d -> Q v' H'
theorem no32 {x : Str} (h : Name x) : 32 ∉ L x := h.no (by decide)
theorem no32n {n : Int} (h : 0 <= n) : 32 ∉ L (numS n) := fun hm => by
 have := num_figures h 32 hm
 simp [isFigure] at this
theorem no32k {x : Str} (h : KWd x) : 32 ∉ L x := by
 rcases h with rfl | h
 ·decide +kernel
 ·exact no32 h
theorem rd_cons {w : Str} {ws : List Str} (h : 32 ∉ L w) : rd (w :: ws) = w :: rd ws := by
 unfold rd
 rw [List.flatMap_cons, split_one h]
 rfl
theorem rd_nil : rd [] = [] := rfl
theorem rd_last (w : Str) : rd [w] = Txt.split w (S " ") := by
 unfold rd
 rw [List.flatMap_cons, List.flatMap_nil, List.append_nil]
theorem rd_app (w : Str) (ws : List Str) : rd (w :: ws) = Txt.split w (S " ") ++ rd ws := by
 unfold rd
 rw [List.flatMap_cons]
theorem cutm (x z : V) (r : List V) : cutV (x :: (r ++ [z])) (some 1) (some (-1)) = r := by
 unfold cutV
 have e1 : HT.sIx (x :: (r ++ [z])).length 0 (some 1) = 1 := by
  rw [show ((1 : Int)) = ((1 : Nat) : Int) from rfl, HT.sIx_nat]
  simp
 have e2 : HT.sIx (x :: (r ++ [z])).length (x :: (r ++ [z])).length (some (-1)) = r.length + 1 := by
  unfold HT.sIx
  simp
  omega
 rw [e1, e2]
 show List.take (r.length + 1 - 1) (r ++ [z]) = r
 simp
theorem at0 {v : V} {xs : List V} : atI (v :: xs) 0 = some v := atI_nat (j := 0) (by simp)
theorem at1 {u v : V} {xs : List V} : atI (u :: v :: xs) 1 = some v := atI_nat (j := 1) (by simp)
theorem split_pos (x : Str) : 0 < (Txt.split x (S " ")).length := List.length_pos_iff.mpr (split_ne x (S " "))
section
variable {P : Program} {w : World} {K : PySem.W.Frag} {mg : Str -> Option Value} {base : Heap} {n m : Nat}
theorem ok_is_kind (T : Tx K mg) (D_is_name : DefIs P w K mg base n "is_name" ["text"] spName) : DefIs P w K mg base (n + 1) "is_kind" ["text"] spIsKind := by
 refine DefIs.of T.d_is_kind sc_is_kind (fun vs H Q E h => ?_) (fun f cdv A outer s H vs Q E hr h => ?_)
 ·obtain ⟨_, rfl, _⟩ := h
  rfl
 obtain ⟨x, rfl, hx, q⟩ := h
 refine ⟨_, (zpo (ps_ret (pe_or (pe_cmpR op_eq (pv 0) pe_str (nomark _)) (pe_one (pd D_is_name hr (zpc (pv 0) pa_nil zsn)))))), ?_⟩
 rcases hx with rfl | hx
 ·exact ⟨_, rfl, rfl, _, rfl, iteKT (decide_eq_true rfl) (q _ (Same.refl _))⟩
 ·have hl := name_len6 hx
  have hne : x ≠ S "num" := fun e => by rw [e] at hx; exact absurd hx (by unfold Name; decide +kernel)
  refine ⟨_, rfl, rfl, _, rfl, iteKF (decide_eq_false fun z => hne (V.str.inj z)) ⟨_, rfl, x, rfl, by omega, fun H1 s1 => ?_⟩⟩
  rw [show nameL (L x) = true from hx]
  exact q H1 s1
theorem ok_kind_from (T : Tx K mg) (D_need : DefIs P w K mg base n "need" ["holds"] spNeed) (D_is_kind : DefIs P w K mg base n "is_kind" ["text"] spIsKind) : DefIs P w K mg base (n + 1) "kind_from" ["word"] spKindFrom := by
 refine DefIs.of T.d_kind_from sc_kind_from (fun vs H Q E h => ?_) (fun f cdv A outer s H vs Q E hr h => ?_)
 ·obtain ⟨_, rfl, _⟩ := h
  rfl
 obtain ⟨x, rfl, hx, q⟩ := h
 refine ⟨_, (zpn (ps_expr (pd D_need hr (zpc (pd D_is_kind hr (zpc (pv 0) pa_nil zsn)) pa_nil zsc)))
   (zpo (ps_ret (pv 0)))), ?_⟩
 exact ⟨_, rfl, x, rfl, hx, fun H1 s1 => ⟨rfl, _, rfl, q H1 s1⟩⟩
theorem ok_number_from (T : Tx K mg) (D_need : DefIs P w K mg base n "need" ["holds"] spNeed) (D_is_number : DefIs P w K mg base n "is_number" ["text"] spNumber) : DefIs P w K mg base (n + 1) "number_from" ["word"] spNumberFrom := by
 refine DefIs.of T.d_number_from sc_number_from (fun vs H Q E h => ?_) (fun f cdv A outer s H vs Q E hr h => ?_)
 ·obtain ⟨_, rfl, _⟩ := h
  rfl
 obtain ⟨i, rfl, i0, i1, q⟩ := h
 refine ⟨_, (zpn (ps_expr (pd D_need hr (zpc (pd D_is_number hr (zpc (pv 0) pa_nil zsn)) pa_nil zsc)))
   (zpo (ps_ret (pe_callTy call_int_str rfl T.z_int PyProof.Rows.boot_int (zpc (pv 0) pa_nil zsn))))), ?_⟩
 have hl := num_len10 i0 i1
 refine ⟨_, rfl, _, rfl, by omega, fun H1 s1 => ⟨by rw [num_number i0 i1]; rfl, ?_⟩⟩
 exact ⟨_, rfl, _, i, rfl, PySem.W.KIN.num_reads i0 i1, by omega, q H1 s1⟩
theorem ok_term_in (T : Tx K mg) (D_term_of : DefIs P w K mg base n "term_of" ["text"] (spTermOf 7)) : DefIs P w K mg base (n + 1) "term_in" ["words"] (spTermIn K) := by
 refine DefIs.of T.d_term_in sc_term_in (fun vs H Q E h => ?_) (fun f cdv A outer s H vs Q E hr h => ?_)
 ·obtain ⟨_, _, _, rfl, _⟩ := h
  rfl
 obtain ⟨a, d, t, rfl, hS, ht, q⟩ := h
 refine ⟨_, (zpo (ps_ret (pd D_term_of hr (zpc (pe_bm PySem.F.plainAttrs_str PySem.F.slot_str_join PySem.F.type_str_join mt_join pe_str (zpc (pv 0) pa_nil zsn)) pa_nil zsc)))), ?_⟩
 have h1 := words_sum (strOf t)
 have h2 := strOf_len t
 have h3 := ht.2
 have one : (S " ").length = 1 := by walk_at "k"
 refine ⟨rfl, _, rfl, S " ", a, _, rfl, rfl, hS, by rw [one]; omega, d, t, ?_, ht.1, q⟩
 rw [join_words]
 rfl
theorem ok_channel_row (T : Tx K mg) (D_need : DefIs P w K mg base n "need" ["holds"] spNeed) (D_name_from : DefIs P w K mg base n "name_from" ["tree"] spNameFrom) (D_kind_from : DefIs P w K mg base n "kind_from" ["word"] spKindFrom) : DefIs P w K mg base (n + 1) "channel_row" ["words"] (spChRow K) := by
 refine DefIs.of T.d_channel_row sc_channel_row (fun vs H Q E h => ?_) (fun f cdv A outer s H vs Q E hr h => ?_)
 ·obtain ⟨_, _, rfl, _⟩ := h
  rfl
 obtain ⟨a, c, rfl, hS, ⟨h1, h2, h3, h4⟩, q⟩ := h
 have hS' : SqL K H a [.str (S "channel"), .str c.1, .str c.2.1, .str c.2.2.1, .str c.2.2.2] := hS
 refine ⟨_, (zpn (ps_expr (pd D_need hr (zpc (pe_cmpR op_eq (pe_callB call_len_seq rfl T.z_len PySem.boot_len (zpc (pv 0) pa_nil zsn)) pe_int (nomark _)) pa_nil star_cmp)))
   (zpo (ps_ret (pe_tup (zpc (pd D_name_from hr (zpc (pe_ix ix_list (pv 0) pe_int (fun _ _ => rfl)) pa_nil ss)) (zpc (pd D_name_from hr (zpc (pe_ix ix_list (pv 0) pe_int (fun _ _ => rfl)) pa_nil ss)) (zpc (pd D_name_from hr (zpc (pe_ix ix_list (pv 0) pe_int (fun _ _ => rfl)) pa_nil ss)) (zpc (pd D_kind_from hr (zpc (pe_ix ix_list (pv 0) pe_int (fun _ _ => rfl)) pa_nil ss)) pa_nil zsc) zsc) zsc) zsc))))), ?_⟩
 refine ⟨_, rfl, a, _, rfl, .inl hS', rfl, rfl, ?_⟩
 refine ⟨_, rfl, a, _, _, _, rfl, rfl, hS', rfl, c.1, rfl, h1, fun H1 s1 => ?_⟩
 refine ⟨_, rfl, a, _, _, _, rfl, rfl, s1.seq hS', rfl, c.2.1, rfl, h2, fun H2 s2 => ?_⟩
 have s12 := s1.trans s2
 refine ⟨_, rfl, a, _, _, _, rfl, rfl, s12.seq hS', rfl, c.2.2.1, rfl, h3, fun H3 s3 => ?_⟩
 have s13 := s12.trans s3
 refine ⟨_, rfl, a, _, _, _, rfl, rfl, s13.seq hS', rfl, c.2.2.2, rfl, h4, fun H4 s4 => ⟨(by show 4 <= sizeLine; decide), fun l hl => ?_⟩⟩
 exact q _ _ (s13.trans (s4.trans (Same.new hl _))) ⟨l, _, rfl, ups, _, _, rfl, rfl, _, _, rfl, rfl, _, _, rfl, rfl, _, _, rfl, rfl, rfl⟩
theorem partWs_len (ps : List (Str × Str)) : (partWs ps).length = 2 * ps.length := by
 induction ps with
 | nil => rfl
 | cons p ps ih =>
  show (p.1 :: p.2 :: partWs ps).length = _
  simp only [List.length_cons]
  omega
theorem partWs_at : ∀ (ps : List (Str × Str)) {i : Nat} {p : Str × Str}, ps[i]? = some p -> (partWs ps)[2 * i]? = some p.1 /\ (partWs ps)[2 * i + 1]? = some p.2
 | [], _, _, h => by simp at h
 | q :: ps, 0, p, h => by
  simp at h
  subst h
  exact ⟨rfl, rfl⟩
 | q :: ps, i + 1, p, h => by
  have ih := partWs_at ps (i := i) (p := p) (by simpa using h)
  show (q.1 :: q.2 :: partWs ps)[2 * (i + 1)]? = _ /\ (q.1 :: q.2 :: partWs ps)[2 * (i + 1) + 1]? = _
  rw [show 2 * (i + 1) = (2 * i + 1) + 1 by omega, show (2 * i + 1) + 1 + 1 = ((2 * i + 1) + 1) + 1 from rfl]
  simp only [List.getElem?_cons_succ]
  exact ih
theorem ok_kind_row (T : Tx K mg) (D_need : DefIs P w K mg base n "need" ["holds"] spNeed) (D_name_from : DefIs P w K mg base n "name_from" ["tree"] spNameFrom) (D_kind_from : DefIs P w K mg base n "kind_from" ["word"] spKindFrom) : DefIs P w K mg base (n + 1) "kind_row" ["words"] (spKRow K) := by
 refine DefIs.of T.d_kind_row sc_kind_row (fun vs H Q E h => ?_) (fun f cdv A outer s H vs Q E hr h => ?_)
 ·obtain ⟨_, _, rfl, _⟩ := h
  rfl
 obtain ⟨a, k, rfl, hS, ⟨hn, h4, halt, hp⟩, q⟩ := h
 have nd := sc_kind_row.nd
 obtain ⟨ws, hws⟩ : ∃ ws : List V, (Ln.kind k).ws.map V.str = ws := ⟨_, rfl⟩
 rw [hws] at hS
 have hlen : ws.length = 2 + 2 * k.parts.length := by
  rw [<- hws, List.length_map]
  show (k.sort :: k.name :: partWs k.parts).length = _
  rw [List.length_cons, List.length_cons, partWs_len]
  omega
 have hmod : (ws.length : Int) % 2 = 0 := by omega
 have w0 : atI ws 0 = some (.str k.sort) := by rw [<- hws]; exact at0
 have w1 : atI ws 1 = some (.str k.name) := by rw [<- hws]; exact at1
 have wp : ∀ {i : Nat} {p : Str × Str}, k.parts[i]? = some p -> atI ws (2 + (i : Int) * 2) = some (.str p.1) /\ atI ws (2 + (i : Int) * 2 + 1) = some (.str p.2) := fun {i p} hi => by
  obtain ⟨g1, g2⟩ := partWs_at k.parts hi
  constructor
  ·rw [show (2 + (i : Int) * 2) = ((2 * i + 2 : Nat) : Int) by omega]
   refine atI_nat ?_
   rw [<- hws, List.getElem?_map]
   show Option.map V.str ((k.sort :: k.name :: partWs k.parts)[2 * i + 2]?) = _
   simp only [List.getElem?_cons_succ]
   rw [g1]
   rfl
  ·rw [show (2 + (i : Int) * 2 + 1) = ((2 * i + 3 : Nat) : Int) by omega]
   refine atI_nat ?_
   rw [<- hws, List.getElem?_map]
   show Option.map V.str ((k.sort :: k.name :: partWs k.parts)[2 * i + 3]?) = _
   rw [show 2 * i + 3 = (2 * i + 1) + 1 + 1 by omega]
   simp only [List.getElem?_cons_succ]
   rw [g2]
   rfl
 refine ⟨_, (zpn (ps_set (i := 1) nd rfl (by walk_at "o") (pe_ifExp (pt_cmpR op_eq (pe_ix ix_list (pv 0) pe_int (fun _ _ => rfl)) pe_str (nomark _)) pe_int pe_int))
   (zpn (ps_expr (pd D_need hr (zpc (pe_and (pe_cmpR op_eq (pe_op op_mod (pe_callB call_len_seq rfl T.z_len PySem.boot_len (zpc (pv 0) pa_nil zsn)) pe_int) pe_int (nomark _)) (pe_one (pe_chain op_le op_le (pe_op op_add pe_int (pe_op op_mul pe_int (pv 1))) (pe_callB call_len_seq rfl T.z_len PySem.boot_len (zpc (pv 0) pa_nil zsn)) (pe_op op_add pe_int (pe_op op_mul pe_int (pe_gint T.g_MOST_PARTS)))))) pa_nil star_bool)))
   (zpn (ps_setComp (i := 2) ["k", "words"] [none, some 0] rfl (by kernel_rfl) nd rfl (by walk_at "o") (pi_range3 rfl T.z_range (zpc pe_int (zpc (pe_callB call_len_seq rfl T.z_len PySem.boot_len (zpc (pv 0) pa_nil zsn)) (zpc pe_int pa_nil so) zsc) so)) (fun _ _ _ _ => (pg_name (i := 0) (by show List.Nodup (["k", "words"] : List Str); decide +kernel) rfl (Or.inl rfl))) (fun _ _ _ _ => pts_nil) (fun _ _ _ _ => (pe_tup (zpc (pd D_name_from hr (zpc (pe_ix (ix_listC (K := K) rfl) (pv 1) (pv 0) (fun _ _ => rfl)) pa_nil ss)) (zpc (pd D_kind_from hr (zpc (pe_ix (ix_listC (K := K) rfl) (pv 1) (pe_op op_add (pv 0) pe_int) (fun _ _ => rfl)) pa_nil ss)) pa_nil zsc) zsc))))
   (zpo (ps_ret (pe_tup (zpc (pd D_name_from hr (zpc (pe_ix ix_list (pv 0) pe_int (fun _ _ => rfl)) pa_nil ss)) (zpc (pe_ix ix_list (pv 0) pe_int (fun _ _ => rfl)) (zpc (pe_callTy call_tuple_of rfl T.z_tuple PyProof.Rows.boot_tuple (zpc (pv 2) pa_nil zsn)) pa_nil zsc) ss) zsc))))))), ?_⟩
 have hp1 : k.sort = S "alt" -> 1 <= k.parts.length := fun c => by
  have hrc : k.rc = false := by
   cases e : k.rc with
   | false => rfl
   | true => unfold Kn.sort at c; rw [if_pos e] at c; exact absurd c (by walk_at "k")
  exact List.length_pos_iff.mpr (halt hrc)
 refine ⟨_, rfl, a, _, _, _, rfl, rfl, hS, w0, rfl, _, rfl, ?_⟩
 refine ite2 (fun c => ?_) (fun c => ?_)
 all_goals
  try have hpos := hp1 (V.str.inj (of_decide_eq_true c))
  refine ⟨_, rfl, a, _, rfl, .inl hS, _, _, rfl, rfl, (by show (0 : Int) < 2; decide), rfl, _, rfl, iteBT (decide_eq_true (show V.int ((ws.length : Int) % 2) = V.int 0 by rw [hmod])) ?_⟩
  refine ⟨_, rfl, _, _, rfl, rfl, .inl ⟨by decide, by decide⟩, _, _, rfl, rfl, _, rfl, a, _, rfl, .inl hS, _, _, rfl, rfl, _, rfl, iteKT (decide_eq_true (by omega)) ?_⟩
  refine ⟨_, _, rfl, rfl, .inl ⟨by decide, by decide⟩, _, _, rfl, rfl, _, _, rfl, rfl, bl_true (decide_eq_true (by omega)), ?_⟩
  refine ⟨_, rfl, a, _, rfl, .inl hS, _, _, rfl, ⟨by decide, by omega, by omega⟩, ?_⟩
  have en : (((ws.length : Int) - 2 + 1) / 2).toNat = k.parts.length := by omega
  rw [en]
  refine comp_range2 (j := 0) (fun i ys H' => Same H H' /\ RelDs H' ys ((k.parts.take i).map dPart)) (by rfl) ⟨Same.refl _, rfl⟩ (fitsLt (by omega)) ?_ ?_
  ·rintro i ys H' hi hly ⟨sm, ry⟩
   have hpi : k.parts[i]? = some k.parts[i] := List.getElem?_eq_getElem hi
   obtain ⟨g1, g2⟩ := wp hpi
   obtain ⟨hp1, hp2⟩ := hp _ (List.getElem_mem hi)
   refine ⟨_, rfl, _, rfl, a, _, _, _, rfl, rfl, sm.seq hS, g1, _, rfl, hp1, fun H1 s1 => ?_⟩
   have s01 := sm.trans s1
   refine ⟨_, rfl, _, rfl, _, _, rfl, rfl, a, _, _, _, rfl, rfl, s01.seq hS, g2, _, rfl, hp2, fun H2 s2 => ⟨(by show 2 <= sizeLine; decide), fun l hl => ?_⟩⟩
   have sl := s1.trans (s2.trans (Same.new hl (.tup [.str k.parts[i].1, .str k.parts[i].2])))
   refine nxt hi hly ⟨sm.trans sl, ?_⟩
   rw [List.take_add_one, hpi]
   show RelDs _ _ ((k.parts.take i ++ [k.parts[i]]).map dPart)
   rw [List.map_append]
   exact (ry.same sl _).append ⟨_, [], rfl, ⟨l, _, rfl, ups, _, _, rfl, rfl, _, _, rfl, rfl, rfl⟩, rfl⟩
  ·rintro ys H' hly ⟨sm, ry⟩ D hD
   rw [List.take_of_length_le (Nat.le_refl _)] at ry
   have sD := Same.new hD (.lst ys)
   have s1 := sm.trans sD
   refine ⟨_, rfl, a, _, _, _, rfl, rfl, s1.seq hS, w1, k.name, rfl, hn, fun H2 s2 => ?_⟩
   have s12 := s1.trans s2
   refine ⟨_, rfl, a, _, _, _, rfl, rfl, s12.seq hS, w0, _, rfl, D, ys, rfl, .inl ⟨SqL.of (s2 _ _ ups), fun t ht => ⟨(by show 3 <= sizeLine; decide), fun l hl => ?_⟩⟩⟩
   have st := Same.new ht (.tup ys)
   have sl := Same.new hl (.tup [.str k.name, .str k.sort, .ref t])
   exact q _ _ (s12.trans (st.trans sl)) ⟨l, _, rfl, ups, _, _, rfl, rfl, _, _, rfl, rfl, _, _, rfl, ⟨t, ys, rfl, sl _ _ ups, ry.same (sD.trans (s2.trans (st.trans sl))) _⟩, rfl⟩
theorem ok_hand_row (T : Tx K mg) (D_need : DefIs P w K mg base n "need" ["holds"] spNeed) (D_name_from : DefIs P w K mg base n "name_from" ["tree"] spNameFrom) (D_term_in : DefIs P w K mg base n "term_in" ["words"] (spTermIn K)) (D_number_from : DefIs P w K mg base n "number_from" ["word"] spNumberFrom) :
  DefIs P w K mg base (n + 1) "hand_row" ["words"] (spHRow K) := by
 refine DefIs.of T.d_hand_row sc_hand_row (fun vs H Q E h => ?_) (fun f cdv A outer s H vs Q E hr h => ?_)
 ·obtain ⟨_, _, rfl, _⟩ := h
  rfl
 obtain ⟨a, r, rfl, hS, hok, q⟩ := h
 have nd := sc_hand_row.nd
 have hu := hr.units0
 refine ⟨_, (zpn (ps_set (i := 1) nd rfl (by walk_at "o") (pe_ix ix_list (pv 0) pe_int (fun _ _ => rfl)))
   (zpn (ps_if (pt_cmpR op_in_seq (pv 1) (pe_tup (zpc pe_str (zpc pe_str pa_nil so) so)) (by with_unfolding_all rfl)) (zpn (ps_expr (pd D_need hr (zpc (pe_cmpR op_ge (pe_callB call_len_seq rfl T.z_len PySem.boot_len (zpc (pv 0) pa_nil zsn)) pe_int (nomark _)) pa_nil star_cmp)))
   (zpo (ps_ret (pe_tup (zpc (pv 1) (zpc (pd D_name_from hr (zpc (pe_ix ix_list (pv 0) pe_int (fun _ _ => rfl)) pa_nil ss)) (zpc (pd D_term_in hr (zpc (pe_slice sl_list (pv 0) (po_some pe_int) po_none) pa_nil ss)) pa_nil zsc) zsc) zsn))))) pss_nil)
   (zpn (ps_if (pt_cmpR op_eq (pv 1) pe_str (nomark _)) (zpn (ps_expr (pd D_need hr (zpc (pe_cmpR op_eq (pe_callB call_len_seq rfl T.z_len PySem.boot_len (zpc (pv 0) pa_nil zsn)) pe_int (nomark _)) pa_nil star_cmp)))
   (zpo (ps_ret (pe_tup (zpc (pv 1) (zpc (pd D_name_from hr (zpc (pe_ix ix_list (pv 0) pe_int (fun _ _ => rfl)) pa_nil ss)) (zpc (pd D_name_from hr (zpc (pe_ix ix_list (pv 0) pe_int (fun _ _ => rfl)) pa_nil ss)) (zpc (pd D_name_from hr (zpc (pe_ix ix_list (pv 0) pe_int (fun _ _ => rfl)) pa_nil ss)) pa_nil zsc) zsc) zsc) zsn))))) pss_nil)
   (zpn (ps_if (pt_cmpR op_eq (pv 1) pe_str (nomark _)) (zpo (ps_ret (pe_tup (zpc (pv 1) (zpc (pd D_term_in hr (zpc (pe_slice sl_list (pv 0) (po_some pe_int) po_none) pa_nil ss)) pa_nil zsc) zsn)))) pss_nil)
   (zpn (ps_if (pt_cmpR op_eq (pv 1) pe_str (nomark _)) (zpn (ps_expr (pd D_need hr (zpc (pe_cmpR op_eq (pe_callB call_len_seq rfl T.z_len PySem.boot_len (zpc (pv 0) pa_nil zsn)) pe_int (nomark _)) pa_nil star_cmp)))
   (zpo (ps_ret (pe_tup (zpc (pv 1) (zpc (pd D_number_from hr (zpc (pe_ix ix_list (pv 0) pe_int (fun _ _ => rfl)) pa_nil ss)) pa_nil zsc) zsn))))) pss_nil)
   (zpn (ps_if (pt_cmpR op_eq (pv 1) pe_str (nomark _)) (zpo (ps_ret (pe_tup (zpc (pv 1) (zpc (pd D_term_in hr (zpc (pe_slice sl_list (pv 0) (po_some pe_int) (po_some (pe_un un_neg pe_int))) pa_nil ss)) (zpc (pd D_number_from hr (zpc (pe_ix ix_list (pv 0) (pe_un un_neg pe_int) (fun _ _ => rfl)) pa_nil ss)) pa_nil zsc) zsc) zsn)))) pss_nil)
   (zpn (ps_expr (pd D_need hr (zpc (pe_cmpR (op_eqL hu) (pv 0) (pe_lst (zpc pe_str pa_nil so)) (nomark _)) pa_nil star_cmp)))
   (zpo (ps_ret (pe_tup (zpc pe_str pa_nil so))))))))))), ?_⟩
 have tupS : ∀ {p : Addr}, H p = none -> Same H (upd H p (.tup [.str (S "set"), .str (S "send")])) := fun hp => Same.new hp _
 cases r with
 | en =>
  have hS : SqL K H a [.str (S "end")] := by rw [show rd (Rw.ws .en) = [S "end"] from rd_cons (by walk_at "k")] at hS; exact hS
  refine ⟨_, rfl, a, _, 0, .str (S "end"), rfl, rfl, hS, rfl, ?_⟩
  refine ⟨_, rfl, (by show 2 <= sizeLine; decide), fun p hp => ⟨p, _, rfl, .inr (SqT.of ups), rfl, (by walk_at "k"), _, rfl, iteBF (by walk_at "k") ?_⟩⟩
  have s1 := tupS hp
  refine ⟨_, rfl, rfl, _, rfl, iteKF (by walk_at "k") ?_⟩
  refine ⟨_, rfl, rfl, _, rfl, iteKF (by walk_at "k") ?_⟩
  refine ⟨_, rfl, rfl, _, rfl, iteKF (by walk_at "k") ?_⟩
  refine ⟨_, rfl, rfl, _, rfl, iteKF (by walk_at "k") ?_⟩
  refine ⟨_, rfl, (by show 1 <= sizeLine; decide), fun p2 hp2 => ?_⟩
  have s2 := s1.trans (Same.new hp2 (.lst [.str (S "end")]))
  refine ⟨a, p2, [.str (S "end")], [.str (S "end")], rfl, rfl, s2.seq hS, SqL.of ups, (by walk_at "k"), (by walk_at "k"), (by show [V.bl (eqVs [V.str (S "end")] [V.str (S "end")])] = [V.bl true]; decide +kernel), ?_⟩
  refine ⟨(by show 1 <= sizeLine; decide), fun p3 hp3 => ?_⟩
  exact q _ _ (s2.trans (Same.new hp3 _)) ⟨p3, _, rfl, ups, _, _, rfl, rfl, rfl⟩
 | go i =>
  obtain ⟨i0, i1⟩ := hok
  have hS : SqL K H a [.str (S "go"), .str (numS i)] := by rw [show rd (Rw.ws (.go i)) = [S "go", numS i] by show rd [S "go", numS i] = _; rw [rd_cons (by walk_at "k"), rd_cons (no32n i0), rd_nil]] at hS; exact hS
  refine ⟨_, rfl, a, _, 0, .str (S "go"), rfl, rfl, hS, rfl, ?_⟩
  refine ⟨_, rfl, (by show 2 <= sizeLine; decide), fun p hp => ⟨p, _, rfl, .inr (SqT.of ups), rfl, (by walk_at "k"), _, rfl, iteBF (by walk_at "k") ?_⟩⟩
  have s1 := tupS hp
  refine ⟨_, rfl, rfl, _, rfl, iteKF (by walk_at "k") ?_⟩
  refine ⟨_, rfl, rfl, _, rfl, iteKF (by walk_at "k") ?_⟩
  refine ⟨_, rfl, rfl, _, rfl, iteKT (by walk_at "k") ?_⟩
  refine ⟨_, rfl, a, _, rfl, .inl (s1.seq hS), rfl, rfl, ?_⟩
  refine ⟨_, rfl, _, rfl, a, _, 1, _, rfl, rfl, s1.seq hS, rfl, i, rfl, i0, i1, fun H1 s2 => ⟨(by show 2 <= sizeLine; decide), fun l hl => ?_⟩⟩
  exact q _ _ (s1.trans (s2.trans (Same.new hl _))) ⟨l, _, rfl, ups, _, _, rfl, rfl, _, _, rfl, rfl, rfl⟩
 | take x y z =>
  obtain ⟨hx, hy, hz⟩ := hok
  have hS : SqL K H a [.str (S "take"), .str x, .str y, .str z] := by rw [show rd (Rw.ws (.take x y z)) = [S "take", x, y, z] by show rd [S "take", x, y, z] = _; rw [rd_cons (by walk_at "k"), rd_cons (no32 hx), rd_cons (no32 hy), rd_cons (no32 hz), rd_nil]] at hS; exact hS
  refine ⟨_, rfl, a, _, 0, .str (S "take"), rfl, rfl, hS, rfl, ?_⟩
  refine ⟨_, rfl, (by show 2 <= sizeLine; decide), fun p hp => ⟨p, _, rfl, .inr (SqT.of ups), rfl, (by walk_at "k"), _, rfl, iteBF (by walk_at "k") ?_⟩⟩
  have s1 := tupS hp
  refine ⟨_, rfl, rfl, _, rfl, iteKT (by walk_at "k") ?_⟩
  refine ⟨_, rfl, a, _, rfl, .inl (s1.seq hS), rfl, rfl, ?_⟩
  refine ⟨_, rfl, _, rfl, a, _, 1, _, rfl, rfl, s1.seq hS, rfl, x, rfl, hx, fun H1 s2 => ?_⟩
  have s12 := s1.trans s2
  refine ⟨_, rfl, a, _, 2, _, rfl, rfl, s12.seq hS, rfl, y, rfl, hy, fun H2 s3 => ?_⟩
  have s13 := s12.trans s3
  refine ⟨_, rfl, a, _, 3, _, rfl, rfl, s13.seq hS, rfl, z, rfl, hz, fun H3 s4 => ⟨(by show 4 <= sizeLine; decide), fun l hl => ?_⟩⟩
  exact q _ _ (s13.trans (s4.trans (Same.new hl _))) ⟨l, _, rfl, ups, _, _, rfl, rfl, _, _, rfl, rfl, _, _, rfl, rfl, _, _, rfl, rfl, rfl⟩
 | tell e t =>
  have hS : SqL K H a (.str (S "tell") :: (Txt.split (strOf t) (S " ")).map V.str) := by rw [show rd (Rw.ws (.tell e t)) = S "tell" :: Txt.split (strOf t) (S " ") by show rd [S "tell", strOf t] = _; rw [rd_cons (by walk_at "k"), rd_last]] at hS; exact hS
  refine ⟨_, rfl, a, _, 0, .str (S "tell"), rfl, rfl, hS, at0, ?_⟩
  refine ⟨_, rfl, (by show 2 <= sizeLine; decide), fun p hp => ⟨p, _, rfl, .inr (SqT.of ups), rfl, (by walk_at "k"), _, rfl, iteBF (by walk_at "k") ?_⟩⟩
  have s1 := tupS hp
  refine ⟨_, rfl, rfl, _, rfl, iteKF (by walk_at "k") ?_⟩
  refine ⟨_, rfl, rfl, _, rfl, iteKT (by walk_at "k") ?_⟩
  refine ⟨_, rfl, _, rfl, _, rfl, a, _, rfl, s1.seq hS, fun c hc => ?_⟩
  rw [cutA]
  have sc := s1.trans (Same.new hc (.lst ((Txt.split (strOf t) (S " ")).map V.str)))
  refine ⟨c, e, t, rfl, SqL.of ups, hok, fun v' H2 s2 r2 => ⟨(by show 2 <= sizeLine; decide), fun l hl => ?_⟩⟩
  exact q _ _ (sc.trans (s2.trans (Same.new hl _))) ⟨l, _, rfl, ups, _, _, rfl, rfl, v', _, rfl, r2.same (Same.new hl _) _, rfl⟩
 | iff e t i =>
  obtain ⟨hok, i0, i1⟩ := hok
  have hS : SqL K H a (.str (S "if") :: ((Txt.split (strOf t) (S " ")).map V.str ++ [.str (numS i)])) := by
   rw [show rd (Rw.ws (.iff e t i)) = S "if" :: (Txt.split (strOf t) (S " ") ++ [numS i]) by show rd [S "if", strOf t, numS i] = _; rw [rd_cons (by walk_at "k"), rd_app, rd_cons (no32n i0), rd_nil], List.map_cons, List.map_append] at hS
   exact hS
  refine ⟨_, rfl, a, _, 0, .str (S "if"), rfl, rfl, hS, at0, ?_⟩
  refine ⟨_, rfl, (by show 2 <= sizeLine; decide), fun p hp => ⟨p, _, rfl, .inr (SqT.of ups), rfl, (by walk_at "k"), _, rfl, iteBF (by walk_at "k") ?_⟩⟩
  have s1 := tupS hp
  refine ⟨_, rfl, rfl, _, rfl, iteKF (by walk_at "k") ?_⟩
  refine ⟨_, rfl, rfl, _, rfl, iteKF (by walk_at "k") ?_⟩
  refine ⟨_, rfl, rfl, _, rfl, iteKF (by walk_at "k") ?_⟩
  refine ⟨_, rfl, rfl, _, rfl, iteKT (by walk_at "k") ?_⟩
  refine ⟨_, rfl, _, rfl, _, rfl, 1, rfl, _, rfl, a, _, rfl, s1.seq hS, fun c hc => ?_⟩
  rw [show (-(1 : Int)) = -1 from rfl, cutm]
  have sc := s1.trans (Same.new hc (.lst ((Txt.split (strOf t) (S " ")).map V.str)))
  refine ⟨c, e, t, rfl, SqL.of ups, hok, fun v' H2 s3 r2 => ?_⟩
  refine ⟨_, rfl, 1, rfl, a, _, -1, .str (numS i), rfl, rfl, (sc.trans s3).seq hS, ?_, i, rfl, i0, i1, fun H3 s4 => ⟨(by show 3 <= sizeLine; decide), fun l hl => ?_⟩⟩
  ·rw [<- List.cons_append]
   exact atI_last _ _
  ·exact q _ _ (sc.trans (s3.trans (s4.trans (Same.new hl _)))) ⟨l, _, rfl, ups, _, _, rfl, rfl, v', _, rfl, r2.same (s4.trans (Same.new hl _)) _, _, _, rfl, rfl, rfl⟩
 | set b x e t =>
  obtain ⟨hx, hok⟩ := hok
  have hb32 : 32 ∉ L (setW b) := by rcases setW_cases b with z | z <;> rw [z] <;> decide +kernel
  have hin : inV (.str (setW b)) [.str (S "set"), .str (S "send")] = true := by rcases setW_cases b with z | z <;> rw [z] <;> decide +kernel
  have hS : SqL K H a (.str (setW b) :: .str x :: (Txt.split (strOf t) (S " ")).map V.str) := by
   rw [show rd (Rw.ws (.set b x e t)) = setW b :: x :: Txt.split (strOf t) (S " ") by show rd [setW b, x, strOf t] = _; rw [rd_cons hb32, rd_cons (no32 hx), rd_last], List.map_cons, List.map_cons] at hS
   exact hS
  have hy := split_pos (strOf t)
  refine ⟨_, rfl, a, _, 0, .str (setW b), rfl, rfl, hS, at0, ?_⟩
  refine ⟨_, rfl, (by show 2 <= sizeLine; decide), fun p hp => ⟨p, _, rfl, .inr (SqT.of ups), rfl, rfl, _, rfl, iteBT hin ?_⟩⟩
  have s1 := tupS hp
  refine ⟨_, rfl, a, _, rfl, .inl (s1.seq hS), _, _, rfl, rfl, bl_true (decide_eq_true (by rw [List.length_cons, List.length_cons, List.length_map]; omega)), ?_⟩
  refine ⟨_, rfl, _, rfl, a, _, 1, _, rfl, rfl, s1.seq hS, at1, x, rfl, hx, fun H1 s2 => ?_⟩
  refine ⟨_, rfl, _, rfl, a, _, rfl, (s1.trans s2).seq hS, fun c hc => ?_⟩
  rw [cut2]
  have sc := (s1.trans s2).trans (Same.new hc (.lst ((Txt.split (strOf t) (S " ")).map V.str)))
  refine ⟨c, e, t, rfl, SqL.of ups, hok, fun v' H2 s3 r2 => ⟨(by show 3 <= sizeLine; decide), fun l hl => ?_⟩⟩
  exact q _ _ (sc.trans (s3.trans (Same.new hl _))) ⟨l, _, rfl, ups, _, _, rfl, rfl, _, _, rfl, rfl, v', _, rfl, r2.same (Same.new hl _) _, rfl⟩
end
end K4
end
section
namespace M
open PySem L2
end M
namespace L2
open PySem PySem.Spec PyProof.Rows M
section
variable {X : Cx}
theorem call_tuple_ofC {K : PySem.W.Frag} (h : X.K = K) : CallR X (.type "tuple") (fun xs H Q => ∃ p ys, xs = [.ref p] /\ ((SqL K H p ys /\ ∀ l, H l = none -> Q (.ref l) (upd H l (.tup ys))) \/ (SqT K H p ys /\ Q (.ref p) H))) := by subst h; exact call_tuple_of
end
end L2
end
section
namespace K4
open PySem L2 M
seal L2.PE L2.PA L2.PS L2.PSs L2.PT L2.PW L2.PI L2.PG L2.PJ L2.PTs
def dfs (k c h : Addr) : List (Str × V) := [("kinds", .ref k), ("channels", .ref c), ("hands", .ref h)]
theorem lk_hands {k c h : Addr} : (dfs k c h).lookup ("hands" : Str) = some (V.ref h) := by
 unfold dfs
 simp only [List.lookup_cons]
 rw [show (("hands" : Str) == ("kinds" : Str)) = false by walk_at "k", show (("hands" : Str) == ("channels" : Str)) = false by walk_at "k", show (("hands" : Str) == ("hands" : Str)) = true by walk_at "k"]
theorem lk_kinds {k c h : Addr} : (dfs k c h).lookup ("kinds" : Str) = some (V.ref k) := by
 unfold dfs
 simp only [List.lookup_cons]
 rw [show (("kinds" : Str) == ("kinds" : Str)) = true by walk_at "k"]
theorem lk_channels {k c h : Addr} : (dfs k c h).lookup ("channels" : Str) = some (V.ref c) := by
 unfold dfs
 simp only [List.lookup_cons]
 rw [show (("channels" : Str) == ("kinds" : Str)) = false by walk_at "k", show (("channels" : Str) == ("channels" : Str)) = true by walk_at "k"]
def HAt (H : Hp) (v : V) (b r : Addr) (x : Str) (ds es : List D) : Prop := ∃ t bs rs, v = .ref t /\ H t = some (.tup [.str x, .ref b, .ref r]) /\ H b = some (.lst bs) /\ RelDs H bs ds /\ H r = some (.lst rs) /\ RelDs H rs es
def HsAt (H : Hp) : List V -> List (Addr × Addr) -> List Hs -> Prop
 | [], [], [] => True
 | v :: vs, a :: ads, h :: hs => HAt H v a.1 a.2 h.1 h.2.1 h.2.2 /\ HsAt H vs ads hs
 | _, _, _ => False
def cellsOf (ads : List (Addr × Addr)) : List Addr := ads.flatMap fun a => [a.1, a.2]
theorem HAt.keep {H H' : Hp} {v : V} {b r : Addr} {x : Str} {ds es : List D} (h : HAt H v b r x ds es) (tp : ∀ a us, H a = some (.tup us) -> H' a = some (.tup us)) (hb : ∀ o, H b = some o -> H' b = some o) (hr : ∀ o, H r = some o -> H' r = some o) : HAt H' v b r x ds es := by
 obtain ⟨t, bs, rs, e, h1, h2, h3, h4, h5⟩ := h
 exact ⟨t, bs, rs, e, tp _ _ h1, hb _ h2, h3.tups tp _, hr _ h4, h5.tups tp _⟩
theorem HsAt.keep {H H' : Hp} (tp : ∀ a us, H a = some (.tup us) -> H' a = some (.tup us)) : ∀ {vs : List V} {ads : List (Addr × Addr)} {hs : List Hs}, HsAt H vs ads hs -> (∀ a ∈ cellsOf ads, ∀ o, H a = some o -> H' a = some o) -> HsAt H' vs ads hs
 | [], [], [], _, _ => trivial
 | v :: vs, a :: ads, h :: hs, g, k => by
  have k' : ∀ b ∈ a.1 :: a.2 :: cellsOf ads, ∀ o, H b = some o -> H' b = some o := k
  exact ⟨g.1.keep tp (k' a.1 (by simp)) (k' a.2 (by simp)), HsAt.keep tp g.2 fun b hb => k' b (by simp [hb])⟩
theorem HsAt.snoc {H : Hp} {v : V} {a : Addr × Addr} {h : Hs} (g : HAt H v a.1 a.2 h.1 h.2.1 h.2.2) : ∀ {vs : List V} {ads : List (Addr × Addr)} {hs : List Hs}, HsAt H vs ads hs -> HsAt H (vs ++ [v]) (ads ++ [a]) (hs ++ [h])
 | [], [], [], _ => ⟨g, trivial⟩
 | v' :: vs, a' :: ads, h' :: hs, k => ⟨k.1, HsAt.snoc g k.2⟩
theorem HsAt.last {H : Hp} {h : Hs} : ∀ {vs : List V} {ads : List (Addr × Addr)} {hs : List Hs}, HsAt H vs ads (hs ++ [h]) -> ∃ vs' v ads' a, vs = vs' ++ [v] /\ ads = ads' ++ [a] /\ HsAt H vs' ads' hs /\ HAt H v a.1 a.2 h.1 h.2.1 h.2.2
 | [v], [a], [], k => ⟨[], v, [], a, rfl, rfl, trivial, k.1⟩
 | v :: v2 :: vs, [a], [], k => k.2.elim
 | [v], a :: a2 :: ads, [], k => k.2.elim
 | v :: v2 :: vs, a :: a2 :: ads, [], k => k.2.elim
 | v :: vs, a :: ads, h' :: hs, k => by
  obtain ⟨vs', u, ads', b, e1, e2, k1, k2⟩ := HsAt.last k.2
  exact ⟨v :: vs', u, a :: ads', b, by rw [e1]; rfl, by rw [e2]; rfl, ⟨k.1, k1⟩, k2⟩
 | [], ads, hs, k => by cases ads <;> (cases hs <;> exact k.elim)
 | v :: vs, [], hs, k => by cases hs <;> exact k.elim
theorem HsAt.live {H : Hp} : ∀ {vs : List V} {ads : List (Addr × Addr)} {hs : List Hs}, HsAt H vs ads hs -> ∀ a ∈ cellsOf ads, ∃ o, H a = some o
 | [], [], [], _, a, ha => by simp [cellsOf] at ha
 | v :: vs, b :: ads, h :: hs, g, a, ha => by
  have ha' : a ∈ b.1 :: b.2 :: cellsOf ads := ha
  obtain ⟨t', bs, rs, _, _, g2, _, g4, _⟩ := g.1
  rcases List.mem_cons.mp ha' with rfl | ha'
  ·exact ⟨_, g2⟩
  rcases List.mem_cons.mp ha' with rfl | ha'
  ·exact ⟨_, g4⟩
  exact HsAt.live g.2 a ha'
theorem HsAt.nil {H : Hp} {vs : List V} {ads : List (Addr × Addr)} (h : HsAt H vs ads []) : ads = [] /\ vs = [] := by
 cases vs with
 | nil =>
  cases ads with
  | nil => exact ⟨rfl, rfl⟩
  | cons a ads => exact h.elim
 | cons v vs => cases ads <;> exact h.elim
theorem cells_br {k c h : Addr} {ads : List (Addr × Addr)} {a : Addr × Addr} (nd : (k :: c :: h :: cellsOf (ads ++ [a])).Nodup) : a.1 ≠ a.2 := by
 have e : cellsOf (ads ++ [a]) = cellsOf ads ++ [a.1, a.2] := by
  unfold cellsOf
  rw [List.flatMap_append]
  rfl
 rw [e, show k :: c :: h :: (cellsOf ads ++ [a.1, a.2]) = (k :: c :: h :: cellsOf ads) ++ [a.1, a.2] from rfl] at nd
 have := (List.nodup_append.mp nd).2.1
 simpa using this
theorem HsAt.len {H : Hp} : ∀ {vs : List V} {ads : List (Addr × Addr)} {hs : List Hs}, HsAt H vs ads hs -> vs.length = hs.length
 | [], [], [], _ => rfl
 | v :: vs, a :: ads, h :: hs, k => by rw [List.length_cons, List.length_cons, HsAt.len k.2]
structure PD (K : PySem.W.Frag) (H0 H : Hp) (p dx k c h : Addr) (ads : List (Addr × Addr)) (st : Stt) : Prop where
 ob : H p = some (.ins (ad K "Draft") dx (dfs k c h))
 ki : ∃ vs, H k = some (.lst vs) /\ RelDs H vs st.ks
 ch : ∃ vs, H c = some (.lst vs) /\ RelDs H vs st.cs
 ha : ∃ vs, H h = some (.lst vs) /\ HsAt H vs ads st.hs
 nd : (k :: c :: h :: cellsOf ads).Nodup
 nw : ∀ a ∈ k :: c :: h :: cellsOf ads, H0 a = none
 sm : Same H0 H
theorem PD.same {K : PySem.W.Frag} {H0 H H' : Hp} {p dx k c h : Addr} {ads : List (Addr × Addr)} {st : Stt} (G : PD K H0 H p dx k c h ads st) (s : Same H H') : PD K H0 H' p dx k c h ads st := by
 obtain ⟨ks, k1, k2⟩ := G.ki
 obtain ⟨cs, c1, c2⟩ := G.ch
 obtain ⟨hs, h1, h2⟩ := G.ha
 exact ⟨s _ _ G.ob, ⟨ks, s _ _ k1, k2.same s _⟩, ⟨cs, s _ _ c1, c2.same s _⟩, ⟨hs, s _ _ h1, h2.keep (fun a us e => s _ _ e) fun a _ o e => s _ _ e⟩, G.nd, G.nw, G.sm.trans s⟩
def Few (st : Stt) : Prop := st.ks.length <= 1000 /\ st.cs.length <= 1000 /\ st.hs.length <= 1000 /\ ∀ h ∈ st.hs, h.2.1.length <= 1000 /\ h.2.2.length <= 1000
theorem sb_tups {a : Addr} {H H' : Hp} {us : List V} (h : SameBut a H H') (ha : H a = some (.lst us)) : ∀ b vs, H b = some (.tup vs) -> H' b = some (.tup vs) := fun b vs e => h b _ e fun z => by rw [z, ha] at e; cases e
section
variable {P : Program} {w : World} {K : PySem.W.Frag} {mg : Str -> Option Value} {base : Heap} {n m : Nat}
theorem PD.kind {H0 H H' : Hp} {p dx k c h : Addr} {ds : List D} {v : V} {d : D} {vs : List V} (G : PD K H0 H p dx k c h [] ⟨ds, [], []⟩) (hk : H k = some (.lst vs)) (hv : RelDs H vs ds) (sb : SameBut k H H') (hk' : H' k = some (.lst (vs ++ [v]))) (rd : RelD H' v d) : PD K H0 H' p dx k c h [] ⟨ds ++ [d], [], []⟩ := by
 have nd := G.nd
 simp [cellsOf] at nd
 have np : p ≠ k := fun z => by have := G.ob; rw [z, hk] at this; cases this
 have tp := sb_tups sb hk
 obtain ⟨cs, c1, c2⟩ := G.ch
 obtain ⟨hs, h1, h2⟩ := G.ha
 refine ⟨sb _ _ G.ob np, ⟨_, hk', (hv.tups tp _).append ⟨v, [], rfl, rd, rfl⟩⟩, ⟨cs, sb _ _ c1 (Ne.symm nd.1.1), c2.tups tp _⟩, ⟨hs, sb _ _ h1 (Ne.symm nd.1.2), ?_⟩, G.nd, G.nw, fun a o e => sb _ _ (G.sm _ _ e) (neN e (G.nw k (by simp)))⟩
 exact h2.keep tp fun a ha => by simp [cellsOf] at ha
theorem PD.chan {H0 H H' : Hp} {p dx k c h : Addr} {ks ds : List D} {v : V} {d : D} {vs : List V} (G : PD K H0 H p dx k c h [] ⟨ks, ds, []⟩) (hc : H c = some (.lst vs)) (hv : RelDs H vs ds) (sb : SameBut c H H') (hc' : H' c = some (.lst (vs ++ [v]))) (rd : RelD H' v d) : PD K H0 H' p dx k c h [] ⟨ks, ds ++ [d], []⟩ := by
 have nd := G.nd
 simp [cellsOf] at nd
 have np : p ≠ c := fun z => by have := G.ob; rw [z, hc] at this; cases this
 have tp := sb_tups sb hc
 obtain ⟨cs, c1, c2⟩ := G.ki
 obtain ⟨hs, h1, h2⟩ := G.ha
 refine ⟨sb _ _ G.ob np, ⟨cs, sb _ _ c1 nd.1.1, c2.tups tp _⟩, ⟨_, hc', (hv.tups tp _).append ⟨v, [], rfl, rd, rfl⟩⟩, ⟨hs, sb _ _ h1 (Ne.symm nd.2), ?_⟩, G.nd, G.nw, fun a o e => sb _ _ (G.sm _ _ e) (neN e (G.nw c (by simp)))⟩
 exact h2.keep tp fun a ha => by simp [cellsOf] at ha
theorem PD.hand {H0 H H' : Hp} {p dx k c h t b r : Addr} {ads : List (Addr × Addr)} {ks cs : List D} {hs : List Hs} {vs : List V} {x : Str} (G : PD K H0 H p dx k c h ads ⟨ks, cs, hs⟩) (hh : H h = some (.lst vs)) (hv : HsAt H vs ads hs) (sb : SameBut h H H') (hh' : H' h = some (.lst (vs ++ [.ref t]))) (ht : H' t = some (.tup [.str x, .ref b, .ref r])) (hb : H' b = some (.lst [])) (hr : H' r = some (.lst [])) (b0 : H b = none) (r0 : H r = none) (br : b ≠ r) :
  PD K H0 H' p dx k c h (ads ++ [(b, r)]) ⟨ks, cs, hs ++ [(x, [], [])]⟩ := by
 have np : p ≠ h := fun z => by have := G.ob; rw [z, hh] at this; cases this
 have tp := sb_tups sb hh
 obtain ⟨kvs, k1, k2⟩ := G.ki
 obtain ⟨cvs, c1, c2⟩ := G.ch
 have nd := G.nd
 have kh : k ≠ h := by simp at nd; exact nd.1.2.1
 have ch : c ≠ h := by simp at nd; exact nd.2.1.1
 have ha0 : ∀ a ∈ cellsOf ads, a ≠ h := fun a ha e => by
  rw [e] at ha
  simp at nd
  exact nd.2.2.1 ha
 have live : ∀ a ∈ k :: c :: h :: cellsOf ads, ∃ o, H a = some o := fun a ha => by
  rcases List.mem_cons.mp ha with rfl | ha
  ·exact ⟨_, k1⟩
  rcases List.mem_cons.mp ha with rfl | ha
  ·exact ⟨_, c1⟩
  rcases List.mem_cons.mp ha with rfl | ha
  ·exact ⟨_, hh⟩
  exact hv.live a ha
 have nb : ∀ a ∈ k :: c :: h :: cellsOf ads, a ≠ b /\ a ≠ r := fun a ha => by
  obtain ⟨o, e⟩ := live a ha
  exact ⟨neN e b0, neN e r0⟩
 have ec : cellsOf (ads ++ [(b, r)]) = cellsOf ads ++ [b, r] := by
  unfold cellsOf
  rw [List.flatMap_append]
  rfl
 refine ⟨sb _ _ G.ob np, ⟨kvs, sb _ _ k1 kh, k2.tups tp _⟩, ⟨cvs, sb _ _ c1 ch, c2.tups tp _⟩, ⟨_, hh', ?_⟩, ?_, ?_, fun a o e => sb _ _ (G.sm _ _ e) (neN e (G.nw h (by simp)))⟩
 ·refine HsAt.snoc (a := (b, r)) (h := (x, [], [])) ⟨t, [], [], rfl, ht, hb, rfl, hr, rfl⟩ (hv.keep tp fun a ha o e => sb _ _ e (ha0 a ha))
 ·rw [ec, show k :: c :: h :: (cellsOf ads ++ [b, r]) = (k :: c :: h :: cellsOf ads) ++ [b, r] from rfl]
  refine List.nodup_append.mpr ⟨G.nd, by simp [br], fun a ha a' ha' e => ?_⟩
  subst e
  have := nb a ha
  simp at ha'
  rcases ha' with z | z
  ·exact this.1 z
  ·exact this.2 z
 ·rw [ec]
  intro a ha
  rw [show k :: c :: h :: (cellsOf ads ++ [b, r]) = (k :: c :: h :: cellsOf ads) ++ [b, r] from rfl] at ha
  rcases List.mem_append.mp ha with ha | ha
  ·exact G.nw a ha
  ·simp at ha
   rcases ha with rfl | rfl
   ·exact none_of_same G.sm b0
   ·exact none_of_same G.sm r0
theorem PD.last {H0 H H' : Hp} {p dx k c h b r x0 : Addr} {ads : List (Addr × Addr)} {ks cs : List D} {hs : List Hs} {hd hd' : Hs} (G : PD K H0 H p dx k c h (ads ++ [(b, r)]) ⟨ks, cs, hs ++ [hd]⟩) (hx : x0 = b \/ x0 = r) {vs : List V} {v : V} (hh : H h = some (.lst (vs ++ [v]))) (hv : HsAt H vs ads hs) (sb : SameBut x0 H H') {us : List V} (hx0 : H x0 = some (.lst us)) (hl : HAt H' v b r hd'.1 hd'.2.1 hd'.2.2) : PD K H0 H' p dx k c h (ads ++ [(b, r)]) ⟨ks, cs, hs ++ [hd']⟩ := by
 have tp := sb_tups sb hx0
 have np : p ≠ x0 := fun z => by have := G.ob; rw [z, hx0] at this; cases this
 have ec : cellsOf (ads ++ [(b, r)]) = cellsOf ads ++ [b, r] := by
  unfold cellsOf
  rw [List.flatMap_append]
  rfl
 have nd := G.nd
 rw [ec, show k :: c :: h :: (cellsOf ads ++ [b, r]) = (k :: c :: h :: cellsOf ads) ++ [b, r] from rfl] at nd
 have nd3 := (List.nodup_append.mp nd).2.2
 have ne : ∀ a ∈ k :: c :: h :: cellsOf ads, a ≠ x0 := fun a ha => nd3 a ha x0 (by rcases hx with rfl | rfl <;> simp)
 obtain ⟨kvs, k1, k2⟩ := G.ki
 obtain ⟨cvs, c1, c2⟩ := G.ch
 have hm : x0 ∈ k :: c :: h :: cellsOf (ads ++ [(b, r)]) := by
  rw [ec]
  rcases hx with rfl | rfl <;> simp
 refine ⟨sb _ _ G.ob np, ⟨kvs, sb _ _ k1 (ne k (by simp)), k2.tups tp _⟩, ⟨cvs, sb _ _ c1 (ne c (by simp)), c2.tups tp _⟩, ⟨_, sb _ _ hh (ne h (by simp)), ?_⟩, G.nd, G.nw, fun a o e => sb _ _ (G.sm _ _ e) (neN e (G.nw x0 hm))⟩
 exact HsAt.snoc (a := (b, r)) hl (hv.keep tp fun a ha o e => sb _ _ e (ne a (by simp [ha])))
end
end K4
end
section
namespace K4
open PySem L2 M
seal L2.PE L2.PA L2.PS L2.PSs L2.PT L2.PW L2.PI L2.PG L2.PJ L2.PTs
def spPutIn (K : PySem.W.Frag) : Sp := fun vs H Q _ => ∃ (t b r a : Addr) (x : Str) (bs rs : List V) (l : Ln), vs = [.ref t, .ref a] /\ H t = some (.tup [.str x, .ref b, .ref r]) /\ H b = some (.lst bs) /\ H r = some (.lst rs) /\ H a = some (.lst ((rd l.ws).map V.str)) /\ l.Ok /\ bs.length <= 1000 /\ rs.length <= 1000 ∧
  ((∃ p, l = .box p /\ rs = [] /\ ∀ H' v, SameBut b H H' -> H' b = some (.lst (bs ++ [v])) -> RelD H' v (dPart p) -> Q .non H') ∨
   (∃ rw, l = .row rw /\ ∀ H' v, SameBut r H H' -> H' r = some (.lst (rs ++ [v])) -> RelD H' v rw.d -> Q .non H'))
def spPutRow (K : PySem.W.Frag) : Sp := fun vs H Q _ => ∃ (H0 : Hp) (p dx k c h a : Addr) (ads : List (Addr × Addr)) (st st' : Stt) (l : Ln), vs = [.ref p, .ref a] /\ PD K H0 H p dx k c h ads st /\ H a = some (.lst ((rd l.ws).map V.str)) /\ l.Ok /\ Few st /\ Stp st l st' /\ ∀ ads' H', PD K H0 H' p dx k c h ads' st' -> Q .non H'
theorem rw_head {r : Rw} (h : r.Ok) : ∃ hd tl, rd r.ws = hd :: tl /\ hd ≠ S "box" /\ hd ≠ S "rec" /\ hd ≠ S "alt" /\ hd ≠ S "channel" /\ hd ≠ S "hand" := by
 cases r with
 | en => exact ⟨_, _, rd_cons (by walk_at "k"), by walk_at "k", by walk_at "k", by walk_at "k", by walk_at "k", by walk_at "k"⟩
 | go n => exact ⟨_, _, rd_cons (by walk_at "k"), by walk_at "k", by walk_at "k", by walk_at "k", by walk_at "k", by walk_at "k"⟩
 | take a b c => exact ⟨_, _, rd_cons (by walk_at "k"), by walk_at "k", by walk_at "k", by walk_at "k", by walk_at "k", by walk_at "k"⟩
 | tell d t => exact ⟨_, _, rd_cons (by walk_at "k"), by walk_at "k", by walk_at "k", by walk_at "k", by walk_at "k", by walk_at "k"⟩
 | iff d t n => exact ⟨_, _, rd_cons (by walk_at "k"), by walk_at "k", by walk_at "k", by walk_at "k", by walk_at "k", by walk_at "k"⟩
 | set b x d t =>
  have hb32 : 32 ∉ L (setW b) := by rcases setW_cases b with z | z <;> rw [z] <;> decide +kernel
  refine ⟨_, _, rd_cons hb32, ?_, ?_, ?_, ?_, ?_⟩ <;> (rcases setW_cases b with z | z <;> rw [z] <;> decide +kernel)
theorem rd_box {p : Str × Str} (h : PtOk p) : rd (Ln.ws (.box p)) = [S "box", p.1, p.2] := by
 show rd [S "box", p.1, p.2] = _
 rw [rd_cons (by walk_at "k"), rd_cons (no32 h.1), rd_cons (no32k h.2), rd_nil]
theorem rd_hand {x : Str} (h : Name x) : rd (Ln.ws (.hand x)) = [S "hand", x] := by
 show rd [S "hand", x] = _
 rw [rd_cons (by walk_at "k"), rd_cons (no32 h), rd_nil]
theorem rd_chan {c : Ch} (h : ChOk c) : rd (Ln.ws (.chan c)) = Ln.ws (.chan c) := by
 show rd [S "channel", c.1, c.2.1, c.2.2.1, c.2.2.2] = _
 rw [rd_cons (by walk_at "k"), rd_cons (no32 h.1), rd_cons (no32 h.2.1), rd_cons (no32 h.2.2.1), rd_cons (no32k h.2.2.2), rd_nil]
 rfl
theorem rd_same : ∀ {ws : List Str}, (∀ w ∈ ws, 32 ∉ L w) -> rd ws = ws
 | [], _ => rfl
 | w :: ws, h => by rw [rd_cons (h w (by simp)), rd_same fun v hv => h v (by simp [hv])]
theorem rd_kind {k : Kn} (h : KnOk k) : rd (Ln.ws (.kind k)) = Ln.ws (.kind k) := by
 refine rd_same fun w hw => ?_
 rcases List.mem_cons.mp hw with rfl | hw
 ·rcases sort_cases k with e | e <;> rw [e] <;> decide +kernel
 rcases List.mem_cons.mp hw with rfl | hw
 ·exact no32 h.1
 obtain ⟨p, hp, hw⟩ := List.mem_flatMap.mp hw
 rcases List.mem_cons.mp hw with rfl | hw
 ·exact no32 (h.2.2.2 p hp).1
 ·rw [List.mem_singleton.mp hw]; exact no32k (h.2.2.2 p hp).2
theorem inV_two {x y z : Str} (h1 : x ≠ y) (h2 : x ≠ z) : inV (.str x) [.str y, .str z] = false := by
 have e1 : (y == x) = false := beq_eq_false_iff_ne.mpr (Ne.symm h1)
 have e2 : (z == x) = false := beq_eq_false_iff_ne.mpr (Ne.symm h2)
 show ((y == x) || ((z == x) || false)) = false
 rw [e1, e2]
 rfl
theorem lst_tups' {H : Hp} {p : Addr} {xs : List V} (h : H p = some (.lst xs)) (o : HO) : ∀ b vs, H b = some (.tup vs) -> upd H p o b = some (.tup vs) := fun b vs hb => by
 rw [upd_ne fun e => by rw [e, h] at hb; cases hb]
 exact hb
section
variable {P : Program} {w : World} {K : PySem.W.Frag} {mg : Str -> Option Value} {base : Heap} {n m : Nat}
theorem ok_put_in_hand (T : Tx K mg) (D_need : DefIs P w K mg base n "need" ["holds"] spNeed) (D_name_from : DefIs P w K mg base n "name_from" ["tree"] spNameFrom) (D_kind_from : DefIs P w K mg base n "kind_from" ["word"] spKindFrom) (D_hand_row : DefIs P w K mg base n "hand_row" ["words"] (spHRow K)) : DefIs P w K mg base (n + 1) "put_in_hand" ["hand", "words"] (spPutIn K) := by
 refine DefIs.of T.d_put_in_hand sc_put_in_hand (fun vs H Q E h => ?_) (fun f cdv A outer s H vs Q E hr h => ?_)
 ·obtain ⟨_, _, _, _, _, _, _, _, rfl, _⟩ := h
  rfl
 obtain ⟨t, b, r, a, nm, bs, rs, l, rfl, ht, hb, hrr, ha, hok, hbl, hrl, h⟩ := h
 have nd := sc_put_in_hand.nd
 have hu := hu_of hr
 refine ⟨_, (zpn (ps_set (i := 2) nd rfl (by walk_at "o") (pe_ix ix_tup (pv 0) pe_int (fun _ _ => rfl)))
   (zpn (ps_set (i := 3) nd rfl (by walk_at "o") (pe_ix ix_tup (pv 0) pe_int (fun _ _ => rfl)))
   (zpo (ps_if (pt_cmpR op_eq (pe_ix ix_list (pv 1) pe_int (fun _ _ => rfl)) pe_str (nomark _)) (zpn (ps_expr (pd D_need hr (zpc (pe_and (pe_cmpR (op_eqE (Nat.lt_of_succ_lt hu)) (pv 3) (pe_lst pa_nil) (nomark _)) (pe_one (pe_cmpR op_eq (pe_callB call_len_seq rfl T.z_len PySem.boot_len (zpc (pv 1) pa_nil zsn)) pe_int (nomark _)))) pa_nil star_bool)))
   (zpo (ps_expr (pe_bm PySem.F.plainAttrs_list PySem.F.slot_list_append PySem.F.type_list_append mt_append (pv 2) (zpc (pe_tup (zpc (pd D_name_from hr (zpc (pe_ix ix_list (pv 1) pe_int (fun _ _ => rfl)) pa_nil ss)) (zpc (pd D_kind_from hr (zpc (pe_ix ix_list (pv 1) pe_int (fun _ _ => rfl)) pa_nil ss)) pa_nil zsc) zsc)) pa_nil star_tup))))) (zpo (ps_expr (pe_bm PySem.F.plainAttrs_list PySem.F.slot_list_append PySem.F.type_list_append mt_append (pv 3) (zpc (pd D_hand_row hr (zpc (pv 1) pa_nil zsn)) pa_nil zsc)))))))), ?_⟩
 refine ⟨_, rfl, t, _, _, _, rfl, rfl, SqT.of ht, rfl, ?_⟩
 refine ⟨_, rfl, t, _, _, _, rfl, rfl, SqT.of ht, rfl, ?_⟩
 rcases h with ⟨x, rfl, rfl, q⟩ | ⟨rw', rfl, q⟩
 ·obtain ⟨h1, h2⟩ := hok
  rw [rd_box ⟨h1, h2⟩] at ha
  refine ⟨_, rfl, a, _, _, _, rfl, rfl, SqL.of ha, rfl, rfl, _, rfl, M.iteKT (decide_eq_true rfl) ?_⟩
  refine ⟨_, rfl, (by show 0 <= sizeLine; decide), fun e he => ⟨r, e, _, rfl, rfl, SqL.of (Same.new he _ _ _ hrr), SqL.of ups, _, rfl, iteT ?_⟩⟩
  have s1 := Same.new he (.lst [])
  have ha1 := s1 _ _ ha
  have hb1 := s1 _ _ hb
  refine ⟨_, rfl, a, _, rfl, .inl (SqL.of ha1), rfl, rfl, ?_⟩
  refine ⟨_, rfl, .inl ⟨rfl, _, SqL.of hb1⟩, _, rfl, a, _, _, _, rfl, rfl, SqL.of ha1, rfl, x.1, rfl, h1, fun H2 s2 => ?_⟩
  have ha2 := s2 _ _ ha1
  refine ⟨_, rfl, a, _, _, _, rfl, rfl, SqL.of ha2, rfl, x.2, rfl, h2, fun H3 s3 => ⟨(by show 2 <= sizeLine; decide), fun u hu' => ?_⟩⟩
  have s4 := Same.new hu' (.tup [.str x.1, .str x.2])
  have s14 := s1.trans (s2.trans (s3.trans s4))
  have hb3 := s14 _ _ hb
  refine ⟨b, bs, _, rfl, rfl, hb3, fitsLt (by omega), ?_⟩
  refine q _ (.ref u) (fun c o hc nc => by rw [upd_ne nc]; exact s14 _ _ hc) ups ⟨u, _, rfl, lst_tups' hb3 _ _ _ ups, _, _, rfl, rfl, _, _, rfl, rfl, rfl⟩
 ·obtain ⟨hd, tl, ews, hne, _⟩ := rw_head hok
  have ha' : H a = some (.lst ((rd rw'.ws).map V.str)) := ha
  refine ⟨_, rfl, a, _, _, .str hd, rfl, rfl, SqL.of ha', (by rw [ews]; exact at0), rfl, _, rfl, M.iteKF (decide_eq_false fun z => hne (V.str.inj z)) ?_⟩
  refine ⟨_, rfl, .inl ⟨rfl, _, SqL.of hrr⟩, _, rfl, ?_⟩
  refine ⟨a, rw', rfl, SqL.of ha', hok, fun v' H1 s1 rd => ?_⟩
  have hr1 := s1 _ _ hrr
  refine ⟨r, rs, _, rfl, rfl, hr1, fitsLt (by omega), ?_⟩
  exact q _ v' (fun c o hc nc => by rw [upd_ne nc]; exact s1 _ _ hc) ups (rd.tups (lst_tups' hr1 _) _)
theorem ok_put_row (T : Tx K mg) (D_need : DefIs P w K mg base n "need" ["holds"] spNeed) (D_name_from : DefIs P w K mg base n "name_from" ["tree"] spNameFrom) (D_kind_row : DefIs P w K mg base n "kind_row" ["words"] (spKRow K)) (D_channel_row : DefIs P w K mg base n "channel_row" ["words"] (spChRow K))
  (D_put_in_hand : DefIs P w K mg base n "put_in_hand" ["hand", "words"] (spPutIn K)) : DefIs P w K mg base (n + 1) "put_row" ["draft", "words"] (spPutRow K) := by
 refine DefIs.of T.d_put_row sc_put_row (fun vs H Q E h => ?_) (fun f cdv A outer s H vs Q E hr h => ?_)
 ·obtain ⟨_, _, _, _, _, _, _, _, _, _, _, rfl, _⟩ := h
  rfl
 obtain ⟨H0, p, dx, k, c, h, a, ads, st, st', l, rfl, G, ha, hok, few, stp, q⟩ := h
 have nd := sc_put_row.nd
 have hu := hu_of hr
 have no : ∀ f ∈ (["kinds", "channels", "hands"] : List Str), NoAttr K (ad K "Draft") f := T.dt.no
 refine ⟨_, (zpn (ps_set (i := 2) nd rfl (by walk_at "o") (pe_ix ix_list (pv 1) pe_int (fun _ _ => rfl)))
   (zpo (ps_if (pt_cmpR op_in_seq (pv 2) (pe_tup (zpc pe_str (zpc pe_str pa_nil so) so)) (by with_unfolding_all rfl)) (zpn (ps_expr (pd D_need hr (zpc (pe_and (pe_cmpR (op_eqE (Nat.lt_of_succ_lt hu)) (pe_fld (pv 0) rfl) (pe_lst pa_nil) (nomark _)) (pe_one (pe_cmpR (op_eqE (Nat.lt_of_succ_lt hu)) (pe_fld (pv 0) rfl) (pe_lst pa_nil) (nomark _)))) pa_nil star_bool)))
   (zpo (ps_expr (pe_bm PySem.F.plainAttrs_list PySem.F.slot_list_append PySem.F.type_list_append mt_append (pe_fld (pv 0) rfl) (zpc (pd D_kind_row hr (zpc (pv 1) pa_nil zsn)) pa_nil zsc))))) (zpo (ps_if (pt_cmpR op_eq (pv 2) pe_str (nomark _)) (zpn (ps_expr (pd D_need hr (zpc (pe_cmpR (op_eqE (Nat.lt_of_succ_lt hu)) (pe_fld (pv 0) rfl) (pe_lst pa_nil) (nomark _)) pa_nil star_cmp)))
   (zpo (ps_expr (pe_bm PySem.F.plainAttrs_list PySem.F.slot_list_append PySem.F.type_list_append mt_append (pe_fld (pv 0) rfl) (zpc (pd D_channel_row hr (zpc (pv 1) pa_nil zsn)) pa_nil zsc))))) (zpo (ps_if (pt_cmpR op_eq (pv 2) pe_str (nomark _)) (zpn (ps_expr (pd D_need hr (zpc (pe_cmpR op_eq (pe_callB call_len_seq rfl T.z_len PySem.boot_len (zpc (pv 1) pa_nil zsn)) pe_int (nomark _)) pa_nil star_cmp)))
   (zpo (ps_expr (pe_bm PySem.F.plainAttrs_list PySem.F.slot_list_append PySem.F.type_list_append mt_append (pe_fld (pv 0) rfl) (zpc (pe_tup (zpc (pd D_name_from hr (zpc (pe_ix ix_list (pv 1) pe_int (fun _ _ => rfl)) pa_nil ss)) (zpc (pe_lst pa_nil) (zpc (pe_lst pa_nil) pa_nil star_lst) star_lst) zsc)) pa_nil star_tup))))) (zpn (ps_expr (pd D_need hr (zpc (pe_cmpR (op_neE (Nat.lt_of_succ_lt hu)) (pe_fld (pv 0) rfl) (pe_lst pa_nil) (nomark _)) pa_nil star_cmp)))
   (zpo (ps_expr (pd D_put_in_hand hr (zpc (pe_ix ix_list (pe_fld (pv 0) rfl) (pe_un un_neg pe_int) (fun _ _ => rfl)) (zpc (pv 1) pa_nil zsn) ss)))))))))))), ?_⟩
 cases stp with
 | kind ds kn =>
  have hw : rd (Ln.ws (.kind kn)) = kn.sort :: (kn.name :: partWs kn.parts) := rd_kind hok
  have hin : inV (.str kn.sort) [.str (S "rec"), .str (S "alt")] = true := by rcases sort_cases kn with e | e <;> rw [e] <;> decide +kernel
  refine ⟨_, rfl, a, _, _, .str kn.sort, rfl, rfl, SqL.of ha, (by rw [hw]; exact at0), ?_⟩
  refine ⟨_, rfl, (by show 2 <= sizeLine; decide), fun p2 hp2 => ⟨p2, _, rfl, .inr (SqT.of ups), rfl, rfl, _, rfl, iteBT hin ?_⟩⟩
  have s1 := Same.new hp2 (.tup [.str (S "rec"), .str (S "alt")])
  have G1 := G.same s1
  obtain ⟨cvs, c1, c2⟩ := G1.ch
  obtain rfl : cvs = [] := c2
  refine ⟨_, rfl, p, _, dx, _, _, rfl, G1.ob, T.dt.cl, no _ (by simp), lk_channels, (by show 0 <= sizeLine; decide), fun e he => ?_⟩
  have t1 := Same.new he (.lst [])
  refine ⟨c, e, _, rfl, rfl, SqL.of (t1 _ _ c1), SqL.of ups, _, rfl, iteT ?_⟩
  have G2 := G1.same t1
  obtain ⟨hvs, h1, h2⟩ := G2.ha
  obtain ⟨rfl, rfl⟩ := HsAt.nil h2
  refine ⟨_, rfl, p, _, dx, _, _, rfl, G2.ob, T.dt.cl, no _ (by simp), lk_hands, (by show 0 <= sizeLine; decide), fun e2 he2 => ?_⟩
  have t2 := Same.new he2 (.lst [])
  refine ⟨h, e2, _, rfl, rfl, SqL.of (t2 _ _ h1), SqL.of ups, rfl, ?_⟩
  have G3 := G2.same t2
  obtain ⟨kvs, k1, k2⟩ := G3.ki
  refine ⟨_, rfl, p, _, dx, _, _, rfl, G3.ob, T.dt.cl, no _ (by simp), lk_kinds, .inl ⟨rfl, _, SqL.of k1⟩, ?_⟩
  have s3 := s1.trans (t1.trans t2)
  refine ⟨_, rfl, a, kn, rfl, SqL.of (by have := s3 _ _ ha; rw [rd_kind hok] at this; exact this), hok, fun v' H4 s4 r4 => ?_⟩
  have k3 := s4 _ _ k1
  have hkl := k2.length
  refine ⟨k, kvs, _, rfl, rfl, k3, fitsLt (by have := few.1; omega), ?_⟩
  refine q [] _ (PD.kind (G3.same s4) k3 (k2.same s4 _) (fun c' o hc nc => by rw [upd_ne nc]; exact hc) ups (r4.tups (lst_tups' k3 _) _))
 | chan ks ds cn =>
  have hw : rd (Ln.ws (.chan cn)) = S "channel" :: [cn.1, cn.2.1, cn.2.2.1, cn.2.2.2] := rd_chan hok
  refine ⟨_, rfl, a, _, _, .str (S "channel"), rfl, rfl, SqL.of ha, (by rw [hw]; exact at0), ?_⟩
  refine ⟨_, rfl, (by show 2 <= sizeLine; decide), fun p2 hp2 => ⟨p2, _, rfl, .inr (SqT.of ups), rfl, rfl, _, rfl, iteBF (by walk_at "k") ?_⟩⟩
  have s1 := Same.new hp2 (.tup [.str (S "rec"), .str (S "alt")])
  refine ⟨_, rfl, rfl, _, rfl, iteKT (by walk_at "k") ?_⟩
  have G1 := G.same s1
  obtain ⟨hvs, h1, h2⟩ := G1.ha
  obtain ⟨rfl, rfl⟩ := HsAt.nil h2
  refine ⟨_, rfl, p, _, dx, _, _, rfl, G1.ob, T.dt.cl, no _ (by simp), lk_hands, (by show 0 <= sizeLine; decide), fun e he => ?_⟩
  have t1 := Same.new he (.lst [])
  refine ⟨h, e, _, rfl, rfl, SqL.of (t1 _ _ h1), SqL.of ups, rfl, ?_⟩
  have G2 := G1.same t1
  obtain ⟨cvs, c1, c2⟩ := G2.ch
  refine ⟨_, rfl, p, _, dx, _, _, rfl, G2.ob, T.dt.cl, no _ (by simp), lk_channels, .inl ⟨rfl, _, SqL.of c1⟩, ?_⟩
  have s2 := s1.trans t1
  refine ⟨_, rfl, a, cn, rfl, SqL.of (by have := s2 _ _ ha; rw [rd_chan hok] at this; exact this), hok, fun v' H4 s4 r4 => ?_⟩
  have c3 := s4 _ _ c1
  have hcl := c2.length
  refine ⟨c, cvs, _, rfl, rfl, c3, fitsLt (by have := few.2.1; omega), ?_⟩
  refine q [] _ (PD.chan (G2.same s4) c3 (c2.same s4 _) (fun c' o hc nc => by rw [upd_ne nc]; exact hc) ups (r4.tups (lst_tups' c3 _) _))
 | hand ks cs hs x =>
  have hx : Name x := hok
  rw [rd_hand hx] at ha
  refine ⟨_, rfl, a, _, _, _, rfl, rfl, SqL.of ha, rfl, ?_⟩
  refine ⟨_, rfl, (by show 2 <= sizeLine; decide), fun p2 hp2 => ⟨p2, _, rfl, .inr (SqT.of ups), rfl, (by walk_at "k"), _, rfl, iteBF (by walk_at "k") ?_⟩⟩
  have s1 := Same.new hp2 (.tup [.str (S "rec"), .str (S "alt")])
  refine ⟨_, rfl, rfl, _, rfl, iteKF (by walk_at "k") ?_⟩
  refine ⟨_, rfl, rfl, _, rfl, iteKT (by walk_at "k") ?_⟩
  have ha1 := s1 _ _ ha
  refine ⟨_, rfl, a, _, rfl, .inl (SqL.of ha1), rfl, rfl, ?_⟩
  have G1 := G.same s1
  obtain ⟨hvs, h1, h2⟩ := G1.ha
  refine ⟨_, rfl, p, _, dx, _, _, rfl, G1.ob, T.dt.cl, no _ (by simp), lk_hands, .inl ⟨rfl, _, SqL.of h1⟩, ?_⟩
  refine ⟨_, rfl, a, _, _, _, rfl, rfl, SqL.of ha1, rfl, x, rfl, hx, fun H2 s2 => ?_⟩
  refine ⟨(by show 0 <= sizeLine; decide), fun b hb => ⟨(by show 0 <= sizeLine; decide), fun r hr2 => ⟨(by show 3 <= sizeLine; decide), fun t ht => ?_⟩⟩⟩
  have t1 := Same.new hb (.lst [])
  have t2 := Same.new hr2 (.lst [])
  have t3 := Same.new ht (.tup [.str x, .ref b, .ref r])
  have s5 := s2.trans (t1.trans (t2.trans t3))
  have G2 := G1.same s2
  have h3 := s5 _ _ h1
  have hb0 : H2 b = none := hb
  have hr0 : H2 r = none := none_of_same t1 hr2
  have br : b ≠ r := fun z => by rw [<- z, ups] at hr2; cases hr2
  have hl := h2.len
  refine ⟨h, hvs, _, rfl, rfl, h3, fitsLt (by have : hs.length <= 1000 := few.2.2.1; rw [hl]; show hs.length <= 4000000; omega), ?_⟩
  have hh2 := s2 _ _ h1
  have nt : t ≠ h := fun z => by rw [z] at ht; rw [t2 _ _ (t1 _ _ hh2)] at ht; cases ht
  have nb : b ≠ h := Ne.symm (neN hh2 hb0)
  have nr : r ≠ h := Ne.symm (neN hh2 hr0)
  refine q (ads ++ [(b, r)]) _ (PD.hand G2 hh2 (h2.keep (fun a us e => s2 _ _ e) fun a _ o e => s2 _ _ e) (fun c' o hc nc => by rw [upd_ne nc]; exact t3 _ _ (t2 _ _ (t1 _ _ hc))) ups (by rw [upd_ne nt, ups]) ?_ ?_ hb0 hr0 br)
  ·rw [upd_ne nb]; exact t3 _ _ (t2 _ _ ups)
  ·rw [upd_ne nr]; exact t3 _ _ ups
 | box ks cs hs x ds p1 =>
  have hw : rd (Ln.ws (.box p1)) = S "box" :: [p1.1, p1.2] := rd_box hok
  refine ⟨_, rfl, a, _, _, .str (S "box"), rfl, rfl, SqL.of ha, (by rw [hw]; exact at0), ?_⟩
  refine ⟨_, rfl, (by show 2 <= sizeLine; decide), fun p2 hp2 => ⟨p2, _, rfl, .inr (SqT.of ups), rfl, rfl, _, rfl, iteBF (by walk_at "k") ?_⟩⟩
  have s1 := Same.new hp2 (.tup [.str (S "rec"), .str (S "alt")])
  refine ⟨_, rfl, rfl, _, rfl, iteKF (by walk_at "k") ?_⟩
  refine ⟨_, rfl, rfl, _, rfl, iteKF (by walk_at "k") ?_⟩
  have G1 := G.same s1
  obtain ⟨hvs, h1, h2⟩ := G1.ha
  obtain ⟨vs', v, ads', ab, rfl, rfl, k1, t, bs, rs, rfl, ht, hb, rb, hr1, rr⟩ := HsAt.last h2
  obtain rfl : rs = [] := rr
  refine ⟨_, rfl, p, _, dx, _, _, rfl, G1.ob, T.dt.cl, no _ (by simp), lk_hands, (by show 0 <= sizeLine; decide), fun e he => ?_⟩
  have t1 := Same.new he (.lst [])
  have G2 := G1.same t1
  refine ⟨h, e, _, rfl, rfl, SqL.of (t1 _ _ h1), SqL.of ups, ?_, ?_⟩
  ·refine bl_true ?_
   cases vs' <;> rfl
  refine ⟨_, rfl, p, _, dx, _, _, rfl, G2.ob, T.dt.cl, no _ (by simp), lk_hands, 1, rfl, h, _, -1, .ref t, rfl, rfl, SqL.of (t1 _ _ h1), atI_last _ _, _, rfl, ?_⟩
  have fw := few.2.2.2 (x, ds, []) (by simp)
  have hbl := rb.length
  refine ⟨t, ab.1, ab.2, a, x, bs, [], .box p1, rfl, t1 _ _ ht, t1 _ _ hb, t1 _ _ hr1, (s1.trans t1) _ _ ha, hok, by rw [hbl]; exact fw.1, Nat.zero_le _, .inl ⟨p1, rfl, rfl, fun H3 u sb hb3 ru => ?_⟩⟩
  have nb : t ≠ ab.1 := fun z => by rw [z, hb] at ht; cases ht
  have brn : ab.2 ≠ ab.1 := Ne.symm (cells_br G1.nd)
  refine q _ _ (PD.last (b := ab.1) (r := ab.2) (x0 := ab.1) (hd' := (x, ds ++ [dPart p1], [])) G2 (.inl rfl) (t1 _ _ h1) (k1.keep (fun a us e => t1 _ _ e) fun a _ o e => t1 _ _ e) sb (t1 _ _ hb) ⟨t, _, [], rfl, sb _ _ (t1 _ _ ht) nb, hb3, ?_, sb _ _ (t1 _ _ hr1) brn, rfl⟩)
  exact ((rb.same t1 _).tups (sb_tups sb (t1 _ _ hb)) _).append ⟨u, [], rfl, ru, rfl⟩
 | row ks cs hs x ds es r =>
  obtain ⟨hd, tl, ews, n0, n1, n2, n3, n4⟩ := rw_head hok
  have ha' : H a = some (.lst ((rd r.ws).map V.str)) := ha
  refine ⟨_, rfl, a, _, _, .str hd, rfl, rfl, SqL.of ha', (by rw [ews]; exact at0), ?_⟩
  refine ⟨_, rfl, (by show 2 <= sizeLine; decide), fun p2 hp2 => ⟨p2, _, rfl, .inr (SqT.of ups), rfl, rfl, _, rfl, iteBF (inV_two n1 n2) ?_⟩⟩
  have s1 := Same.new hp2 (.tup [.str (S "rec"), .str (S "alt")])
  refine ⟨_, rfl, rfl, _, rfl, M.iteKF (decide_eq_false fun z => n3 (V.str.inj z)) ?_⟩
  refine ⟨_, rfl, rfl, _, rfl, M.iteKF (decide_eq_false fun z => n4 (V.str.inj z)) ?_⟩
  have G1 := G.same s1
  obtain ⟨hvs, h1, h2⟩ := G1.ha
  obtain ⟨vs', v, ads', ab, rfl, rfl, k1, t, bs, rs, rfl, ht, hb, rb, hr1, rr⟩ := HsAt.last h2
  refine ⟨_, rfl, p, _, dx, _, _, rfl, G1.ob, T.dt.cl, no _ (by simp), lk_hands, (by show 0 <= sizeLine; decide), fun e he => ?_⟩
  have t1 := Same.new he (.lst [])
  have G2 := G1.same t1
  refine ⟨h, e, _, rfl, rfl, SqL.of (t1 _ _ h1), SqL.of ups, ?_, ?_⟩
  ·refine bl_true ?_
   cases vs' <;> rfl
  refine ⟨_, rfl, p, _, dx, _, _, rfl, G2.ob, T.dt.cl, no _ (by simp), lk_hands, 1, rfl, h, _, -1, .ref t, rfl, rfl, SqL.of (t1 _ _ h1), atI_last _ _, _, rfl, ?_⟩
  have fw := few.2.2.2 (x, ds, es) (by simp)
  have hbl := rb.length
  have hrl := rr.length
  refine ⟨t, ab.1, ab.2, a, x, bs, rs, .row r, rfl, t1 _ _ ht, t1 _ _ hb, t1 _ _ hr1, (s1.trans t1) _ _ ha, hok, by rw [hbl]; exact fw.1, by rw [hrl]; exact fw.2, .inr ⟨r, rfl, fun H3 u sb hr3 ru => ?_⟩⟩
  have nb : t ≠ ab.2 := fun z => by rw [z, hr1] at ht; cases ht
  have brn : ab.1 ≠ ab.2 := cells_br G1.nd
  refine q _ _ (PD.last (b := ab.1) (r := ab.2) (x0 := ab.2) (hd' := (x, ds, es ++ [r.d])) G2 (.inr rfl) (t1 _ _ h1) (k1.keep (fun a us e => t1 _ _ e) fun a _ o e => t1 _ _ e) sb (t1 _ _ hr1) ⟨t, _, _, rfl, sb _ _ (t1 _ _ ht) nb, sb _ _ (t1 _ _ hb) brn, (rb.same t1 _).tups (sb_tups sb (t1 _ _ hr1)) _, hr3, ?_⟩)
  exact ((rr.same t1 _).tups (sb_tups sb (t1 _ _ hr1)) _).append ⟨u, [], rfl, ru, rfl⟩
end
end K4
end
section
namespace K4
open PySem L2 M
seal L2.PE L2.PA L2.PS L2.PSs L2.PT L2.PW L2.PI L2.PG L2.PJ L2.PTs
def spRows : Sp := fun vs H Q _ => ∃ (x : Str) (rows : List Str), vs = [.str x] /\ x.length <= 3000000 /\ ((x = S "" /\ rows = []) \/ (x ≠ S "" /\ Txt.split x (S "\n") = rows)) /\ ∀ l, H l = none -> Q (.ref l) (upd H l (.lst (rows.map V.str)))
def hD (h : Hs) : D := .tup [.str h.1, .tup h.2.1, .tup h.2.2]
def spMadeD (K : PySem.W.Frag) : Sp := fun vs H Q _ => ∃ (H0 : Hp) (p dx k c h : Addr) (ads : List (Addr × Addr)) (st : Stt), vs = [.ref p] /\ PD K H0 H p dx k c h ads st /\ Few st ∧
 ∀ v H', Same H H' -> RelD H' v (.tup [.tup st.ks, .tup st.cs, .tup (st.hs.map hD)]) -> Q v H'
theorem HsAt.get {H : Hp} : ∀ {vs : List V} {ads : List (Addr × Addr)} {hs : List Hs}, HsAt H vs ads hs -> ∀ {i : Nat} {v : V}, vs[i]? = some v -> ∃ b r h, hs[i]? = some h /\ HAt H v b r h.1 h.2.1 h.2.2
 | v' :: vs, a :: ads, h :: hs, g, 0, v, e => by
  simp at e
  subst e
  exact ⟨a.1, a.2, h, rfl, g.1⟩
 | v' :: vs, a :: ads, h :: hs, g, i + 1, v, e => HsAt.get g.2 (by simpa using e)
def spDInit (K : PySem.W.Frag) : Sp := fun vs H Q _ => ∃ (p dx : Addr), vs = [.ref p] /\ H p = some (.ins (ad K "Draft") dx []) ∧
 ∀ H' k c h, SameBut p H H' -> H' p = some (.ins (ad K "Draft") dx [("kinds", .ref k), ("channels", .ref c), ("hands", .ref h)]) -> H' k = some (.lst []) -> H' c = some (.lst []) -> H' h = some (.lst []) -> H k = none -> H c = none -> H h = none -> k ≠ c -> k ≠ h -> c ≠ h -> Q .non H'
section
variable {P : Program} {w : World} {K : PySem.W.Frag} {mg : Str -> Option Value} {base : Heap} {n m : Nat}
theorem ok_rows_in (T : Tx K mg) : DefIs P w K mg base (n + 1) "rows_in" ["text"] spRows := by
 refine DefIs.of T.d_rows_in sc_rows_in (fun vs H Q E h => ?_) (fun f cdv A outer s H vs Q E hr h => ?_)
 ·obtain ⟨_, _, rfl, _⟩ := h
  rfl
 obtain ⟨x, rows, rfl, hl, hx, q⟩ := h
 refine ⟨_, (zpn (ps_if (pt_cmpR op_eq (pv 0) pe_str (nomark _)) (zpo (ps_ret (pe_lst pa_nil))) pss_nil)
   (zpo (ps_ret (pe_bm PySem.F.plainAttrs_str PySem.F.slot_str_split PySem.F.type_str_split mt_split (pv 0) (zpc pe_str pa_nil so))))), ?_⟩
 rcases hx with ⟨rfl, rfl⟩ | ⟨hne, rfl⟩
 ·exact ⟨_, rfl, rfl, _, rfl, M.iteKT (decide_eq_true rfl) ⟨(by show 0 <= sizeLine; decide), fun l hl0 => q l hl0⟩⟩
 ·refine ⟨_, rfl, rfl, _, rfl, M.iteKF (decide_eq_false fun z => hne (V.str.inj z)) ?_⟩
  exact ⟨_, rfl, rfl, x, S "\n", rfl, rfl, (by walk_at "k"), fits (by omega), fun l hl0 => q l hl0⟩
theorem ok_made (T : Tx K mg) : DefIs P w K mg base (n + 1) "made" ["draft"] (spMadeD K) := by
 refine DefIs.of T.d_made sc_made (fun vs H Q E h => ?_) (fun f cdv A outer s H vs Q E hr h => ?_)
 ·obtain ⟨_, _, _, _, _, _, _, _, rfl, _⟩ := h
  rfl
 obtain ⟨H0, p, dx, k, c, h, ads, st, rfl, G, few, q⟩ := h
 have nd := sc_made.nd
 have no : ∀ f ∈ (["kinds", "channels", "hands"] : List Str), NoAttr K (ad K "Draft") f := T.dt.no
 obtain ⟨hvs, h1, h2⟩ := G.ha
 have hl := h2.len
 have f3 := few.2.2.1
 refine ⟨_, (zpn (ps_setComp (i := 1) ["name", "boxes", "rows"] [none, none, none] rfl (by kernel_rfl) nd rfl (by walk_at "o") (pi_list (pe_fld (pv 0) rfl)) (fun _ _ _ _ => (pg_tupC (K := K) (n := 3) rfl rfl (pgs_cons (pg_name (i := 0) (by show List.Nodup (["name", "boxes", "rows"] : List Str); decide +kernel) rfl (Or.inl rfl)) (pgs_cons (pg_name (i := 1) (by show List.Nodup (["name", "boxes", "rows"] : List Str); decide +kernel) rfl (Or.inl rfl)) (pgs_cons (pg_name (i := 2) (by show List.Nodup (["name", "boxes", "rows"] : List Str); decide +kernel) rfl (Or.inl rfl)) pgs_nil))))) (fun _ _ _ _ => pts_nil) (fun _ _ _ _ => (pe_tup (zpc (pv 0) (zpc (pe_callTy (call_tuple_ofC (K := K) rfl) rfl T.z_tuple PyProof.Rows.boot_tuple (zpc (pv 1) pa_nil zsn)) (zpc (pe_callTy (call_tuple_ofC (K := K) rfl) rfl T.z_tuple PyProof.Rows.boot_tuple (zpc (pv 2) pa_nil zsn)) pa_nil zsc) zsc) zsn))))
   (zpo (ps_ret (pe_tup (zpc (pe_callTy call_tuple_of rfl T.z_tuple PyProof.Rows.boot_tuple (zpc (pe_fld (pv 0) rfl) pa_nil star_attr)) (zpc (pe_callTy call_tuple_of rfl T.z_tuple PyProof.Rows.boot_tuple (zpc (pe_fld (pv 0) rfl) pa_nil star_attr)) (zpc (pe_callTy call_tuple_of rfl T.z_tuple PyProof.Rows.boot_tuple (zpc (pv 1) pa_nil zsn)) pa_nil zsc) zsc) zsc))))), ?_⟩
 refine ⟨_, rfl, p, _, dx, _, _, rfl, G.ob, T.dt.cl, no _ (by simp), lk_hands, h, rfl, ⟨_, SqL.of h1⟩, ?_⟩
 refine comp_listG (xs := hvs) (fun i ys H' => Same H H' /\ ys.length = i /\ RelDs H' ys ((st.hs.take i).map hD)) ⟨Same.refl _, rfl, rfl⟩ (fitsLt (by omega)) (fun i ys H' _ z => SqL.of (z.1 _ _ h1)) ?_ ?_
 ·rintro i x ys H1 hx hi hly ⟨s1, hyl, ry⟩
  obtain ⟨b, r, hh, hhi, t, bs, rs, rfl, ht, hb, rb, hr1, rr⟩ := HsAt.get h2 hx
  refine ⟨t, _, rfl, SqT.of (s1 _ _ ht), rfl, _, _, rfl, _, _, rfl, _, _, rfl, rfl, ext3 rfl rfl rfl, yes_go ?_⟩
  refine ⟨_, rfl, _, rfl, b, _, rfl, .inl ⟨SqL.of (s1 _ _ hb), fun u hu => ?_⟩⟩
  have t1 := Same.new hu (.tup bs)
  refine ⟨_, rfl, r, _, rfl, .inl ⟨SqL.of (t1 _ _ (s1 _ _ hr1)), fun u2 hu2 => ?_⟩⟩
  have t2 := Same.new hu2 (.tup rs)
  refine ⟨(by show 3 <= sizeLine; decide), fun u3 hu3 => ?_⟩
  have t3 := Same.new hu3 (.tup [.str hh.1, .ref u, .ref u2])
  have t13 := t1.trans (t2.trans t3)
  have s4 := s1.trans t13
  refine nxtG hi hly ⟨s4, by rw [List.length_append, List.length_singleton, hyl], ?_⟩
  rw [List.take_add_one, hhi]
  show RelDs _ _ ((st.hs.take i ++ [hh]).map hD)
  rw [List.map_append]
  exact (ry.same t13 _).append ⟨.ref u3, [], rfl, ⟨u3, _, rfl, ups, _, _, rfl, rfl, _, _, rfl, ⟨u, _, rfl, t3 _ _ (t2 _ _ ups), rb.same s4 _⟩, _, _, rfl, ⟨u2, _, rfl, t3 _ _ ups, rr.same s4 _⟩, rfl⟩, rfl⟩
 ·rintro ys H1 hly ⟨s1, hyl, ry⟩ l hl0
  rw [List.take_of_length_le (by omega)] at ry
  have t0 := Same.new hl0 (.lst ys)
  have s2 := s1.trans t0
  have G2 := G.same s2
  obtain ⟨kvs, k1, k2⟩ := G2.ki
  refine ⟨_, rfl, p, _, dx, _, _, rfl, G2.ob, T.dt.cl, no _ (by simp), lk_kinds, k, _, rfl, .inl ⟨SqL.of k1, fun u hu => ?_⟩⟩
  have t1 := Same.new hu (.tup kvs)
  have G3 := G2.same t1
  obtain ⟨cvs, c1, c2⟩ := G3.ch
  refine ⟨_, rfl, p, _, dx, _, _, rfl, G3.ob, T.dt.cl, no _ (by simp), lk_channels, c, _, rfl, .inl ⟨SqL.of c1, fun u2 hu2 => ?_⟩⟩
  have t2 := Same.new hu2 (.tup cvs)
  refine ⟨_, rfl, l, _, rfl, .inl ⟨SqL.of (t2 _ _ (t1 _ _ ups)), fun u3 hu3 => ?_⟩⟩
  have t3 := Same.new hu3 (.tup ys)
  refine ⟨(by show 3 <= sizeLine; decide), fun u4 hu4 => ?_⟩
  have t4 := Same.new hu4 (.tup [.ref u, .ref u2, .ref u3])
  have t24 := t2.trans (t3.trans t4)
  have t14 := t1.trans t24
  exact q _ _ (s2.trans t14) ⟨u4, _, rfl, ups, _, _, rfl, ⟨u, _, rfl, t24 _ _ ups, k2.same t14 _⟩, _, _, rfl, ⟨u2, _, rfl, (t3.trans t4) _ _ ups, c2.same t24 _⟩, _, _, rfl, ⟨u3, _, rfl, t4 _ _ ups, ry.same (t0.trans t14) _⟩, rfl⟩
end
end K4
end
section
namespace L2
open PySem PySem.Spec PyProof.Rows
end L2
namespace K4
open PySem L2 M
seal L2.PE L2.PA L2.PS L2.PSs L2.PT L2.PW L2.PI L2.PG L2.PJ L2.PTs
def spInit (K : PySem.W.Frag) : Sp := fun vs H Q _ => ∃ (e : Addr) (i : Int), vs = [.ref e, .int i] /\ H e = some (excO e (cAt K 0) none) /\ 0 <= i /\ i < 10 ^ 18 ∧
 ∀ H' dx, SameBut e H H' -> H' e = some (excO e (cAt K 0) (some dx)) -> H' dx = some (.xd [("at", .int i)]) -> Q .non H'
theorem len_num {i : Int} (h0 : 0 <= i) (h : i < 10 ^ 18) : (Str.ofString (toString i)).length <= 18 := by
 obtain ⟨m, rfl⟩ := Int.eq_ofNat_of_zero_le h0
 have e := congrArg List.length (num_reads m)
 rw [List.length_map] at e
 show (numS (m : Int)).cps.size <= 18
 rw [<- Array.length_toList, e]
 exact (Nat.length_toDigits_le_iff (b := 10) (k := 18) (by decide) (by decide)).mpr (by omega)
def spRead : Sp := fun vs H Q _ => ∃ mk : Mk, vs = [.str mk.text] /\ MkOk mk /\ ∀ v H', Same H H' -> RelD H' v mk.d -> Q v H'
def FewN (i : Nat) (st : Stt) : Prop := st.ks.length <= i /\ st.cs.length <= i /\ st.hs.length <= i /\ ∀ h ∈ st.hs, h.2.1.length <= i /\ h.2.2.length <= i
theorem FewN.step {i : Nat} {st st' : Stt} {l : Ln} (f : FewN i st) (s : Stp st l st') : FewN (i + 1) st' := by
 obtain ⟨f1, f2, f3, f4⟩ := f
 cases s with
 | kind ks k => exact ⟨by rw [List.length_append]; exact Nat.succ_le_succ f1, Nat.zero_le _, Nat.zero_le _, fun h hh => nomatch hh⟩
 | chan ks cs c => exact ⟨Nat.le_succ_of_le f1, by rw [List.length_append]; exact Nat.succ_le_succ f2, Nat.zero_le _, fun h hh => nomatch hh⟩
 | hand ks cs hs x =>
  refine ⟨Nat.le_succ_of_le f1, Nat.le_succ_of_le f2, by rw [List.length_append]; exact Nat.succ_le_succ f3, fun h hh => ?_⟩
  rcases List.mem_append.mp hh with hh | hh
  ·exact ⟨Nat.le_succ_of_le (f4 h hh).1, Nat.le_succ_of_le (f4 h hh).2⟩
  ·rw [List.mem_singleton.mp hh]; exact ⟨Nat.zero_le _, Nat.zero_le _⟩
 | box ks cs hs x ds p =>
  refine ⟨Nat.le_succ_of_le f1, Nat.le_succ_of_le f2, by rw [List.length_append] at f3 ⊢; exact Nat.le_succ_of_le f3, fun h hh => ?_⟩
  rcases List.mem_append.mp hh with hh | hh
  ·exact ⟨Nat.le_succ_of_le (f4 h (by simp [hh])).1, Nat.le_succ_of_le (f4 h (by simp [hh])).2⟩
  ·have f5 := f4 (x, ds, []) (by simp)
   rw [List.mem_singleton.mp hh]
   exact ⟨by rw [List.length_append]; exact Nat.succ_le_succ f5.1, Nat.zero_le _⟩
 | row ks cs hs x ds es r =>
  refine ⟨Nat.le_succ_of_le f1, Nat.le_succ_of_le f2, by rw [List.length_append] at f3 ⊢; exact Nat.le_succ_of_le f3, fun h hh => ?_⟩
  rcases List.mem_append.mp hh with hh | hh
  ·exact ⟨Nat.le_succ_of_le (f4 h (by simp [hh])).1, Nat.le_succ_of_le (f4 h (by simp [hh])).2⟩
  ·have f5 := f4 (x, ds, es) (by simp)
   rw [List.mem_singleton.mp hh]
   exact ⟨Nat.le_succ_of_le f5.1, by rw [List.length_append]; exact Nat.succ_le_succ f5.2⟩
theorem FewN.few {i : Nat} {st : Stt} (f : FewN i st) (h : i <= 1000) : Few st :=
 ⟨Nat.le_trans f.1 h, Nat.le_trans f.2.1 h, Nat.le_trans f.2.2.1 h, fun x hx => ⟨Nat.le_trans (f.2.2.2 x hx).1 h, Nat.le_trans (f.2.2.2 x hx).2 h⟩⟩
theorem fin_d (mk : Mk) : D.tup [.tup mk.fin.ks, .tup mk.fin.cs, .tup (mk.fin.hs.map hD)] = mk.d := by
 show D.tup [.tup (mk.kinds.map Kn.d), .tup (mk.chans.map dCh), .tup ((mk.hands.map hsOf).map hD)] = _
 rw [List.map_map]
 rfl
section
variable {P : Program} {w : World} {K : PySem.W.Frag} {mg : Str -> Option Value} {base : Heap} {n m : Nat}
theorem init_rd (T : Tx K mg) {e : Addr} {i : Int} {H : Hp} {Q : VK} (he : H e = some (excO e (cAt K 0) none)) (i0 : 0 <= i) (i1 : i < 10 ^ 18)
  (k : ∀ H' dx, SameBut e H H' -> H' e = some (excO e (cAt K 0) (some dx)) -> H' dx = some (.xd [("at", .int i)]) -> Q .non H') :
  tSeq (tDrop (tInitX K (tCons (tVar 0) (tCons (fun σ H Q => jLit (Str.ofString "no such text, by its row ") (jInt (tVar 1) jNil) σ H Str.empty Q) tNil)))) (sFldX K (tVar 0) (tVar 1) "at") { nx := fun _ H' => Q .non H', rt := Q } (start ["self", "at"] [.ref e, .int i]) H := by
 have hl := len_num i0 i1
 have hlen : ((Str.empty ++ Str.ofString "no such text, by its row ") ++ Str.ofString (toString i)).length <= sizeLine := by
  refine fits ?_
  show ((Str.empty ++ Str.ofString "no such text, by its row ").cps ++ (Str.ofString (toString i)).cps).size <= 4000000
  rw [Array.size_append]
  have e1 : (Str.empty ++ Str.ofString "no such text, by its row ").cps.size = 25 := by walk_at "k"
  have e2 : (Str.ofString (toString i)).cps.size <= 18 := hl
  omega
 refine ⟨_, rfl, (by walk_at "k"), _, rfl, i, rfl, log_small (by omega), hlen, hlen, e, cAt K 0, _, rfl, he, T.xt.cl 0 (by decide), (by show 1 <= sizeLine; decide), ?_⟩
 have e0 : (upd H e (excO e (cAt K 0) none)) e = some (excO e (cAt K 0) none) := ups
 refine ⟨_, rfl, _, rfl, e, cAt K 0, rfl, e0, T.xt.cl 0 (by decide), T.xt.na, fun dx hd ne => ?_⟩
 refine k _ dx (fun b o hb nb => ?_) ups ?_
 ·have nd' : b ≠ dx := fun z => by rw [z] at hb nb; rw [upd_ne nb] at hd; rw [hb] at hd; cases hd
  rw [upd_ne nb, upd_ne nd', upd_ne nb]
  exact hb
 ·rw [upd_ne ne, ups]
theorem ok_initQ (T : Tx K mg) : InitQ P w K mg base (n + 1) (cAt K 0) ["self", "at"] (spInit K) := by
 refine InitQ.of T.it sc_init (fun vs H Q E h => ?_) (fun f cdv A outer s H vs Q E hr h => ?_)
 ·obtain ⟨_, _, rfl, _⟩ := h
  rfl
 obtain ⟨e, i, rfl, he, i0, i1, k⟩ := h
 exact ⟨_, (zpn (ps_expr (pe_initX T.xt.sup rfl T.c_SwapError (zpc (pv 0) (zpc (pe_fstr (pj_lit (pj_int (pv 1) pj_nil))) pa_nil star_fstr) zsn))) (zpo (ps_fldX (pv 0) (pv 1) rfl))), init_rd T he i0 i1 k⟩
theorem ok_dinit (T : Tx K mg) : InitIs P w K mg base (n + 1) (ad K "Draft") ["self"] (spDInit K) := by
 refine InitIs.of T.di sc_dinit (fun vs H Q E h => ?_) (fun f cdv A outer s H vs Q E hr h => ?_)
 ·obtain ⟨_, _, rfl, _⟩ := h
  rfl
 obtain ⟨p, dx, rfl, hp, q⟩ := h
 refine ⟨_, (zpn (ps_fld (pv 0) (pe_lst pa_nil) rfl) (zpn (ps_fld (pv 0) (pe_lst pa_nil) rfl) (zpo (ps_fld (pv 0) (pe_lst pa_nil) rfl)))), ?_⟩
 have no : ∀ f ∈ (["kinds", "channels", "hands"] : List Str), NoAttr K (ad K "Draft") f := T.dt.no
 refine ⟨(by show 0 <= sizeLine; decide), fun k hk => ⟨_, rfl, p, ad K "Draft", dx, [], rfl, Same.new hk _ _ _ hp, T.dt.cl, no _ (by simp), by decide, ?_⟩⟩
 have pk : p ≠ k := neN hp hk
 have f1 : putF "kinds" (V.ref k) [] = [((("kinds" : Str), V.ref k) : Str × V)] := rfl
 have f2 : ∀ c, putF "channels" (V.ref c) [((("kinds" : Str), V.ref k) : Str × V)] = [((("kinds" : Str), V.ref k) : Str × V), ((("channels" : Str), V.ref c) : Str × V)] := fun c => by
  show (if ("kinds" : Str) = "channels" then _ else _) = _
  rw [if_neg (by walk_at "k")]
  rfl
 have f3 : ∀ c h, putF "hands" (V.ref h) [((("kinds" : Str), V.ref k) : Str × V), ((("channels" : Str), V.ref c) : Str × V)] = dfs k c h := fun c h => by
  show (if ("kinds" : Str) = "hands" then _ else (((("kinds" : Str), V.ref k) : Str × V)) :: (if ("channels" : Str) = "hands" then _ else _)) = _
  rw [if_neg (by walk_at "k"), if_neg (by walk_at "k")]
  rfl
 rw [f1]
 refine ⟨(by show 0 <= sizeLine; decide), fun c hc => ⟨_, rfl, p, ad K "Draft", dx, _, rfl, Same.new hc _ _ _ ups, T.dt.cl, no _ (by simp), by show 1 < 1000; decide, ?_⟩⟩
 rw [f2]
 have pc : p ≠ c := fun z => by rw [<- z, ups] at hc; cases hc
 have hc0 : upd H k (.lst []) c = none := by rw [upd_ne (Ne.symm pc)] at hc; exact hc
 have kc : k ≠ c := fun z => by rw [<- z, ups] at hc0; cases hc0
 have hcH : H c = none := by rw [upd_ne (Ne.symm kc)] at hc0; exact hc0
 refine ⟨(by show 0 <= sizeLine; decide), fun h hh => ⟨_, rfl, p, ad K "Draft", dx, _, rfl, Same.new hh _ _ _ ups, T.dt.cl, no _ (by simp), by show 2 < 1000; decide, ?_⟩⟩
 rw [f3]
 have ph : p ≠ h := fun z => by rw [<- z, ups] at hh; cases hh
 rw [upd_ne (Ne.symm ph)] at hh
 have ch : c ≠ h := fun z => by rw [<- z, ups] at hh; cases hh
 rw [upd_ne (Ne.symm ch), upd_ne (Ne.symm ph)] at hh
 have kh : k ≠ h := fun z => by rw [<- z, ups] at hh; cases hh
 rw [upd_ne (Ne.symm kh)] at hh
 refine q _ k c h (fun b o hb nb => ?_) ups ?_ ?_ ?_ hk hcH hh kc kh ch
 ·have nk : b ≠ k := neN hb hk
  have nc : b ≠ c := neN hb hcH
  have nh : b ≠ h := neN hb hh
  rw [upd_ne nb, upd_ne nh, upd_ne nb, upd_ne nc, upd_ne nb, upd_ne nk]
  exact hb
 ·rw [upd_ne (Ne.symm pk), upd_ne kh, upd_ne (Ne.symm pk), upd_ne kc, upd_ne (Ne.symm pk), ups]
 ·rw [upd_ne (Ne.symm pc), upd_ne ch, upd_ne (Ne.symm pc), ups]
 ·rw [upd_ne (Ne.symm ph), ups]
theorem ok_read (T : Tx K mg) (D_dinit : InitIs P w K mg base n (ad K "Draft") ["self"] (spDInit K)) (D_initQ : InitQ P w K mg base n (cAt K 0) ["self", "at"] (spInit K)) (D_rows_in : DefIs P w K mg base (n + 1) "rows_in" ["text"] spRows)
  (D_put_row : DefXs P w K mg base (n + 1) "put_row" ["draft", "words"] (spPutRow K)) (D_made : DefIs P w K mg base (n + 1) "made" ["draft"] (spMadeD K)) : DefXs P w K mg base (n + 2) "read" ["text"] spRead := by
 refine DefXs.of T.d_read sc_read (fun vs H Q E h => ?_) (fun f cdv A outer s H vs Q E hr h => ?_)
 ·obtain ⟨_, rfl, _⟩ := h
  rfl
 obtain ⟨mk, rfl, ok, q⟩ := h
 have nd := sc_read.nd
 have htl := Mk.text_len ok
 have hfew := ok.few
 refine ⟨_, (zpn (ps_set (i := 1) nd rfl (by walk_at "o") (pe_dmake D_dinit T.dt hr T.c_Draft))
   (zpn (ps_for (thr_ownT rfl rfl) rfl (pi_enum rfl T.z_enumerate (zpc (pd D_rows_in hr (zpc (pv 0) pa_nil zsn)) pa_nil zsc)) (pg_tup rfl (pgs_cons (pg_name (i := 2) nd rfl (by walk_at "o")) (pgs_cons (pg_name (i := 3) nd rfl (by walk_at "o")) pgs_nil)))
   (zpo (ps_tryRe rfl rfl rfl T.c_BadText (T.xt.cl 0 (by decide)).obj (fun pn Es => (zpo (ps_expr (pe_xcall D_put_row hr (zpc (pv 1) (zpc (pe_bmK (K := K) rfl PySem.F.plainAttrs_str PySem.F.slot_str_split PySem.F.type_str_split mt_split (pv 3) (zpc pe_str pa_nil so)) pa_nil zsc) zsn))))) (fun e => (pe_excQ D_initQ (T.xt.cl 0 (by decide)) (RoomQ.mark hr.q _) T.c_BadText (zpc (pv 2) pa_nil zsn))))))
   (zpo (ps_ret (pd D_made hr (zpc (pv 1) pa_nil zsn)))))), ?_⟩
 refine fun p dx hp hdx ndp => ⟨p, dx, rfl, ups, fun H1 k c h sb e1 e2 e3 e4 hk hc hh kc kh ch => ⟨rfl, ?_⟩⟩
 have s0 : Same H (upd (upd H dx (.own p)) p (.ins (ad K "Draft") dx [])) := fun a o e => by
  rw [upd_ne (neN e hp), upd_ne (neN e hdx)]; exact e
 have s1 : Same H H1 := fun a o e => sb a o (s0 a o e) (neN e hp)
 have k0 : H k = none := none_of_same s0 hk
 have c0 : H c = none := none_of_same s0 hc
 have h0 : H h = none := none_of_same s0 hh
 obtain ⟨rows, hrows⟩ : ∃ rows : List Str, rows = mk.lns.map Ln.line := ⟨_, rfl⟩
 have hx : (mk.text = S "" /\ rows = []) \/ (mk.text ≠ S "" /\ Txt.split mk.text (S "\n") = rows) := by
  by_cases e : mk.lns = []
  ·refine .inl ⟨?_, by rw [hrows, e]; rfl⟩
   unfold Mk.text
   rw [e]
   decide +kernel
  ·exact .inr ⟨Mk.text_ne ok e, by rw [hrows]; exact Mk.split_text ok e⟩
 refine ⟨_, rfl, mk.text, rows, rfl, by omega, hx, fun l hl => ⟨l, rfl, ⟨_, SqL.of ups⟩, ?_⟩⟩
 have t2 := Same.new hl (.lst (rows.map V.str))
 have hl2 : upd H1 l (.lst (rows.map V.str)) l = some (.lst (rows.map V.str)) := ups
 generalize upd H1 l (.lst (rows.map V.str)) = H2 at t2 hl2 ⊢
 have lk : l ≠ k := fun z => by rw [z, e2] at hl; cases hl
 have lc : l ≠ c := fun z => by rw [z, e3] at hl; cases hl
 have lh : l ≠ h := fun z => by rw [z, e4] at hl; cases hl
 have sH : Same H (hide [k, c, h] H2) := fun a o e => hide_get.mpr ⟨by simp [neN e k0, neN e c0, neN e h0], t2 _ _ (s1 _ _ e)⟩
 have l0 : hide [k, c, h] H2 l = some (.lst (rows.map V.str)) := hide_get.mpr ⟨by simp [lk, lc, lh], hl2⟩
 have G0 : PD K (hide [k, c, h] H2) H2 p dx k c h [] ⟨[], [], []⟩ := by
  refine ⟨t2 _ _ e1, ⟨[], t2 _ _ e2, rfl⟩, ⟨[], t2 _ _ e3, rfl⟩, ⟨[], t2 _ _ e4, trivial⟩, by simp [cellsOf, kc, kh, ch], fun a ha => ?_, fun a o e => (hide_get.mp e).2⟩
  cases e : hide [k, c, h] H2 a with
  | none => rfl
  | some o => exact absurd (by simpa [cellsOf] using ha) (hide_get.mp e).1
 generalize hide [k, c, h] H2 = H0 at sH l0 G0
 have hlen : rows.length = mk.lns.length := by rw [hrows, List.length_map]
 refine for_enum (xs := rows.map V.str) (fun i σ H' => ∃ o2 o3 ads st, σ = [some (.str mk.text), some (.ref p), o2, o3] /\ PD K H0 H' p dx k c h ads st /\ Run st (mk.lns.drop i) mk.fin /\ FewN i st)
  ⟨_, _, [], ⟨[], [], []⟩, rfl, G0, mk.run, Nat.le_refl _, Nat.le_refl _, Nat.le_refl _, fun h hh => nomatch hh⟩ ?_ ?_ ?_
 ·rintro i σ H' _ ⟨_, _, _, _, _, G, _⟩
  exact SqL.of (G.sm _ _ l0)
 ·rintro i z σ H3 p3 hz ⟨o2, o3, ads, st, rfl, G, hrun, hfn⟩ hp3
  have G4 := G.same (Same.new hp3 (.tup [.int (i : Nat), z]))
  refine ⟨p3, _, rfl, SqT.of ups, rfl, _, _, rfl, _, _, rfl, rfl, ?_⟩
  generalize upd H3 p3 (.tup [.int (i : Nat), z]) = H4 at G4 ⊢
  rw [List.getElem?_map] at hz
  obtain ⟨line, hline, rfl⟩ := Option.map_eq_some_iff.mp hz
  rw [hrows, List.getElem?_map] at hline
  obtain ⟨ln, hln, rfl⟩ := Option.map_eq_some_iff.mp hline
  have hi : i < mk.lns.length := (List.getElem?_eq_some_iff.mp hln).1
  have ed : mk.lns.drop i = ln :: mk.lns.drop (i + 1) := by
   rw [List.drop_eq_getElem_cons hi]
   congr 1
   exact (List.getElem?_eq_some_iff.mp hln).2
  rw [ed] at hrun
  have hok : ln.Ok := ok.lns ln (List.mem_of_getElem? hln)
  have hll := Ln.len hok
  cases hrun with
  | cons stp hrun =>
   rename_i st1
   refine ⟨fun _ _ _ _ => False, ⟨_, rfl, _, rfl, rfl, _, S " ", rfl, rfl, (by walk_at "k"), fits (by omega), fun a ha => ?_⟩, fun _ _ _ _ _ _ z => z.elim⟩
   rw [show Txt.split ln.line (S " ") = rd ln.ws from split_line ln.ne]
   have t5 := Same.new ha (.lst ((rd ln.ws).map V.str))
   refine ⟨H0, p, dx, k, c, h, a, ads, st, st1, ln, rfl, G4.same t5, ups, hok, hfn.few (by omega), stp, fun ads' H6 G6 => ?_⟩
   exact ⟨_, _, ads', st1, rfl, G6, hrun, hfn.step stp⟩
 ·rintro σ H3 ⟨o2, o3, ads, st, rfl, G, hrun, hfn⟩
  rw [List.length_map, hlen, List.drop_length] at hrun
  cases hrun
  rw [List.length_map, hlen] at hfn
  refine ⟨_, rfl, H0, p, dx, k, c, h, ads, mk.fin, rfl, G, hfn.few (by omega), fun v H' s' rd' => ?_⟩
  rw [fin_d] at rd'
  exact q v H' (sH.trans (G.sm.trans s')) rd'
end
end K4
end
section
namespace K4
open PySem L2 M
seal L2.PE L2.PA L2.PS L2.PSs L2.PT L2.PW L2.PI L2.PG L2.PJ L2.PTs
def WordAt (H : Hp) (v : V) (w : Str) : Prop := (v = .str w) \/ (∃ i : Int, v = .int i /\ 0 <= i /\ i < 10 ^ 10 /\ w = numS i) \/ (∃ d t a us, v = .ref a /\ H a = some (.tup us) /\ RelD H v d /\ TOk d t /\ w = strOf t)
def WordsAt (H : Hp) : List V -> List Str -> Prop
 | [], [] => True
 | v :: vs, w :: ws => WordAt H v w /\ WordsAt H vs ws
 | _, _ => False
theorem WordAt.same {H H' : Hp} {v : V} {w : Str} (h : WordAt H v w) (s : Same H H') : WordAt H' v w := by
 rcases h with h | h | ⟨d, t, a, us, e, h1, h2, h3, h4⟩
 ·exact .inl h
 ·exact .inr (.inl h)
 ·exact .inr (.inr ⟨d, t, a, us, e, s _ _ h1, h2.same s _, h3, h4⟩)
theorem WordsAt.len {H : Hp} : ∀ {vs : List V} {ws : List Str}, WordsAt H vs ws -> vs.length = ws.length
 | [], [], _ => rfl
 | v :: vs, w :: ws, h => by rw [List.length_cons, List.length_cons, WordsAt.len h.2]
theorem WordsAt.get {H : Hp} : ∀ {vs : List V} {ws : List Str}, WordsAt H vs ws -> ∀ {i : Nat} {v : V}, vs[i]? = some v -> ∃ w, ws[i]? = some w /\ WordAt H v w
 | v' :: vs, w :: ws, g, 0, v, e => by
  simp at e
  subst e
  exact ⟨w, rfl, g.1⟩
 | v' :: vs, w :: ws, g, i + 1, v, e => WordsAt.get g.2 (by simpa using e)
theorem term_tup {H : Hp} {v : V} : ∀ {n : Nat} {d : D} {t : Tr}, T2 n d t -> RelD H v d -> ∃ a us, v = .ref a /\ H a = some (.tup us)
 | 0, d, t, h, r => by
  rcases h with ⟨n, _, _, rfl, _⟩ | ⟨x, _, rfl, _⟩ <;> (obtain ⟨a, us, e, h1, _⟩ := r; exact ⟨a, us, e, h1⟩)
 | n + 1, d, t, h, r => by
  rcases h with h | h
  ·exact term_tup (n := 0) h r
  ·rcases h with ⟨_, _, _, _, _, _, _, _, rfl, _⟩ | ⟨_, _, _, _, _, _, rfl, _⟩ | ⟨_, _, _, _, _, rfl, _⟩ | ⟨_, _, _, _, _, _, _, rfl, _⟩ | ⟨_, _, _, _, _, _, _, _, rfl, _⟩ | ⟨_, _, _, _, _, _, _, _, _, rfl, _⟩ <;> (obtain ⟨a, us, e, h1, _⟩ := r; exact ⟨a, us, e, h1⟩)
theorem word_term {H : Hp} {v : V} {d : D} {t : Tr} (h : TOk d t) (r : RelD H v d) : WordAt H v (strOf t) := by
 obtain ⟨a, us, e, h1⟩ := term_tup h.1 r
 exact .inr (.inr ⟨d, t, a, us, e, h1, r, h, rfl⟩)
theorem row_words {H : Hp} {v : V} {r : Rw} (h : RelD H v r.d) (ok : r.Ok) : ∃ a us, v = .ref a /\ H a = some (.tup us) /\ WordsAt H us r.ws := by
 cases r with
 | en =>
  obtain ⟨a, _, rfl, ha, _, _, rfl, rfl, rfl⟩ := h
  exact ⟨a, _, rfl, ha, .inl rfl, trivial⟩
 | go n =>
  obtain ⟨a, _, rfl, ha, _, _, rfl, rfl, _, _, rfl, rfl, rfl⟩ := h
  exact ⟨a, _, rfl, ha, .inl rfl, .inr (.inl ⟨n, rfl, ok.1, ok.2, rfl⟩), trivial⟩
 | take l c x =>
  obtain ⟨a, _, rfl, ha, _, _, rfl, rfl, _, _, rfl, rfl, _, _, rfl, rfl, _, _, rfl, rfl, rfl⟩ := h
  exact ⟨a, _, rfl, ha, .inl rfl, .inl rfl, .inl rfl, .inl rfl, trivial⟩
 | tell d t =>
  obtain ⟨a, _, rfl, ha, _, _, rfl, rfl, v1, _, rfl, r1, rfl⟩ := h
  exact ⟨a, _, rfl, ha, .inl rfl, word_term ok r1, trivial⟩
 | iff d t n =>
  obtain ⟨a, _, rfl, ha, _, _, rfl, rfl, v1, _, rfl, r1, _, _, rfl, rfl, rfl⟩ := h
  exact ⟨a, _, rfl, ha, .inl rfl, word_term ok.1 r1, .inr (.inl ⟨n, rfl, ok.2.1, ok.2.2, rfl⟩), trivial⟩
 | set b x d t =>
  obtain ⟨a, _, rfl, ha, _, _, rfl, rfl, _, _, rfl, rfl, v1, _, rfl, r1, rfl⟩ := h
  exact ⟨a, _, rfl, ha, .inl rfl, .inl rfl, word_term ok.2 r1, trivial⟩
def spWord : Sp := fun vs H Q _ => ∃ v w, vs = [v] /\ WordAt H v w /\ ∀ H', Same H H' -> Q (.str w) H'
def spRowT : Sp := fun vs H Q _ => ∃ (v : V) (r : Rw), vs = [v] /\ RelD H v r.d /\ r.Ok /\ ∀ H', Same H H' -> Q (.str (Ln.line (.row r))) H'
def spKText : Sp := fun vs H Q _ => ∃ (v : V) (k : Kn), vs = [v] /\ RelD H v k.d /\ KnOk k /\ ∀ H', Same H H' -> Q (.str (Ln.line (.kind k))) H'
def spCText : Sp := fun vs H Q _ => ∃ (v : V) (c : Ch), vs = [v] /\ RelD H v (dCh c) /\ ChOk c /\ ∀ H', Same H H' -> Q (.str (Ln.line (.chan c))) H'
def spHTexts : Sp := fun vs H Q _ => ∃ (v : V) (h : Hn), vs = [v] /\ RelD H v h.d /\ HnOk h /\ ∀ l H', Same H H' -> H l = none -> H' l = some (.lst ((h.lns.map Ln.line).map V.str)) -> Q (.ref l) H'
def spShown : Sp := fun vs H Q _ => ∃ (v : V) (m : Mk), vs = [v] /\ RelD H v m.d /\ MkOk m /\ ∀ H', Same H H' -> Q (.str m.text) H'
theorem one32 : (S " ").length = 1 := by walk_at "k"
theorem one10 : (S "\n").length = 1 := by walk_at "k"
theorem ln_fits {l : Ln} (h : l.Ok) : (l.ws.map (·.length)).sum + l.ws.length * (S " ").length <= 16777216 := by
 have := Ln.sum h
 rw [one32]
 omega
section
variable {P : Program} {w : World} {K : PySem.W.Frag} {mg : Str -> Option Value} {base : Heap} {n m : Nat}
theorem ok_word_text (T : Tx K mg) (D_term_text : DefIs P w K mg base n "term_text" ["term"] (spText (T2 7))) : DefIs P w K mg base (n + 1) "word_text" ["word"] spWord := by
 refine DefIs.of T.d_word_text sc_word_text (fun vs H Q E h => ?_) (fun f cdv A outer s H vs Q E hr h => ?_)
 ·obtain ⟨_, _, rfl, _⟩ := h
  rfl
 obtain ⟨v, w', rfl, hw, q⟩ := h
 refine ⟨_, (zpn (ps_if (pt_val (pe_callB call_isinst rfl T.z_isinstance PyProof.Rows.boot_isinstance (zpc (pv 0) (zpc (pe_gty T.z_tuple PyProof.Rows.boot_tuple) pa_nil zsn) zsn))) (zpo (ps_ret (pd D_term_text hr (zpc (pv 0) pa_nil zsn)))) pss_nil)
   (zpo (ps_ret (pe_callTy (call_str_int.or call_str_str) rfl T.z_str PyProof.Rows.boot_str (zpc (pv 0) pa_nil zsn))))), ?_⟩
 rcases hw with rfl | ⟨i, rfl, i0, i1, rfl⟩ | ⟨d, t, a, us, rfl, ha, rd, ht, rfl⟩
 ·refine ⟨_, rfl, _, _, _, _, _, rfl, fun u hu' => hu', TyOf.str _, rfl, _, rfl, iteF ?_⟩
  exact ⟨_, rfl, .inr ⟨_, rfl, q _ (Same.refl _)⟩⟩
 ·refine ⟨_, rfl, _, _, _, _, _, rfl, fun u hu' => hu', TyOf.int _, rfl, _, rfl, iteF ?_⟩
  exact ⟨_, rfl, .inl ⟨i, rfl, log_small (by omega), q _ (Same.refl _)⟩⟩
 ·refine ⟨_, rfl, _, _, _, _, _, rfl, fun u hu' => hu', TyOf.tup ha, rfl, _, rfl, iteT ?_⟩
  exact ⟨_, rfl, _, d, t, rfl, rd, ht.1, q⟩
theorem ok_row_text (T : Tx K mg) (D_word_text : DefIs P w K mg base n "word_text" ["word"] spWord) : DefIs P w K mg base (n + 1) "row_text" ["row"] spRowT := by
 refine DefIs.of T.d_row_text sc_row_text (fun vs H Q E h => ?_) (fun f cdv A outer s H vs Q E hr h => ?_)
 ·obtain ⟨_, _, rfl, _⟩ := h
  rfl
 obtain ⟨v, r, rfl, hv, ok, q⟩ := h
 obtain ⟨a, us, rfl, ha, hw⟩ := row_words hv ok
 have hl := hw.len
 have hs := Ln.sum (l := .row r) ok
 refine ⟨_, (zpo (ps_ret (pe_bm PySem.F.plainAttrs_str PySem.F.slot_str_join PySem.F.type_str_join mt_join pe_str (zpc (pe_comp ["word"] [none] rfl (by kernel_rfl) (pi_tup (pv 0)) (fun _ _ _ _ => (pg_name (i := 0) (by show List.Nodup (["word"] : List Str); decide +kernel) rfl (Or.inl rfl))) (fun _ _ _ _ => pts_nil) (fun _ _ _ _ => (pd D_word_text hr (zpc (pv 0) pa_nil zsn)))) pa_nil star_comp)))), ?_⟩
 refine ⟨rfl, _, rfl, a, rfl, ⟨_, SqT.of ha⟩, ?_⟩
 refine comp_tup (j := 0) (xs := us) (fun i zs H' => Same H H' /\ zs = (r.ws.take i).map V.str) (by rfl) ⟨Same.refl _, rfl⟩ (fitsLt (by have : (Ln.row r).ws = r.ws := rfl; rw [this] at hs; omega)) (fun i zs H' _ p => SqT.of (p.1 _ _ ha)) ?_ ?_
 ·rintro i x zs H' hx hly ⟨sm, rfl⟩
  obtain ⟨w', hwi, hwa⟩ := hw.get hx
  have hi : i < us.length := (List.getElem?_eq_some_iff.mp hx).1
  refine ⟨_, rfl, x, w', rfl, hwa.same sm, fun H2 s2 => nxt hi hly ⟨sm.trans s2, ?_⟩⟩
  rw [List.take_add_one, hwi]
  simp
 ·rintro zs H' hly ⟨sm, rfl⟩ D hD
  rw [List.take_of_length_le (by omega)]
  exact ⟨S " ", D, r.ws, rfl, rfl, SqL.of ups, ln_fits (l := .row r) ok, q _ (sm.trans (Same.new hD _))⟩
theorem ok_kind_text (T : Tx K mg) : DefIs P w K mg base (n + 1) "kind_text" ["kind"] spKText := by
 refine DefIs.of T.d_kind_text sc_kind_text (fun vs H Q E h => ?_) (fun f cdv A outer s H vs Q E hr h => ?_)
 ·obtain ⟨_, _, rfl, _⟩ := h
  rfl
 obtain ⟨v, k, rfl, hv, ok, q⟩ := h
 have nd := sc_kind_text.nd
 obtain ⟨a, _, rfl, ha, _, _, rfl, rfl, _, _, rfl, rfl, _, _, rfl, ⟨pa, us, rfl, hpa, hus⟩, rfl⟩ := hv
 have hul := hus.length
 rw [List.length_map] at hul
 have h4 := ok.2.1
 refine ⟨_, (zpn (ps_set (i := 1) nd rfl (by walk_at "o") (pe_lst (zpc (pe_ix ix_tup (pv 0) pe_int (fun _ _ => rfl)) (zpc (pe_ix ix_tup (pv 0) pe_int (fun _ _ => rfl)) pa_nil ss) ss)))
   (zpn (ps_for PassesOwn.never rfl (pi_tup (pe_ix ix_tup (pv 0) pe_int (fun _ _ => rfl))) (pg_name (i := 2) nd rfl (by walk_at "o"))
   (zpo (ps_expr (pe_bm PySem.F.plainAttrs_list PySem.F.slot_list_extend PySem.F.type_list_extend mt_extendT (pv 1) (zpc (pv 2) pa_nil zsn)))))
   (zpo (ps_ret (pe_bm PySem.F.plainAttrs_str PySem.F.slot_str_join PySem.F.type_str_join mt_join pe_str (zpc (pv 1) pa_nil zsn)))))), ?_⟩
 refine ⟨_, rfl, a, _, _, _, rfl, rfl, SqT.of ha, rfl, _, rfl, a, _, _, _, rfl, rfl, SqT.of ha, rfl, (by show 2 <= sizeLine; decide), fun l hl => ?_⟩
 have y1 := Same.new hl (.lst [.str k.sort, .str k.name])
 refine ⟨_, rfl, a, _, _, _, rfl, rfl, SqT.of (y1 _ _ ha), rfl, pa, rfl, ⟨_, SqT.of (y1 _ _ hpa)⟩, ?_⟩
 refine for_tup (xs := us) (fun i σ H' => ∃ o2, σ = [some (.ref a), some (.ref l), o2] /\ SameBut l (upd H l (.lst [.str k.sort, .str k.name])) H' /\ H' l = some (.lst ((k.sort :: k.name :: partWs (k.parts.take i)).map V.str))) ⟨none, rfl, fun b o hb _ => hb, ups⟩ (fun i σ H' _ p => ?_) ?_ ?_
 ·obtain ⟨_, _, sb, _⟩ := p
  exact SqT.of (sb _ _ (y1 _ _ hpa) (fun z => by rw [z, hl] at hpa; cases hpa))
 ·rintro i v σ H' hv ⟨o2, rfl, sb, hll⟩
  have tp : ∀ b vs, H b = some (.tup vs) -> H' b = some (.tup vs) := fun b vs e => sb _ _ (y1 _ _ e) (fun z => by rw [z, hl] at e; cases e)
  obtain ⟨d, hd, rd⟩ := (hus.tups tp _).get hv
  rw [List.getElem?_map] at hd
  obtain ⟨pr, hpr, rfl⟩ := Option.map_eq_some_iff.mp hd
  obtain ⟨b, _, rfl, hb, _, _, rfl, rfl, _, _, rfl, rfl, rfl⟩ := rd
  have hlen : ((k.sort :: k.name :: partWs (k.parts.take i)).map V.str).length <= 100 := by
   rw [List.length_map, List.length_cons, List.length_cons]
   have e : (partWs (k.parts.take i)).length = 2 * (k.parts.take i).length := by
    generalize k.parts.take i = ps
    induction ps with
    | nil => rfl
    | cons p ps ih =>
     show (p.1 :: p.2 :: partWs ps).length = _
     simp only [List.length_cons]
     omega
   rw [e, List.length_take]
   omega
  refine ⟨_, rfl, .inl ⟨rfl, _, SqL.of hll⟩, _, rfl, l, b, _, _, rfl, rfl, hll, SqT.of hb, fits (by show _ + 2 <= 4000000; omega), ?_⟩
  refine ⟨_, rfl, fun c o hc nc => by rw [upd_ne nc]; exact sb _ _ hc nc, ?_⟩
  rw [ups, List.take_add_one, hpr]
  have e : partWs (k.parts.take i ++ [pr]) = partWs (k.parts.take i) ++ [pr.1, pr.2] := by
   unfold partWs
   rw [List.flatMap_append]
   rfl
  show some (HO.lst (_ ++ [V.str pr.1, V.str pr.2])) = some (HO.lst ((k.sort :: k.name :: partWs (k.parts.take i ++ [pr])).map V.str))
  rw [e]
  simp
 ·rintro σ H' ⟨o2, rfl, sb, hll⟩
  rw [List.take_of_length_le (by omega)] at hll
  refine ⟨rfl, _, rfl, S " ", l, _, rfl, rfl, SqL.of hll, ln_fits (l := .kind k) ok, q _ fun b o e => ?_⟩
  exact sb _ _ (y1 _ _ e) (fun z => by rw [z, hl] at e; cases e)
theorem ok_channel_text (T : Tx K mg) : DefIs P w K mg base (n + 1) "channel_text" ["channel"] spCText := by
 refine DefIs.of T.d_channel_text sc_channel_text (fun vs H Q E h => ?_) (fun f cdv A outer s H vs Q E hr h => ?_)
 ·obtain ⟨_, _, rfl, _⟩ := h
  rfl
 obtain ⟨v, c, rfl, hv, ok, q⟩ := h
 obtain ⟨a, _, rfl, ha, _, _, rfl, rfl, _, _, rfl, rfl, _, _, rfl, rfl, _, _, rfl, rfl, rfl⟩ := hv
 refine ⟨_, (zpo (ps_ret (pe_bm PySem.F.plainAttrs_str PySem.F.slot_str_join PySem.F.type_str_join mt_join pe_str (zpc (pe_op op_cat (pe_lst (zpc pe_str pa_nil so)) (pe_callTy call_list_of rfl T.z_list PyProof.Rows.boot_list (zpc (pv 0) pa_nil zsn))) pa_nil star_bin)))), ?_⟩
 refine ⟨rfl, (by show 1 <= sizeLine; decide), fun l hl => ?_⟩
 have y1 := Same.new hl (.lst [.str (S "channel")])
 refine ⟨_, rfl, a, _, rfl, .inr (SqT.of (y1 _ _ ha)), fun l2 hl2 => ?_⟩
 have y2 := Same.new hl2 (.lst [.str c.1, .str c.2.1, .str c.2.2.1, .str c.2.2.2])
 refine ⟨l, l2, _, _, rfl, rfl, y2 _ _ ups, ups, (by show 5 <= sizeLine; decide), fun l3 hl3 => ?_⟩
 exact ⟨S " ", l3, Ln.ws (.chan c), rfl, rfl, SqL.of ups, ln_fits (l := .chan c) ok, q _ (y1.trans (y2.trans (Same.new hl3 _)))⟩
end
end K4
end
section
namespace K4
open PySem L2 M
seal L2.PE L2.PA L2.PS L2.PSs L2.PT L2.PW L2.PI L2.PG L2.PJ L2.PTs
def linesV (ls : List Ln) : List V := (ls.map Ln.line).map V.str
theorem linesV_len (ls : List Ln) : (linesV ls).length = ls.length := by unfold linesV; rw [List.length_map, List.length_map]
theorem linesV_app (a b : List Ln) : linesV (a ++ b) = linesV a ++ linesV b := by unfold linesV; rw [List.map_append, List.map_append]
theorem linesV_map {α : Type} (f : α -> Ln) (xs : List α) {i : Nat} {x : α} (h : xs[i]? = some x) : linesV ((xs.take (i + 1)).map f) = linesV ((xs.take i).map f) ++ [.str (f x).line] := by
 rw [List.take_add_one, h]
 unfold linesV
 simp
theorem text_fits {m : Mk} (o : MkOk m) : ((m.lns.map Ln.line).map (·.length)).sum + (m.lns.map Ln.line).length * (S "\n").length <= 16777216 := by
 have h1 := lines_sum o.lns
 have h2 := o.few
 rw [one10, List.length_map]
 omega
section
variable {P : Program} {w : World} {K : PySem.W.Frag} {mg : Str -> Option Value} {base : Heap} {n m : Nat}
theorem ok_hand_texts (T : Tx K mg) (D_row_text : DefIs P w K mg base n "row_text" ["row"] spRowT) : DefIs P w K mg base (n + 1) "hand_texts" ["hand"] spHTexts := by
 refine DefIs.of T.d_hand_texts sc_hand_texts (fun vs H Q E h => ?_) (fun f cdv A outer s H vs Q E hr h => ?_)
 ·obtain ⟨_, _, rfl, _⟩ := h
  rfl
 obtain ⟨v, h, rfl, hv, ok, q⟩ := h
 have nd := sc_hand_texts.nd
 obtain ⟨hn, h5, h24, hbx, hrw⟩ := ok
 obtain ⟨a, _, rfl, ha, _, _, rfl, rfl, _, _, rfl, ⟨ba, bus, rfl, hba, hbus⟩, _, _, rfl, ⟨ra, rus, rfl, hra, hrus⟩, rfl⟩ := hv
 have hbl := hbus.length
 have hrl := hrus.length
 rw [List.length_map] at hbl hrl
 refine ⟨_, (zpn (ps_setComp (i := 1) ["name", "kind"] [none, none] rfl (by kernel_rfl) nd rfl (by walk_at "o") (pi_tup (pe_ix ix_tup (pv 0) pe_int (fun _ _ => rfl))) (fun _ _ _ _ => (pg_tupC (K := K) (n := 2) rfl rfl (pgs_cons (pg_name (i := 0) (by show List.Nodup (["name", "kind"] : List Str); decide +kernel) rfl (Or.inl rfl)) (pgs_cons (pg_name (i := 1) (by show List.Nodup (["name", "kind"] : List Str); decide +kernel) rfl (Or.inl rfl)) pgs_nil)))) (fun _ _ _ _ => pts_nil) (fun _ _ _ _ => (pe_bmK (K := K) rfl PySem.F.plainAttrs_str PySem.F.slot_str_join PySem.F.type_str_join (mt_joinC (K := K) rfl) pe_str (zpc (pe_lst (zpc pe_str (zpc (pv 0) (zpc (pv 1) pa_nil zsn) zsn) so)) pa_nil star_lst))))
   (zpo (ps_ret (pe_op op_cat (pe_op op_cat (pe_lst (zpc (pe_bm PySem.F.plainAttrs_str PySem.F.slot_str_join PySem.F.type_str_join mt_join pe_str (zpc (pe_lst (zpc pe_str (zpc (pe_ix ix_tup (pv 0) pe_int (fun _ _ => rfl)) pa_nil ss) so)) pa_nil star_lst)) pa_nil zsc)) (pv 1)) (pe_comp ["row"] [none] rfl (by kernel_rfl) (pi_tup (pe_ix ix_tup (pv 0) pe_int (fun _ _ => rfl))) (fun _ _ _ _ => (pg_name (i := 0) (by show List.Nodup (["row"] : List Str); decide +kernel) rfl (Or.inl rfl))) (fun _ _ _ _ => pts_nil) (fun _ _ _ _ => (pd D_row_text hr (zpc (pv 0) pa_nil zsn)))))))), ?_⟩
 refine ⟨_, rfl, a, _, _, _, rfl, rfl, SqT.of ha, rfl, ba, rfl, ⟨_, SqT.of hba⟩, ?_⟩
 refine comp_tupG (xs := bus) (fun i zs H' => Same H H' /\ zs = linesV ((h.boxes.take i).map .box)) ⟨Same.refl _, rfl⟩ (fitsLt (by omega)) (fun i zs H' _ p => SqT.of (p.1 _ _ hba)) ?_ ?_
 ·rintro i x zs H' hx hi hly ⟨sm, rfl⟩
  obtain ⟨d, hd, rd⟩ := (hbus.same sm _).get hx
  rw [List.getElem?_map] at hd
  obtain ⟨pr, hpr, rfl⟩ := Option.map_eq_some_iff.mp hd
  obtain ⟨b, _, rfl, hb, _, _, rfl, rfl, _, _, rfl, rfl, rfl⟩ := rd
  refine ⟨b, _, rfl, SqT.of hb, rfl, _, _, rfl, _, _, rfl, rfl, ext2 rfl rfl, yes_go ?_⟩
  refine ⟨rfl, _, rfl, _, rfl, (by show 3 <= sizeLine; decide), fun l hl => ⟨S " ", l, Ln.ws (.box pr), rfl, rfl, SqL.of ups, ln_fits (l := .box pr) (hbx pr (List.mem_of_getElem? hpr)), nxtG hi hly ⟨sm.trans (Same.new hl _), ?_⟩⟩⟩
  rw [linesV_map .box h.boxes hpr]
  rfl
 rintro zs H1 hly ⟨s1, rfl⟩ D hD
 rw [List.take_of_length_le (by omega)]
 have y1 := s1.trans (Same.new hD (.lst (linesV (h.boxes.map .box))))
 have hDv : upd H1 D (.lst (linesV (h.boxes.map .box))) D = some (.lst (linesV (h.boxes.map .box))) := ups
 generalize upd H1 D (.lst (linesV (h.boxes.map .box))) = H2 at y1 hDv ⊢
 refine ⟨rfl, _, rfl, a, _, _, _, rfl, rfl, SqT.of (y1 _ _ ha), rfl, (by show 2 <= sizeLine; decide), fun l hl => ?_⟩
 have z1 := Same.new hl (.lst [.str (S "hand"), .str h.name])
 refine ⟨S " ", l, Ln.ws (.hand h.name), rfl, rfl, SqL.of ups, ln_fits (l := .hand h.name) hn, (by show 1 <= sizeLine; decide), fun l2 hl2 => ?_⟩
 have z2 := Same.new hl2 (.lst [.str (Ln.line (.hand h.name))])
 refine ⟨_, rfl, l2, D, _, _, rfl, rfl, ups, (z1.trans z2) _ _ hDv, fits (by rw [linesV_len, List.length_map]; show 1 + _ <= _; omega), fun l3 hl3 => ?_⟩
 have z3 := Same.new hl3 (.lst ([.str (Ln.line (.hand h.name))] ++ linesV (h.boxes.map .box)))
 have y3 := y1.trans (z1.trans (z2.trans z3))
 have hl3v : upd (upd (upd H2 l (.lst [.str (S "hand"), .str h.name])) l2 (.lst [.str (Ln.line (.hand h.name))])) l3 (.lst ([.str (Ln.line (.hand h.name))] ++ linesV (h.boxes.map .box))) l3 = some (.lst ([.str (Ln.line (.hand h.name))] ++ linesV (h.boxes.map .box))) := ups
 obtain ⟨H3, eH3⟩ : ∃ H3, H3 = upd (upd (upd H2 l (.lst [.str (S "hand"), .str h.name])) l2 (.lst [.str (Ln.line (.hand h.name))])) l3 (.lst ([.str (Ln.line (.hand h.name))] ++ linesV (h.boxes.map .box))) := ⟨_, rfl⟩
 have y3' : Same H H3 := by rw [eH3]; exact y3
 have hl3w : H3 l3 = some (.lst ([.str (Ln.line (.hand h.name))] ++ linesV (h.boxes.map .box))) := by rw [eH3]; exact hl3v
 refine ⟨_, rfl, a, _, _, _, rfl, rfl, SqT.of (y3 _ _ ha), rfl, ra, rfl, ⟨_, SqT.of (y3 _ _ hra)⟩, ?_⟩
 change CompGo _ _ _ _ _ _ (upd (upd (upd H2 l (.lst [.str (S "hand"), .str h.name])) l2 (.lst [.str (Ln.line (.hand h.name))])) l3 (.lst ([.str (Ln.line (.hand h.name))] ++ linesV (h.boxes.map .box)))) _
 rw [<- eH3]
 refine comp_tup (j := 0) (xs := rus) (fun i zs H' => Same H3 H' /\ zs = linesV ((h.rows.take i).map .row)) (by rfl) ⟨Same.refl _, rfl⟩ (fitsLt (by omega)) (fun i zs H' _ p => SqT.of ((y3'.trans p.1) _ _ hra)) ?_ ?_
 ·rintro i x zs H' hx hly ⟨sm, rfl⟩
  obtain ⟨d, hd, rd⟩ := (hrus.same (y3'.trans sm) _).get hx
  rw [List.getElem?_map] at hd
  obtain ⟨rw', hrw', rfl⟩ := Option.map_eq_some_iff.mp hd
  have hi : i < rus.length := (List.getElem?_eq_some_iff.mp hx).1
  refine ⟨_, rfl, x, rw', rfl, rd, hrw rw' (List.mem_of_getElem? hrw'), fun H4 s4 => nxt hi hly ⟨sm.trans s4, ?_⟩⟩
  rw [linesV_map .row h.rows hrw']
 rintro zs H4 hly ⟨s4, rfl⟩ D2 hD2
 rw [List.take_of_length_le (by omega)]
 have z5 := Same.new hD2 (.lst (linesV (h.rows.map .row)))
 refine ⟨l3, D2, _, _, rfl, rfl, (s4.trans z5) _ _ hl3w, ups, fits ?_, fun l6 hl6 => ?_⟩
 ·rw [List.length_append, linesV_len, linesV_len, List.length_map, List.length_map]
  show 1 + _ + _ <= _
  omega
 have y6 := y3'.trans (s4.trans z5)
 refine q l6 _ (y6.trans (Same.new hl6 _)) (none_of_same y6 hl6) ?_
 rw [ups]
 show some (HO.lst _) = some (HO.lst (linesV (.hand h.name :: (h.boxes.map .box ++ h.rows.map .row))))
 rw [show (Ln.hand h.name :: (h.boxes.map .box ++ h.rows.map .row)) = [Ln.hand h.name] ++ (h.boxes.map .box ++ h.rows.map .row) from rfl, linesV_app, linesV_app, List.append_assoc]
 rfl
theorem ok_shown (T : Tx K mg) (D_kind_text : DefIs P w K mg base n "kind_text" ["kind"] spKText) (D_channel_text : DefIs P w K mg base n "channel_text" ["channel"] spCText) (D_hand_texts : DefIs P w K mg base n "hand_texts" ["hand"] spHTexts) : DefIs P w K mg base (n + 1) "shown" ["make"] spShown := by
 refine DefIs.of T.d_shown sc_shown (fun vs H Q E h => ?_) (fun f cdv A outer s H vs Q E hr h => ?_)
 ·obtain ⟨_, _, rfl, _⟩ := h
  rfl
 obtain ⟨v, mk, rfl, hv, ok, q⟩ := h
 have nd := sc_shown.nd
 obtain ⟨a, _, rfl, ha, _, _, rfl, ⟨ka, kus, rfl, hka, hkus⟩, _, _, rfl, ⟨ca, cus, rfl, hca, hcus⟩, _, _, rfl, ⟨za, hus, rfl, hza, hhus⟩, rfl⟩ := hv
 have k6 := ok.k6
 have c6 := ok.c6
 have h4 := ok.h4
 have hkl := hkus.length
 have hcl := hcus.length
 have hhl := hhus.length
 rw [List.length_map] at hkl hcl hhl
 refine ⟨_, (zpn (ps_set (i := 1) nd rfl (by walk_at "o") (pe_op op_cat (pe_comp ["kind"] [none] rfl (by kernel_rfl) (pi_tup (pe_ix ix_tup (pv 0) pe_int (fun _ _ => rfl))) (fun _ _ _ _ => (pg_name (i := 0) (by show List.Nodup (["kind"] : List Str); decide +kernel) rfl (Or.inl rfl))) (fun _ _ _ _ => pts_nil) (fun _ _ _ _ => (pd D_kind_text hr (zpc (pv 0) pa_nil zsn)))) (pe_comp ["channel"] [none] rfl (by kernel_rfl) (pi_tup (pe_ix ix_tup (pv 0) pe_int (fun _ _ => rfl))) (fun _ _ _ _ => (pg_name (i := 0) (by show List.Nodup (["channel"] : List Str); decide +kernel) rfl (Or.inl rfl))) (fun _ _ _ _ => pts_nil) (fun _ _ _ _ => (pd D_channel_text hr (zpc (pv 0) pa_nil zsn))))))
   (zpn (ps_for PassesOwn.never rfl (pi_tup (pe_ix ix_tup (pv 0) pe_int (fun _ _ => rfl))) (pg_name (i := 2) nd rfl (by walk_at "o"))
   (zpo (ps_expr (pe_bm PySem.F.plainAttrs_list PySem.F.slot_list_extend PySem.F.type_list_extend mt_extend (pv 1) (zpc (pd D_hand_texts hr (zpc (pv 2) pa_nil zsn)) pa_nil zsc)))))
   (zpo (ps_ret (pe_bm PySem.F.plainAttrs_str PySem.F.slot_str_join PySem.F.type_str_join mt_join pe_str (zpc (pv 1) pa_nil zsn)))))), ?_⟩
 refine ⟨_, rfl, a, _, _, _, rfl, rfl, SqT.of ha, rfl, ka, rfl, ⟨_, SqT.of hka⟩, ?_⟩
 refine comp_tup (j := 0) (xs := kus) (fun i zs H' => Same H H' /\ zs = linesV ((mk.kinds.take i).map .kind)) (by rfl) ⟨Same.refl _, rfl⟩ (fitsLt (by omega)) (fun i zs H' _ p => SqT.of (p.1 _ _ hka)) ?_ ?_
 ·rintro i x zs H' hx hly ⟨sm, rfl⟩
  obtain ⟨d, hd, rd⟩ := (hkus.same sm _).get hx
  rw [List.getElem?_map] at hd
  obtain ⟨k', hk', rfl⟩ := Option.map_eq_some_iff.mp hd
  have hi : i < kus.length := (List.getElem?_eq_some_iff.mp hx).1
  refine ⟨_, rfl, x, k', rfl, rd, ok.ks k' (List.mem_of_getElem? hk'), fun H4 s4 => nxt hi hly ⟨sm.trans s4, ?_⟩⟩
  rw [linesV_map .kind mk.kinds hk']
 rintro zs H1 hly ⟨s1, rfl⟩ D1 hD1
 rw [List.take_of_length_le (by omega)]
 have y1 := s1.trans (Same.new hD1 (.lst (linesV (mk.kinds.map .kind))))
 have hD1v : upd H1 D1 (.lst (linesV (mk.kinds.map .kind))) D1 = some (.lst (linesV (mk.kinds.map .kind))) := ups
 generalize upd H1 D1 (.lst (linesV (mk.kinds.map .kind))) = H2 at y1 hD1v ⊢
 refine ⟨_, rfl, a, _, _, _, rfl, rfl, SqT.of (y1 _ _ ha), rfl, ca, rfl, ⟨_, SqT.of (y1 _ _ hca)⟩, ?_⟩
 refine comp_tup (j := 0) (xs := cus) (fun i zs H' => Same H2 H' /\ zs = linesV ((mk.chans.take i).map .chan)) (by rfl) ⟨Same.refl _, rfl⟩ (fitsLt (by omega)) (fun i zs H' _ p => SqT.of ((y1.trans p.1) _ _ hca)) ?_ ?_
 ·rintro i x zs H' hx hly ⟨sm, rfl⟩
  obtain ⟨d, hd, rd⟩ := (hcus.same (y1.trans sm) _).get hx
  rw [List.getElem?_map] at hd
  obtain ⟨c', hc', rfl⟩ := Option.map_eq_some_iff.mp hd
  have hi : i < cus.length := (List.getElem?_eq_some_iff.mp hx).1
  refine ⟨_, rfl, x, c', rfl, rd, ok.cs c' (List.mem_of_getElem? hc'), fun H4 s4 => nxt hi hly ⟨sm.trans s4, ?_⟩⟩
  rw [linesV_map .chan mk.chans hc']
 rintro zs H3 hly ⟨s3, rfl⟩ D2 hD2
 rw [List.take_of_length_le (by omega)]
 have z4 := Same.new hD2 (.lst (linesV (mk.chans.map .chan)))
 refine ⟨D1, D2, _, _, rfl, rfl, (s3.trans z4) _ _ hD1v, ups, fits ?_, fun l hl => ?_⟩
 ·rw [linesV_len, linesV_len, List.length_map, List.length_map]
  omega
 have y5 := y1.trans (s3.trans z4)
 have l0 : H l = none := none_of_same y5 hl
 rw [<- linesV_app]
 have z5 := Same.new hl (.lst (linesV (mk.kinds.map .kind ++ mk.chans.map .chan)))
 have y6 := y5.trans z5
 have hl6 : upd (upd H3 D2 (.lst (linesV (mk.chans.map .chan)))) l (.lst (linesV (mk.kinds.map .kind ++ mk.chans.map .chan))) l = some (.lst (linesV (mk.kinds.map .kind ++ mk.chans.map .chan))) := ups
 generalize upd (upd H3 D2 (.lst (linesV (mk.chans.map .chan)))) l (.lst (linesV (mk.kinds.map .kind ++ mk.chans.map .chan))) = H6 at y6 hl6 ⊢
 refine ⟨_, rfl, a, _, _, _, rfl, rfl, SqT.of (y6 _ _ ha), rfl, za, rfl, ⟨_, SqT.of (y6 _ _ hza)⟩, ?_⟩
 have few := ok.few
 refine for_tup (xs := hus) (fun i σ H' => ∃ o2, σ = [some (.ref a), some (.ref l), o2] /\ Same H H' /\ H' l = some (.lst (linesV (mk.kinds.map .kind ++ mk.chans.map .chan ++ (mk.hands.take i).flatMap Hn.lns)))) ⟨none, rfl, y6, by rw [List.take_zero, List.flatMap_nil, List.append_nil]; exact hl6⟩ (fun i σ H' _ p => ?_) ?_ ?_
 ·obtain ⟨_, _, sm, _⟩ := p
  exact SqT.of (sm _ _ hza)
 ·rintro i v σ H' hv ⟨o2, rfl, sm, hll⟩
  obtain ⟨d, hd, rd⟩ := (hhus.same sm _).get hv
  rw [List.getElem?_map] at hd
  obtain ⟨hn, hhn, rfl⟩ := Option.map_eq_some_iff.mp hd
  have hno := ok.hs hn (List.mem_of_getElem? hhn)
  refine ⟨_, rfl, .inl ⟨rfl, _, SqL.of hll⟩, _, rfl, v, hn, rfl, rd, hno, fun lt H7 s7 nlt hlt => ?_⟩
  have hlt' : H7 lt = some (.lst (linesV hn.lns)) := hlt
  have b1 : (mk.kinds.map Ln.kind ++ mk.chans.map Ln.chan ++ (mk.hands.take i).flatMap Hn.lns).length <= 132 := by
   have hh := hands_len (hs := mk.hands.take i) fun g hg => ok.hs g (List.mem_of_mem_take hg)
   rw [List.length_append, List.length_append, List.length_map, List.length_map]
   rw [List.length_take] at hh
   omega
  have b2 : hn.lns.length <= 30 := by
   obtain ⟨_, e5, e24, _, _⟩ := hno
   simp only [Hn.lns, List.length_cons, List.length_append, List.length_map]
   omega
  refine ⟨l, lt, _, _, rfl, rfl, s7 _ _ hll, hlt', fits (by rw [linesV_len, linesV_len]; omega), ?_⟩
  refine ⟨_, rfl, fun b o e => ?_, ?_⟩
  ·rw [upd_ne (neN e l0)]
   exact s7 _ _ (sm _ _ e)
  ·rw [ups, List.take_add_one, hhn]
   show some (HO.lst _) = some (HO.lst (linesV (_ ++ (mk.hands.take i ++ [hn]).flatMap Hn.lns)))
   rw [List.flatMap_append, <- List.append_assoc, linesV_app _ ([hn].flatMap Hn.lns)]
   show _ = some (HO.lst (_ ++ linesV (hn.lns ++ [])))
   rw [List.append_nil]
 ·rintro σ H' ⟨o2, rfl, sm, hll⟩
  rw [List.take_of_length_le (by omega), List.append_assoc] at hll
  exact ⟨rfl, _, rfl, S "\n", l, mk.lns.map Ln.line, rfl, rfl, SqL.of hll, text_fits ok, q _ sm⟩
end
end K4
end
section
local macro_rules | `(tactic| walk_at "no") => `(tactic| refine ⟨_, rfl, rfl, _, rfl, M.iteKF (by walk_at "k") ?_⟩)
local macro_rules | `(tactic| walk_at "yes") => `(tactic| refine ⟨_, rfl, rfl, _, rfl, M.iteKT (by walk_at "k") ?_⟩)
namespace K4
open PySem L2 M
seal L2.PE L2.PA L2.PS L2.PSs L2.PT L2.PW L2.PI L2.PG L2.PJ L2.PTs
section
variable {P : Program} {w : World} {K : PySem.W.Frag} {mg : Str -> Option Value} {base : Heap} {n m : Nat}
theorem text_sizes {ts : List Tr} (hz : (Tr.l ts).cs.length <= 2400000) : ((ts.map strOf).map (·.length)).sum + (ts.map strOf).length * (S " ").length <= 16777216 /\ (S "(").length + (Txt.join (S " ") (ts.map strOf)).length <= sizeLine /\ (S "(" ++ Txt.join (S " ") (ts.map strOf)).length + (S ")").length <= sizeLine := by
 have h1 := sum_trees ts
 have h2 := bs_le ts
 have h3 := cs_l ts
 have hj : (Txt.join (S " ") (ts.map strOf)).length = (bs ts).tail.length := by rw [<- L_length, join_trees]
 have l1 : (S "(").length = 1 := by walk_at "k"
 have l2 : (S ")").length = 1 := by walk_at "k"
 have l3 : (S " ").length = 1 := by walk_at "k"
 refine ⟨?_, fits ?_, fits ?_⟩
 ·rw [l3, List.length_map]
  omega
 ·omega
 ·rw [Str.length_append]
  omega
theorem text_is {ts : List Tr} {H : Hp} {Q : VK} (q : Q (vOf (.l ts)) H) : Q (.str (S "(" ++ Txt.join (S " ") (ts.map strOf) ++ S ")")) H := by
 unfold vOf at q
 rw [<- bracket_text] at q
 exact q
theorem okl_text (T : Tx K mg) (R : D -> Tr -> Prop) (hz : ∀ d t, R d t -> t.cs.length <= 2400000) (hzN : ∀ d t, Node R d t -> t.cs.length <= 2400000) (Dl_text : DefIs P w K mg base n "_law_text" ["_law_term_here"] (spText R)) : DefIs P w K mg base (n + 1) "_law_text" ["_law_term_here"] (spText fun d t => Leaf d t \/ Node R d t) := by
 refine DefIs.of T.dl_text scl_text (fun vs H Q E h => ?_) (fun f cdv A outer s H vs Q E hr h => ?_)
 ·obtain ⟨_, _, _, rfl, _⟩ := h
  rfl
 obtain ⟨v, d, t, rfl, hv, hR, k⟩ := h
 have nd := scl_text.nd
 refine ⟨_, (zpn (ps_set (i := 1) nd rfl (by walk_at "o") (pe_ix ix_tup (pv 0) pe_int (fun _ _ => rfl)))
   (zpn (ps_if (PW.pt (pw_or (pt_cmpR op_eq (pv 1) pe_str (nomark _)) (pw_or1 (pt_cmpR op_eq (pv 1) pe_str (nomark _))))) (zpo (ps_ret (pe_callTy (call_str_int.or call_str_str) rfl T.z_str PyProof.Rows.boot_str (zpc (pe_ix ix_tup (pv 0) pe_int (fun _ _ => rfl)) pa_nil ss)))) pss_nil)
   (zpn (ps_set (i := 2) nd rfl (by walk_at "o") (pe_lst (zpc (pv 1) pa_nil zsn)))
   (zpn (ps_if (pt_cmpR op_eq (pv 1) pe_str (nomark _)) (zpo (ps_set (i := 2) nd rfl (by walk_at "o") (pe_lst (zpc (pe_ix ix_tup (pv 0) pe_int (fun _ _ => rfl)) (zpc (pd Dl_text hr (zpc (pe_ix ix_tup (pv 0) pe_int (fun _ _ => rfl)) pa_nil ss)) (zpc (pd Dl_text hr (zpc (pe_ix ix_tup (pv 0) pe_int (fun _ _ => rfl)) pa_nil ss)) pa_nil zsc) zsc) ss)))) pss_nil)
   (zpn (ps_if (pt_cmpR op_eq (pv 1) pe_str (nomark _)) (zpo (ps_set (i := 2) nd rfl (by walk_at "o") (pe_op op_cat (pe_op op_cat (pv 2) (pe_lst (zpc (pe_ix ix_tup (pv 0) pe_int (fun _ _ => rfl)) pa_nil ss))) (pe_comp ["_law_one"] [none] rfl (by kernel_rfl) (pi_tup (pe_ix ix_tup (pv 0) pe_int (fun _ _ => rfl))) (fun _ _ _ _ => (pg_name (i := 0) (by show List.Nodup (["_law_one"] : List Str); decide +kernel) rfl (Or.inl rfl))) (fun _ _ _ _ => pts_nil) (fun _ _ _ _ => (pd Dl_text hr (zpc (pv 0) pa_nil zsn))))))) pss_nil)
   (zpn (ps_if (pt_cmpR op_eq (pv 1) pe_str (nomark _)) (zpo (ps_set (i := 2) nd rfl (by walk_at "o") (pe_op op_cat (pv 2) (pe_lst (zpc (pd Dl_text hr (zpc (pe_ix ix_tup (pv 0) pe_int (fun _ _ => rfl)) pa_nil ss)) (zpc (pe_ix ix_tup (pv 0) pe_int (fun _ _ => rfl)) pa_nil ss) zsc))))) pss_nil)
   (zpn (ps_if (pt_cmpR op_eq (pv 1) pe_str (nomark _)) (zpo (ps_set (i := 2) nd rfl (by walk_at "o") (pe_op op_cat (pv 2) (pe_lst (zpc (pe_ix ix_tup (pv 0) pe_int (fun _ _ => rfl)) (zpc (pe_ix ix_tup (pv 0) pe_int (fun _ _ => rfl)) (zpc (pd Dl_text hr (zpc (pe_ix ix_tup (pv 0) pe_int (fun _ _ => rfl)) pa_nil ss)) pa_nil zsc) ss) ss))))) pss_nil)
   (zpn (ps_if (pt_cmpR op_eq (pv 1) pe_str (nomark _)) (zpn (ps_set (i := 2) nd rfl (by walk_at "o") (pe_op op_cat (pv 2) (pe_lst (zpc (pd Dl_text hr (zpc (pe_ix ix_tup (pv 0) pe_int (fun _ _ => rfl)) pa_nil ss)) pa_nil zsc))))
   (zpo (ps_for PassesOwn.never rfl (pi_tup (pe_ix ix_tup (pv 0) pe_int (fun _ _ => rfl))) (pg_tup rfl (pgs_cons (pg_name (i := 3) nd rfl (by walk_at "o")) (pgs_cons (pg_name (i := 4) nd rfl (by walk_at "o")) (pgs_cons (pg_name (i := 5) nd rfl (by walk_at "o")) pgs_nil))))
   (zpo (ps_expr (pe_bm PySem.F.plainAttrs_list PySem.F.slot_list_append PySem.F.type_list_append mt_append (pv 2) (zpc (pe_fstr (pj_lit (pj_str (pv 3) (pj_lit (pj_str (pv 4) (pj_lit (pj_str (pd Dl_text hr (zpc (pv 5) pa_nil zsn)) (pj_lit pj_nil)))))))) pa_nil star_fstr))))))) pss_nil)
   (zpn (ps_if (pt_cmpR op_eq (pv 1) pe_str (nomark _)) (zpo (ps_set (i := 2) nd rfl (by walk_at "o") (pe_op op_cat (pv 2) (pe_comp ["_law_one"] [none] rfl (by kernel_rfl) (pi_tup (pe_slice sl_tup (pv 0) (po_some pe_int) po_none)) (fun _ _ _ _ => (pg_name (i := 0) (by show List.Nodup (["_law_one"] : List Str); decide +kernel) rfl (Or.inl rfl))) (fun _ _ _ _ => pts_nil) (fun _ _ _ _ => (pd Dl_text hr (zpc (pv 0) pa_nil zsn))))))) pss_nil)
   (zpo (ps_ret (pe_op op_add_str (pe_op op_add_str pe_str (pe_bm PySem.F.plainAttrs_str PySem.F.slot_str_join PySem.F.type_str_join mt_join pe_str (zpc (pv 2) pa_nil zsn))) pe_str)))))))))))), ?_⟩
 rcases hR with (⟨i, i0, i1, rfl, rfl⟩ | ⟨x, hx, rfl, rfl⟩) | hR
 ·obtain ⟨a, us, rfl, ha, _, _, rfl, rfl, _, _, rfl, rfl, rfl⟩ := hv
  have hS : SqT K H a [.str (S "num"), .int i] := SqT.of ha
  refine ⟨_, rfl, a, _, _, _, rfl, rfl, hS, rfl, ?_⟩
  refine ⟨_, rfl, rfl, _, rfl, iteKT (by walk_at "k") (iteT ?_)⟩
  refine ⟨_, rfl, a, _, _, _, rfl, rfl, hS, rfl, .inl ⟨i, rfl, log_small (by omega), ?_⟩⟩
  have := k H (Same.refl _)
  rw [vOf_tx] at this
  exact this
 ·obtain ⟨a, us, rfl, ha, _, _, rfl, rfl, _, _, rfl, rfl, rfl⟩ := hv
  have hS : SqT K H a [.str (S "box"), .str x] := SqT.of ha
  refine ⟨_, rfl, a, _, _, _, rfl, rfl, hS, rfl, ?_⟩
  refine ⟨_, rfl, rfl, _, rfl, iteKF (by walk_at "k") ?_⟩
  refine ⟨_, rfl, rfl, _, rfl, iteKT (by walk_at "k") ?_⟩
  refine ⟨_, rfl, a, _, _, _, rfl, rfl, hS, rfl, .inr ⟨x, rfl, ?_⟩⟩
  have := k H (Same.refl _)
  rw [vOf_tx] at this
  exact this
 have hzt := hzN d t hR
 rcases hR with ⟨sg, x, y, tx', ty', hs, hx, hy, rfl, rfl⟩ | ⟨kk, es, ts', hk, h5, hes, rfl, rfl⟩ | ⟨x, tx', g, hg, hx, rfl, rfl⟩ | ⟨kk, g, x, tx', hk, hg, hx, rfl, rfl⟩ | ⟨x, tx', arms, ts', hx, h1, h4, har, rfl, rfl⟩ | ⟨x, y, z, tx', ty', tz', hx, hy, hz', rfl, rfl⟩
 ·obtain ⟨a, us, rfl, ha, _, _, rfl, rfl, _, _, rfl, rfl, v1, _, rfl, r1, v2, _, rfl, r2, rfl⟩ := hv
  have jz := text_sizes hzt
  have hS : SqT K H a [.str (S "op"), .str sg, v1, v2] := SqT.of ha
  refine ⟨_, rfl, a, _, _, _, rfl, rfl, hS, rfl, ?_⟩
  refine ⟨_, rfl, rfl, _, rfl, iteKF (by walk_at "k") ?_⟩
  walk_at "no"
  refine ⟨_, rfl, (by show 1 <= sizeLine; decide), fun l hl => ?_⟩
  have sl := Same.new hl (.lst [.str (S "op")])
  walk_at "yes"
  refine ⟨_, rfl, a, _, _, _, rfl, rfl, SqT.of (sl _ _ ha), rfl, _, rfl, a, _, _, _, rfl, rfl, SqT.of (sl _ _ ha), rfl, v1, x, tx', rfl, r1.same sl _, hx, fun H1 s1 => ?_⟩
  have s1' := sl.trans s1
  refine ⟨_, rfl, a, _, _, _, rfl, rfl, SqT.of (s1' _ _ ha), rfl, v2, y, ty', rfl, r2.same s1' _, hy, fun H2 s2 => ⟨(by show 3 <= sizeLine; decide), fun l2 hl2 => ?_⟩⟩
  have s2' := s1'.trans (s2.trans (Same.new hl2 (.lst [.str sg, vOf tx', vOf ty'])))
  walk_at "no"
  walk_at "no"
  walk_at "no"
  walk_at "no"
  walk_at "no"
  exact ⟨rfl, _, rfl, S " ", l2, List.map strOf [tx sg, tx', ty'], rfl, rfl, SqL.of (by rw [ups, <- mapV]; show some (HO.lst [V.str sg, vOf tx', vOf ty']) = some (HO.lst [vOf (tx sg), vOf tx', vOf ty']); rw [vOf_tx]), jz.1, _, _, rfl, rfl, jz.2.1, _, _, rfl, rfl, jz.2.2, text_is (k _ (s2'))⟩
 ·obtain ⟨a, us, rfl, ha, _, _, rfl, rfl, _, _, rfl, rfl, v1, _, rfl, ⟨b1, us1, rfl, hb1, rr⟩, rfl⟩ := hv
  have jz := text_sizes hzt
  have lE := hes.length
  have lU := rr.length
  have hS : SqT K H a [.str (S "rec"), .str kk, .ref b1] := SqT.of ha
  refine ⟨_, rfl, a, _, _, _, rfl, rfl, hS, rfl, ?_⟩
  refine ⟨_, rfl, rfl, _, rfl, iteKF (by walk_at "k") ?_⟩
  walk_at "no"
  refine ⟨_, rfl, (by show 1 <= sizeLine; decide), fun l hl => ?_⟩
  have sl := Same.new hl (.lst [.str (S "rec")])
  walk_at "no"
  walk_at "yes"
  refine ⟨_, rfl, _, rfl, a, _, _, _, rfl, rfl, SqT.of (sl _ _ ha), rfl, (by show 1 <= sizeLine; decide), fun l2 hl2 => ⟨l, l2, _, _, rfl, rfl, Same.new hl2 _ _ _ ups, ups, (by show 2 <= sizeLine; decide), fun l3 hl3 => ?_⟩⟩
  have s3 := sl.trans ((Same.new hl2 (.lst [.str kk])).trans (Same.new hl3 (.lst [V.str (S "rec"), .str kk])))
  refine ⟨_, rfl, a, _, _, _, rfl, rfl, SqT.of (s3 _ _ ha), rfl, b1, rfl, ⟨_, SqT.of (s3 _ _ hb1)⟩, ?_⟩
  refine comp_tup (j := 0) (xs := us1) (fun i ys H' => Same (upd (upd (upd H l (.lst [.str (S "rec")])) l2 (.lst [.str kk])) l3 (.lst [V.str (S "rec"), .str kk])) H' /\ ys = (ts'.take i).map vOf) (by rfl) ⟨Same.refl _, rfl⟩ (fitsLt (by omega)) (fun i ys H' _ p => SqT.of (p.1 _ _ (s3 _ _ hb1))) ?_ ?_
  ·rintro i v ys H' hv' hl' ⟨sm, rfl⟩
   obtain ⟨d', hdi, rd⟩ := rr.get hv'
   obtain ⟨t', hti, rt⟩ := hes.get hdi
   have hi : i < us1.length := (List.getElem?_eq_some_iff.mp hv').1
   refine ⟨_, rfl, v, d', t', rfl, rd.same (s3.trans sm) _, rt, fun H2 s2 => nxt hi hl' ⟨sm.trans s2, ?_⟩⟩
   rw [List.take_add_one, hti]
   simp
  rintro ys H' hl' ⟨sm, rfl⟩ b hb
  have sb := Same.new hb (.lst ((ts'.take us1.length).map vOf))
  refine ⟨l3, b, [.str (S "rec"), .str kk], (ts'.take us1.length).map vOf, rfl, rfl, sb _ _ (sm _ _ ups), ups, ?_, fun p hp => ?_⟩
  ·rw [List.length_map, List.length_take]; exact fits (by simp; omega)
  have s4 := s3.trans (sm.trans (sb.trans (Same.new hp (.lst ([V.str (S "rec"), .str kk] ++ (ts'.take us1.length).map vOf)))))
  walk_at "no"
  walk_at "no"
  walk_at "no"
  walk_at "no"
  have eL : (upd (upd H' b (.lst ((ts'.take us1.length).map vOf))) p (.lst ([V.str (S "rec"), .str kk] ++ (ts'.take us1.length).map vOf))) p = some (.lst ((List.map strOf (tx (S "rec") :: tx kk :: ts')).map V.str)) := by
   rw [ups, <- mapV, List.take_of_length_le (by omega)]
   show some (HO.lst (V.str (S "rec") :: V.str kk :: ts'.map vOf)) = some (HO.lst (vOf (tx (S "rec")) :: vOf (tx kk) :: ts'.map vOf))
   rw [vOf_tx, vOf_tx]
  exact ⟨rfl, _, rfl, S " ", p, List.map strOf (tx (S "rec") :: tx kk :: ts'), rfl, rfl, SqL.of (eL), jz.1, _, _, rfl, rfl, jz.2.1, _, _, rfl, rfl, jz.2.2, text_is (k _ (s4))⟩
 ·obtain ⟨a, us, rfl, ha, _, _, rfl, rfl, v1, _, rfl, r1, _, _, rfl, rfl, rfl⟩ := hv
  have jz := text_sizes hzt
  have hS : SqT K H a [.str (S "get"), v1, .str g] := SqT.of ha
  refine ⟨_, rfl, a, _, _, _, rfl, rfl, hS, rfl, ?_⟩
  refine ⟨_, rfl, rfl, _, rfl, iteKF (by walk_at "k") ?_⟩
  walk_at "no"
  refine ⟨_, rfl, (by show 1 <= sizeLine; decide), fun l hl => ?_⟩
  have sl := Same.new hl (.lst [.str (S "get")])
  walk_at "no"
  walk_at "no"
  walk_at "yes"
  refine ⟨_, rfl, _, rfl, a, _, _, _, rfl, rfl, SqT.of (sl _ _ ha), rfl, v1, x, tx', rfl, r1.same sl _, hx, fun H1 s1 => ?_⟩
  have s1' := sl.trans s1
  refine ⟨_, rfl, a, _, _, _, rfl, rfl, SqT.of (s1' _ _ ha), rfl, (by show 2 <= sizeLine; decide), fun l2 hl2 => ⟨l, l2, _, _, rfl, rfl, Same.new hl2 _ _ _ (s1 _ _ ups), ups, (by show 3 <= sizeLine; decide), fun l3 hl3 => ?_⟩⟩
  have s3 := s1'.trans ((Same.new hl2 (.lst [vOf tx', .str g])).trans (Same.new hl3 (.lst ([V.str (S "get")] ++ [vOf tx', .str g]))))
  walk_at "no"
  walk_at "no"
  walk_at "no"
  exact ⟨rfl, _, rfl, S " ", l3, List.map strOf [tx (S "get"), tx', tx g], rfl, rfl, SqL.of (by rw [ups, <- mapV]; show some (HO.lst [V.str (S "get"), vOf tx', V.str g]) = some (HO.lst [vOf (tx (S "get")), vOf tx', vOf (tx g)]); rw [vOf_tx, vOf_tx]), jz.1, _, _, rfl, rfl, jz.2.1, _, _, rfl, rfl, jz.2.2, text_is (k _ (s3))⟩
 ·obtain ⟨a, us, rfl, ha, _, _, rfl, rfl, _, _, rfl, rfl, _, _, rfl, rfl, v1, _, rfl, r1, rfl⟩ := hv
  have jz := text_sizes hzt
  have hS : SqT K H a [.str (S "tag"), .str kk, .str g, v1] := SqT.of ha
  refine ⟨_, rfl, a, _, _, _, rfl, rfl, hS, rfl, ?_⟩
  refine ⟨_, rfl, rfl, _, rfl, iteKF (by walk_at "k") ?_⟩
  walk_at "no"
  refine ⟨_, rfl, (by show 1 <= sizeLine; decide), fun l hl => ?_⟩
  have sl := Same.new hl (.lst [.str (S "tag")])
  walk_at "no"
  walk_at "no"
  walk_at "no"
  walk_at "yes"
  refine ⟨_, rfl, _, rfl, a, _, _, _, rfl, rfl, SqT.of (sl _ _ ha), rfl, _, rfl, a, _, _, _, rfl, rfl, SqT.of (sl _ _ ha), rfl, _, rfl, a, _, _, _, rfl, rfl, SqT.of (sl _ _ ha), rfl, v1, x, tx', rfl, r1.same sl _, hx, fun H1 s1 => ?_⟩
  have s1' := sl.trans s1
  refine ⟨(by show 3 <= sizeLine; decide), fun l2 hl2 => ⟨l, l2, _, _, rfl, rfl, Same.new hl2 _ _ _ (s1 _ _ ups), ups, (by show 4 <= sizeLine; decide), fun l3 hl3 => ?_⟩⟩
  have s3 := s1'.trans ((Same.new hl2 (.lst [.str kk, .str g, vOf tx'])).trans (Same.new hl3 (.lst ([V.str (S "tag")] ++ [.str kk, .str g, vOf tx']))))
  walk_at "no"
  walk_at "no"
  exact ⟨rfl, _, rfl, S " ", l3, List.map strOf [tx (S "tag"), tx kk, tx g, tx'], rfl, rfl, SqL.of (by rw [ups, <- mapV]; show some (HO.lst [V.str (S "tag"), V.str kk, V.str g, vOf tx']) = some (HO.lst [vOf (tx (S "tag")), vOf (tx kk), vOf (tx g), vOf tx']); rw [vOf_tx, vOf_tx, vOf_tx]), jz.1, _, _, rfl, rfl, jz.2.1, _, _, rfl, rfl, jz.2.2, text_is (k _ (s3))⟩
 ·obtain ⟨a, us, rfl, ha, _, _, rfl, rfl, v1, _, rfl, r1, _, _, rfl, ⟨b1, us1, rfl, hb1, rr⟩, rfl⟩ := hv
  have jz := text_sizes hzt
  have lE := har.length
  have lU := rr.length
  have hS : SqT K H a [.str (S "case"), v1, .ref b1] := SqT.of ha
  refine ⟨_, rfl, a, _, _, _, rfl, rfl, hS, rfl, ?_⟩
  refine ⟨_, rfl, rfl, _, rfl, iteKF (by walk_at "k") ?_⟩
  walk_at "no"
  refine ⟨_, rfl, (by show 1 <= sizeLine; decide), fun l hl => ?_⟩
  have sl := Same.new hl (.lst [.str (S "case")])
  walk_at "no"
  walk_at "no"
  walk_at "no"
  walk_at "no"
  walk_at "yes"
  refine ⟨_, rfl, _, rfl, a, _, _, _, rfl, rfl, SqT.of (sl _ _ ha), rfl, v1, x, tx', rfl, r1.same sl _, hx, fun H1 s1 => ?_⟩
  have s1' := sl.trans s1
  refine ⟨(by show 1 <= sizeLine; decide), fun l2 hl2 => ⟨l, l2, _, _, rfl, rfl, Same.new hl2 _ _ _ (s1 _ _ ups), ups, (by show 2 <= sizeLine; decide), fun l3 hl3 => ?_⟩⟩
  have s2 := s1'.trans (Same.new hl2 (.lst [vOf tx']))
  have n3 : H l3 = none := none_of_same s2 hl3
  have s3 := s2.trans (Same.new hl3 (.lst ([V.str (S "case")] ++ [vOf tx'])))
  refine ⟨_, rfl, a, _, _, _, rfl, rfl, SqT.of (s3 _ _ ha), rfl, b1, rfl, ⟨_, SqT.of (s3 _ _ hb1)⟩, ?_⟩
  refine for_tup (xs := us1) (fun i σ H' => ∃ o1 o2 o3, σ = [some (.ref a), some (.str (S "case")), some (.ref l3), o1, o2, o3] /\ Same H H' /\ H' l3 = some (.lst ([V.str (S "case"), vOf tx'] ++ (ts'.take i).map vOf))) ?_ (fun i σ H' _ p => ?_) ?_ ?_
  ·exact ⟨none, none, none, rfl, s3, by rw [ups]; rfl⟩
  ·obtain ⟨_, _, _, _, sm, _⟩ := p
   exact SqT.of (sm _ _ hb1)
  ·rintro i v σ H' hv' ⟨o1, o2, o3, rfl, sm, hw⟩
   obtain ⟨d', hdi, rd⟩ := rr.get hv'
   obtain ⟨t', hti, g, y, e, te, hg, hy, he, rfl, rfl⟩ := har.get hdi
   obtain ⟨c1, vs1, rfl, hc1, _, _, rfl, rfl, _, _, rfl, rfl, ve, _, rfl, re, rfl⟩ := rd
   have hi : i < us1.length := (List.getElem?_eq_some_iff.mp hv').1
   have lg := hg.le
   have ly := hy.le
   have lt := hz _ _ he
   have eg : g.length = g.cps.toList.length := by simp [Str.length]
   have ey : y.length = y.cps.toList.length := by simp [Str.length]
   have et := strOf_len te
   have k1 : (Str.empty ++ S "(").length = 1 := by walk_at "k"
   have k2 : (S " ").length = 1 := by walk_at "k"
   have k3 : (S ")").length = 1 := by walk_at "k"
   refine ⟨c1, _, rfl, SqT.of (sm _ _ hc1), rfl, _, _, rfl, _, _, rfl, _, _, rfl, rfl, ?_⟩
   refine ⟨_, rfl, .inl ⟨rfl, _, SqL.of hw⟩, ?_⟩
   refine ⟨few (by show (Str.empty ++ S "(").length <= 100; omega), _, rfl, g, rfl, few (by omega), ?_, ?_, _, rfl, y, rfl, few (by omega), ?_, ?_, _, rfl, ve, e, te, rfl, re.same sm _, he, fun H2 s2 => ⟨strOf te, rfl, fits (by omega), ?_, ?_, ?_, ?_⟩⟩
   ·rw [Str.length_append]; exact few (by show (Str.empty ++ S "(").length + _ <= _; omega)
   ·rw [Str.length_append, Str.length_append]; exact few (by show (Str.empty ++ S "(").length + _ + (S " ").length <= _; omega)
   ·rw [Str.length_append, Str.length_append, Str.length_append]; exact few (by show (Str.empty ++ S "(").length + _ + (S " ").length + _ <= _; omega)
   ·rw [Str.length_append, Str.length_append, Str.length_append, Str.length_append]; exact few (by show (Str.empty ++ S "(").length + _ + (S " ").length + _ + (S " ").length <= _; omega)
   ·rw [Str.length_append, Str.length_append, Str.length_append, Str.length_append, Str.length_append]; exact fits (by show (Str.empty ++ S "(").length + _ + (S " ").length + _ + (S " ").length + _ <= _; omega)
   ·rw [Str.length_append, Str.length_append, Str.length_append, Str.length_append, Str.length_append, Str.length_append]; exact fits (by show (Str.empty ++ S "(").length + _ + (S " ").length + _ + (S " ").length + _ + (S ")").length <= _; omega)
   ·rw [Str.length_append, Str.length_append, Str.length_append, Str.length_append, Str.length_append, Str.length_append]; exact fits (by show (Str.empty ++ S "(").length + _ + (S " ").length + _ + (S " ").length + _ + (S ")").length <= _; omega)
   refine ⟨l3, _, _, rfl, rfl, s2 _ _ hw, ?_, _, _, _, rfl, ?_, ?_⟩
   ·rw [List.length_append, List.length_map, List.length_take]; exact fitsLt (by simp; omega)
   ·intro b o eb
    have hb3 : b ≠ l3 := fun z => by rw [z, n3] at eb; cases eb
    rw [upd_ne hb3]
    exact s2 _ _ (sm _ _ eb)
   ·rw [ups, List.take_add_one, hti]
    have arm_is : Str.empty ++ S "(" ++ g ++ S " " ++ y ++ S " " ++ strOf te ++ S ")" = strOf (.l [tx g, tx y, te]) := by
     apply L_inj
     simp only [L_append]
     rw [show L Str.empty = [] from rfl, open_is, shut_is, show L (S " ") = [32] by walk_at "k"]
     show _ = 40 :: (bs [tx g, tx y, te]).tail ++ [41]
     simp only [bs, List.tail_cons, cs_tx]
     show [] ++ [40] ++ L g ++ [32] ++ L y ++ [32] ++ te.cs ++ [41] = 40 :: (L g ++ 32 :: (L y ++ 32 :: (te.cs ++ []))) ++ [41]
     simp
    have : V.str (Str.empty ++ S "(" ++ g ++ S " " ++ y ++ S " " ++ strOf te ++ S ")") = vOf (.l [tx g, tx y, te]) := by rw [arm_is]; rfl
    show some (HO.lst (([V.str (S "case"), vOf tx'] ++ (ts'.take i).map vOf) ++ [V.str (Str.empty ++ S "(" ++ g ++ S " " ++ y ++ S " " ++ strOf te ++ S ")")])) = _
    rw [this]
    simp
  ·rintro σ H' ⟨o1, o2, o3, rfl, sm, hw⟩
   rw [List.take_of_length_le (by omega)] at hw
   walk_at "no"
   have eL : H' l3 = some (.lst ((List.map strOf (tx (S "case") :: tx' :: ts')).map V.str)) := by
    rw [hw, <- mapV]
    show some (HO.lst (V.str (S "case") :: vOf tx' :: ts'.map vOf)) = some (HO.lst (vOf (tx (S "case")) :: vOf tx' :: ts'.map vOf))
    rw [vOf_tx]
   exact ⟨rfl, _, rfl, S " ", l3, List.map strOf (tx (S "case") :: tx' :: ts'), rfl, rfl, SqL.of (eL), jz.1, _, _, rfl, rfl, jz.2.1, _, _, rfl, rfl, jz.2.2, text_is (k _ (sm))⟩
 ·obtain ⟨a, us, rfl, ha, _, _, rfl, rfl, v1, _, rfl, r1, v2, _, rfl, r2, v3, _, rfl, r3, rfl⟩ := hv
  have jz := text_sizes hzt
  have hS : SqT K H a [.str (S "if"), v1, v2, v3] := SqT.of ha
  refine ⟨_, rfl, a, _, _, _, rfl, rfl, hS, rfl, ?_⟩
  refine ⟨_, rfl, rfl, _, rfl, iteKF (by walk_at "k") ?_⟩
  walk_at "no"
  refine ⟨_, rfl, (by show 1 <= sizeLine; decide), fun l hl => ?_⟩
  have sl := Same.new hl (.lst [.str (S "if")])
  walk_at "no"
  walk_at "no"
  walk_at "no"
  walk_at "no"
  walk_at "no"
  walk_at "yes"
  refine ⟨_, rfl, _, rfl, _, rfl, a, _, rfl, SqT.of (sl _ _ ha), (fun z => absurd (show (1 : Nat) = 0 from z.1) (by decide)), fun c hc => ?_⟩
  have sc := Same.new hc (.tup (cutV [V.str (S "if"), v1, v2, v3] (some 1) none))
  have slc := sl.trans sc
  have hcc : (upd (upd H l (.lst [.str (S "if")])) c (.tup (cutV [V.str (S "if"), v1, v2, v3] (some 1) none))) c = some (.tup [v1, v2, v3]) := ups
  have hll : (upd (upd H l (.lst [.str (S "if")])) c (.tup (cutV [V.str (S "if"), v1, v2, v3] (some 1) none))) l = some (.lst [.str (S "if")]) := sc _ _ ups
  generalize upd (upd H l (.lst [.str (S "if")])) c (.tup (cutV [V.str (S "if"), v1, v2, v3] (some 1) none)) = H2 at sc slc hcc hll ⊢
  refine ⟨c, rfl, ⟨_, SqT.of hcc⟩, ?_⟩
  have al : All2 R [x, y, z] [tx', ty', tz'] := .cons hx (.cons hy (.cons hz' .nil))
  have rr : RelDs H2 [v1, v2, v3] [x, y, z] := ⟨v1, _, rfl, r1.same slc _, v2, _, rfl, r2.same slc _, v3, _, rfl, r3.same slc _, rfl⟩
  refine comp_tup (j := 0) (xs := [v1, v2, v3]) (fun i ys H' => Same H2 H' /\ ys = ([tx', ty', tz'].take i).map vOf) (by rfl) ⟨Same.refl _, rfl⟩ (fitsLt (by simp)) (fun i ys H' _ p => SqT.of (p.1 _ _ hcc)) ?_ ?_
  ·rintro i v ys H' hv' hl' ⟨sm, rfl⟩
   obtain ⟨d', hdi, rd⟩ := rr.get hv'
   obtain ⟨t', hti, rt⟩ := al.get hdi
   have hi : i < [v1, v2, v3].length := (List.getElem?_eq_some_iff.mp hv').1
   refine ⟨_, rfl, v, d', t', rfl, rd.same sm _, rt, fun H2 s2 => nxt hi hl' ⟨sm.trans s2, ?_⟩⟩
   rw [List.take_add_one, hti]
   simp
  rintro ys H' hl' ⟨sm, rfl⟩ b hb
  have sb := Same.new hb (.lst (([tx', ty', tz'].take 3).map vOf))
  refine ⟨l, b, [.str (S "if")], [vOf tx', vOf ty', vOf tz'], rfl, rfl, sb _ _ (sm _ _ hll), ups, (by show 4 <= sizeLine; decide), fun p hp => ?_⟩
  have s4 := slc.trans (sm.trans (sb.trans (Same.new hp (.lst ([V.str (S "if")] ++ [vOf tx', vOf ty', vOf tz'])))))
  exact ⟨rfl, _, rfl, S " ", p, List.map strOf [tx (S "if"), tx', ty', tz'], rfl, rfl, SqL.of (by rw [ups, <- mapV]; show some (HO.lst [V.str (S "if"), vOf tx', vOf ty', vOf tz']) = some (HO.lst [vOf (tx (S "if")), vOf tx', vOf ty', vOf tz']); rw [vOf_tx]), jz.1, _, _, rfl, rfl, jz.2.1, _, _, rfl, rfl, jz.2.2, text_is (k _ (s4))⟩
theorem law_writer (T : Tx K mg) : ∀ m, m <= 7 -> DefIs P w K mg base (m + 1) "_law_text" ["_law_term_here"] (spText (T2 m))
 | 0, _ => by
  refine (okl_text (n := 0) T (fun _ _ => False) (fun _ _ h => h.elim) (fun d t h => ?_) (DefIs.none T.dl_text ?_)).imp ?_
  ·rcases h with ⟨sg, x, y, tx', ty', hs, hx, _⟩ | ⟨kk, es, ts', hk, h5, hes, rfl, rfl⟩ | ⟨x, tx', g, hg, hx, _⟩ | ⟨kk, g, x, tx', hk, hg, hx, _⟩ | ⟨x, tx', arms, ts', hx, _⟩ | ⟨x, y, z, tx', ty', tz', hx, _⟩
   ·exact hx.elim
   ·cases hes with
    | nil =>
     have := hk.le
     have := heads_len (S "rec") (by walk_at "k")
     simp only [Tr.cs, bs, List.tail_cons, List.length_cons, List.length_append, List.length_nil, cs_tx]
     omega
    | cons h _ => exact h.elim
   ·exact hx.elim
   ·exact hx.elim
   ·exact hx.elim
   ·exact hx.elim
  ·rintro vs H Q E ⟨_, _, _, _, _, h, _⟩
   exact h
  ·rintro vs H Q E ⟨v, d, t, h1, h2, h3, h4⟩
   exact ⟨v, d, t, h1, h2, .inl h3, h4⟩
 | m + 1, hm => okl_text T (T2 m) (fun d t h => h.short (by omega)) (fun d t h => T2.short (n := m + 1) (.inr h) hm) (law_writer T m (by omega))
end
end K4
end
section
namespace K4
open PySem L2 M
seal L2.PE L2.PA L2.PS L2.PSs L2.PT L2.PW L2.PI L2.PG L2.PJ L2.PTs
def spLines : Sp := fun vs H Q _ => ∃ (v : V) (m : Mk), vs = [v] /\ RelD H v m.d /\ MkOk m /\ ∀ l H', Same H H' -> H' l = some (.lst (linesV m.lns)) -> Q (.ref l) H'
theorem L_bl : L (S " ") = [32] := by walk_at "k"
theorem ap_len (x y : Str) : (x ++ y).length = x.length + y.length := by rw [<- L_length, L_append, List.length_append, L_length, L_length]
theorem len_bl : (S " ").length = 1 := by walk_at "k"
theorem line2 (x y : Str) : lineOf [x, y] = x ++ S " " ++ y := L_inj (by rw [L_line, L_append, L_append, L_bl, List.append_assoc]; rfl)
theorem line3 (x y z : Str) : lineOf [x, y, z] = x ++ S " " ++ y ++ S " " ++ z := L_inj (by
 rw [L_line]
 simp only [L_append, L_bl, List.append_assoc]
 rfl)
theorem emp (x : Str) : Str.empty ++ x = x := L_inj (by rw [L_append]; rfl)
def plainR : Rw -> Bool
 | .en => true
 | .go _ => true
 | .take _ _ _ => true
 | _ => false
def PlainW (v : V) (w : Str) : Prop := v = .str w \/ ∃ j : Int, v = .int j /\ 0 <= j /\ j < 10 ^ 10 /\ w = numS j
theorem plain_row {H : Hp} {v : V} {r : Rw} (h : RelD H v r.d) (ok : r.Ok) (hp : plainR r = true) : ∃ a hd us, v = .ref a /\ H a = some (.tup (.str hd :: us)) /\ (.str hd :: us).length = r.ws.length /\ hd ≠ S "set" /\ hd ≠ S "send" /\ hd ≠ S "tell" /\ hd ≠ S "if" /\ ∀ (i : Nat) u, (V.str hd :: us)[i]? = some u -> ∃ w, r.ws[i]? = some w /\ PlainW u w := by
 cases r with
 | en =>
  obtain ⟨a, _, rfl, ha, _, _, rfl, rfl, rfl⟩ := h
  refine ⟨a, _, _, rfl, ha, rfl, by walk_at "k", by walk_at "k", by walk_at "k", by walk_at "k", fun i u e => ?_⟩
  match i, e with
  | 0, e => cases e; exact ⟨_, rfl, .inl rfl⟩
 | go n =>
  obtain ⟨a, _, rfl, ha, _, _, rfl, rfl, _, _, rfl, rfl, rfl⟩ := h
  refine ⟨a, _, _, rfl, ha, rfl, by walk_at "k", by walk_at "k", by walk_at "k", by walk_at "k", fun i u e => ?_⟩
  match i, e with
  | 0, e => cases e; exact ⟨_, rfl, .inl rfl⟩
  | 1, e => cases e; exact ⟨_, rfl, .inr ⟨n, rfl, ok.1, ok.2, rfl⟩⟩
 | take l c x =>
  obtain ⟨a, _, rfl, ha, _, _, rfl, rfl, _, _, rfl, rfl, _, _, rfl, rfl, _, _, rfl, rfl, rfl⟩ := h
  refine ⟨a, _, _, rfl, ha, rfl, by walk_at "k", by walk_at "k", by walk_at "k", by walk_at "k", fun i u e => ?_⟩
  match i, e with
  | 0, e => cases e; exact ⟨_, rfl, .inl rfl⟩
  | 1, e => cases e; exact ⟨_, rfl, .inl rfl⟩
  | 2, e => cases e; exact ⟨_, rfl, .inl rfl⟩
  | 3, e => cases e; exact ⟨_, rfl, .inl rfl⟩
 | tell d t => cases hp
 | iff d t n => cases hp
 | set b x d t => cases hp
theorem in_two {x y z : Str} (h1 : x ≠ y) (h2 : x ≠ z) : inV (.str x) [.str y, .str z] = false := by
 have e1 : (y == x) = false := beq_eq_false_iff_ne.mpr (Ne.symm h1)
 have e2 : (z == x) = false := beq_eq_false_iff_ne.mpr (Ne.symm h2)
 show ((y == x) || ((z == x) || false)) = false
 rw [e1, e2]
 rfl
section
variable {P : Program} {w : World} {K : PySem.W.Frag} {mg : Str -> Option Value} {base : Heap} {n m : Nat}
theorem okl_row_line (T : Tx K mg) (Dl_text : DefIs P w K mg base n "_law_text" ["_law_term_here"] (spText (T2 7))) : DefIs P w K mg base (n + 1) "_law_row_line" ["_law_row_here"] spRowT := by
 refine DefIs.of T.dl_row_line scl_row_line (fun vs H Q E h => ?_) (fun f cdv A outer s H vs Q E hr h => ?_)
 ·obtain ⟨_, _, rfl, _⟩ := h
  rfl
 obtain ⟨v, r, rfl, hv, ok, q⟩ := h
 have hs := Ln.sum (l := .row r) ok
 refine ⟨_, (zpn (ps_if (pt_cmpR op_in_seq (pe_ix ix_tup (pv 0) pe_int (fun _ _ => rfl)) (pe_lst (zpc pe_str (zpc pe_str pa_nil so) so)) (by with_unfolding_all rfl)) (zpo (ps_ret (pe_fstr (pj_str (pe_ix ix_tup (pv 0) pe_int (fun _ _ => rfl)) (pj_lit (pj_str (pe_ix ix_tup (pv 0) pe_int (fun _ _ => rfl)) (pj_lit (pj_str (pd Dl_text hr (zpc (pe_ix ix_tup (pv 0) pe_int (fun _ _ => rfl)) pa_nil ss)) pj_nil)))))))) pss_nil)
   (zpn (ps_if (pt_cmpR op_eq (pe_ix ix_tup (pv 0) pe_int (fun _ _ => rfl)) pe_str (nomark _)) (zpo (ps_ret (pe_op op_add_str pe_str (pd Dl_text hr (zpc (pe_ix ix_tup (pv 0) pe_int (fun _ _ => rfl)) pa_nil ss))))) pss_nil)
   (zpn (ps_if (pt_cmpR op_eq (pe_ix ix_tup (pv 0) pe_int (fun _ _ => rfl)) pe_str (nomark _)) (zpo (ps_ret (pe_fstr (pj_lit (pj_str (pd Dl_text hr (zpc (pe_ix ix_tup (pv 0) pe_int (fun _ _ => rfl)) pa_nil ss)) (pj_lit (pj_int (pe_ix ix_tup (pv 0) pe_int (fun _ _ => rfl)) pj_nil))))))) pss_nil)
   (zpo (ps_ret (pe_bm PySem.F.plainAttrs_str PySem.F.slot_str_join PySem.F.type_str_join mt_join pe_str (zpc (pe_comp ["_law_one"] [none] rfl (by kernel_rfl) (pi_tup (pv 0)) (fun _ _ _ _ => (pg_name (i := 0) (by show List.Nodup (["_law_one"] : List Str); decide +kernel) rfl (Or.inl rfl))) (fun _ _ _ _ => pts_nil) (fun _ _ _ _ => (pe_callTy (call_str_int.or call_str_str) rfl T.z_str PyProof.Rows.boot_str (zpc (pv 0) pa_nil zsn)))) pa_nil star_comp))))))), ?_⟩
 by_cases hp : plainR r = true
 ·obtain ⟨a, hd, us, rfl, ha, hl, n1, n2, n3, n4, hw⟩ := plain_row hv ok hp
  refine ⟨_, rfl, a, _, _, .str hd, rfl, rfl, SqT.of ha, atI_nat (j := 0) rfl, (by show 2 <= sizeLine; decide), fun l hl' => ⟨l, _, rfl, .inl (SqL.of ups), rfl, rfl, _, rfl, iteBF (in_two n1 n2) ?_⟩⟩
  have y1 := Same.new hl' (.lst [.str (S "set"), .str (S "send")])
  have ha1 : upd H l (.lst [.str (Str.ofString "set"), .str (Str.ofString "send")]) a = some (.tup (.str hd :: us)) := y1 _ _ ha
  have y1' : Same H (upd H l (.lst [.str (Str.ofString "set"), .str (Str.ofString "send")])) := y1
  generalize upd H l (.lst [.str (Str.ofString "set"), .str (Str.ofString "send")]) = H1 at y1' ha1 ⊢
  refine ⟨_, rfl, a, _, _, .str hd, rfl, rfl, SqT.of ha1, atI_nat (j := 0) rfl, rfl, _, rfl, iteKF (decide_eq_false fun z => n3 (V.str.inj z)) ?_⟩
  refine ⟨_, rfl, a, _, _, .str hd, rfl, rfl, SqT.of ha1, atI_nat (j := 0) rfl, rfl, _, rfl, iteKF (decide_eq_false fun z => n4 (V.str.inj z)) ?_⟩
  refine ⟨rfl, _, rfl, a, rfl, ⟨_, SqT.of ha1⟩, ?_⟩
  refine comp_tup (j := 0) (xs := .str hd :: us) (fun i zs H' => H' = H1 /\ zs = (r.ws.take i).map V.str) (by rfl) ⟨rfl, rfl⟩ (fitsLt (by have : (Ln.row r).ws = r.ws := rfl; rw [this] at hs; omega)) (fun i zs H' _ p => by obtain ⟨rfl, _⟩ := p; exact SqT.of ha1) ?_ ?_
  ·rintro i x zs H' hx hly ⟨rfl, rfl⟩
   obtain ⟨w', hwi, hwp⟩ := hw i x hx
   have hi : i < (V.str hd :: us).length := (List.getElem?_eq_some_iff.mp hx).1
   have nx : Nxt (fun i zs H2 => H2 = H' /\ zs = (r.ws.take i).map V.str) (V.str hd :: us).length i ((r.ws.take i).map V.str) (.str w') H' := nxt hi hly ⟨rfl, by rw [List.take_add_one, hwi]; simp⟩
   rcases hwp with rfl | ⟨j, rfl, j0, j1, rfl⟩
   ·exact ⟨_, rfl, .inr ⟨_, rfl, nx⟩⟩
   ·exact ⟨_, rfl, .inl ⟨j, rfl, log_small (by omega), nx⟩⟩
  ·rintro zs H' hly ⟨rfl, rfl⟩ D hD
   rw [List.take_of_length_le (by omega)]
   exact ⟨S " ", D, r.ws, rfl, rfl, SqL.of ups, ln_fits (l := .row r) ok, q _ (y1'.trans (Same.new hD _))⟩
 cases r with
 | set b x d t =>
  obtain ⟨a, _, rfl, ha, _, _, rfl, rfl, _, _, rfl, rfl, v1, _, rfl, r1, rfl⟩ := hv
  have hin : inV (.str (setW b)) [.str (S "set"), .str (S "send")] = true := by rcases setW_cases b with z | z <;> rw [z] <;> decide +kernel
  have hb4 : (setW b).length <= 4 := by rcases setW_cases b with z | z <;> rw [z] <;> decide +kernel
  have hx6 := name_len6 ok.1
  have ht : t.cs.length <= 3200 := ok.2.2
  have hst := strOf_len t
  have e1 : (Str.empty ++ setW b).length <= 4 := by rw [emp]; exact hb4
  have e2 : (Str.empty ++ setW b ++ S " ").length <= 5 := by rw [ap_len, len_bl]; omega
  have e3 : (Str.empty ++ setW b ++ S " " ++ x).length <= 11 := by rw [ap_len]; omega
  have e4 : (Str.empty ++ setW b ++ S " " ++ x ++ S " ").length <= 12 := by rw [ap_len, len_bl]; omega
  have e5 : (Str.empty ++ setW b ++ S " " ++ x ++ S " " ++ strOf t).length <= 3212 := by rw [ap_len]; omega
  refine ⟨_, rfl, a, _, _, _, rfl, rfl, SqT.of ha, rfl, (by show 2 <= sizeLine; decide), fun l hl => ⟨l, _, rfl, .inl (SqL.of ups), rfl, rfl, _, rfl, iteBT hin ?_⟩⟩
  have y1 := Same.new hl (.lst [.str (S "set"), .str (S "send")])
  refine ⟨_, rfl, a, _, _, _, rfl, rfl, SqT.of (y1 _ _ ha), rfl, _, rfl, fits (by omega), fits (by omega), fits (Nat.le_trans e2 (by decide)), ?_⟩
  refine ⟨_, rfl, a, _, _, _, rfl, rfl, SqT.of (y1 _ _ ha), rfl, _, rfl, fits (by omega), fits (Nat.le_trans e3 (by decide)), fits (Nat.le_trans e4 (by decide)), ?_⟩
  refine ⟨_, rfl, a, _, _, _, rfl, rfl, SqT.of (y1 _ _ ha), rfl, v1, d, t, rfl, r1.same y1 _, ok.2.1, fun H2 s2 => ?_⟩
  refine ⟨_, rfl, fits (by show (strOf t).length <= _; omega), fits (Nat.le_trans e5 (by decide)), fits (Nat.le_trans e5 (by decide)), ?_⟩
  have := q H2 (y1.trans s2)
  rw [show Ln.line (.row (.set b x d t)) = Str.empty ++ setW b ++ S " " ++ x ++ S " " ++ strOf t by rw [emp]; exact line3 _ _ _] at this
  exact this
 | tell d t =>
  obtain ⟨a, _, rfl, ha, _, _, rfl, rfl, v1, _, rfl, r1, rfl⟩ := hv
  have ht : t.cs.length <= 3200 := ok.2
  have hst := strOf_len t
  refine ⟨_, rfl, a, _, _, _, rfl, rfl, SqT.of ha, rfl, (by show 2 <= sizeLine; decide), fun l hl => ⟨l, _, rfl, .inl (SqL.of ups), rfl, rfl, _, rfl, iteBF (by walk_at "k") ?_⟩⟩
  have y1 := Same.new hl (.lst [.str (S "set"), .str (S "send")])
  refine ⟨_, rfl, a, _, _, _, rfl, rfl, SqT.of (y1 _ _ ha), rfl, rfl, _, rfl, iteKT (by walk_at "k") ?_⟩
  refine ⟨_, rfl, a, _, _, _, rfl, rfl, SqT.of (y1 _ _ ha), rfl, v1, d, t, rfl, r1.same y1 _, ok.1, fun H2 s2 => ?_⟩
  have e5 : (S "tell ").length = 5 := by walk_at "k"
  refine ⟨_, _, rfl, rfl, fits (by show (S "tell ").length + (strOf t).length <= _; omega), ?_⟩
  have := q H2 (y1.trans s2)
  rw [show Ln.line (.row (.tell d t)) = S "tell " ++ strOf t by
   refine (line2 (S "tell") (strOf t)).trans ?_
   rw [show S "tell" ++ S " " = S "tell " by walk_at "k"]] at this
  exact this
 | iff d t i =>
  obtain ⟨a, _, rfl, ha, _, _, rfl, rfl, v1, _, rfl, r1, _, _, rfl, rfl, rfl⟩ := hv
  have ht : t.cs.length <= 3200 := ok.1.2
  have hst := strOf_len t
  have hn := num_len10 ok.2.1 ok.2.2
  have e1 : (Str.empty ++ S "if ").length = 3 := by walk_at "k"
  have e2 : (Str.empty ++ S "if " ++ strOf t).length <= 3203 := by rw [ap_len]; omega
  have e3 : (Str.empty ++ S "if " ++ strOf t ++ S " ").length <= 3204 := by rw [ap_len, len_bl]; omega
  have e4 : (Str.empty ++ S "if " ++ strOf t ++ S " " ++ numS i).length <= 3214 := by rw [ap_len]; omega
  refine ⟨_, rfl, a, _, _, _, rfl, rfl, SqT.of ha, rfl, (by show 2 <= sizeLine; decide), fun l hl => ⟨l, _, rfl, .inl (SqL.of ups), rfl, rfl, _, rfl, iteBF (by walk_at "k") ?_⟩⟩
  have y1 := Same.new hl (.lst [.str (S "set"), .str (S "send")])
  refine ⟨_, rfl, a, _, _, _, rfl, rfl, SqT.of (y1 _ _ ha), rfl, rfl, _, rfl, iteKF (by walk_at "k") ?_⟩
  refine ⟨_, rfl, a, _, _, _, rfl, rfl, SqT.of (y1 _ _ ha), rfl, rfl, _, rfl, iteKT (by walk_at "k") ?_⟩
  refine ⟨(by walk_at "k"), _, rfl, a, _, _, _, rfl, rfl, SqT.of (y1 _ _ ha), rfl, v1, d, t, rfl, r1.same y1 _, ok.1.1, fun H2 s2 => ?_⟩
  refine ⟨_, rfl, fits (by show (strOf t).length <= _; omega), fits (Nat.le_trans e2 (by decide)), fits (Nat.le_trans e3 (by decide)), ?_⟩
  have y2 := y1.trans s2
  refine ⟨_, rfl, a, _, _, _, rfl, rfl, SqT.of (y2 _ _ ha), rfl, i, rfl, log_small (by have := ok.2.1; have := ok.2.2; omega), fits (Nat.le_trans e4 (by decide)), fits (Nat.le_trans e4 (by decide)), ?_⟩
  have := q H2 y2
  rw [show Ln.line (.row (.iff d t i)) = Str.empty ++ S "if " ++ strOf t ++ S " " ++ numS i by
   refine (line3 (S "if") (strOf t) (numS i)).trans ?_
   rw [emp, show S "if" ++ S " " = S "if " by walk_at "k"]] at this
  exact this
 | en => exact absurd rfl hp
 | go n => exact absurd rfl hp
 | take l c x => exact absurd rfl hp
end
end K4
end
section
namespace K4
open PySem L2 M
seal L2.PE L2.PA L2.PS L2.PSs L2.PT L2.PW L2.PI L2.PG L2.PJ L2.PTs
def pairS (p : Str × Str) : Str := p.1 ++ S " " ++ p.2
theorem L_pair (p : Str × Str) : L (pairS p) = L p.1 ++ 32 :: L p.2 := by
 unfold pairS
 rw [L_append, L_append, L_bl, List.append_assoc]
 rfl
theorem join_pairs : ∀ (ps : List (Str × Str)), ps ≠ [] -> joinB ((ps.map pairS).map L) = joinB ((partWs ps).map L)
 | [], h => absurd rfl h
 | [p], _ => by
  show L (pairS p) = L p.1 ++ 32 :: L p.2
  exact L_pair p
 | p :: q :: ps, _ => by
  have ih := join_pairs (q :: ps) (by simp)
  show L (pairS p) ++ 32 :: joinB (((q :: ps).map pairS).map L) = L p.1 ++ 32 :: (L p.2 ++ 32 :: joinB ((partWs (q :: ps)).map L))
  rw [L_pair, ih, List.append_assoc]
  rfl
theorem kind_line (k : Kn) : Txt.join (S " ") ([k.sort, k.name] ++ k.parts.map pairS) = Ln.line (.kind k) := by
 refine L_inj ?_
 show L (lineOf _) = L (lineOf ([k.sort, k.name] ++ partWs k.parts))
 rw [L_line, L_line]
 by_cases h : k.parts = []
 ·rw [h]; rfl
 ·rw [List.map_append, List.map_append, joinB_append _ _ (by simp) (by simpa using h), joinB_append _ _ (by simp) ?_, join_pairs _ h]
  intro e
  have e1 := List.map_eq_nil_iff.mp e
  cases hp : k.parts with
  | nil => exact h hp
  | cons p ps => rw [hp] at e1; cases e1
theorem chan_line (c : Ch) : S "channel " ++ Txt.join (S " ") [c.1, c.2.1, c.2.2.1, c.2.2.2] = Ln.line (.chan c) := by
 refine L_inj ?_
 show L (S "channel " ++ lineOf [c.1, c.2.1, c.2.2.1, c.2.2.2]) = L (lineOf [S "channel", c.1, c.2.1, c.2.2.1, c.2.2.2])
 rw [L_append, L_line, L_line]
 show L (S "channel ") ++ _ = L (S "channel") ++ 32 :: _
 rw [show L (S "channel ") = L (S "channel") ++ [32] by walk_at "k", List.append_assoc]
 rfl
theorem pair_len {p : Str × Str} (h : PtOk p) : (pairS p).length <= 13 := by
 have h1 := name_len6 h.1
 have h2 := kwd_len h.2
 unfold pairS
 rw [ap_len, ap_len, len_bl]
 omega
theorem pairs_sum : ∀ {ps : List (Str × Str)}, (∀ p ∈ ps, PtOk p) -> ((ps.map pairS).map (·.length)).sum <= 13 * ps.length
 | [], _ => Nat.le_refl _
 | p :: ps, h => by
  have ih := pairs_sum (ps := ps) fun q hq => h q (by simp [hq])
  have h1 := pair_len (h p (by simp))
  simp only [List.map_cons, List.sum_cons, List.length_cons]
  omega
section
variable {P : Program} {w : World} {K : PySem.W.Frag} {mg : Str -> Option Value} {base : Heap} {n m : Nat}
theorem okl_lines (T : Tx K mg) (Dl_row_line : DefIs P w K mg base n "_law_row_line" ["_law_row_here"] spRowT) : DefIs P w K mg base (n + 1) "_law_lines" ["_law_make_here"] spLines := by
 refine DefIs.of T.dl_lines scl_lines (fun vs H Q E h => ?_) (fun f cdv A outer s H vs Q E hr h => ?_)
 ·obtain ⟨_, _, rfl, _⟩ := h
  rfl
 obtain ⟨v, mk, rfl, hv, ok, q⟩ := h
 have nd := scl_lines.nd
 obtain ⟨a, _, rfl, ha, _, _, rfl, ⟨ka, kus, rfl, hka, hkus⟩, _, _, rfl, ⟨ca, cus, rfl, hca, hcus⟩, _, _, rfl, ⟨za, hus, rfl, hza, hhus⟩, rfl⟩ := hv
 have k6 := ok.k6
 have c6 := ok.c6
 have h4 := ok.h4
 have hkl := hkus.length
 have hcl := hcus.length
 have hhl := hhus.length
 rw [List.length_map] at hkl hcl hhl
 refine ⟨_, (zpn (ps_set (i := 1) nd rfl (by walk_at "o") (pe_lst pa_nil))
   (zpn (ps_for PassesOwn.never rfl (pi_tup (pe_ix ix_tup (pv 0) pe_int (fun _ _ => rfl))) (pg_tup rfl (pgs_cons (pg_name (i := 2) nd rfl (by walk_at "o")) (pgs_cons (pg_name (i := 3) nd rfl (by walk_at "o")) (pgs_cons (pg_name (i := 4) nd rfl (by walk_at "o")) pgs_nil))))
   (zpo (ps_expr (pe_bm PySem.F.plainAttrs_list PySem.F.slot_list_append PySem.F.type_list_append mt_append (pv 1) (zpc (pe_bm PySem.F.plainAttrs_str PySem.F.slot_str_join PySem.F.type_str_join mt_join pe_str (zpc (pe_op op_cat (pe_lst (zpc (pv 3) (zpc (pv 2) pa_nil zsn) zsn)) (pe_comp ["_law_part"] [none] rfl (by kernel_rfl) (pi_tup (pv 4)) (fun _ _ _ _ => (pg_name (i := 0) (by show List.Nodup (["_law_part"] : List Str); decide +kernel) rfl (Or.inl rfl))) (fun _ _ _ _ => pts_nil) (fun _ _ _ _ => (pe_op op_add_str (pe_op op_add_str (pe_ix (ix_tupC (K := K) rfl) (pv 0) pe_int (fun _ _ => rfl)) pe_str) (pe_ix (ix_tupC (K := K) rfl) (pv 0) pe_int (fun _ _ => rfl)))))) pa_nil star_bin)) pa_nil zsc)))))
   (zpn (ps_for PassesOwn.never rfl (pi_tup (pe_ix ix_tup (pv 0) pe_int (fun _ _ => rfl))) (pg_name (i := 5) nd rfl (by walk_at "o"))
   (zpo (ps_expr (pe_bm PySem.F.plainAttrs_list PySem.F.slot_list_append PySem.F.type_list_append mt_append (pv 1) (zpc (pe_op op_add_str pe_str (pe_bm PySem.F.plainAttrs_str PySem.F.slot_str_join PySem.F.type_str_join mt_joinT pe_str (zpc (pv 5) pa_nil zsn))) pa_nil star_bin)))))
   (zpn (ps_for PassesOwn.never rfl (pi_tup (pe_ix ix_tup (pv 0) pe_int (fun _ _ => rfl))) (pg_tup rfl (pgs_cons (pg_name (i := 2) nd rfl (by walk_at "o")) (pgs_cons (pg_name (i := 6) nd rfl (by walk_at "o")) (pgs_cons (pg_name (i := 7) nd rfl (by walk_at "o")) pgs_nil))))
   (zpn (ps_expr (pe_bm PySem.F.plainAttrs_list PySem.F.slot_list_append PySem.F.type_list_append mt_append (pv 1) (zpc (pe_op op_add_str pe_str (pv 2)) pa_nil star_bin)))
   (zpn (ps_set (i := 1) nd rfl (by walk_at "o") (pe_op op_cat (pv 1) (pe_comp ["_law_box"] [none] rfl (by kernel_rfl) (pi_tup (pv 6)) (fun _ _ _ _ => (pg_name (i := 0) (by show List.Nodup (["_law_box"] : List Str); decide +kernel) rfl (Or.inl rfl))) (fun _ _ _ _ => pts_nil) (fun _ _ _ _ => (pe_op op_add_str (pe_op op_add_str (pe_op op_add_str pe_str (pe_ix (ix_tupC (K := K) rfl) (pv 0) pe_int (fun _ _ => rfl))) pe_str) (pe_ix (ix_tupC (K := K) rfl) (pv 0) pe_int (fun _ _ => rfl)))))))
   (zpo (ps_set (i := 1) nd rfl (by walk_at "o") (pe_op op_cat (pv 1) (pe_comp ["_law_row_here"] [none] rfl (by kernel_rfl) (pi_tup (pv 7)) (fun _ _ _ _ => (pg_name (i := 0) (by show List.Nodup (["_law_row_here"] : List Str); decide +kernel) rfl (Or.inl rfl))) (fun _ _ _ _ => pts_nil) (fun _ _ _ _ => (pd Dl_row_line hr (zpc (pv 0) pa_nil zsn))))))))))
   (zpo (ps_ret (pv 1))))))), ?_⟩
 refine ⟨(by show 0 <= sizeLine; decide), fun l hl => ?_⟩
 have y1 := Same.new hl (.lst [])
 refine ⟨_, rfl, a, _, _, _, rfl, rfl, SqT.of (y1 _ _ ha), rfl, ka, rfl, ⟨_, SqT.of (y1 _ _ hka)⟩, ?_⟩
 refine for_tup (xs := kus) (fun i σ H' => ∃ o2 o3 o4, σ = [some (.ref a), some (.ref l), o2, o3, o4, none, none, none] /\ Same H H' /\ H' l = some (.lst (linesV ((mk.kinds.take i).map .kind)))) ⟨none, none, none, rfl, y1, ups⟩ (fun i σ H' _ p => ?_) ?_ ?_
 ·obtain ⟨_, _, _, _, sm, _⟩ := p
  exact SqT.of (sm _ _ hka)
 ·rintro i v σ H' hv ⟨o2, o3, o4, rfl, sm, hll⟩
  obtain ⟨d, hd, rd⟩ := (hkus.same sm _).get hv
  rw [List.getElem?_map] at hd
  obtain ⟨k', hk', rfl⟩ := Option.map_eq_some_iff.mp hd
  obtain ⟨h1, h2, h3, hpt⟩ := ok.ks k' (List.mem_of_getElem? hk')
  obtain ⟨da, _, rfl, hda, _, _, rfl, rfl, _, _, rfl, rfl, _, _, rfl, ⟨pa, us, rfl, hpa, hus'⟩, rfl⟩ := rd
  have hul := hus'.length
  rw [List.length_map] at hul
  refine ⟨da, _, rfl, SqT.of hda, rfl, _, _, rfl, _, _, rfl, _, _, rfl, rfl, ?_⟩
  refine ⟨_, rfl, .inl ⟨rfl, _, SqL.of hll⟩, ?_⟩
  refine ⟨rfl, _, rfl, _, rfl, (by show 2 <= sizeLine; decide), fun l1 hl1 => ?_⟩
  have z1 := Same.new hl1 (.lst [.str k'.sort, .str k'.name])
  refine ⟨_, rfl, pa, rfl, ⟨_, SqT.of (z1 _ _ hpa)⟩, ?_⟩
  refine comp_tup (j := 0) (xs := us) (fun j zs H3 => Same (upd H' l1 (.lst [.str k'.sort, .str k'.name])) H3 /\ zs = ((k'.parts.take j).map pairS).map V.str) (by rfl) ⟨Same.refl _, rfl⟩ (fitsLt (by omega)) (fun j zs H3 _ p => SqT.of (p.1 _ _ (z1 _ _ hpa))) ?_ ?_
  ·rintro j x zs H3 hx hly ⟨s3, rfl⟩
   obtain ⟨d, hd, rd⟩ := (hus'.same (z1.trans s3) _).get hx
   rw [List.getElem?_map] at hd
   obtain ⟨pr, hpr, rfl⟩ := Option.map_eq_some_iff.mp hd
   obtain ⟨b, _, rfl, hb, _, _, rfl, rfl, _, _, rfl, rfl, rfl⟩ := rd
   have hj : j < us.length := (List.getElem?_eq_some_iff.mp hx).1
   have hpo := hpt pr (List.mem_of_getElem? hpr)
   have p1 := name_len6 hpo.1
   have p2 := kwd_len hpo.2
   refine ⟨_, rfl, b, _, _, _, rfl, rfl, SqT.of hb, rfl, _, _, rfl, rfl, fits (by show pr.1.length + (S " ").length <= _; rw [len_bl]; omega), ?_⟩
   refine ⟨_, rfl, b, _, _, _, rfl, rfl, SqT.of hb, rfl, _, _, rfl, rfl, fits (by show (pr.1 ++ S " ").length + pr.2.length <= _; rw [ap_len, len_bl]; omega), ?_⟩
   refine nxt hj hly ⟨s3, ?_⟩
   rw [List.take_add_one, hpr]
   simp [pairS]
   rfl
  ·rintro zs H3 hly ⟨s3, rfl⟩ D hD
   rw [List.take_of_length_le (by omega)]
   have z3 := Same.new hD (.lst ((k'.parts.map pairS).map V.str))
   refine ⟨l1, D, _, _, rfl, rfl, (s3.trans z3) _ _ ups, ups, fits (by rw [List.length_map, List.length_map]; show 2 + _ <= _; omega), fun l2 hl2 => ?_⟩
   have z4 := Same.new hl2 (.lst ([.str k'.sort, .str k'.name] ++ (k'.parts.map pairS).map V.str))
   have hps := pairs_sum hpt
   have hso : k'.sort.length <= 3 := by rcases sort_cases k' with e | e <;> rw [e] <;> decide +kernel
   have hn6 := name_len6 h1
   refine ⟨S " ", l2, [k'.sort, k'.name] ++ k'.parts.map pairS, rfl, rfl, SqL.of (by rw [ups, List.map_append]; rfl), ?_, ?_⟩
   ·rw [len_bl, List.map_append, List.sum_append, List.length_append, List.length_map]
    simp only [List.map_cons, List.map_nil, List.sum_cons, List.sum_nil, List.length_cons, List.length_nil]
    omega
   rw [kind_line]
   have zz := z1.trans (s3.trans (z3.trans z4))
   refine ⟨l, _, _, rfl, rfl, zz _ _ hll, fitsLt (by rw [linesV_len, List.length_map, List.length_take]; omega), ?_⟩
   refine ⟨_, _, _, rfl, fun b o e => ?_, ?_⟩
   ·rw [upd_ne (neN e hl)]
    exact zz _ _ (sm _ _ e)
   ·rw [ups, linesV_map .kind mk.kinds hk']
 rintro σ H2 ⟨o2, o3, o4, rfl, s2, hl2⟩
 rw [List.take_of_length_le (by omega)] at hl2
 refine ⟨_, rfl, a, _, _, _, rfl, rfl, SqT.of (s2 _ _ ha), rfl, ca, rfl, ⟨_, SqT.of (s2 _ _ hca)⟩, ?_⟩
 refine for_tup (xs := cus) (fun i σ H' => ∃ o5, σ = [some (.ref a), some (.ref l), o2, o3, o4, o5, none, none] /\ Same H H' /\ H' l = some (.lst (linesV (mk.kinds.map .kind ++ (mk.chans.take i).map .chan)))) ⟨none, rfl, s2, by rw [List.take_zero, List.map_nil, List.append_nil]; exact hl2⟩ (fun i σ H' _ p => ?_) ?_ ?_
 ·obtain ⟨_, _, sm, _⟩ := p
  exact SqT.of (sm _ _ hca)
 ·rintro i v σ H' hv ⟨o5, rfl, sm, hll⟩
  obtain ⟨d, hd, rd⟩ := (hcus.same sm _).get hv
  rw [List.getElem?_map] at hd
  obtain ⟨c', hc', rfl⟩ := Option.map_eq_some_iff.mp hd
  obtain ⟨h1, h2, h3, h4'⟩ := ok.cs c' (List.mem_of_getElem? hc')
  obtain ⟨da, _, rfl, hda, _, _, rfl, rfl, _, _, rfl, rfl, _, _, rfl, rfl, _, _, rfl, rfl, rfl⟩ := rd
  have n1 := name_len6 h1
  have n2 := name_len6 h2
  have n3 := name_len6 h3
  have n4 := kwd_len h4'
  refine ⟨_, rfl, .inl ⟨rfl, _, SqL.of hll⟩, ?_⟩
  refine ⟨rfl, _, rfl, S " ", da, [c'.1, c'.2.1, c'.2.2.1, c'.2.2.2], rfl, rfl, SqT.of hda, ?_, ?_⟩
  ·rw [len_bl]
   simp only [List.map_cons, List.map_nil, List.sum_cons, List.sum_nil, List.length_cons, List.length_nil]
   omega
  have e8 : (S "channel ").length = 8 := by walk_at "k"
  have hll' : (Ln.line (.chan c')).length <= 3300 := Ln.len (l := .chan c') ⟨h1, h2, h3, h4'⟩
  have hcl' := chan_line c'
  have hlen : (S "channel ").length + (Txt.join (S " ") [c'.1, c'.2.1, c'.2.2.1, c'.2.2.2]).length <= 3300 := by rw [<- ap_len, hcl']; exact hll'
  refine ⟨_, _, rfl, rfl, fits (Nat.le_trans hlen (by decide)), ?_⟩
  refine ⟨l, _, _, rfl, rfl, hll, fitsLt (by rw [linesV_len, List.length_append, List.length_map, List.length_map, List.length_take]; omega), ?_⟩
  refine ⟨_, rfl, fun b o e => ?_, ?_⟩
  ·rw [upd_ne (neN e hl)]
   exact sm _ _ e
  ·rw [ups, linesV_app _ ((mk.chans.take i).map .chan), linesV_app _ ((mk.chans.take (i + 1)).map .chan), linesV_map .chan mk.chans hc', <- chan_line, List.append_assoc]
   rfl
 rintro σ H3 ⟨o5, rfl, s3, hl3⟩
 rw [List.take_of_length_le (by omega)] at hl3
 refine ⟨_, rfl, a, _, _, _, rfl, rfl, SqT.of (s3 _ _ ha), rfl, za, rfl, ⟨_, SqT.of (s3 _ _ hza)⟩, ?_⟩
 refine for_tup (xs := hus) (fun i σ H' => ∃ l' o2 o6 o7, σ = [some (.ref a), some (.ref l'), o2, o3, o4, o5, o6, o7] /\ Same H H' /\ H l' = none /\ H' l' = some (.lst (linesV (mk.kinds.map .kind ++ mk.chans.map .chan ++ (mk.hands.take i).flatMap Hn.lns)))) ⟨l, o2, none, none, rfl, s3, hl, by rw [List.take_zero, List.flatMap_nil, List.append_nil]; exact hl3⟩ (fun i σ H' _ p => ?_) ?_ ?_
 ·obtain ⟨_, _, _, _, _, sm, _⟩ := p
  exact SqT.of (sm _ _ hza)
 ·rintro i v σ H' hv ⟨l', o2, o6, o7, rfl, sm, l0, hll⟩
  obtain ⟨d, hd, rd⟩ := (hhus.same sm _).get hv
  rw [List.getElem?_map] at hd
  obtain ⟨hn, hhn, rfl⟩ := Option.map_eq_some_iff.mp hd
  obtain ⟨g1, g2, g3, g4, g5⟩ := ok.hs hn (List.mem_of_getElem? hhn)
  obtain ⟨da, _, rfl, hda, _, _, rfl, rfl, _, _, rfl, ⟨ba, bus, rfl, hba, hbus⟩, _, _, rfl, ⟨ra, rus, rfl, hra, hrus⟩, rfl⟩ := rd
  have hbl := hbus.length
  have hrl := hrus.length
  rw [List.length_map] at hbl hrl
  obtain ⟨base0, hb0⟩ : ∃ b0 : List Ln, b0 = mk.kinds.map .kind ++ mk.chans.map .chan ++ (mk.hands.take i).flatMap Hn.lns := ⟨_, rfl⟩
  rw [<- hb0] at hll
  have b1 : base0.length <= 132 := by
   have hh := hands_len (hs := mk.hands.take i) fun g hg => ok.hs g (List.mem_of_mem_take hg)
   rw [hb0, List.length_append, List.length_append, List.length_map, List.length_map]
   rw [List.length_take] at hh
   omega
  refine ⟨da, _, rfl, SqT.of hda, rfl, _, _, rfl, _, _, rfl, _, _, rfl, rfl, ?_⟩
  have e5 : (S "hand ").length = 5 := by walk_at "k"
  have n6 := name_len6 g1
  refine ⟨_, rfl, .inl ⟨rfl, _, SqL.of hll⟩, _, rfl, _, _, rfl, rfl, fits (by show (S "hand ").length + hn.name.length <= _; omega), ?_⟩
  refine ⟨l', _, _, rfl, rfl, hll, fitsLt (by rw [linesV_len]; omega), ?_⟩
  have hline : S "hand " ++ hn.name = Ln.line (.hand hn.name) := by
   refine Eq.trans ?_ (line2 (S "hand") hn.name).symm
   rw [show S "hand" ++ S " " = S "hand " by walk_at "k"]
  have hv1 : upd H' l' (.lst (linesV base0 ++ [.str (Str.ofString "hand " ++ hn.name)])) l' = some (.lst (linesV (base0 ++ [.hand hn.name]))) := by
   rw [ups, linesV_app, show Str.ofString "hand " ++ hn.name = Ln.line (.hand hn.name) from hline]
   rfl
  have sm1 : Same H (upd H' l' (.lst (linesV base0 ++ [.str (Str.ofString "hand " ++ hn.name)]))) := fun b o e => by
   rw [upd_ne (neN e l0)]
   exact sm _ _ e
  have tp1 := lst_tups (H := H') hll (.lst (linesV base0 ++ [.str (Str.ofString "hand " ++ hn.name)]))
  have hba1 := tp1 _ _ hba
  have hra1 := tp1 _ _ hra
  have hbus1 := hbus.tups tp1 _
  have hrus1 := hrus.tups tp1 _
  generalize upd H' l' (.lst (linesV base0 ++ [.str (Str.ofString "hand " ++ hn.name)])) = H4 at hv1 sm1 hba1 hra1 hbus1 hrus1 ⊢
  refine ⟨_, rfl, _, rfl, ba, rfl, ⟨_, SqT.of hba1⟩, ?_⟩
  refine comp_tup (j := 0) (xs := bus) (fun j zs H5 => H5 = H4 /\ zs = linesV ((hn.boxes.take j).map .box)) (by rfl) ⟨rfl, rfl⟩ (fitsLt (by omega)) (fun j zs H5 _ p => by obtain ⟨rfl, _⟩ := p; exact SqT.of hba1) ?_ ?_
  ·rintro j x zs H5 hx hly ⟨rfl, rfl⟩
   obtain ⟨d, hd, rd⟩ := hbus1.get hx
   rw [List.getElem?_map] at hd
   obtain ⟨pr, hpr, rfl⟩ := Option.map_eq_some_iff.mp hd
   obtain ⟨b, _, rfl, hb, _, _, rfl, rfl, _, _, rfl, rfl, rfl⟩ := rd
   have hj : j < bus.length := (List.getElem?_eq_some_iff.mp hx).1
   have hpo := g4 pr (List.mem_of_getElem? hpr)
   have p1 := name_len6 hpo.1
   have p2 := kwd_len hpo.2
   have e4 : (S "box ").length = 4 := by walk_at "k"
   refine ⟨_, rfl, b, _, _, _, rfl, rfl, SqT.of hb, rfl, _, _, rfl, rfl, fits (by show (S "box ").length + pr.1.length <= _; omega), _, _, rfl, rfl, fits (by show (S "box " ++ pr.1).length + (S " ").length <= _; rw [ap_len, len_bl]; omega), ?_⟩
   refine ⟨_, rfl, b, _, _, _, rfl, rfl, SqT.of hb, rfl, _, _, rfl, rfl, fits (by show (S "box " ++ pr.1 ++ S " ").length + pr.2.length <= _; rw [ap_len, ap_len, len_bl]; omega), ?_⟩
   refine nxt hj hly ⟨rfl, ?_⟩
   rw [linesV_map .box hn.boxes hpr, show Ln.line (.box pr) = S "box " ++ pr.1 ++ S " " ++ pr.2 by
    refine (line3 (S "box") pr.1 pr.2).trans ?_
    rw [show S "box" ++ S " " = S "box " by walk_at "k"]]
   rfl
  rintro zs H5 hly ⟨rfl, rfl⟩ D1 hD1
  rw [List.take_of_length_le (by omega)]
  have z1 := Same.new hD1 (.lst (linesV (hn.boxes.map .box)))
  refine ⟨l', D1, _, _, rfl, rfl, z1 _ _ hv1, ups, fits (by rw [linesV_len, linesV_len, List.length_append, List.length_singleton, List.length_map]; omega), fun l2 hl2' => ?_⟩
  rw [<- linesV_app]
  have z2 := Same.new hl2' (.lst (linesV (base0 ++ [.hand hn.name] ++ hn.boxes.map .box)))
  have zz := z1.trans z2
  have sm2 := sm1.trans zz
  have l20 : H l2 = none := none_of_same (sm1.trans z1) hl2'
  have hv2 : upd (upd H5 D1 (.lst (linesV (hn.boxes.map .box)))) l2 (.lst (linesV (base0 ++ [.hand hn.name] ++ hn.boxes.map .box))) l2 = some (.lst (linesV (base0 ++ [.hand hn.name] ++ hn.boxes.map .box))) := ups
  have hra2 := zz _ _ hra1
  have hrus2 := hrus1.same zz _
  generalize upd (upd H5 D1 (.lst (linesV (hn.boxes.map .box)))) l2 (.lst (linesV (base0 ++ [.hand hn.name] ++ hn.boxes.map .box))) = H6 at sm2 hv2 hra2 hrus2 ⊢
  refine ⟨_, rfl, _, rfl, ra, rfl, ⟨_, SqT.of hra2⟩, ?_⟩
  refine comp_tup (j := 0) (xs := rus) (fun j zs H7 => Same H6 H7 /\ zs = linesV ((hn.rows.take j).map .row)) (by rfl) ⟨Same.refl _, rfl⟩ (fitsLt (by omega)) (fun j zs H7 _ p => SqT.of (p.1 _ _ hra2)) ?_ ?_
  ·rintro j x zs H7 hx hly ⟨s7, rfl⟩
   obtain ⟨d, hd, rd⟩ := (hrus2.same s7 _).get hx
   rw [List.getElem?_map] at hd
   obtain ⟨rw', hrw', rfl⟩ := Option.map_eq_some_iff.mp hd
   have hj : j < rus.length := (List.getElem?_eq_some_iff.mp hx).1
   refine ⟨_, rfl, x, rw', rfl, rd, g5 rw' (List.mem_of_getElem? hrw'), fun H8 s8 => nxt hj hly ⟨s7.trans s8, ?_⟩⟩
   rw [linesV_map .row hn.rows hrw']
  rintro zs H7 hly ⟨s7, rfl⟩ D2 hD2
  rw [List.take_of_length_le (by omega)]
  have z3 := Same.new hD2 (.lst (linesV (hn.rows.map .row)))
  refine ⟨l2, D2, _, _, rfl, rfl, (s7.trans z3) _ _ hv2, ups, fits (by rw [linesV_len, linesV_len, List.length_append, List.length_append, List.length_singleton, List.length_map, List.length_map]; omega), fun l3 hl3' => ?_⟩
  have sm3 := sm2.trans (s7.trans z3)
  refine ⟨l3, _, _, _, rfl, sm3.trans (Same.new hl3' _), none_of_same sm3 hl3', ?_⟩
  rw [ups, <- linesV_app, List.take_add_one, hhn]
  show _ = some (HO.lst (linesV (_ ++ (mk.hands.take i ++ [hn]).flatMap Hn.lns)))
  rw [List.flatMap_append, <- List.append_assoc, <- hb0]
  congr 3
  show _ = base0 ++ (hn.lns ++ [])
  rw [List.append_nil]
  show _ = base0 ++ (Ln.hand hn.name :: (hn.boxes.map .box ++ hn.rows.map .row))
  simp
 ·rintro σ H' ⟨l', o2, o6, o7, rfl, sm, l0, hll⟩
  rw [List.take_of_length_le (by omega), List.append_assoc] at hll
  exact ⟨_, rfl, q l' H' sm hll⟩
end
end K4
end
section
local macro_rules | `(tactic| walk_at "rd1") => `(tactic| first
 | refine ⟨_, rfl, ?_⟩
 | refine ⟨_, _, rfl, rfl, ?_⟩
 | refine ⟨_, _, _, _, rfl, rfl, (by assumption), (by first | rfl | assumption), ?_⟩
 | refine ⟨_, _, rfl, .inl (by assumption), ?_⟩
 | refine ⟨(by first | exact .inr ⟨by decide, by decide⟩ | exact .inl ⟨by decide, by decide⟩ | exact ⟨by decide, by decide, by decide⟩ | exact ⟨by decide, by decide⟩ | exact ⟨by assumption, by assumption⟩ | (show (0 : Int) < _; first | decide | assumption)), ?_⟩
 | refine ⟨rfl, ?_⟩)
local macro_rules | `(tactic| walk_at "rd") => `(tactic| repeat walk_at "rd1")
namespace K4
open PySem L2 M
seal L2.PE L2.PA L2.PS L2.PSs L2.PT L2.PW L2.PI L2.PG L2.PJ L2.PTs
def spFeed (K : PySem.W.Frag) : Sp := fun vs H Q _ => ∃ (a : Addr) (ns : List Int) (k : Int), vs = [.ref a, .int k] /\ SqL K H a (ns.map V.int) /\ ns.length <= 63 /\ 0 <= k /\ ∀ (r : Addr) (p q : Int), H r = none -> Q (.ref r) (upd H r (.lst [.int p, .int q]))
def spTake : Sp := fun vs H Q _ => ∃ (a : Addr) (p q m : Int), vs = [.ref a, .int m] /\ H a = some (.lst [.int p, .int q]) /\ 0 < m /\ m < 2 ^ 64 /\ ∀ (r : Int) (H' : Hp), 0 <= r -> r < m -> Fed a H H' -> Q (.int r) H'
section
variable {P : Program} {w : World} {K : PySem.W.Frag} {mg : Str -> Option Value} {base : Heap} {n : Nat}
theorem at_ints {ns : List Int} {k : Int} (h0 : 0 <= k) (h : k < (ns.length : Int)) : ∃ v : Int, atI (ns.map V.int) k = some (.int v) := by
 have hk : k.toNat < ns.length := by omega
 have ek : k = ((k.toNat : Nat) : Int) := by omega
 refine ⟨ns[k.toNat], ?_⟩
 have q : atI (ns.map V.int) ((k.toNat : Nat) : Int) = some (.int ns[k.toNat]) := atI_nat (by rw [List.getElem?_map, List.getElem?_eq_getElem hk] <;> rfl)
 rw [<- ek] at q
 exact q
theorem two_fits : 2 <= sizeLine := by decide
theorem okl_feed (T : Tx K mg) : DefIs P w K mg base (n + 1) "_law_feed" ["_law_script", "_law_k"] (spFeed K) := by
 refine DefIs.of T.dl_feed scl_feed (fun vs H Q E h => ?_) (fun f cdv A outer s H vs Q E hr h => ?_)
 ·obtain ⟨a, ns, k, rfl, _⟩ := h
  rfl
 obtain ⟨a, ns, k, rfl, hS, h63, hk, q⟩ := h
 have nd := scl_feed.nd
 have hl : (ns.map V.int).length = ns.length := List.length_map _
 refine ⟨_, (zpn (ps_set (i := 2) nd rfl (by walk_at "o") pe_int)
   (zpn (ps_if (pt_cmpR op_lt (pv 1) (pe_callB call_len_seq rfl T.z_len PySem.boot_len (zpc (pv 0) pa_nil zsn)) (nomark _)) (zpo (ps_set (i := 2) nd rfl (by walk_at "o") (pe_ix ix_list (pv 0) (pv 1) (fun _ _ => rfl)))) pss_nil)
   (zpn (ps_if (PW.pt (pw_and (pt_cmpR op_gt (pe_callB call_len_seq rfl T.z_len PySem.boot_len (zpc (pv 0) pa_nil zsn)) pe_int (nomark _)) (pw_and1 (pt_cmpR op_eq (pe_op op_mod (pe_ix ix_list (pv 0) pe_int (fun _ _ => rfl)) pe_int) pe_int (nomark _))))) (zpo (ps_ret (pe_lst (zpc (pv 2) (zpc (pe_op op_add (pe_op op_mod (pe_op op_add (pe_op op_mul (pe_op op_mod (pv 2) pe_int) pe_int) (pe_op op_mul pe_int (pv 1))) pe_int) pe_int) pa_nil star_bin) zsn)))) pss_nil)
   (zpn (ps_if (PW.pt (pw_and (pt_cmpR op_ge (pv 1) (pe_callB call_len_seq rfl T.z_len PySem.boot_len (zpc (pv 0) pa_nil zsn)) (nomark _)) (pw_and1 (pt_cmpR op_gt (pe_callB call_len_seq rfl T.z_len PySem.boot_len (zpc (pv 0) pa_nil zsn)) pe_int (nomark _))))) (zpo (ps_set (i := 2) nd rfl (by walk_at "o") (pe_op op_add (pe_ix ix_list (pv 0) (pe_op op_mod (pv 1) (pe_callB call_len_seq rfl T.z_len PySem.boot_len (zpc (pv 0) pa_nil zsn))) (fun _ _ => rfl)) (pe_op op_mul pe_int (pv 1))))) pss_nil)
   (zpo (ps_ret (pe_lst (zpc pe_int (zpc (pe_op op_add (pe_op op_mod (pe_op op_add (pe_op op_mul (pe_op op_mod (pv 2) pe_int) pe_int) (pe_op op_mul pe_int (pv 1))) pe_int) pe_int) pa_nil star_bin) so)))))))), ?_⟩
 have h0 : 0 < ns.length -> ∃ v : Int, atI (ns.map V.int) 0 = some (.int v) := fun h => at_ints (Int.le_refl 0) (by omega)
 walk_at "rd"
 refine ite2 (fun c => ?_) (fun c => ?_)
 ·have c' := of_decide_eq_true c
  rw [hl] at c'
  obtain ⟨v, hv⟩ := at_ints (ns := ns) hk c'
  obtain ⟨v0, hv0⟩ := h0 (by omega)
  walk_at "rd"
  refine ite2 (fun c2 => ?_) (fun c2 => ?_)
  ·walk_at "rd"
   refine ite2 (fun c3 => ?_) (fun c3 => ?_)
   ·walk_at "rd"
    exact ⟨two_fits, fun l hl' => q l _ _ hl'⟩
   ·walk_at "rd"
    refine ite2 (fun c4 => ?_) (fun c4 => ?_)
    ·have c4' := of_decide_eq_true c4
     rw [hl] at c4'
     omega
    ·refine iteF ?_
     walk_at "rd"
     exact ⟨two_fits, fun l hl' => q l _ _ hl'⟩
  ·have c2' := of_decide_eq_false (Bool.eq_false_iff.mpr c2)
   rw [hl] at c2'
   omega
 ·have c' := of_decide_eq_false (Bool.eq_false_iff.mpr c)
  rw [hl] at c'
  walk_at "rd"
  refine ite2 (fun c2 => ?_) (fun c2 => ?_)
  ·have c2' := of_decide_eq_true c2
   rw [hl] at c2'
   obtain ⟨v0, hv0⟩ := h0 (by omega)
   walk_at "rd"
   refine ite2 (fun c3 => ?_) (fun c3 => ?_)
   ·walk_at "rd"
    exact ⟨two_fits, fun l hl' => q l _ _ hl'⟩
   ·walk_at "rd"
    refine ite2 (fun c4 => ?_) (fun c4 => ?_)
    ·walk_at "rd"
     refine ite2 (fun c5 => ?_) (fun c5 => ?_)
     ·obtain ⟨v, hv⟩ := at_ints (ns := ns) (k := k % (ns.length : Int)) (Int.emod_nonneg _ (by omega)) (Int.emod_lt_of_pos _ (by omega))
      rw [<- hl] at hv
      have hp : (0 : Int) < ((ns.map V.int).length : Nat) := by rw [hl]; omega
      walk_at "rd"
      exact ⟨two_fits, fun l hl' => q l _ _ hl'⟩
     ·walk_at "rd"
      exact ⟨two_fits, fun l hl' => q l _ _ hl'⟩
    ·refine iteF ?_
     walk_at "rd"
     exact ⟨two_fits, fun l hl' => q l _ _ hl'⟩
  ·refine iteF ?_
   walk_at "rd"
   refine ite2 (fun c4 => ?_) (fun c4 => ?_)
   ·walk_at "rd"
    refine ite2 (fun c5 => ?_) (fun c5 => ?_)
    ·have c2' := of_decide_eq_false (Bool.eq_false_iff.mpr c2)
     exact absurd (of_decide_eq_true c5) c2'
    ·walk_at "rd"
     exact ⟨two_fits, fun l hl' => q l _ _ hl'⟩
   ·refine iteF ?_
    walk_at "rd"
    exact ⟨two_fits, fun l hl' => q l _ _ hl'⟩
theorem okl_take (T : Tx K mg) : DefIs P w K mg base (n + 1) "_law_take" ["_law_feed_here", "_law_many"] spTake := by
 refine DefIs.of T.dl_take scl_take (fun vs H Q E h => ?_) (fun f cdv A outer s H vs Q E hr h => ?_)
 ·obtain ⟨a, p, q, m, rfl, _⟩ := h
  rfl
 obtain ⟨a, p, q, m, rfl, ha, m0, m1, k⟩ := h
 have nd := scl_take.nd
 have hS : SqL K H a [.int p, .int q] := SqL.of ha
 refine ⟨_, (zpn (ps_if (pt_cmpR op_gt (pe_ix ix_list (pv 0) pe_int (fun _ _ => rfl)) pe_int (nomark _)) (zpn (ps_set (i := 2) nd rfl (by walk_at "o") (pe_op op_mod (pe_ix ix_list (pv 0) pe_int (fun _ _ => rfl)) (pv 1)))
   (zpn (ps_asg (pe_op op_fdivB (pe_ix ix_list (pv 0) pe_int (fun _ _ => rfl)) (pv 1)) (pg_sub (pv 0) pe_int set_list))
   (zpo (ps_ret (pv 2))))) pss_nil)
   (zpn (ps_set (i := 3) nd rfl (by walk_at "o") (pe_op op_mod (pe_op op_mul (pe_ix ix_list (pv 0) pe_int (fun _ _ => rfl)) pe_int) pe_int))
   (zpn (ps_asg (pe_op op_add (pe_op op_mod (pe_op op_add (pe_op op_mul (pv 3) pe_int) pe_int) pe_int) pe_int) (pg_sub (pv 0) pe_int set_list))
   (zpo (ps_ret (pe_op op_mod (pe_op op_fdivB (pe_op op_add (pe_op op_mul (pv 3) pe_int) (pe_ix ix_list (pv 0) pe_int (fun _ _ => rfl))) pe_int) (pv 1))))))), ?_⟩
 walk_at "rd"
 refine ite2 (fun c => ?_) (fun c => ?_)
 ·walk_at "rd"
  refine k _ _ (Int.emod_nonneg _ (by omega)) (Int.emod_lt_of_pos _ m0) Fed.of
 ·walk_at "rd"
  refine ⟨_, _, _, _, rfl, rfl, SqL.of ups, rfl, ?_⟩
  walk_at "rd"
  refine k _ _ (Int.emod_nonneg _ (by omega)) (Int.emod_lt_of_pos _ m0) Fed.of
end
end K4
end
section
namespace K4
open PySem L2 M
seal L2.PE L2.PA L2.PS L2.PSs L2.PT L2.PW L2.PI L2.PG L2.PJ L2.PTs
def spLName : Sp := fun vs H Q _ => ∃ (a : Addr) (p q : Int), vs = [.ref a] /\ H a = some (.lst [.int p, .int q]) /\ ∀ (x : Str) (H' : Hp), Name x -> Fed a H H' -> Q (.str x) H'
def spWhole : Sp := fun vs H Q _ => ∃ (a : Addr) (p q : Int), vs = [.ref a] /\ H a = some (.lst [.int p, .int q]) /\ ∀ (i : Int) (H' : Hp), 0 <= i -> i < 10 ^ 10 -> Fed a H H' -> Q (.int i) H'
def spSome : Sp := fun vs H Q _ => ∃ (a b : Addr), vs = [.ref a, .ref b] /\ Src H a b /\ ∀ (x : Str) (H' : Hp), Name x -> Fed a H H' -> Q (.str x) H'
def spLeaf : Sp := fun vs H Q _ => ∃ (a b : Addr), vs = [.ref a, .ref b] /\ Src H a b /\ ∀ v d t (H' : Hp), Leaf d t -> RelD H' v d -> Fed a H H' -> Q v H'
section
variable {P : Program} {w : World} {K : PySem.W.Frag} {mg : Str -> Option Value} {base : Heap} {n m : Nat}
theorem okl_name (T : Tx K mg) (Dl_take : DefIs P w K mg base n "_law_take" ["_law_feed_here", "_law_many"] spTake) : DefIs P w K mg base (n + 1) "_law_name" ["_law_feed_here"] spLName := by
 refine DefIs.of T.dl_name scl_name (fun vs H Q E h => ?_) (fun f cdv A outer s H vs Q E hr h => ?_)
 ·obtain ⟨a, p, q, rfl, _⟩ := h
  rfl
 obtain ⟨a, p, q, rfl, ha, k⟩ := h
 have nd := scl_name.nd
 refine ⟨_, (zpn (ps_set (i := 1) nd rfl (by walk_at "o") pe_str)
   (zpn (ps_if (pt_cmpR op_eq (pd Dl_take hr (zpc (pv 0) (zpc pe_int pa_nil so) zsn)) pe_int (nomark _)) (zpn (ps_set (i := 2) nd rfl (by walk_at "o") (pe_lst (pa_strs [Str.ofString "rec", Str.ofString "alt", Str.ofString "hand", Str.ofString "box", Str.ofString "set", Str.ofString "send", Str.ofString "take", Str.ofString "tell", Str.ofString "go", Str.ofString "if", Str.ofString "end", Str.ofString "get", Str.ofString "tag", Str.ofString "case"] rfl)))
   (zpn (ps_set (i := 2) nd rfl (by walk_at "o") (pe_op op_cat (pv 2) (pe_lst (pa_strs [Str.ofString "numx", Str.ofString "recq", Str.ofString "takes", Str.ofString "iff", Str.ofString "itq", Str.ofString "goes", Str.ofString "sends", Str.ofString "tags", Str.ofString "ends", Str.ofString "gets", Str.ofString "way", Str.ofString "with"] rfl))))
   (zpo (ps_ret (pe_ix ix_list (pv 2) (pd Dl_take hr (zpc (pv 0) (zpc pe_int pa_nil so) zsn)) (fun _ _ => rfl)))))) pss_nil)
   (zpn (ps_set (i := 3) nd rfl (by walk_at "o") (pe_bm PySem.F.plainAttrs_str PySem.F.slot_str_join PySem.F.type_str_join mt_join pe_str (zpc (pe_comp ["_law_k", "_law_letters", "_law_feed_here"] [none, some 1, some 0] rfl (by kernel_rfl) (pi_range1 rfl T.z_range (zpc (pe_op op_add pe_int (pd Dl_take hr (zpc (pv 0) (zpc pe_int pa_nil so) zsn))) pa_nil star_bin)) (fun _ _ _ _ => (pg_name (i := 0) (by show List.Nodup (["_law_k", "_law_letters", "_law_feed_here"] : List Str); decide +kernel) rfl (Or.inl rfl))) (fun _ _ _ _ => pts_nil) (fun _ _ _ _ => (pe_ix ix_str (pv 1) (pd Dl_take hr (zpc (pv 2) (zpc pe_int pa_nil so) zsn)) (fun _ _ => rfl)))) pa_nil star_comp)))
   (zpn (ps_if (PW.pt (pw_or (pt_cmpR op_eq (pv 3) pe_str (nomark _)) (pw_or1 (pt_cmpR op_eq (pv 3) pe_str (nomark _))))) (zpo (ps_ret (pe_op op_add_str (pv 3) pe_str))) pss_nil)
   (zpo (ps_ret (pv 3))))))), ?_⟩
 refine ⟨_, rfl, a, p, q, 6, rfl, ha, by decide, by decide, fun r1 H1 r10 r11 f1 => ⟨rfl, _, rfl, ?_⟩⟩
 obtain ⟨p1, q1, h1⟩ := f1.2
 refine ite2 (fun c => ?_) (fun c => ?_)
 ·refine ⟨(by show 14 <= sizeLine; decide), fun l1 hl1 => ?_⟩
  refine ⟨_, rfl, (by show 12 <= sizeLine; decide), fun l2 hl2 => ⟨l1, l2, _, _, rfl, rfl, Same.new hl2 _ _ _ ups, ups, (by show 26 <= sizeLine; decide), fun l3 hl3 => ?_⟩⟩
  have h3 := Same.new hl2 (.lst (nB.map V.str)) _ _ (Same.new hl1 (.lst (nA.map V.str)) _ _ h1)
  refine ⟨_, rfl, _, rfl, a, p1, q1, 26, rfl, Same.new hl3 _ _ _ h3, by decide, by decide, fun r2 H2 r20 r21 f2 => ?_⟩
  obtain ⟨y, hy, hv⟩ := at26 r20 r21
  have hla : l3 ≠ a := fun e => by
   rw [e] at hl3
   exact absurd (h3.symm.trans hl3) (by simp)
  refine ⟨l3, _, _, _, rfl, rfl, SqL.of (f2.1 l3 _ ups hla), hv, ?_⟩
  refine k y _ (names26_all y hy) (f1.trans ⟨fun b o e nb => f2.1 b o (Same.new hl3 _ _ _ (Same.new hl2 _ _ _ (Same.new hl1 _ _ _ e))) nb, f2.2⟩)
 ·refine ⟨rfl, _, rfl, a, p1, q1, 6, rfl, h1, by decide, by decide, fun r2 H2 r20 r21 f2 => ⟨_, _, rfl, rfl, _, rfl, by omega, by omega, ?_⟩⟩
  refine comp_range (j := 0) (fun i ys H' => Fed a H H' /\ ∃ cs : List Nat, ys = (cs.map single).map V.str /\ ∀ c ∈ cs, isLetter c = true) (by rfl) ⟨f1.trans f2, [], rfl, fun _ h => nomatch h⟩ ?_ ?_ ?_
  ·exact fitsLt (by omega)
  ·rintro i ys H3 hi hl ⟨f3, cs, rfl, hcs⟩
   obtain ⟨p3, q3, h3⟩ := f3.2
   refine ⟨_, rfl, _, rfl, a, p3, q3, 26, rfl, h3, by decide, by decide, fun r4 H4 r40 r41 f4 => ?_⟩
   obtain ⟨ch, _, hc⟩ := at_codes (cs := (S "abcdefghijklmnopqrstuvwxyz").cps.toList) r40 (by rw [show (S "abcdefghijklmnopqrstuvwxyz").cps.toList.length = 26 by walk_at "k"]; exact r41)
   refine ⟨_, _, ch, rfl, rfl, by walk_at "k", hc, ?_⟩
   exact nxt hi hl ⟨f3.trans f4, cs ++ [ch], by simp [single], fun c hcm => by
    rcases List.mem_append.mp hcm with hcm | hcm
    ·exact hcs c hcm
    ·rw [List.mem_singleton.mp hcm]; exact letter_at hc⟩
  ·rintro ys H3 hl ⟨f3, cs, rfl, hcs⟩ D3 hD
   rw [List.length_map, List.length_map] at hl
   refine ⟨S "", D3, cs.map single, rfl, rfl, SqL.of ups, ?_, ?_⟩
   ·rw [sum_singles, show (S "").length = 0 by walk_at "k"]
    omega
   rw [join_singles]
   have f4 := f3.new hD (.lst ((cs.map single).map V.str))
   refine ⟨_, rfl, rfl, _, rfl, ?_⟩
   refine ite2 (fun c1 => ?_) (fun c1 => ?_)
   ·have c1' : ofL cs = S "num" := V.str.inj (of_decide_eq_true c1)
    refine iteT ?_
    rw [c1']
    exact ⟨_, rfl, _, _, rfl, rfl, (by walk_at "k"), k _ _ (show nameL _ = true by walk_at "k") f4⟩
   ·have c1' : ofL cs ≠ S "num" := fun e => of_decide_eq_false (Bool.eq_false_iff.mpr c1) (congrArg V.str e)
    refine ⟨_, rfl, rfl, _, rfl, ?_⟩
    refine ite2 (fun c2 => ?_) (fun c2 => ?_)
    ·have c2' : ofL cs = S "it" := V.str.inj (of_decide_eq_true c2)
     rw [c2']
     exact ⟨_, rfl, _, _, rfl, rfl, (by walk_at "k"), k _ _ (show nameL _ = true by walk_at "k") f4⟩
    ·have c2' : ofL cs ≠ S "it" := fun e => of_decide_eq_false (Bool.eq_false_iff.mpr c2) (congrArg V.str e)
     exact ⟨_, rfl, k _ _ (name_drawn (by omega) (by omega) hcs c1' c2') f4⟩
theorem okl_whole (T : Tx K mg) (Dl_take : DefIs P w K mg base n "_law_take" ["_law_feed_here", "_law_many"] spTake) : DefIs P w K mg base (n + 1) "_law_whole" ["_law_feed_here"] spWhole := by
 refine DefIs.of T.dl_whole scl_whole (fun vs H Q E h => ?_) (fun f cdv A outer s H vs Q E hr h => ?_)
 ·obtain ⟨a, p, q, rfl, _⟩ := h
  rfl
 obtain ⟨a, p, q, rfl, ha, k⟩ := h
 have nd := scl_whole.nd
 have e1 : (10 : Int) ^ (10 : Int).toNat = 10000000000 := by decide
 have e2 : (2 : Int) ^ (32 : Int).toNat = 4294967296 := by decide
 refine ⟨_, (zpn (ps_set (i := 1) nd rfl (by walk_at "o") (pd Dl_take hr (zpc (pv 0) (zpc pe_int pa_nil so) zsn)))
   (zpn (ps_if (pt_cmpR op_eq (pv 1) pe_int (nomark _)) (zpo (ps_ret (pd Dl_take hr (zpc (pv 0) (zpc pe_int pa_nil so) zsn)))) pss_nil)
   (zpn (ps_if (pt_cmpR op_eq (pv 1) pe_int (nomark _)) (zpo (ps_ret (pe_op op_sub (pe_op op_sub (pe_op op_pow pe_int pe_int) pe_int) (pd Dl_take hr (zpc (pv 0) (zpc pe_int pa_nil so) zsn))))) pss_nil)
   (zpn (ps_if (pt_cmpR op_eq (pv 1) pe_int (nomark _)) (zpo (ps_ret (pe_op op_add (pe_op op_sub (pe_op op_pow pe_int pe_int) pe_int) (pd Dl_take hr (zpc (pv 0) (zpc pe_int pa_nil so) zsn))))) pss_nil)
   (zpo (ps_ret (pd Dl_take hr (zpc (pv 0) (zpc (pe_op op_pow pe_int pe_int) pa_nil star_bin) zsn)))))))), ?_⟩
 refine ⟨_, rfl, a, p, q, 4, rfl, ha, by decide, by decide, fun r1 H1 r10 r11 f1 => ?_⟩
 obtain ⟨p1, q1, h1⟩ := f1.2
 refine ⟨_, rfl, rfl, _, rfl, ?_⟩
 refine ite2 (fun c => ?_) (fun c => ?_)
 ·exact ⟨_, rfl, a, p1, q1, 12, rfl, h1, by decide, by decide, fun r2 H2 r20 r21 f2 => k _ _ r20 (by omega) (f1.trans f2)⟩
 refine ⟨_, rfl, rfl, _, rfl, ?_⟩
 refine ite2 (fun c => ?_) (fun c => ?_)
 ·refine ⟨_, _, rfl, rfl, ⟨by decide, by decide, by decide⟩, _, _, rfl, rfl, _, rfl, a, p1, q1, 5, rfl, h1, by decide, by decide, fun r2 H2 r20 r21 f2 => ⟨_, _, rfl, rfl, k _ _ (by omega) (by omega) (f1.trans f2)⟩⟩
 refine ⟨_, rfl, rfl, _, rfl, ?_⟩
 refine ite2 (fun c => ?_) (fun c => ?_)
 ·refine ⟨_, _, rfl, rfl, ⟨by decide, by decide, by decide⟩, _, _, rfl, rfl, _, rfl, a, p1, q1, 5, rfl, h1, by decide, by decide, fun r2 H2 r20 r21 f2 => ⟨_, _, rfl, rfl, k _ _ (by omega) (by omega) (f1.trans f2)⟩⟩
 ·refine ⟨_, rfl, _, _, rfl, rfl, ⟨by decide, by decide, by decide⟩, a, p1, q1, _, rfl, h1, by omega, by omega, fun r2 H2 r20 r21 f2 => k _ _ r20 (by omega) (f1.trans f2)⟩
theorem okl_some (T : Tx K mg) (Dl_take : DefIs P w K mg base n "_law_take" ["_law_feed_here", "_law_many"] spTake) : DefIs P w K mg base (n + 1) "_law_some" ["_law_feed_here", "_law_pool"] spSome := by
 refine DefIs.of T.dl_some scl_some (fun vs H Q E h => ?_) (fun f cdv A outer s H vs Q E hr h => ?_)
 ·obtain ⟨a, b, rfl, _⟩ := h
  rfl
 obtain ⟨a, b, rfl, src, k⟩ := h
 obtain ⟨p, q, ha⟩ := src.feed
 obtain ⟨ys, hb, h8, hN⟩ := src.pool
 refine ⟨_, (zpo (ps_ret (pe_ix ix_list (pv 1) (pd Dl_take hr (zpc (pv 0) (zpc (pe_callB call_len_seq rfl T.z_len PySem.boot_len (zpc (pv 1) pa_nil zsn)) pa_nil zsc) zsn)) (fun _ _ => rfl)))), ?_⟩
 have hl : (ys.map V.str).length = 8 := by rw [List.length_map, h8]
 refine ⟨_, rfl, _, rfl, _, rfl, b, _, rfl, .inl (SqL.of hb), a, p, q, _, rfl, ha, by omega, by omega, fun r2 H2 r20 r21 f2 => ?_⟩
 obtain ⟨z, hz, hv⟩ := at_codes (cs := ys.map V.str) r20 r21
 obtain ⟨y, hy, rfl⟩ := List.mem_map.mp hz
 exact ⟨b, _, _, _, rfl, rfl, SqL.of (f2.1 b _ hb src.ne.symm), hv, k y _ (hN y hy) f2⟩
theorem okl_leaf (T : Tx K mg) (Dl_take : DefIs P w K mg base n "_law_take" ["_law_feed_here", "_law_many"] spTake) (Dl_whole : DefIs P w K mg base n "_law_whole" ["_law_feed_here"] spWhole) (Dl_some : DefIs P w K mg base n "_law_some" ["_law_feed_here", "_law_pool"] spSome) : DefIs P w K mg base (n + 1) "_law_leaf" ["_law_feed_here", "_law_pool"] spLeaf := by
 refine DefIs.of T.dl_leaf scl_leaf (fun vs H Q E h => ?_) (fun f cdv A outer s H vs Q E hr h => ?_)
 ·obtain ⟨a, b, rfl, _⟩ := h
  rfl
 obtain ⟨a, b, rfl, src, k⟩ := h
 obtain ⟨p, q, ha⟩ := src.feed
 refine ⟨_, (zpn (ps_if (pt_cmpR op_eq (pd Dl_take hr (zpc (pv 0) (zpc pe_int pa_nil so) zsn)) pe_int (nomark _)) (zpo (ps_ret (pe_tup (zpc pe_str (zpc (pd Dl_whole hr (zpc (pv 0) pa_nil zsn)) pa_nil zsc) so)))) pss_nil)
   (zpo (ps_ret (pe_tup (zpc pe_str (zpc (pd Dl_some hr (zpc (pv 0) (zpc (pv 1) pa_nil zsn) zsn)) pa_nil zsc) so))))), ?_⟩
 refine ⟨_, rfl, a, p, q, 2, rfl, ha, by decide, by decide, fun r1 H1 r10 r11 f1 => ⟨rfl, _, rfl, ?_⟩⟩
 obtain ⟨p1, q1, h1⟩ := f1.2
 refine ite2 (fun c => ?_) (fun c => ?_)
 ·refine ⟨_, rfl, a, p1, q1, rfl, h1, fun i H2 i0 i1 f2 => ⟨(by show 2 <= sizeLine; decide), fun l hl => ?_⟩⟩
  exact k _ _ _ _ (.inl ⟨i, i0, i1, rfl, rfl⟩) ⟨l, _, rfl, ups, _, _, rfl, rfl, _, _, rfl, rfl, rfl⟩ ((f1.trans f2).new hl _)
 ·refine ⟨_, rfl, _, rfl, a, b, rfl, src.fed f1, fun x H2 hx f2 => ⟨(by show 2 <= sizeLine; decide), fun l hl => ?_⟩⟩
  exact k _ _ _ _ (.inr ⟨x, hx, rfl, rfl⟩) ⟨l, _, rfl, ups, _, _, rfl, rfl, _, _, rfl, rfl, rfl⟩ ((f1.trans f2).new hl _)
end
end K4
end
section
namespace M
open PySem
theorem cs_cons (t : Tr) (ts : List Tr) : (Tr.l (t :: ts)).cs.length = t.cs.length + (bs ts).length + 2 := by
 rw [cs_l, bs_tail, List.length_append]
theorem bs_len_cons (t : Tr) (ts : List Tr) : (bs (t :: ts)).length = 1 + t.cs.length + (bs ts).length := by
 show (32 :: (t.cs ++ bs ts)).length = _
 rw [List.length_cons, List.length_append]
 omega
theorem bs_len_nil : (bs []).length = 0 := rfl
theorem bs_len_le {B : Nat} : ∀ {ts : List Tr}, (∀ t ∈ ts, t.cs.length <= B) -> (bs ts).length <= ts.length * (B + 1)
 | [], _ => Nat.zero_le _
 | t :: ts, h => by
  have ih := bs_len_le (ts := ts) fun u hu => h u (by simp [hu])
  have h1 := h t (by simp)
  rw [bs_len_cons, List.length_cons, Nat.succ_mul]
  omega
theorem tx_len {x : Str} (h : Name x) : (tx x).cs.length <= 6 := h.le
theorem mul80 {k q r : Nat} (h : k * q <= r) : k * (80 * q + 1) <= 80 * r + k := by
 rw [Nat.mul_add, Nat.mul_one, Nat.mul_left_comm]
 have := Nat.mul_le_mul_left 80 h
 omega
theorem mul80a {k q r : Nat} (h : k * q <= r) : k * (16 + 80 * q + 1) <= 80 * r + 17 * k := by
 rw [show 16 + 80 * q + 1 = 80 * q + 17 by omega, Nat.mul_add, Nat.mul_left_comm]
 have := Nat.mul_le_mul_left 80 h
 omega
end M
end
section
namespace K4
open PySem L2 M
seal L2.PE L2.PA L2.PS L2.PSs L2.PT L2.PW L2.PI L2.PG L2.PJ L2.PTs
def spTerm (m : Nat) : Sp := fun vs H Q _ => ∃ (a b : Addr) (r e : Int), vs = [.ref a, .ref b, .int r, .int e] /\ e = m /\ 1 <= r /\ Src H a b /\ ∀ v d t (H' : Hp), T2 m d t -> t.cs.length <= 80 * r.toNat -> RelD H' v d -> Fed a H H' -> Q v H'
section
variable {P : Program} {w : World} {K : PySem.W.Frag} {mg : Str -> Option Value} {base : Heap} {n m : Nat}
theorem many_at {f t6 t4 : Int} (h1 : 1 <= f) (h7 : f < 8) (a0 : 0 <= t6) (a1 : t6 < 6) (b0 : 0 <= t4) (b1 : t4 < 4) : ∃ k : Nat, atI [V.int 0, .int 2, .int t6, .int 1, .int 1, .int (2 + t4), .int 3, .int 2] f = some (.int k) /\ k <= 5 ∧
  ((f = 1 \/ f = 7) -> k = 2) /\ ((f = 3 \/ f = 4) -> k = 1) /\ (f = 5 -> 2 <= k) /\ (f = 6 -> k = 3) := by
 have hf : f = 1 \/ f = 2 \/ f = 3 \/ f = 4 \/ f = 5 \/ f = 6 \/ f = 7 := by omega
 rcases hf with rfl | rfl | rfl | rfl | rfl | rfl | rfl
 ·exact ⟨2, rfl, by omega, by omega, by omega, by omega, by omega⟩
 ·refine ⟨t6.toNat, ?_, by omega, by omega, by omega, by omega, by omega⟩
  show some (V.int t6) = _
  rw [Int.toNat_of_nonneg a0]
 ·exact ⟨1, rfl, by omega, by omega, by omega, by omega, by omega⟩
 ·exact ⟨1, rfl, by omega, by omega, by omega, by omega, by omega⟩
 ·refine ⟨(2 + t4).toNat, ?_, by omega, by omega, by omega, by omega, by omega⟩
  show some (V.int (2 + t4)) = _
  rw [Int.toNat_of_nonneg (by omega)]
 ·exact ⟨3, rfl, by omega, by omega, by omega, by omega, by omega⟩
 ·exact ⟨2, rfl, by omega, by omega, by omega, by omega, by omega⟩
theorem ops_at {r : Int} {c : Nat} (h : atI (Str.ofString "+-*<=").cps.toList r = some c) : (⟨#[c]⟩ : Str) ∈ ops := by
 obtain ⟨j, _, e, _⟩ := atI_get h
 have hm := List.mem_of_getElem? e
 have all : ∀ c ∈ (Str.ofString "+-*<=").cps.toList, (⟨#[c]⟩ : Str) ∈ ops := by walk_at "k"
 exact all c hm
theorem cut1 (x : V) (r : List V) : cutV (x :: r) (some 1) none = r := by
 unfold cutV
 have e1 : HT.sIx (x :: r).length 0 (some 1) = 1 := by
  rw [show ((1 : Int)) = ((1 : Nat) : Int) from rfl, HT.sIx_nat]
  simp
 rw [e1, HT.sIx_none]
 show List.take (_ - 1) r = r
 exact List.take_of_length_le (by simp)
theorem okl_term (T : Tx K mg) (sp0 : Sp) (Dl_take : DefIs P w K mg base n "_law_take" ["_law_feed_here", "_law_many"] spTake) (Dl_leaf : DefIs P w K mg base n "_law_leaf" ["_law_feed_here", "_law_pool"] spLeaf) (Dl_some : DefIs P w K mg base n "_law_some" ["_law_feed_here", "_law_pool"] spSome)
  (Dl_term : DefIs P w K mg base n "_law_term" ["_law_feed_here", "_law_pool", "_law_room_here", "_law_deep"] sp0) (hsp : ∀ k, m = k + 1 -> sp0 = spTerm k) : DefIs P w K mg base (n + 1) "_law_term" ["_law_feed_here", "_law_pool", "_law_room_here", "_law_deep"] (spTerm m) := by
 refine DefIs.of T.dl_term scl_term (fun vs H Q E h => ?_) (fun f cdv A outer s H vs Q E hr h => ?_)
 ·obtain ⟨a, b, r, e, rfl, _⟩ := h
  rfl
 obtain ⟨a, b, r, e, rfl, rfl, r1, src, k⟩ := h
 have nd := scl_term.nd
 obtain ⟨p, q, ha⟩ := src.feed
 refine ⟨_, (zpn (ps_set (i := 4) nd rfl (by walk_at "o") (pd Dl_take hr (zpc (pv 0) (zpc pe_int pa_nil so) zsn)))
   (zpn (ps_if (PW.pt (pw_or (pt_cmpR op_lt (pv 2) pe_int (nomark _)) (pw_or (pt_cmpR op_eq (pv 3) pe_int (nomark _)) (pw_or1 (pt_cmpR op_eq (pv 4) pe_int (nomark _)))))) (zpo (ps_ret (pd Dl_leaf hr (zpc (pv 0) (zpc (pv 1) pa_nil zsn) zsn)))) pss_nil)
   (zpn (ps_set (i := 5) nd rfl (by walk_at "o") (pe_ix ix_list (pe_lst (zpc pe_int (zpc pe_int (zpc (pd Dl_take hr (zpc (pv 0) (zpc pe_int pa_nil so) zsn)) (zpc pe_int (zpc pe_int (zpc (pe_op op_add pe_int (pd Dl_take hr (zpc (pv 0) (zpc pe_int pa_nil so) zsn))) (zpc pe_int (zpc pe_int pa_nil so) so) star_bin) so) so) zsc) so) so)) (pv 4) (fun _ _ => rfl)))
   (zpn (ps_setComp (i := 6) ["_law_k", "_law_feed_here", "_law_pool", "_law_deep", "_law_room_here", "_law_many"] [none, some 0, some 1, some 3, some 2, some 5] rfl (by kernel_rfl) nd rfl (by walk_at "o") (pi_range1 rfl T.z_range (zpc (pv 5) pa_nil zsn)) (fun _ _ _ _ => (pg_name (i := 0) (by show List.Nodup (["_law_k", "_law_feed_here", "_law_pool", "_law_deep", "_law_room_here", "_law_many"] : List Str); decide +kernel) rfl (Or.inl rfl))) (fun _ _ _ _ => pts_nil) (fun _ _ _ _ => (pd Dl_term hr (zpc (pv 1) (zpc (pv 2) (zpc (pe_op op_fdivB (pe_op op_sub (pv 4) pe_int) (pe_callB (call_max2 rfl) rfl T.z_max PyProof.Rows.boot_max (zpc pe_int (zpc (pv 5) pa_nil zsn) so))) (zpc (pe_op op_sub (pv 3) pe_int) pa_nil star_bin) star_bin) zsn) zsn))))
   (zpn (ps_if (pt_cmpR op_eq (pv 4) pe_int (nomark _)) (zpo (ps_ret (pe_tup (zpc pe_str (zpc (pd Dl_some hr (zpc (pv 0) (zpc (pv 1) pa_nil zsn) zsn)) (zpc (pe_callTy call_tuple_of rfl T.z_tuple PyProof.Rows.boot_tuple (zpc (pv 6) pa_nil zsn)) pa_nil zsc) zsc) so)))) pss_nil)
   (zpn (ps_if (pt_cmpR op_eq (pv 4) pe_int (nomark _)) (zpo (ps_ret (pe_tup (zpc pe_str (zpc (pe_ix ix_list (pv 6) pe_int (fun _ _ => rfl)) (zpc (pd Dl_some hr (zpc (pv 0) (zpc (pv 1) pa_nil zsn) zsn)) pa_nil zsc) ss) so)))) pss_nil)
   (zpn (ps_if (pt_cmpR op_eq (pv 4) pe_int (nomark _)) (zpo (ps_ret (pe_tup (zpc pe_str (zpc (pd Dl_some hr (zpc (pv 0) (zpc (pv 1) pa_nil zsn) zsn)) (zpc (pd Dl_some hr (zpc (pv 0) (zpc (pv 1) pa_nil zsn) zsn)) (zpc (pe_ix ix_list (pv 6) pe_int (fun _ _ => rfl)) pa_nil ss) zsc) zsc) so)))) pss_nil)
   (zpn (ps_if (pt_cmpR op_eq (pv 4) pe_int (nomark _)) (zpn (ps_setComp (i := 7) ["_law_one", "_law_feed_here", "_law_pool"] [none, some 0, some 1] rfl (by kernel_rfl) nd rfl (by walk_at "o") (pi_list (pe_slice sl_list (pv 6) (po_some pe_int) po_none)) (fun _ _ _ _ => (pg_name (i := 0) (by show List.Nodup (["_law_one", "_law_feed_here", "_law_pool"] : List Str); decide +kernel) rfl (Or.inl rfl))) (fun _ _ _ _ => pts_nil) (fun _ _ _ _ => (pe_tup (zpc (pd Dl_some hr (zpc (pv 1) (zpc (pv 2) pa_nil zsn) zsn)) (zpc (pd Dl_some hr (zpc (pv 1) (zpc (pv 2) pa_nil zsn) zsn)) (zpc (pv 0) pa_nil zsn) zsc) zsc))))
   (zpo (ps_ret (pe_tup (zpc pe_str (zpc (pe_ix ix_list (pv 6) pe_int (fun _ _ => rfl)) (zpc (pe_callTy call_tuple_of rfl T.z_tuple PyProof.Rows.boot_tuple (zpc (pv 7) pa_nil zsn)) pa_nil zsc) ss) so))))) pss_nil)
   (zpn (ps_if (pt_cmpR op_eq (pv 4) pe_int (nomark _)) (zpo (ps_ret (pe_tup (zpc pe_str (zpc (pe_ix ix_list (pv 6) pe_int (fun _ _ => rfl)) (zpc (pe_ix ix_list (pv 6) pe_int (fun _ _ => rfl)) (zpc (pe_ix ix_list (pv 6) pe_int (fun _ _ => rfl)) pa_nil ss) ss) ss) so)))) pss_nil)
   (zpo (ps_ret (pe_tup (zpc pe_str (zpc (pe_ix ix_str pe_str (pd Dl_take hr (zpc (pv 0) (zpc pe_int pa_nil so) zsn)) (fun _ _ => rfl)) (zpc (pe_ix ix_list (pv 6) pe_int (fun _ _ => rfl)) (zpc (pe_ix ix_list (pv 6) pe_int (fun _ _ => rfl)) pa_nil ss) ss) ss) so))))))))))))), ?_⟩
 refine ⟨_, rfl, a, p, q, 8, rfl, ha, by decide, by decide, fun f1 H1 f10 f11 g1 => ?_⟩
 have src1 := src.fed g1
 have leaf : ∀ H2 : Hp, Fed a H H2 -> Src H2 a b -> spLeaf [.ref a, .ref b] H2 Q E0 := fun H2 g2 src2 => ⟨a, b, rfl, src2, fun v d t H3 hl hr3 g3 => k v d t H3 (.leaf hl) (by have := leaf_len hl; omega) hr3 (g2.trans g3)⟩
 refine ⟨_, rfl, _, _, rfl, rfl, _, rfl, ?_⟩
 refine ite2 (fun c1 => ?_) (fun c1 => ?_)
 ·exact iteT ⟨_, rfl, _, rfl, leaf H1 g1 src1⟩
 refine ⟨_, rfl, rfl, _, rfl, ?_⟩
 refine ite2 (fun c2 => ?_) (fun c2 => ?_)
 ·exact iteT ⟨_, rfl, _, rfl, leaf H1 g1 src1⟩
 refine ⟨_, rfl, rfl, _, rfl, ?_⟩
 refine ite2 (fun c3 => ?_) (fun c3 => ?_)
 ·exact ⟨_, rfl, _, rfl, leaf H1 g1 src1⟩
 have d2 : (m : Int) ≠ 0 := fun e => of_decide_eq_false (Bool.eq_false_iff.mpr c2) (by rw [e])
 have d1 : ¬ r < 6 := of_decide_eq_false (Bool.eq_false_iff.mpr c1)
 have d3 : f1 ≠ 0 := fun e => of_decide_eq_false (Bool.eq_false_iff.mpr c3) (by rw [e])
 obtain ⟨m', rfl⟩ : ∃ m', m = m' + 1 := ⟨m - 1, by omega⟩
 have hsp' := hsp m' rfl
 subst hsp'
 obtain ⟨p1, q1, h1⟩ := src1.feed
 refine ⟨_, rfl, a, p1, q1, 6, rfl, h1, by decide, by decide, fun t6 H2 a0 a1 g2 => ?_⟩
 have src2 := src1.fed g2
 obtain ⟨p2, q2, h2⟩ := src2.feed
 refine ⟨_, rfl, a, p2, q2, 4, rfl, h2, by decide, by decide, fun t4 H3 b0 b1 g3 => ?_⟩
 have src3 := src2.fed g3
 refine ⟨_, _, rfl, rfl, (by show 8 <= sizeLine; decide), fun l hl => ?_⟩
 obtain ⟨mk, hmk, mk5, k17, k34, k5, k6⟩ := many_at (f := f1) (by omega) f11 a0 a1 b0 b1
 refine ⟨_, rfl, l, _, _, _, rfl, rfl, SqL.of ups, hmk, ?_⟩
 have s4 := Same.new hl (.lst [V.int 0, .int 2, .int t6, .int 1, .int 1, .int (2 + t4), .int 3, .int 2])
 have src4 := src3.same s4
 have g4 : Fed a H (upd H3 l (.lst [V.int 0, .int 2, .int t6, .int 1, .int 1, .int (2 + t4), .int 3, .int 2])) := (g1.trans (g2.trans g3)).new hl _
 generalize upd H3 l (.lst [V.int 0, .int 2, .int t6, .int 1, .int 1, .int (2 + t4), .int 3, .int 2]) = H4 at s4 src4 g4 ⊢
 obtain ⟨q, hq⟩ : ∃ q : Int, q = (r - 1) / (if (mk : Int) > 1 then (mk : Int) else 1) := ⟨_, rfl⟩
 have hq1 : 1 <= q /\ mk * q.toNat <= r.toNat - 1 /\ q.toNat <= r.toNat - 1 := by
  obtain ⟨dv, hdv⟩ : ∃ dv : Int, dv = (if (mk : Int) > 1 then (mk : Int) else 1) := ⟨_, rfl⟩
  rw [<- hdv] at hq
  have v1 : 1 <= dv /\ dv <= 5 /\ (mk : Int) <= dv := by rw [hdv]; split <;> omega
  have h1 : q * dv <= r - 1 := by rw [hq]; exact Int.ediv_mul_le _ (by omega)
  have h2 : 1 <= q := by rw [hq]; exact (Int.le_ediv_iff_mul_le (by omega)).mpr (by omega)
  have h3 : (mk : Int) * q <= q * dv := by rw [Int.mul_comm q dv]; exact Int.mul_le_mul_of_nonneg_right v1.2.2 (by omega)
  have h4 : q <= q * dv := by
   have := Int.mul_le_mul_of_nonneg_left v1.1 (show 0 <= q by omega)
   rw [Int.mul_one] at this
   exact this
  obtain ⟨qn, rfl⟩ : ∃ n : Nat, q = (n : Int) := ⟨q.toNat, by omega⟩
  have h5 : ((mk * qn : Nat) : Int) = (mk : Int) * (qn : Int) := by rw [Int.natCast_mul]
  rw [Int.toNat_natCast]
  refine ⟨h2, ?_, by omega⟩
  omega
 obtain ⟨q1, qm, qs⟩ := hq1
 refine ⟨_, rfl, _, rfl, by omega, by omega, ?_⟩
 rw [Int.toNat_natCast]
 refine comp_range (j := 0) (fun i ys H' => Fed a H4 H' /\ ∃ ds ts, RelDs H' ys ds /\ All2 (T2 m') ds ts /\ ds.length = i /\ ∀ t ∈ ts, t.cs.length <= 80 * q.toNat) (by rfl) ⟨src4.refl, [], [], rfl, .nil, rfl, fun _ h => nomatch h⟩ (fitsLt (by omega)) ?_ ?_
 ·rintro i ys H5 hi hly ⟨g5, ds, ts, rd, al, el, lb⟩
  have src5 := src4.fed g5
  refine ⟨_, rfl, _, rfl, _, rfl, _, _, rfl, rfl, _, rfl, _, _, rfl, _, _, rfl, rfl, ?_, _, rfl, _, _, rfl, rfl, a, b, _, _, rfl, by omega, ?_, src5, fun v d t H6 h6 l6 r6 g6 => nxt hi hly ⟨g5.trans g6, ds ++ [d], ts ++ [t], ?_, al.append (.cons h6 .nil), by rw [List.length_append, el]; rfl, ?_⟩⟩
  ·unfold CDivB
   split <;> omega
  ·rw [<- hq]
   exact q1
  ·exact (src5.relDs g6 rd).append ⟨v, [], rfl, r6, rfl⟩
  ·intro u hu
   rcases List.mem_append.mp hu with hu | hu
   ·exact lb u hu
   ·rw [List.mem_singleton.mp hu, hq]; exact l6
 rintro ys H5 hly ⟨g5, ds, ts, rd, al, el, lb⟩ D hD
 have sD := Same.new hD (.lst ys)
 have src5 := (src4.fed g5).same sD
 have g6 : Fed a H (upd H5 D (.lst ys)) := (g4.trans g5).new hD _
 have rd6 := rd.same sD _
 have hDa : D ≠ a := fun e => by
  obtain ⟨p5, q5, h5⟩ := (src4.fed g5).feed
  rw [e, h5] at hD; cases hD
 have hys : (upd H5 D (.lst ys)) D = some (.lst ys) := ups
 have lenT := al.length
 have lenY := rd.length
 generalize upd H5 D (.lst ys) = H6 at sD src5 g6 rd6 hys ⊢
 have item : ∀ (j : Nat), j < mk -> ∃ v d t, ys[j]? = some v /\ ds[j]? = some d /\ ts[j]? = some t /\ RelD H6 v d /\ T2 m' d t /\ t.cs.length <= 80 * q.toNat := fun j hj => by
  have hv : ys[j]? = some ys[j] := List.getElem?_eq_getElem (by omega)
  obtain ⟨d, hd, rv⟩ := rd6.get hv
  obtain ⟨t, ht, h2⟩ := al.get hd
  exact ⟨_, d, t, hv, hd, ht, rv, h2, lb t (List.mem_of_getElem? ht)⟩
 refine ⟨_, rfl, rfl, _, rfl, ?_⟩
 refine ite2 (fun c => ?_) (fun c => ?_)
 ·refine ⟨_, rfl, _, rfl, a, b, rfl, src5, fun x H7 hx g7 => ?_⟩
  refine ⟨_, rfl, D, ys, rfl, .inl ⟨SqL.of (g7.1 D _ hys hDa), fun t2 ht2 => ⟨(by show 3 <= sizeLine; decide), fun l3 hl3 => ?_⟩⟩⟩
  have st := Same.new ht2 (.tup ys)
  have sl := Same.new hl3 (.tup [.str (S "rec"), .str x, .ref t2])
  refine k _ _ _ _ (.inr (.inr (.inl ⟨x, ds, ts, hx, by omega, al, rfl, rfl⟩))) ?_ ⟨l3, _, rfl, ups, _, _, rfl, rfl, _, _, rfl, rfl, _, _, rfl, ⟨t2, ys, rfl, sl _ _ ups, ?_⟩, rfl⟩ (((g6.trans g7).new ht2 _).new hl3 _)
  ·have e1 := bs_len_le lb
   have e2 := mul80 qm
   have e3 := tx_len hx
   have e4 : (tx (S "rec")).cs.length = 3 := by walk_at "k"
   rw [cs_cons, bs_len_cons]
   rw [show ts.length = mk by omega] at e1
   omega
  ·exact (src5.relDs g7 rd6).same (st.trans sl) _
 refine ⟨_, rfl, rfl, _, rfl, ?_⟩
 refine ite2 (fun c' => ?_) (fun c' => ?_)
 ·have ef : f1 = 3 := V.int.inj (of_decide_eq_true c')
  have hk := k34 (.inl ef)
  obtain ⟨v0, d0, t0, hv0, hd0, ht0, r0, h0, b0'⟩ := item 0 (by omega)
  refine ⟨_, rfl, D, ys, 0, v0, rfl, rfl, SqL.of hys, atI_nat (j := 0) hv0, ?_⟩
  refine ⟨_, rfl, _, rfl, a, b, rfl, src5, fun x H7 hx g7 => ⟨(by show 3 <= sizeLine; decide), fun l3 hl3 => ?_⟩⟩
  have e3 := tx_len hx
  have e4 : (tx (S "get")).cs.length = 3 := by walk_at "k"
  exact k _ _ _ _ (.inr (.inr (.inr (.inl ⟨d0, t0, x, hx, h0, rfl, rfl⟩)))) (by rw [cs_cons, bs_len_cons, bs_len_cons, bs_len_nil]; omega) ⟨l3, _, rfl, ups, _, _, rfl, rfl, v0, _, rfl, (src5.relD g7 r0).same (Same.new hl3 _) _, _, _, rfl, rfl, rfl⟩ ((g6.trans g7).new hl3 _)
 refine ⟨_, rfl, rfl, _, rfl, ?_⟩
 refine ite2 (fun c'' => ?_) (fun c'' => ?_)
 ·have ef : f1 = 4 := V.int.inj (of_decide_eq_true c'')
  have hk := k34 (.inr ef)
  obtain ⟨v0, d0, t0, hv0, hd0, ht0, r0, h0, b0'⟩ := item 0 (by omega)
  refine ⟨_, rfl, _, rfl, a, b, rfl, src5, fun x H7 hx g7 => ?_⟩
  refine ⟨_, rfl, _, rfl, a, b, rfl, src5.fed g7, fun y H8 hy g8 => ?_⟩
  have g78 := g7.trans g8
  refine ⟨_, rfl, D, ys, 0, v0, rfl, rfl, SqL.of (g78.1 D _ hys hDa), atI_nat (j := 0) hv0, (by show 4 <= sizeLine; decide), fun l3 hl3 => ?_⟩
  have e3 := tx_len hx
  have e5 := tx_len hy
  have e4 : (tx (S "tag")).cs.length = 3 := by walk_at "k"
  exact k _ _ _ _ (.inr (.inr (.inr (.inr (.inl ⟨x, y, d0, t0, hx, hy, h0, rfl, rfl⟩))))) (by rw [cs_cons, bs_len_cons, bs_len_cons, bs_len_cons, bs_len_nil]; omega) ⟨l3, _, rfl, ups, _, _, rfl, rfl, _, _, rfl, rfl, _, _, rfl, rfl, v0, _, rfl, (src5.relD g78 r0).same (Same.new hl3 _) _, rfl⟩ ((g6.trans g78).new hl3 _)
 refine ⟨_, rfl, rfl, _, rfl, ?_⟩
 refine ite2 (fun c5 => ?_) (fun c5 => ?_)
 ·have ef : f1 = 5 := V.int.inj (of_decide_eq_true c5)
  have hk := k5 ef
  obtain ⟨v0, d0, t0, hv0, hd0, ht0, r0, h0, b0'⟩ := item 0 (by omega)
  match ys, ds, ts, rd6, al, hv0, hd0, ht0, lb with
  | u0 :: us, e0 :: es, w0 :: ws, rd6, .cons al0 al, hv0, hd0, ht0, lb =>
   cases hv0
   cases hd0
   cases ht0
   obtain ⟨_, _, e1, _, rds⟩ := rd6
   cases e1
   refine ⟨_, rfl, _, rfl, D, _, rfl, SqL.of hys, fun c hc => ?_⟩
   rw [cut1]
   have sc := Same.new hc (.lst us)
   have src6 := src5.same sc
   have g7 : Fed a H (upd H6 c (.lst us)) := g6.new hc _
   have hca : c ≠ a := fun z => by
    obtain ⟨p5, q5, h5⟩ := src5.feed
    rw [z, h5] at hc; cases hc
   have hcl : (upd H6 c (.lst us)) c = some (.lst us) := ups
   have hyl : (upd H6 c (.lst us)) D = some (.lst (v0 :: us)) := sc _ _ hys
   have rds7 := rds.same sc _
   have r07 := r0.same sc _
   have lU := rds.length
   have lA := al.length
   simp only [List.length_cons] at el lenT lenY
   generalize upd H6 c (.lst us) = H7 at sc src6 g7 hcl hyl rds7 r07 ⊢
   refine ⟨c, rfl, ⟨_, SqL.of hcl⟩, ?_⟩
   refine comp_list (j := 0) (xs := us) (fun i zs H' => Fed a H7 H' /\ ∃ arms tas, RelDs H' zs arms /\ All2 (Arm (T2 m')) arms tas /\ arms.length = i /\ ∀ t ∈ tas, t.cs.length <= 16 + 80 * q.toNat) (by rfl) ⟨src6.refl, [], [], rfl, .nil, rfl, fun _ h => nomatch h⟩ (fitsLt (by omega)) (fun i zs H' _ p => SqL.of (p.1.1 c _ hcl hca)) ?_ ?_
   ·rintro i u zs H8 hu hlz ⟨g8, arms, tas, rda, ala, ela, lba⟩
    obtain ⟨du, hdu, ru⟩ := rds7.get hu
    obtain ⟨tu, htu, h2u⟩ := al.get hdu
    have hi : i < us.length := (List.getElem?_eq_some_iff.mp hu).1
    have src8 := src6.fed g8
    refine ⟨_, rfl, _, rfl, a, b, rfl, src8, fun x H9 hx g9 => ?_⟩
    have src9 := src8.fed g9
    refine ⟨_, rfl, _, rfl, a, b, rfl, src9, fun y H10 hy g10 => ?_⟩
    refine ⟨_, rfl, (by show 3 <= sizeLine; decide), fun l3 hl3 => ?_⟩
    have sl := Same.new hl3 (.tup [.str x, .str y, u])
    have g810 := g9.trans g10
    refine nxt hi hlz ⟨(g8.trans g810).new hl3 _, arms ++ [.tup [.str x, .str y, du]], tas ++ [.l [tx x, tx y, tu]], ?_, ala.append (.cons ⟨x, y, du, tu, hx, hy, h2u, rfl, rfl⟩ .nil), by rw [List.length_append, ela]; rfl, ?_⟩
    ·refine ((src8.relDs g810 rda).same sl _).append ⟨_, [], rfl, ⟨l3, _, rfl, ups, _, _, rfl, rfl, _, _, rfl, rfl, u, _, rfl, ((src6.relD (g8.trans g810) ru).same sl _), rfl⟩, rfl⟩
    ·intro z hz
     rcases List.mem_append.mp hz with hz | hz
     ·exact lba z hz
     ·have e1 := tx_len hx
      have e2 := tx_len hy
      have e3 := lb tu (List.mem_cons_of_mem _ (List.mem_of_getElem? htu))
      rw [List.mem_singleton.mp hz, cs_cons, bs_len_cons, bs_len_cons, bs_len_nil]
      omega
   ·rintro zs H8 hlz ⟨g8, arms, tas, rda, ala, ela, lba⟩ Da hDa'
    have sDa := Same.new hDa' (.lst zs)
    have yD : D ≠ a := hDa
    refine ⟨_, rfl, D, _, 0, v0, rfl, rfl, SqL.of (sDa _ _ (g8.1 D _ hyl yD)), atI_nat (j := 0) rfl, ?_⟩
    refine ⟨_, rfl, Da, zs, rfl, .inl ⟨SqL.of ups, fun t2 ht2 => ⟨(by show 3 <= sizeLine; decide), fun l3 hl3 => ?_⟩⟩⟩
    have st := Same.new ht2 (.tup zs)
    have sl := Same.new hl3 (.tup [.str (S "case"), v0, .ref t2])
    refine k _ _ _ _ (.inr (.inr (.inr (.inr (.inr (.inl ⟨d0, t0, arms, tas, al0, by omega, by omega, ala, rfl, rfl⟩)))))) ?_ ⟨l3, _, rfl, ups, _, _, rfl, rfl, v0, _, rfl, ?_, _, _, rfl, ⟨t2, zs, rfl, sl _ _ ups, ?_⟩, rfl⟩ ((((g7.trans g8).new hDa' _).new ht2 _).new hl3 _)
    ·have e1 := bs_len_le lba
     have lT := ala.length
     have e4 : (tx (S "case")).cs.length = 4 := by walk_at "k"
     have e5 : tas.length + 1 = mk := by omega
     have e6 : tas.length * q.toNat + q.toNat <= r.toNat - 1 := by rw [<- Nat.succ_mul, show tas.length.succ = mk from e5]; exact qm
     have e2 := mul80a (k := tas.length) (q := q.toNat) (r := r.toNat - 1 - q.toNat) (by omega)
     rw [cs_cons, bs_len_cons]
     omega
    ·exact (src6.relD g8 r07).same (sDa.trans (st.trans sl)) _
    ·exact rda.same (sDa.trans (st.trans sl)) _
  | [], _, _, _, _, hv0, _, _, _ => cases hv0
  | _ :: _, [], _, _, _, _, hd0, _, _ => cases hd0
  | _ :: _, _ :: _, [], _, _, _, _, ht0, _ => cases ht0
 refine ⟨_, rfl, rfl, _, rfl, ?_⟩
 refine ite2 (fun c6 => ?_) (fun c6 => ?_)
 ·have ef : f1 = 6 := V.int.inj (of_decide_eq_true c6)
  have hk := k6 ef
  obtain ⟨v0, d0, t0, hv0, hd0, ht0, r0, h0, b0'⟩ := item 0 (by omega)
  obtain ⟨v1, d1, t1, hv1, hd1, ht1, r1', h1', b1'⟩ := item 1 (by omega)
  obtain ⟨v2, d2', t2, hv2, hd2, ht2, r2, h2', b2'⟩ := item 2 (by omega)
  refine ⟨_, rfl, D, ys, 0, v0, rfl, rfl, SqL.of hys, atI_nat (j := 0) hv0, _, rfl, D, ys, 1, v1, rfl, rfl, SqL.of hys, atI_nat (j := 1) hv1, _, rfl, D, ys, 2, v2, rfl, rfl, SqL.of hys, atI_nat (j := 2) hv2, (by show 4 <= sizeLine; decide), fun l3 hl3 => ?_⟩
  have sl := Same.new hl3 (.tup [.str (S "if"), v0, v1, v2])
  have e4 : (tx (S "if")).cs.length = 2 := by walk_at "k"
  rw [hk] at qm
  exact k _ _ _ _ (.inr (.inr (.inr (.inr (.inr (.inr ⟨d0, d1, d2', t0, t1, t2, h0, h1', h2', rfl, rfl⟩)))))) (by rw [cs_cons, bs_len_cons, bs_len_cons, bs_len_cons, bs_len_nil]; omega) ⟨l3, _, rfl, ups, _, _, rfl, rfl, v0, _, rfl, r0.same sl _, v1, _, rfl, r1'.same sl _, v2, _, rfl, r2.same sl _, rfl⟩ (g6.new hl3 _)
 ·have ef : f1 = 1 \/ f1 = 7 := by
   have n2 : f1 ≠ 2 := fun e => of_decide_eq_false (Bool.eq_false_iff.mpr c) (by rw [e])
   have n3 : f1 ≠ 3 := fun e => of_decide_eq_false (Bool.eq_false_iff.mpr c') (by rw [e])
   have n4 : f1 ≠ 4 := fun e => of_decide_eq_false (Bool.eq_false_iff.mpr c'') (by rw [e])
   have n5 : f1 ≠ 5 := fun e => of_decide_eq_false (Bool.eq_false_iff.mpr c5) (by rw [e])
   have n6 : f1 ≠ 6 := fun e => of_decide_eq_false (Bool.eq_false_iff.mpr c6) (by rw [e])
   omega
  have hk := k17 ef
  obtain ⟨v0, d0, t0, hv0, hd0, ht0, r0, h0, b0'⟩ := item 0 (by omega)
  obtain ⟨v1, d1, t1, hv1, hd1, ht1, r1', h1', b1'⟩ := item 1 (by omega)
  obtain ⟨p5, q5, h5⟩ := src5.feed
  refine ⟨_, rfl, a, p5, q5, 5, rfl, h5, by decide, by decide, fun r7 H7 r70 r71 g7 => ?_⟩
  obtain ⟨ch, _, hc⟩ := at_codes (cs := (Str.ofString "+-*<=").cps.toList) r70 (by rw [show (Str.ofString "+-*<=").cps.toList.length = 5 by walk_at "k"]; exact r71)
  refine ⟨_, _, ch, rfl, rfl, by walk_at "k", hc, ?_⟩
  refine ⟨_, rfl, D, ys, 0, v0, rfl, rfl, SqL.of (g7.1 D _ hys hDa), atI_nat (j := 0) hv0, _, rfl, D, ys, 1, v1, rfl, rfl, SqL.of (g7.1 D _ hys hDa), atI_nat (j := 1) hv1, (by show 4 <= sizeLine; decide), fun l3 hl3 => ?_⟩
  have sl := Same.new hl3 (.tup [.str (S "op"), .str ⟨#[ch]⟩, v0, v1])
  have e4 : (tx (⟨#[ch]⟩ : Str)).cs.length = 1 := rfl
  rw [hk] at qm
  exact k _ _ _ _ (.inr (.inl ⟨_, d0, d1, t0, t1, ops_at hc, h0, h1', rfl, rfl⟩)) (by rw [cs_cons, bs_len_cons, bs_len_cons, bs_len_nil]; omega) ⟨l3, _, rfl, ups, _, _, rfl, rfl, _, _, rfl, rfl, v0, _, rfl, (src5.relD g7 r0).same sl _, v1, _, rfl, (src5.relD g7 r1').same sl _, rfl⟩ ((g6.trans g7).new hl3 _)
end
end K4
end
section
namespace K4
open PySem L2 M
seal L2.PE L2.PA L2.PS L2.PSs L2.PT L2.PW L2.PI L2.PG L2.PJ L2.PTs
def spSomeG : Sp := fun vs H Q _ => ∃ (a b : Addr) (ys : List Str), vs = [.ref a, .ref b] /\ (∃ p q : Int, H a = some (.lst [.int p, .int q])) /\ H b = some (.lst (ys.map V.str)) /\ a ≠ b /\ 0 < ys.length /\ ys.length <= 1000 /\ ∀ x ∈ ys, ∀ H' : Hp, Fed a H H' -> Q (.str x) H'
def spLParts : Sp := fun vs H Q _ => ∃ (a b : Addr) (e : Int), vs = [.ref a, .ref b, .int e] /\ (e = 0 \/ e = 1) /\ Src H a b /\ ∀ (v : V) (ps : List (Str × Str)) (H' : Hp), RelD H' v (dParts ps) -> (∀ p ∈ ps, PtOk p) -> ps.length <= 4 -> (e = 1 -> ps ≠ []) -> Fed a H H' -> Q v H'
def spLKinds : Sp := fun vs H Q _ => ∃ (a b : Addr), vs = [.ref a, .ref b] /\ Src H a b /\ ∀ (v : V) (ks : List Kn) (H' : Hp), RelD H' v (dKinds ks) -> (∀ k ∈ ks, KnOk k) -> ks.length <= 6 -> Fed a H H' -> Q v H'
def spLChans : Sp := fun vs H Q _ => ∃ (a b : Addr), vs = [.ref a, .ref b] /\ Src H a b /\ ∀ (v : V) (cs : List Ch) (H' : Hp), RelD H' v (.tup (cs.map dCh)) -> (∀ c ∈ cs, ChOk c) -> cs.length <= 6 -> Fed a H H' -> Q v H'
theorem src_pool {H : Hp} {a b : Addr} (src : Src H a b) : ∃ ys : List Str, H b = some (.lst (ys.map V.str)) /\ a ≠ b /\ 0 < ys.length /\ ys.length <= 1000 /\ ∀ x ∈ ys, Name x := by
 obtain ⟨ys, hb, h8, hN⟩ := src.pool
 exact ⟨ys, hb, src.ne, by omega, by omega, hN⟩
theorem kind_pool {ys : List Str} (hN : ∀ y ∈ ys, Name y) : ∀ x ∈ S "num" :: ys, KWd x := fun x hx => by
 rcases List.mem_cons.mp hx with rfl | hx
 ·exact .inl rfl
 ·exact .inr (hN x hx)
section
variable {P : Program} {w : World} {K : PySem.W.Frag} {mg : Str -> Option Value} {base : Heap} {n m : Nat}
theorem okl_someG (T : Tx K mg) (Dl_take : DefIs P w K mg base n "_law_take" ["_law_feed_here", "_law_many"] spTake) : DefIs P w K mg base (n + 1) "_law_some" ["_law_feed_here", "_law_pool"] spSomeG := by
 refine DefIs.of T.dl_some scl_some (fun vs H Q E h => ?_) (fun f cdv A outer s H vs Q E hr h => ?_)
 ·obtain ⟨a, b, _, rfl, _⟩ := h
  rfl
 obtain ⟨a, b, ys, rfl, ⟨p, q, ha⟩, hb, ne, h0, h8, k⟩ := h
 refine ⟨_, (zpo (ps_ret (pe_ix ix_list (pv 1) (pd Dl_take hr (zpc (pv 0) (zpc (pe_callB call_len_seq rfl T.z_len PySem.boot_len (zpc (pv 1) pa_nil zsn)) pa_nil zsc) zsn)) (fun _ _ => rfl)))), ?_⟩
 have hl : (ys.map V.str).length = ys.length := by rw [List.length_map]
 refine ⟨_, rfl, _, rfl, _, rfl, b, _, rfl, .inl (SqL.of hb), a, p, q, _, rfl, ha, by omega, by omega, fun r2 H2 r20 r21 f2 => ?_⟩
 obtain ⟨z, hz, hv⟩ := at_codes (cs := ys.map V.str) r20 r21
 obtain ⟨y, hy, rfl⟩ := List.mem_map.mp hz
 exact ⟨b, _, _, _, rfl, rfl, SqL.of (f2.1 b _ hb ne.symm), hv, k y hy _ f2⟩
theorem okl_parts (T : Tx K mg) (Dl_take : DefIs P w K mg base n "_law_take" ["_law_feed_here", "_law_many"] spTake) (Dl_some : DefIs P w K mg base n "_law_some" ["_law_feed_here", "_law_pool"] spSomeG) : DefIs P w K mg base (n + 1) "_law_parts" ["_law_feed_here", "_law_pool", "_law_least"] spLParts := by
 refine DefIs.of T.dl_parts scl_parts (fun vs H Q E h => ?_) (fun f cdv A outer s H vs Q E hr h => ?_)
 ·obtain ⟨a, b, _, rfl, _⟩ := h
  rfl
 obtain ⟨a, b, e, rfl, he, src, k⟩ := h
 have nd := scl_parts.nd
 obtain ⟨p, q, ha⟩ := src.feed
 refine ⟨_, (zpn (ps_set (i := 3) nd rfl (by walk_at "o") (pe_op op_add (pv 2) (pd Dl_take hr (zpc (pv 0) (zpc (pe_op op_sub pe_int (pv 2)) pa_nil star_bin) zsn))))
   (zpo (ps_ret (pe_callTy call_tuple_of rfl T.z_tuple PyProof.Rows.boot_tuple (zpc (pe_comp ["_law_k", "_law_feed_here", "_law_pool"] [none, some 0, some 1] rfl (by kernel_rfl) (pi_range1 rfl T.z_range (zpc (pv 3) pa_nil zsn)) (fun _ _ _ _ => (pg_name (i := 0) (by show List.Nodup (["_law_k", "_law_feed_here", "_law_pool"] : List Str); decide +kernel) rfl (Or.inl rfl))) (fun _ _ _ _ => pts_nil) (fun _ _ _ _ => (pe_tup (zpc (pd Dl_some hr (zpc (pv 1) (zpc (pv 2) pa_nil zsn) zsn)) (zpc (pd Dl_some hr (zpc (pv 1) (zpc (pe_op op_cat (pe_lst (zpc pe_str pa_nil so)) (pv 2)) pa_nil star_bin) zsn)) pa_nil zsc) zsc)))) pa_nil star_comp))))), ?_⟩
 refine ⟨_, rfl, _, rfl, _, rfl, _, _, rfl, rfl, a, p, q, _, rfl, ha, by omega, by omega, fun r H1 r0 r1 f1 => ⟨_, _, rfl, rfl, ?_⟩⟩
 have src1 := src.fed f1
 obtain ⟨mm, hmm⟩ : ∃ i : Nat, e + r = (i : Int) := ⟨(e + r).toNat, by omega⟩
 refine ⟨_, rfl, _, rfl, by omega, by omega, ?_⟩
 rw [hmm, Int.toNat_natCast]
 refine comp_range (j := 0) (fun i ys H' => Fed a H1 H' /\ ∃ ps : List (Str × Str), RelDs H' ys (ps.map dPart) /\ ps.length = i /\ ∀ p ∈ ps, PtOk p) (by rfl) ⟨src1.refl, [], rfl, rfl, fun _ h => nomatch h⟩ (fitsLt (by omega)) ?_ ?_
 ·rintro i ys H2 hi hly ⟨f2, ps, ry, hpl, hpo⟩
  have src2 := src1.fed f2
  obtain ⟨pz1, qz1⟩ := src_pool src2
  refine ⟨_, rfl, _, rfl, a, b, pz1, rfl, src2.feed, qz1.1, qz1.2.1, qz1.2.2.1, qz1.2.2.2.1, fun x hxm H3 f3 => ?_⟩
  have hx := qz1.2.2.2.2 x hxm
  have src3 := src2.fed f3
  obtain ⟨zs, hb3, h8, hN⟩ := src3.pool
  refine ⟨_, rfl, (by show 1 <= sizeLine; decide), fun l1 hl1 => ?_⟩
  have y1 := Same.new hl1 (.lst [.str (S "num")])
  refine ⟨_, rfl, l1, b, _, _, rfl, rfl, ups, y1 _ _ hb3, fits (by rw [List.length_map]; show 1 + _ <= _; omega), fun l2 hl2 => ?_⟩
  have y2 := Same.new hl2 (.lst ([.str (S "num")] ++ zs.map V.str))
  have y12 := y1.trans y2
  obtain ⟨p3, q3, ha3⟩ := src3.feed
  refine ⟨a, l2, S "num" :: zs, rfl, ⟨p3, q3, y12 _ _ ha3⟩, by rw [ups]; rfl, neN ha3 (none_of_same y1 hl2), by simp, by simp [h8], fun z hzm H4 f4 => ⟨(by show 2 <= sizeLine; decide), fun t ht => ?_⟩⟩
  have hz := kind_pool hN z hzm
  have st := Same.new ht (.tup [.str x, .str z])
  have F : Fed a H2 (upd H4 t (.tup [.str x, .str z])) := ((f3.same y12).trans f4).same st
  refine nxt hi hly ⟨f2.trans F, ps ++ [(x, z)], ?_, by rw [List.length_append, hpl]; rfl, ?_⟩
  ·rw [List.map_append]
   exact (src2.relDs F ry).append ⟨_, [], rfl, ⟨t, _, rfl, ups, _, _, rfl, rfl, _, _, rfl, rfl, rfl⟩, rfl⟩
  ·intro u hu
   rcases List.mem_append.mp hu with hu | hu
   ·exact hpo u hu
   ·rw [List.mem_singleton.mp hu]; exact ⟨hx, hz⟩
 ·rintro ys H2 hly ⟨f2, ps, ry, hpl, hpo⟩ D hD
  refine ⟨D, ys, rfl, .inl ⟨SqL.of ups, fun t ht => ?_⟩⟩
  have yD := Same.new hD (.lst ys)
  have yt := Same.new ht (.tup ys)
  refine k _ ps _ ⟨t, ys, rfl, ups, ry.same (yD.trans yt) _⟩ hpo (by omega) (fun z => ?_) ((f1.trans f2).same (yD.trans yt))
  intro hn
  rw [hn] at hpl
  simp at hpl
  omega
theorem okl_kinds (T : Tx K mg) (Dl_take : DefIs P w K mg base n "_law_take" ["_law_feed_here", "_law_many"] spTake) (Dl_some : DefIs P w K mg base n "_law_some" ["_law_feed_here", "_law_pool"] spSomeG) (Dl_parts : DefIs P w K mg base n "_law_parts" ["_law_feed_here", "_law_pool", "_law_least"] spLParts) : DefIs P w K mg base (n + 1) "_law_kinds" ["_law_feed_here", "_law_pool"] spLKinds := by
 refine DefIs.of T.dl_kinds scl_kinds (fun vs H Q E h => ?_) (fun f cdv A outer s H vs Q E hr h => ?_)
 ·obtain ⟨a, b, rfl, _⟩ := h
  rfl
 obtain ⟨a, b, rfl, src, k⟩ := h
 have nd := scl_kinds.nd
 obtain ⟨p, q, ha⟩ := src.feed
 refine ⟨_, (zpn (ps_set (i := 2) nd rfl (by walk_at "o") (pe_lst pa_nil))
   (zpn (ps_for PassesOwn.never rfl (pi_range1 rfl T.z_range (zpc (pd Dl_take hr (zpc (pv 0) (zpc pe_int pa_nil so) zsn)) pa_nil zsc)) (pg_name (i := 3) nd rfl (by walk_at "o"))
   (zpn (ps_set (i := 4) nd rfl (by walk_at "o") (pe_ix ix_list (pe_lst (zpc pe_str (zpc pe_str pa_nil so) so)) (pd Dl_take hr (zpc (pv 0) (zpc pe_int pa_nil so) zsn)) (fun _ _ => rfl)))
   (zpo (ps_expr (pe_bm PySem.F.plainAttrs_list PySem.F.slot_list_append PySem.F.type_list_append mt_append (pv 2) (zpc (pe_tup (zpc (pd Dl_some hr (zpc (pv 0) (zpc (pv 1) pa_nil zsn) zsn)) (zpc (pv 4) (zpc (pd Dl_parts hr (zpc (pv 0) (zpc (pv 1) (zpc (pe_callTy call_int1 rfl T.z_int PyProof.Rows.boot_int (zpc (pe_cmpR op_eq (pv 4) pe_str (nomark _)) pa_nil star_cmp)) pa_nil zsc) zsn) zsn)) pa_nil zsc) zsn) zsc)) pa_nil star_tup))))))
   (zpo (ps_ret (pe_callTy call_tuple_of rfl T.z_tuple PyProof.Rows.boot_tuple (zpc (pv 2) pa_nil zsn)))))), ?_⟩
 refine ⟨(by show 0 <= sizeLine; decide), fun l hl => ?_⟩
 have y0 := Same.new hl (.lst [])
 have la : l ≠ a := Ne.symm (neN ha hl)
 refine ⟨_, rfl, a, p, q, 7, rfl, y0 _ _ ha, by decide, by decide, fun r H1 r0 r1 f1 => ⟨_, rfl, by omega, by omega, ?_⟩⟩
 have F1 : Fed a H H1 := ⟨y0.but.trans f1.1, f1.2⟩
 have hl1 : H1 l = some (.lst []) := f1.1 _ _ ups la
 refine for_range (fun i σ H' => ∃ us, ∃ ks : List Kn, ∃ o3 o4, σ = [some (.ref a), some (.ref b), some (.ref l), o3, o4] /\ Fed a H H' /\ H' l = some (.lst us) /\ RelDs H' us (ks.map Kn.d) /\ ks.length = i /\ ∀ k ∈ ks, KnOk k)
  ⟨[], [], none, none, rfl, F1, hl1, rfl, rfl, fun _ h => nomatch h⟩ ?_ ?_
 ·rintro i σ H2 hi ⟨us, ks, o3, o4, rfl, F, hlu, hus, hki, hko⟩
  have hul := hus.length
  rw [List.length_map] at hul
  have src2 := src.fed F
  obtain ⟨p2, q2, h2⟩ := src2.feed
  refine ⟨(by show 2 <= sizeLine; decide), fun l1 hl1 => ?_⟩
  have s1 := Same.new hl1 (.lst [.str (S "rec"), .str (S "alt")])
  have l1a : l1 ≠ a := Ne.symm (neN h2 hl1)
  refine ⟨_, rfl, a, p2, q2, 2, rfl, s1 _ _ h2, by decide, by decide, fun c H3 c0 c1 f3 => ?_⟩
  obtain ⟨rc, hrc⟩ : ∃ rc : Bool, atI [V.str (S "rec"), V.str (S "alt")] c = some (.str (Kn.sort ⟨S "x", rc, []⟩)) := by
   rcases (show c = 0 \/ c = 1 by omega) with rfl | rfl
   ·exact ⟨true, rfl⟩
   ·exact ⟨false, rfl⟩
  refine ⟨l1, _, _, _, rfl, rfl, SqL.of (f3.1 _ _ ups l1a), hrc, ?_⟩
  have f3' : Fed a H2 H3 := ⟨s1.but.trans f3.1, f3.2⟩
  have src3 := src2.fed f3'
  have hlu3 := f3'.1 _ _ hlu la
  have hus3 := src2.relDs f3' hus
  obtain ⟨pz2, qz2⟩ := src_pool src3
  refine ⟨_, rfl, .inl ⟨rfl, _, SqL.of hlu3⟩, _, rfl, _, rfl, a, b, pz2, rfl, src3.feed, qz2.1, qz2.2.1, qz2.2.2.1, qz2.2.2.2.1, fun x hxm H4 f4 => ?_⟩
  have hx := qz2.2.2.2.2 x hxm
  have src4 := src3.fed f4
  have key : ∃ e : Int, (e = 0 \/ e = 1) /\ (e = 1 ↔ rc = false) /\ e = (if decide (V.str (Kn.sort ⟨S "x", rc, []⟩) = V.str (S "alt")) = true then 1 else 0) := by
   cases rc with
   | true => exact ⟨0, .inl rfl, ⟨fun z => absurd z (by decide), fun z => by cases z⟩, by rw [if_neg (by walk_at "k")]⟩
   | false => exact ⟨1, .inr rfl, ⟨fun _ => rfl, fun _ => rfl⟩, by rw [if_pos (by walk_at "k")]⟩
  obtain ⟨e, he, her, hee⟩ := key
  refine ⟨_, rfl, _, rfl, _, rfl, _, rfl, rfl, .inr ⟨_, rfl, a, b, e, ?_, he, src4, fun v ps H5 rv hpo hp4 hne f5 => ⟨(by show 3 <= sizeLine; decide), fun t ht => ?_⟩⟩⟩
  ·rw [hee]; rfl
  have st := Same.new ht (.tup [.str x, .str (Kn.sort ⟨S "x", rc, []⟩), v])
  have F5 : Fed a H2 (upd H5 t (.tup [.str x, .str (Kn.sort ⟨S "x", rc, []⟩), v])) := (f3'.trans (f4.trans f5)).same st
  have hlu5 := F5.1 _ _ hlu la
  refine ⟨l, us, _, rfl, rfl, hlu5, fitsLt (by omega), ?_⟩
  have tp := lst_tups hlu5 (.lst (us ++ [.ref t]))
  refine ⟨us ++ [.ref t], ks ++ [⟨x, rc, ps⟩], _, _, rfl, ?_, ups, ?_, by rw [List.length_append, hki]; rfl, ?_⟩
  ·have F6 := F.trans F5
   refine ⟨fun c o hc nc => ?_, ?_⟩
   ·rw [upd_ne (neN hc hl)]
    exact F6.1 _ _ hc nc
   ·obtain ⟨p6, q6, h6⟩ := F6.2
    exact ⟨p6, q6, by rw [upd_ne (Ne.symm la)]; exact h6⟩
  ·rw [List.map_append]
   refine ((src2.relDs F5 hus).tups tp _).append ⟨_, [], rfl, ⟨t, _, rfl, tp _ _ ups, _, _, rfl, rfl, _, _, rfl, rfl, _, _, rfl, (rv.same st _).tups tp _, rfl⟩, rfl⟩
  ·intro u hu
   rcases List.mem_append.mp hu with hu | hu
   ·exact hko u hu
   ·rw [List.mem_singleton.mp hu]
    exact ⟨hx, hp4, fun z => hne (her.mpr z), hpo⟩
 ·rintro σ H2 ⟨us, ks, o3, o4, rfl, F, hlu, hus, hki, hko⟩
  refine ⟨_, rfl, l, us, rfl, .inl ⟨SqL.of hlu, fun t ht => ?_⟩⟩
  have st := Same.new ht (.tup us)
  exact k _ ks _ ⟨t, us, rfl, ups, hus.same st _⟩ hko (by omega) (F.same st)
theorem okl_channels (T : Tx K mg) (Dl_take : DefIs P w K mg base n "_law_take" ["_law_feed_here", "_law_many"] spTake) (Dl_some : DefIs P w K mg base n "_law_some" ["_law_feed_here", "_law_pool"] spSomeG) : DefIs P w K mg base (n + 1) "_law_channels" ["_law_feed_here", "_law_pool"] spLChans := by
 refine DefIs.of T.dl_channels scl_channels (fun vs H Q E h => ?_) (fun f cdv A outer s H vs Q E hr h => ?_)
 ·obtain ⟨a, b, rfl, _⟩ := h
  rfl
 obtain ⟨a, b, rfl, src, k⟩ := h
 have nd := scl_channels.nd
 obtain ⟨p, q, ha⟩ := src.feed
 refine ⟨_, (zpn (ps_set (i := 2) nd rfl (by walk_at "o") (pe_lst pa_nil))
   (zpn (ps_for PassesOwn.never rfl (pi_range1 rfl T.z_range (zpc (pd Dl_take hr (zpc (pv 0) (zpc pe_int pa_nil so) zsn)) pa_nil zsc)) (pg_name (i := 3) nd rfl (by walk_at "o"))
   (zpn (ps_set (i := 4) nd rfl (by walk_at "o") (pe_tup (zpc (pd Dl_some hr (zpc (pv 0) (zpc (pv 1) pa_nil zsn) zsn)) (zpc (pd Dl_some hr (zpc (pv 0) (zpc (pv 1) pa_nil zsn) zsn)) (zpc (pd Dl_some hr (zpc (pv 0) (zpc (pv 1) pa_nil zsn) zsn)) pa_nil zsc) zsc) zsc)))
   (zpo (ps_expr (pe_bm PySem.F.plainAttrs_list PySem.F.slot_list_append PySem.F.type_list_append mt_append (pv 2) (zpc (pe_op op_catT (pv 4) (pe_tup (zpc (pd Dl_some hr (zpc (pv 0) (zpc (pe_op op_cat (pe_lst (zpc pe_str pa_nil so)) (pv 1)) pa_nil star_bin) zsn)) pa_nil zsc))) pa_nil star_bin))))))
   (zpo (ps_ret (pe_callTy call_tuple_of rfl T.z_tuple PyProof.Rows.boot_tuple (zpc (pv 2) pa_nil zsn)))))), ?_⟩
 refine ⟨(by show 0 <= sizeLine; decide), fun l hl => ?_⟩
 have y0 := Same.new hl (.lst [])
 have la : l ≠ a := Ne.symm (neN ha hl)
 refine ⟨_, rfl, a, p, q, 7, rfl, y0 _ _ ha, by decide, by decide, fun r H1 r0 r1 f1 => ⟨_, rfl, by omega, by omega, ?_⟩⟩
 have F1 : Fed a H H1 := ⟨y0.but.trans f1.1, f1.2⟩
 have hl1 : H1 l = some (.lst []) := f1.1 _ _ ups la
 refine for_range (fun i σ H' => ∃ us, ∃ cs : List Ch, ∃ o3 o4, σ = [some (.ref a), some (.ref b), some (.ref l), o3, o4] /\ Fed a H H' /\ H' l = some (.lst us) /\ RelDs H' us (cs.map dCh) /\ cs.length = i /\ ∀ c ∈ cs, ChOk c)
  ⟨[], [], none, none, rfl, F1, hl1, rfl, rfl, fun _ h => nomatch h⟩ ?_ ?_
 ·rintro i σ H2 hi ⟨us, cs, o3, o4, rfl, F, hlu, hus, hki, hko⟩
  have hul := hus.length
  rw [List.length_map] at hul
  have src2 := src.fed F
  obtain ⟨pz3, qz3⟩ := src_pool src2
  refine ⟨_, rfl, _, rfl, a, b, pz3, rfl, src2.feed, qz3.1, qz3.2.1, qz3.2.2.1, qz3.2.2.2.1, fun x hxm H3 f3 => ?_⟩
  have hx := qz3.2.2.2.2 x hxm
  have src3 := src2.fed f3
  obtain ⟨pz4, qz4⟩ := src_pool src3
  refine ⟨_, rfl, _, rfl, a, b, pz4, rfl, src3.feed, qz4.1, qz4.2.1, qz4.2.2.1, qz4.2.2.2.1, fun y hym H4 f4 => ?_⟩
  have hy := qz4.2.2.2.2 y hym
  have src4 := src3.fed f4
  obtain ⟨pz5, qz5⟩ := src_pool src4
  refine ⟨_, rfl, _, rfl, a, b, pz5, rfl, src4.feed, qz5.1, qz5.2.1, qz5.2.2.1, qz5.2.2.2.1, fun z hzm H5 f5 => ?_⟩
  have hz := qz5.2.2.2.2 z hzm
  refine ⟨(by show 3 <= sizeLine; decide), fun t ht => ?_⟩
  have st := Same.new ht (.tup [.str x, .str y, .str z])
  have F5 : Fed a H2 (upd H5 t (.tup [.str x, .str y, .str z])) := (f3.trans (f4.trans f5)).same st
  have src5 := src2.fed F5
  have hlu5 := F5.1 _ _ hlu la
  have ht5 : upd H5 t (.tup [.str x, .str y, .str z]) t = some (.tup [.str x, .str y, .str z]) := ups
  generalize upd H5 t (.tup [.str x, .str y, .str z]) = H6 at F5 src5 hlu5 ht5 ⊢
  refine ⟨_, rfl, .inl ⟨rfl, _, SqL.of hlu5⟩, _, rfl, ?_⟩
  obtain ⟨zs, hb3, h8, hN⟩ := src5.pool
  refine ⟨_, rfl, (by show 1 <= sizeLine; decide), fun l1 hl1 => ?_⟩
  have y1 := Same.new hl1 (.lst [.str (S "num")])
  refine ⟨_, rfl, l1, b, _, _, rfl, rfl, ups, y1 _ _ hb3, fits (by rw [List.length_map]; show 1 + _ <= _; omega), fun l2 hl2 => ?_⟩
  have y2 := Same.new hl2 (.lst ([.str (S "num")] ++ zs.map V.str))
  have y12 := y1.trans y2
  obtain ⟨p5, q5, ha5⟩ := src5.feed
  refine ⟨a, l2, S "num" :: zs, rfl, ⟨p5, q5, y12 _ _ ha5⟩, by rw [ups]; rfl, neN ha5 (none_of_same y1 hl2), by simp, by simp [h8], fun u hum H7 f7 => ⟨(by show 1 <= sizeLine; decide), fun t2 ht2 => ?_⟩⟩
  have hu := kind_pool hN u hum
  have st2 := Same.new ht2 (.tup [.str u])
  have F7 : Fed a H6 (upd H7 t2 (.tup [.str u])) := (((src5.refl).same y12).trans f7).same st2
  have tp7 := fed_tups src5.feed F7
  refine catT_to (tp7 _ _ ht5) ups (by show 4 <= sizeLine; decide) (by simp) fun c2 H8 s8 h8' => ?_
  have F8 := F7.same s8
  have F28 := F5.trans F8
  have hlu8 := F28.1 _ _ hlu la
  refine ⟨l, us, _, rfl, rfl, hlu8, fitsLt (by omega), ?_⟩
  have tp := lst_tups hlu8 (.lst (us ++ [.ref c2]))
  refine ⟨us ++ [.ref c2], cs ++ [(x, y, z, u)], _, _, rfl, ?_, ups, ?_, by rw [List.length_append, hki]; rfl, ?_⟩
  ·have F6 := F.trans F28
   refine ⟨fun c o hc nc => ?_, ?_⟩
   ·rw [upd_ne (neN hc hl)]
    exact F6.1 _ _ hc nc
   ·obtain ⟨p6, q6, h6⟩ := F6.2
    exact ⟨p6, q6, by rw [upd_ne (Ne.symm la)]; exact h6⟩
  ·rw [List.map_append]
   refine ((src2.relDs F28 hus).tups tp _).append ⟨_, [], rfl, ⟨c2, _, rfl, tp _ _ h8', _, _, rfl, rfl, _, _, rfl, rfl, _, _, rfl, rfl, _, _, rfl, rfl, rfl⟩, rfl⟩
  ·intro v hv
   rcases List.mem_append.mp hv with hv | hv
   ·exact hko v hv
   ·rw [List.mem_singleton.mp hv]
    exact ⟨hx, hy, hz, hu⟩
 ·rintro σ H2 ⟨us, cs, o3, o4, rfl, F, hlu, hus, hki, hko⟩
  refine ⟨_, rfl, l, us, rfl, .inl ⟨SqL.of hlu, fun t ht => ?_⟩⟩
  have st := Same.new ht (.tup us)
  exact k _ cs _ ⟨t, us, rfl, ups, hus.same st _⟩ hko (by omega) (F.same st)
end
end K4
end
section
namespace K4
open PySem L2 M
seal L2.PE L2.PA L2.PS L2.PSs L2.PT L2.PW L2.PI L2.PG L2.PJ L2.PTs
def Fed2 (a lf : Addr) (H H' : Hp) : Prop := (∀ b o, H b = some o -> b ≠ a -> b ≠ lf -> H' b = some o) /\ (∃ p q : Int, H' a = some (.lst [.int p, .int q])) /\ ∃ c : Int, 1 <= c /\ c <= 60 /\ H' lf = some (.lst [.int c])
structure Src2 (H : Hp) (a b lf : Addr) : Prop where
 src : Src H a b
 la : lf ≠ a
 lb : lf ≠ b
 left : ∃ c : Int, 1 <= c /\ c <= 60 /\ H lf = some (.lst [.int c])
theorem Src2.fed {H H' : Hp} {a b lf : Addr} (s : Src2 H a b lf) (f : Fed a H H') : Src2 H' a b lf := by
 obtain ⟨c, c0, c1, h⟩ := s.left
 exact ⟨s.src.fed f, s.la, s.lb, c, c0, c1, f.1 _ _ h s.la⟩
theorem Src2.same {H H' : Hp} {a b lf : Addr} (s : Src2 H a b lf) (f : Same H H') : Src2 H' a b lf := by
 obtain ⟨c, c0, c1, h⟩ := s.left
 exact ⟨s.src.same f, s.la, s.lb, c, c0, c1, f _ _ h⟩
theorem Src2.fed2 {H H' : Hp} {a b lf : Addr} (s : Src2 H a b lf) (f : Fed2 a lf H H') : Src2 H' a b lf := by
 obtain ⟨ys, hb, h8, hN⟩ := s.src.pool
 exact ⟨⟨s.src.ne, f.2.1, ys, f.1 _ _ hb (Ne.symm s.src.ne) (Ne.symm s.lb), h8, hN⟩, s.la, s.lb, f.2.2⟩
theorem Fed.to2 {H H' : Hp} {a b lf : Addr} (f : Fed a H H') (s : Src2 H a b lf) : Fed2 a lf H H' := by
 obtain ⟨c, c0, c1, h⟩ := s.left
 exact ⟨fun x o hx nx _ => f.1 x o hx nx, f.2, c, c0, c1, f.1 _ _ h s.la⟩
theorem Fed2.trans {H H1 H2 : Hp} {a lf : Addr} (f : Fed2 a lf H H1) (g : Fed2 a lf H1 H2) : Fed2 a lf H H2 := ⟨fun b o hb n1 n2 => g.1 b o (f.1 b o hb n1 n2) n1 n2, g.2⟩
theorem Fed2.same {H H1 H2 : Hp} {a lf : Addr} (f : Fed2 a lf H H1) (s : Same H1 H2) : Fed2 a lf H H2 := by
 obtain ⟨f1, ⟨p, q, f2⟩, c, c0, c1, f3⟩ := f
 exact ⟨fun b o hb n1 n2 => s b o (f1 b o hb n1 n2), ⟨p, q, s _ _ f2⟩, c, c0, c1, s _ _ f3⟩
theorem Src2.tups {H H' : Hp} {a b lf : Addr} (s : Src2 H a b lf) (f : Fed2 a lf H H') : ∀ x us, H x = some (.tup us) -> H' x = some (.tup us) := fun x us e => by
 obtain ⟨p, q, ha⟩ := s.src.feed
 obtain ⟨c, _, _, hl⟩ := s.left
 exact f.1 x _ e (fun z => by rw [z, ha] at e; cases e) (fun z => by rw [z, hl] at e; cases e)
def spRoom : Sp := fun vs H Q _ => ∃ (a b lf : Addr), vs = [.ref a, .ref lf] /\ Src2 H a b lf /\ ∀ (r : Int) (H' : Hp), 1 <= r -> r <= 40 -> Fed2 a lf H H' -> Q (.int r) H'
def spLRow : Sp := fun vs H Q _ => ∃ (a b lf : Addr), vs = [.ref a, .ref b, .ref lf] /\ Src2 H a b lf /\ ∀ (v : V) (r : Rw) (H' : Hp), RelD H' v r.d -> r.Ok -> Fed2 a lf H H' -> Q v H'
def spLHand : Sp := fun vs H Q _ => ∃ (a b lf : Addr), vs = [.ref a, .ref b, .ref lf] /\ Src2 H a b lf /\ ∀ (v : V) (h : Hn) (H' : Hp), RelD H' v h.d -> HnOk h -> Fed2 a lf H H' -> Q v H'
theorem room_at {i : Int} (h0 : 0 <= i) (h1 : i < 6) : ∃ x : Int, atI [V.int 1, .int 1, .int 7, .int 11, .int 16, .int 40] i = some (.int x) /\ 1 <= x /\ x <= 40 := by
 rcases (show i = 0 \/ i = 1 \/ i = 2 \/ i = 3 \/ i = 4 \/ i = 5 by omega) with rfl | rfl | rfl | rfl | rfl | rfl
 ·exact ⟨1, rfl, by decide, by decide⟩
 ·exact ⟨1, rfl, by decide, by decide⟩
 ·exact ⟨7, rfl, by decide, by decide⟩
 ·exact ⟨11, rfl, by decide, by decide⟩
 ·exact ⟨16, rfl, by decide, by decide⟩
 ·exact ⟨40, rfl, by decide, by decide⟩
section
variable {P : Program} {w : World} {K : PySem.W.Frag} {mg : Str -> Option Value} {base : Heap} {n m : Nat}
theorem okl_room (T : Tx K mg) (Dl_take : DefIs P w K mg base n "_law_take" ["_law_feed_here", "_law_many"] spTake) : DefIs P w K mg base (n + 1) "_law_room" ["_law_feed_here", "_law_left"] spRoom := by
 refine DefIs.of T.dl_room scl_room (fun vs H Q E h => ?_) (fun f cdv A outer s H vs Q E hr h => ?_)
 ·obtain ⟨a, b, _, rfl, _⟩ := h
  rfl
 obtain ⟨a, b, lf, rfl, src, k⟩ := h
 have nd := scl_room.nd
 obtain ⟨p, q, ha⟩ := src.src.feed
 refine ⟨_, (zpn (ps_set (i := 2) nd rfl (by walk_at "o") (pe_callB (call_min2 rfl) rfl T.z_min PyProof.Rows.boot_min (zpc (pe_ix ix_list (pe_lst (zpc pe_int (zpc pe_int (zpc pe_int (zpc pe_int (zpc pe_int (zpc pe_int pa_nil so) so) so) so) so) so)) (pd Dl_take hr (zpc (pv 0) (zpc pe_int pa_nil so) zsn)) (fun _ _ => rfl)) (zpc (pe_ix ix_list (pv 1) pe_int (fun _ _ => rfl)) pa_nil ss) ss)))
   (zpn (ps_asg (pe_callB (call_max2 rfl) rfl T.z_max PyProof.Rows.boot_max (zpc pe_int (zpc (pe_op op_sub (pe_ix ix_list (pv 1) pe_int (fun _ _ => rfl)) (pv 2)) pa_nil star_bin) so)) (pg_sub (pv 1) pe_int set_list))
   (zpo (ps_ret (pv 2))))), ?_⟩
 refine ⟨(by show 6 <= sizeLine; decide), fun l hl => ?_⟩
 have y1 := Same.new hl (.lst [.int 1, .int 1, .int 7, .int 11, .int 16, .int 40])
 have la : l ≠ a := Ne.symm (neN ha hl)
 refine ⟨_, rfl, a, p, q, 6, rfl, y1 _ _ ha, by decide, by decide, fun i H1 i0 i1 f1 => ?_⟩
 obtain ⟨x, hx, x0, x1⟩ := room_at i0 i1
 have hl1 := f1.1 _ _ ups la
 have src1 := (src.same y1).fed f1
 obtain ⟨c, c0, c1, hc⟩ := src1.left
 refine ⟨l, _, _, _, rfl, rfl, SqL.of hl1, hx, _, rfl, lf, _, _, _, rfl, rfl, SqL.of hc, rfl, _, _, rfl, ?_⟩
 have hr1 : 1 <= (if c < x then c else x) /\ (if c < x then c else x) <= 40 /\ (if c < x then c else x) <= c := by split <;> omega
 generalize (if c < x then c else x) = r at hr1 ⊢
 refine ⟨_, rfl, lf, _, _, _, rfl, rfl, SqL.of hc, rfl, _, rfl, _, _, rfl, rfl, _, _, rfl, ?_⟩
 refine ⟨_, rfl, lf, _, 0, 0, rfl, rfl, hc, rfl, ?_⟩
 refine ⟨_, rfl, k r _ hr1.1 hr1.2.1 ?_⟩
 obtain ⟨p1, q1, h1⟩ := f1.2
 refine ⟨fun z o hz n1 n2 => ?_, ⟨p1, q1, ?_⟩, _, ?_, ?_, ups⟩
 ·rw [upd_ne n2]
  exact f1.1 _ _ (y1 _ _ hz) n1
 ·rw [upd_ne (Ne.symm src.la)]
  exact h1
 ·split <;> omega
 ·split <;> omega
theorem okl_row (T : Tx K mg) (Dl_take : DefIs P w K mg base n "_law_take" ["_law_feed_here", "_law_many"] spTake) (Dl_whole : DefIs P w K mg base n "_law_whole" ["_law_feed_here"] spWhole) (Dl_some : DefIs P w K mg base n "_law_some" ["_law_feed_here", "_law_pool"] spSome) (Dl_room : DefIs P w K mg base n "_law_room" ["_law_feed_here", "_law_left"] spRoom) (Dl_term : DefIs P w K mg base n "_law_term" ["_law_feed_here", "_law_pool", "_law_room_here", "_law_deep"] (spTerm 7)) : DefIs P w K mg base (n + 1) "_law_row" ["_law_feed_here", "_law_pool", "_law_left"] spLRow := by
 refine DefIs.of T.dl_row scl_row (fun vs H Q E h => ?_) (fun f cdv A outer s H vs Q E hr h => ?_)
 ·obtain ⟨a, b, _, rfl, _⟩ := h
  rfl
 obtain ⟨a, b, lf, rfl, src, k⟩ := h
 have nd := scl_row.nd
 obtain ⟨p, q, ha⟩ := src.src.feed
 refine ⟨_, (zpn (ps_set (i := 3) nd rfl (by walk_at "o") (pd Dl_take hr (zpc (pv 0) (zpc pe_int pa_nil so) zsn)))
   (zpn (ps_if (pt_cmpR op_eq (pv 3) pe_int (nomark _)) (zpo (ps_ret (pe_tup (zpc pe_str pa_nil so)))) pss_nil)
   (zpn (ps_if (pt_cmpR op_eq (pv 3) pe_int (nomark _)) (zpo (ps_ret (pe_tup (zpc pe_str (zpc (pd Dl_whole hr (zpc (pv 0) pa_nil zsn)) pa_nil zsc) so)))) pss_nil)
   (zpn (ps_if (pt_cmpR op_eq (pv 3) pe_int (nomark _)) (zpo (ps_ret (pe_tup (zpc pe_str (zpc (pd Dl_some hr (zpc (pv 0) (zpc (pv 1) pa_nil zsn) zsn)) (zpc (pd Dl_some hr (zpc (pv 0) (zpc (pv 1) pa_nil zsn) zsn)) (zpc (pd Dl_some hr (zpc (pv 0) (zpc (pv 1) pa_nil zsn) zsn)) pa_nil zsc) zsc) zsc) so)))) pss_nil)
   (zpn (ps_set (i := 4) nd rfl (by walk_at "o") (pd Dl_term hr (zpc (pv 0) (zpc (pv 1) (zpc (pd Dl_room hr (zpc (pv 0) (zpc (pv 2) pa_nil zsn) zsn)) (zpc pe_int pa_nil so) zsc) zsn) zsn)))
   (zpn (ps_if (pt_cmpR op_eq (pv 3) pe_int (nomark _)) (zpo (ps_ret (pe_tup (zpc pe_str (zpc (pv 4) pa_nil zsn) so)))) pss_nil)
   (zpn (ps_if (pt_cmpR op_eq (pv 3) pe_int (nomark _)) (zpo (ps_ret (pe_tup (zpc pe_str (zpc (pv 4) (zpc (pd Dl_whole hr (zpc (pv 0) pa_nil zsn)) pa_nil zsc) zsn) so)))) pss_nil)
   (zpo (ps_ret (pe_tup (zpc (pe_ix ix_list (pe_lst (zpc pe_str (zpc pe_str pa_nil so) so)) (pe_op op_sub (pv 3) pe_int) (fun _ _ => rfl)) (zpc (pd Dl_some hr (zpc (pv 0) (zpc (pv 1) pa_nil zsn) zsn)) (zpc (pv 4) pa_nil zsn) zsc) ss))))))))))), ?_⟩
 refine ⟨_, rfl, a, p, q, 7, rfl, ha, by decide, by decide, fun fm H1 fm0 fm1 f1 => ?_⟩
 have src1 := src.fed f1
 have F1 := Fed.to2 f1 src
 refine ⟨_, rfl, rfl, _, rfl, ite2 (fun c => ?_) (fun c => ?_)⟩
 ·refine ⟨(by show 1 <= sizeLine; decide), fun t ht => ?_⟩
  exact k _ .en _ ⟨t, _, rfl, ups, _, _, rfl, rfl, rfl⟩ trivial (F1.same (Same.new ht _))
 have n0 : fm ≠ 0 := fun e => c (decide_eq_true (by rw [e]))
 refine ⟨_, rfl, rfl, _, rfl, ite2 (fun c => ?_) (fun c => ?_)⟩
 ·obtain ⟨p1, q1, h1⟩ := src1.src.feed
  refine ⟨_, rfl, a, p1, q1, rfl, h1, fun i H2 i0 i1 f2 => ⟨(by show 2 <= sizeLine; decide), fun t ht => ?_⟩⟩
  exact k _ (.go i) _ ⟨t, _, rfl, ups, _, _, rfl, rfl, _, _, rfl, rfl, rfl⟩ ⟨i0, i1⟩ ((F1.trans (Fed.to2 f2 src1)).same (Same.new ht _))
 have n1 : fm ≠ 1 := fun e => c (decide_eq_true (by rw [e]))
 refine ⟨_, rfl, rfl, _, rfl, ite2 (fun c => ?_) (fun c => ?_)⟩
 ·refine ⟨_, rfl, _, rfl, a, b, rfl, src1.src, fun x H2 hx f2 => ?_⟩
  have src2 := src1.fed f2
  refine ⟨_, rfl, _, rfl, a, b, rfl, src2.src, fun y H3 hy f3 => ?_⟩
  have src3 := src2.fed f3
  refine ⟨_, rfl, _, rfl, a, b, rfl, src3.src, fun z H4 hz f4 => ⟨(by show 4 <= sizeLine; decide), fun t ht => ?_⟩⟩
  exact k _ (.take x y z) _ ⟨t, _, rfl, ups, _, _, rfl, rfl, _, _, rfl, rfl, _, _, rfl, rfl, _, _, rfl, rfl, rfl⟩ ⟨hx, hy, hz⟩ ((F1.trans (Fed.to2 (f2.trans (f3.trans f4)) src1)).same (Same.new ht _))
 have n2 : fm ≠ 2 := fun e => c (decide_eq_true (by rw [e]))
 refine ⟨_, rfl, _, rfl, _, rfl, _, rfl, a, b, lf, rfl, src1, fun r H2 r0 r1 f2 => ?_⟩
 have src2 := src1.fed2 f2
 refine ⟨a, b, r, 7, rfl, rfl, r0, src2.src, fun v d t H3 ht hlen rv f3 => ?_⟩
 have src3 := src2.fed f3
 have F3 := F1.trans (f2.trans (Fed.to2 f3 src2))
 have hok : TOk d t := ⟨ht, by omega⟩
 refine ⟨_, rfl, rfl, _, rfl, ite2 (fun c => ?_) (fun c => ?_)⟩
 ·refine ⟨_, rfl, (by show 2 <= sizeLine; decide), fun tt htt => ?_⟩
  have st := Same.new htt (.tup [.str (S "tell"), v])
  exact k _ (.tell d t) _ ⟨tt, _, rfl, ups, _, _, rfl, rfl, _, _, rfl, rv.same st _, rfl⟩ hok (F3.same st)
 have n3 : fm ≠ 3 := fun e => c (decide_eq_true (by rw [e]))
 refine ⟨_, rfl, rfl, _, rfl, ite2 (fun c => ?_) (fun c => ?_)⟩
 ·obtain ⟨p3, q3, h3⟩ := src3.src.feed
  refine ⟨_, rfl, _, rfl, a, p3, q3, rfl, h3, fun i H4 i0 i1 f4 => ⟨(by show 3 <= sizeLine; decide), fun tt htt => ?_⟩⟩
  have st := Same.new htt (.tup [.str (S "if"), v, .int i])
  exact k _ (.iff d t i) _ ⟨tt, _, rfl, ups, _, _, rfl, rfl, _, _, rfl, (src3.src.relD f4 rv).same st _, _, _, rfl, rfl, rfl⟩ ⟨hok, i0, i1⟩ ((F3.trans (Fed.to2 f4 src3)).same st)
 have n4 : fm ≠ 4 := fun e => c (decide_eq_true (by rw [e]))
 refine ⟨(by show 2 <= sizeLine; decide), fun l hl => ?_⟩
 have y1 := Same.new hl (.lst [.str (S "set"), .str (S "send")])
 obtain ⟨bb, hbb⟩ : ∃ bb : Bool, atI [V.str (S "set"), V.str (S "send")] (fm - 5) = some (.str (setW bb)) := by
  rcases (show fm = 5 \/ fm = 6 by omega) with rfl | rfl
  ·exact ⟨true, rfl⟩
  ·exact ⟨false, rfl⟩
 have src4 := src3.same y1
 refine ⟨_, rfl, _, _, rfl, rfl, l, _, _, _, rfl, rfl, SqL.of ups, hbb, ?_⟩
 refine ⟨_, rfl, _, rfl, a, b, rfl, src4.src, fun x H4 hx f4 => ⟨_, rfl, (by show 3 <= sizeLine; decide), fun tt htt => ?_⟩⟩
 have st := Same.new htt (.tup [.str (setW bb), .str x, v])
 exact k _ (.set bb x d t) _ ⟨tt, _, rfl, ups, _, _, rfl, rfl, _, _, rfl, rfl, _, _, rfl, (src4.src.relD f4 (rv.same y1 _)).same st _, rfl⟩ ⟨hx, hok⟩ (((F3.same y1).trans (Fed.to2 f4 src4)).same st)
theorem okl_hand (T : Tx K mg) (Dl_take : DefIs P w K mg base n "_law_take" ["_law_feed_here", "_law_many"] spTake) (Dl_some : DefIs P w K mg base n "_law_some" ["_law_feed_here", "_law_pool"] spSomeG) (Dl_row : DefIs P w K mg base n "_law_row" ["_law_feed_here", "_law_pool", "_law_left"] spLRow) : DefIs P w K mg base (n + 1) "_law_hand" ["_law_feed_here", "_law_pool", "_law_left"] spLHand := by
 refine DefIs.of T.dl_hand scl_hand (fun vs H Q E h => ?_) (fun f cdv A outer s H vs Q E hr h => ?_)
 ·obtain ⟨a, b, _, rfl, _⟩ := h
  rfl
 obtain ⟨a, b, lf, rfl, src, k⟩ := h
 have nd := scl_hand.nd
 obtain ⟨p, q, ha⟩ := src.src.feed
 refine ⟨_, (zpn (ps_setComp (i := 3) ["_law_k", "_law_feed_here", "_law_pool"] [none, some 0, some 1] rfl (by kernel_rfl) nd rfl (by walk_at "o") (pi_range1 rfl T.z_range (zpc (pd Dl_take hr (zpc (pv 0) (zpc pe_int pa_nil so) zsn)) pa_nil zsc)) (fun _ _ _ _ => (pg_name (i := 0) (by show List.Nodup (["_law_k", "_law_feed_here", "_law_pool"] : List Str); decide +kernel) rfl (Or.inl rfl))) (fun _ _ _ _ => pts_nil) (fun _ _ _ _ => (pe_tup (zpc (pd Dl_some hr (zpc (pv 1) (zpc (pv 2) pa_nil zsn) zsn)) (zpc (pd Dl_some hr (zpc (pv 1) (zpc (pe_op op_cat (pe_lst (zpc pe_str pa_nil so)) (pv 2)) pa_nil star_bin) zsn)) pa_nil zsc) zsc))))
   (zpn (ps_set (i := 4) nd rfl (by walk_at "o") (pd Dl_take hr (zpc (pv 0) (zpc pe_int pa_nil so) zsn)))
   (zpn (ps_if (pt_cmpR op_eq (pd Dl_take hr (zpc (pv 0) (zpc pe_int pa_nil so) zsn)) pe_int (nomark _)) (zpo (ps_set (i := 4) nd rfl (by walk_at "o") pe_int)) pss_nil)
   (zpo (ps_ret (pe_tup (zpc (pd Dl_some hr (zpc (pv 0) (zpc (pv 1) pa_nil zsn) zsn)) (zpc (pe_callTy call_tuple_of rfl T.z_tuple PyProof.Rows.boot_tuple (zpc (pv 3) pa_nil zsn)) (zpc (pe_callTy call_tuple_of rfl T.z_tuple PyProof.Rows.boot_tuple (zpc (pe_comp ["_law_k", "_law_feed_here", "_law_pool", "_law_left"] [none, some 0, some 1, some 2] rfl (by kernel_rfl) (pi_range1 rfl T.z_range (zpc (pv 4) pa_nil zsn)) (fun _ _ _ _ => (pg_name (i := 0) (by show List.Nodup (["_law_k", "_law_feed_here", "_law_pool", "_law_left"] : List Str); decide +kernel) rfl (Or.inl rfl))) (fun _ _ _ _ => pts_nil) (fun _ _ _ _ => (pd Dl_row hr (zpc (pv 1) (zpc (pv 2) (zpc (pv 3) pa_nil zsn) zsn) zsn)))) pa_nil star_comp)) pa_nil zsc) zsc) zsc))))))), ?_⟩
 refine ⟨_, rfl, a, p, q, 6, rfl, ha, by decide, by decide, fun r H1 r0 r1 f1 => ⟨_, rfl, by omega, by omega, ?_⟩⟩
 have src1 := src.fed f1
 obtain ⟨mm, rfl⟩ : ∃ i : Nat, r = (i : Int) := ⟨r.toNat, by omega⟩
 rw [Int.toNat_natCast]
 refine comp_range (j := 0) (fun i ys H' => Fed a H1 H' /\ ∃ ps : List (Str × Str), RelDs H' ys (ps.map dPart) /\ ps.length = i /\ ∀ p ∈ ps, PtOk p) (by rfl) ⟨src1.src.refl, [], rfl, rfl, fun _ h => nomatch h⟩ (fitsLt (by omega)) ?_ ?_
 ·rintro i ys H2 hi hly ⟨f2, ps, ry, hpl, hpo⟩
  have src2 := src1.src.fed f2
  obtain ⟨pz1, qz1⟩ := src_pool src2
  refine ⟨_, rfl, _, rfl, a, b, pz1, rfl, src2.feed, qz1.1, qz1.2.1, qz1.2.2.1, qz1.2.2.2.1, fun x hxm H3 f3 => ?_⟩
  have hx := qz1.2.2.2.2 x hxm
  have src3 := src2.fed f3
  obtain ⟨zs, hb3, h8, hN⟩ := src3.pool
  refine ⟨_, rfl, (by show 1 <= sizeLine; decide), fun l1 hl1 => ?_⟩
  have y1 := Same.new hl1 (.lst [.str (S "num")])
  refine ⟨_, rfl, l1, b, _, _, rfl, rfl, ups, y1 _ _ hb3, fits (by rw [List.length_map]; show 1 + _ <= _; omega), fun l2 hl2 => ?_⟩
  have y2 := Same.new hl2 (.lst ([.str (S "num")] ++ zs.map V.str))
  have y12 := y1.trans y2
  obtain ⟨p3, q3, ha3⟩ := src3.feed
  refine ⟨a, l2, S "num" :: zs, rfl, ⟨p3, q3, y12 _ _ ha3⟩, by rw [ups]; rfl, neN ha3 (none_of_same y1 hl2), by simp, by simp [h8], fun z hzm H4 f4 => ⟨(by show 2 <= sizeLine; decide), fun t ht => ?_⟩⟩
  have hz := kind_pool hN z hzm
  have st := Same.new ht (.tup [.str x, .str z])
  have F : Fed a H2 (upd H4 t (.tup [.str x, .str z])) := ((f3.same y12).trans f4).same st
  refine nxt hi hly ⟨f2.trans F, ps ++ [(x, z)], ?_, by rw [List.length_append, hpl]; rfl, ?_⟩
  ·rw [List.map_append]
   exact (src2.relDs F ry).append ⟨_, [], rfl, ⟨t, _, rfl, ups, _, _, rfl, rfl, _, _, rfl, rfl, rfl⟩, rfl⟩
  ·intro u hu
   rcases List.mem_append.mp hu with hu | hu
   ·exact hpo u hu
   ·rw [List.mem_singleton.mp hu]; exact ⟨hx, hz⟩
 rintro bvs H2 hly ⟨f2, ps, ry, hpl, hpo⟩ D hD
 have yD := Same.new hD (.lst bvs)
 have F12 : Fed a H (upd H2 D (.lst bvs)) := (f1.trans f2).same yD
 have src2 := src.fed F12
 have srcB := (src1.fed f2)
 obtain ⟨pB, qB, haB⟩ := srcB.src.feed
 obtain ⟨cB, _, _, hlB⟩ := srcB.left
 have Da : D ≠ a := Ne.symm (neN haB hD)
 have Dl : D ≠ lf := Ne.symm (neN hlB hD)
 have hDv : upd H2 D (.lst bvs) D = some (.lst bvs) := ups
 have ryD := ry.same yD _
 generalize upd H2 D (.lst bvs) = H3 at F12 src2 hDv ryD ⊢
 obtain ⟨p3, q3, ha3⟩ := src2.src.feed
 refine ⟨_, rfl, a, p3, q3, 7, rfl, ha3, by decide, by decide, fun mn H4 mn0 mn1 f4 => ?_⟩
 have src4 := src2.fed f4
 obtain ⟨p4, q4, h4⟩ := src4.src.feed
 refine ⟨_, rfl, a, p4, q4, 8, rfl, h4, by decide, by decide, fun x8 H5 x80 x81 f5 => ⟨rfl, _, rfl, ite2 (fun c => ?_) (fun c => ?_)⟩⟩
 all_goals
  have src5 := src4.fed f5
  obtain ⟨pz, qz⟩ := src_pool src5.src
  refine ⟨_, rfl, _, rfl, a, b, pz, rfl, src5.src.feed, qz.1, qz.2.1, qz.2.2.1, qz.2.2.2.1, fun nm hnm H6 f6 => ?_⟩
  have hn := qz.2.2.2.2 nm hnm
  have F6 : Fed a H3 H6 := f4.trans (f5.trans f6)
  have src6 := src2.fed F6
  have hD6 := F6.1 _ _ hDv Da
  have ry6 := src2.src.relDs F6 ryD
  refine ⟨_, rfl, D, bvs, rfl, .inl ⟨SqL.of hD6, fun tb htb => ?_⟩⟩
  have yb := Same.new htb (.tup bvs)
  have src7 := src6.same yb
  have htb7 : upd H6 tb (.tup bvs) tb = some (.tup bvs) := ups
  have ry7 := ry6.same yb _
  have F7 : Fed2 a lf H (upd H6 tb (.tup bvs)) := (Fed.to2 (F12.trans F6) src).same yb
  generalize upd H6 tb (.tup bvs) = H7 at src7 htb7 ry7 F7 ⊢
  refine ⟨_, rfl, _, rfl, by omega, by omega, ?_⟩
  refine comp_range (j := 0) (fun i ys H' => Fed2 a lf H7 H' /\ ∃ rs : List Rw, RelDs H' ys (rs.map Rw.d) /\ rs.length = i /\ ∀ r ∈ rs, r.Ok) (by rfl) ⟨Fed.to2 src7.src.refl src7, [], rfl, rfl, fun _ h => nomatch h⟩ (fitsLt (by omega)) ?_ ?_
  ·rintro i ys H8 hi hly ⟨f8, rs, rr, hrl, hro⟩
   have src8 := src7.fed2 f8
   refine ⟨_, rfl, _, rfl, _, rfl, a, b, lf, rfl, src8, fun v r H9 rv hok f9 => nxt hi hly ⟨f8.trans f9, rs ++ [r], ?_, by rw [List.length_append, hrl]; rfl, ?_⟩⟩
   ·rw [List.map_append]
    exact (rr.tups (src8.tups f9) _).append ⟨v, [], rfl, rv, rfl⟩
   ·intro u hu
    rcases List.mem_append.mp hu with hu | hu
    ·exact hro u hu
    ·rw [List.mem_singleton.mp hu]; exact hok
  ·rintro ys H8 hly ⟨f8, rs, rr, hrl, hro⟩ D2 hD2
   refine ⟨D2, ys, rfl, .inl ⟨SqL.of ups, fun tr htr => ⟨(by show 3 <= sizeLine; decide), fun th hth => ?_⟩⟩⟩
   have z1 := Same.new hD2 (.lst ys)
   have z2 := Same.new htr (.tup ys)
   have z3 := Same.new hth (.tup [.str nm, .ref tb, .ref tr])
   have z23 := z2.trans z3
   have z13 := z1.trans z23
   have tp8 := src7.tups f8
   exact k _ ⟨nm, ps, rs⟩ _ ⟨th, _, rfl, ups, _, _, rfl, rfl, _, _, rfl, ⟨tb, bvs, rfl, z13 _ _ (tp8 _ _ htb7), (ry7.tups tp8 _).same z13 _⟩, _, _, rfl, ⟨tr, ys, rfl, z3 _ _ ups, rr.same z13 _⟩, rfl⟩ ⟨hn, by show ps.length <= 5; omega, by show rs.length <= 24; omega, hpo, hro⟩ ((F7.trans f8).same z13)
def spLMake (K : PySem.W.Frag) : Sp := fun vs H Q _ => ∃ (sa b : Addr) (ns : List Int) (e : Int) (ys : List Str), vs = [.ref sa, .int e, .ref b] /\ SqL K H sa (ns.map V.int) /\ ns.length <= 63 /\ 0 <= e /\ H b = some (.lst (ys.map V.str)) /\ ys.length = 8 /\ (∀ y ∈ ys, Name y) /\ ∀ (v : V) (mk : Mk) (H' : Hp), RelD H' v mk.d -> MkOk mk -> Same H H' -> Q v H'
theorem okl_make (T : Tx K mg) (Dl_feed : DefIs P w K mg base n "_law_feed" ["_law_script", "_law_k"] (spFeed K)) (Dl_take : DefIs P w K mg base n "_law_take" ["_law_feed_here", "_law_many"] spTake) (Dl_kinds : DefIs P w K mg base n "_law_kinds" ["_law_feed_here", "_law_pool"] spLKinds) (Dl_channels : DefIs P w K mg base n "_law_channels" ["_law_feed_here", "_law_pool"] spLChans) (Dl_hand : DefIs P w K mg base n "_law_hand" ["_law_feed_here", "_law_pool", "_law_left"] spLHand) : DefIs P w K mg base (n + 1) "_law_make" ["_law_script", "_law_at", "_law_pool"] (spLMake K) := by
 refine DefIs.of T.dl_make scl_make (fun vs H Q E h => ?_) (fun f cdv A outer s H vs Q E hr h => ?_)
 ·obtain ⟨_, _, _, _, _, rfl, _⟩ := h
  rfl
 obtain ⟨sa, b, ns, e, ys, rfl, hS, h63, e0, hb, h8, hN, k⟩ := h
 have nd := scl_make.nd
 refine ⟨_, (zpn (ps_set (i := 3) nd rfl (by walk_at "o") (pd Dl_feed hr (zpc (pv 0) (zpc (pv 1) pa_nil zsn) zsn)))
   (zpn (ps_set (i := 4) nd rfl (by walk_at "o") (pd Dl_kinds hr (zpc (pv 3) (zpc (pv 2) pa_nil zsn) zsn)))
   (zpn (ps_set (i := 5) nd rfl (by walk_at "o") (pd Dl_channels hr (zpc (pv 3) (zpc (pv 2) pa_nil zsn) zsn)))
   (zpn (ps_set (i := 6) nd rfl (by walk_at "o") (pe_lst (zpc pe_int pa_nil so)))
   (zpn (ps_set (i := 7) nd rfl (by walk_at "o") (pd Dl_take hr (zpc (pv 3) (zpc pe_int pa_nil so) zsn)))
   (zpo (ps_ret (pe_tup (zpc (pv 4) (zpc (pv 5) (zpc (pe_callTy call_tuple_of rfl T.z_tuple PyProof.Rows.boot_tuple (zpc (pe_comp ["_law_k", "_law_pool", "_law_left", "_law_script", "_law_at"] [none, some 2, some 6, some 0, some 1] rfl (by kernel_rfl) (pi_range1 rfl T.z_range (zpc (pv 7) pa_nil zsn)) (fun _ _ _ _ => (pg_name (i := 0) (by show List.Nodup (["_law_k", "_law_pool", "_law_left", "_law_script", "_law_at"] : List Str); decide +kernel) rfl (Or.inl rfl))) (fun _ _ _ _ => pts_nil) (fun _ _ _ _ => (pd Dl_hand hr (zpc (pd Dl_feed hr (zpc (pv 3) (zpc (pe_op op_add (pe_op op_add (pv 4) pe_int) (pv 0)) pa_nil star_bin) zsn)) (zpc (pv 1) (zpc (pv 2) pa_nil zsn) zsn) zsc)))) pa_nil star_comp)) pa_nil zsc) zsn) zsn))))))))), ?_⟩
 refine ⟨_, rfl, _, rfl, sa, ns, e, rfl, hS, h63, e0, fun r p q nr => ?_⟩
 have sr := Same.new nr (.lst [.int p, .int q])
 have br : r ≠ b := Ne.symm (neN hb nr)
 have src1 : Src (upd H r (.lst [.int p, .int q])) r b := ⟨br, ⟨p, q, ups⟩, ys, sr _ _ hb, h8, hN⟩
 refine ⟨_, rfl, _, rfl, r, b, rfl, src1, fun kv ks H2 rk hko hk6 f2 => ?_⟩
 have src2 := src1.fed f2
 refine ⟨_, rfl, _, rfl, r, b, rfl, src2, fun cv cs H3 rc hco hc6 f3 => ?_⟩
 have src3 := src2.fed f3
 have rk3 := src2.relD f3 rk
 have s3 : Same H H3 := Fed.back nr sr (f2.trans f3)
 refine ⟨(by show 1 <= sizeLine; decide), fun lf hlf => ?_⟩
 have yl := Same.new hlf (.lst [.int 60])
 have s4 := s3.trans yl
 have lf0 : H lf = none := none_of_same s3 hlf
 obtain ⟨p3, q3, ha3⟩ := src3.feed
 have lr : lf ≠ r := Ne.symm (neN ha3 hlf)
 have rk4 := rk3.same yl _
 have rc4 := rc.same yl _
 have hl4 : upd H3 lf (.lst [.int 60]) lf = some (.lst [.int 60]) := ups
 have ha4 := yl _ _ ha3
 generalize upd H3 lf (.lst [.int 60]) = H4 at s4 rk4 rc4 hl4 ha4 ⊢
 refine ⟨_, rfl, r, p3, q3, 5, rfl, ha4, by decide, by decide, fun mm H5 mm0 mm1 f5 => ?_⟩
 have tp5 := fed_tups ⟨p3, q3, ha4⟩ f5
 have rk5 := rk4.tups tp5 _
 have rc5 := rc4.tups tp5 _
 have hl5 := f5.1 _ _ hl4 lr
 have s5 : Same H H5 := fun x o hx => f5.1 x o (s4 x o hx) (neN hx nr)
 refine ⟨_, rfl, _, rfl, _, rfl, _, rfl, by omega, by omega, ?_⟩
 refine comp_range (j := 0) (fun i zs H' => Same H H' /\ (∀ x us, H5 x = some (.tup us) -> H' x = some (.tup us)) /\ (∃ c : Int, 1 <= c /\ c <= 60 /\ H' lf = some (.lst [.int c])) /\ ∃ hs : List Hn, RelDs H' zs (hs.map Hn.d) /\ hs.length = i /\ ∀ h ∈ hs, HnOk h) (by rfl) ⟨s5, fun _ _ e => e, ⟨60, by decide, by decide, hl5⟩, [], rfl, rfl, fun _ h => nomatch h⟩ (fitsLt (by omega)) ?_ ?_
 ·rintro i zs H6 hi hly ⟨s6, tp6, ⟨c, c0, c1, hl6⟩, hs, rz, hhl, hho⟩
  refine ⟨_, rfl, _, rfl, _, _, rfl, rfl, _, rfl, _, _, rfl, rfl, sa, ns, _, rfl, s6.seq hS, h63, by omega, fun r2 p2 q2 nr2 => ?_⟩
  have sr2 := Same.new nr2 (.lst [.int p2, .int q2])
  have hb6 := s6 _ _ hb
  have src6 : Src2 (upd H6 r2 (.lst [.int p2, .int q2])) r2 b lf := ⟨⟨Ne.symm (neN hb6 nr2), ⟨p2, q2, ups⟩, ys, sr2 _ _ hb6, h8, hN⟩, neN hl6 nr2, (fun z => by rw [z, hb] at lf0; cases lf0), c, c0, c1, sr2 _ _ hl6⟩
  refine ⟨_, rfl, _, rfl, r2, b, lf, rfl, src6, fun v hd H7 rv hok f7 => nxt hi hly ⟨fun x o hx => ?_, fun x us hx => ?_, f7.2.2, hs ++ [hd], ?_, by rw [List.length_append, hhl]; rfl, ?_⟩⟩
  ·have hx6 := s6 x o hx
   exact f7.1 x o (sr2 _ _ hx6) (neN hx6 nr2) (neN hx lf0)
  ·exact src6.tups f7 x us (sr2 _ _ (tp6 x us hx))
  ·rw [List.map_append]
   exact ((rz.same sr2 _).tups (src6.tups f7) _).append ⟨v, [], rfl, rv, rfl⟩
  ·intro u hu
   rcases List.mem_append.mp hu with hu | hu
   ·exact hho u hu
   ·rw [List.mem_singleton.mp hu]; exact hok
 ·rintro zs H6 hly ⟨s6, tp6, _, hs, rz, hhl, hho⟩ D hD
  refine ⟨D, zs, rfl, .inl ⟨SqL.of ups, fun tz htz => ⟨(by show 3 <= sizeLine; decide), fun tm htm => ?_⟩⟩⟩
  have z1 := Same.new hD (.lst zs)
  have z2 := Same.new htz (.tup zs)
  have z3 := Same.new htm (.tup [kv, cv, .ref tz])
  have z13 := z1.trans (z2.trans z3)
  exact k _ ⟨ks, cs, hs⟩ _ ⟨tm, _, rfl, ups, _, _, rfl, (rk5.tups tp6 _).same z13 _, _, _, rfl, (rc5.tups tp6 _).same z13 _, _, _, rfl, ⟨tz, zs, rfl, z3 _ _ ups, rz.same z13 _⟩, rfl⟩ ⟨hk6, hc6, by show hs.length <= 4; omega, hko, hco, hho⟩ (s6.trans z13)
end
end K4
end
section
namespace K4
open PySem L2 M
seal L2.PE L2.PA L2.PS L2.PSs L2.PT L2.PW L2.PI L2.PG L2.PJ L2.PTs
inductive Left (H : Hp) : List V -> List D -> Prop where
 | nil : Left H [] []
 | cons {T : Addr} {u v : V} {d : D} {vs : List V} {ds : List D} (hT : H T = some (.tup [u, v])) (h1 : RelD H u d) (h2 : RelD H v d) (r : Left H vs ds) : Left H (.ref T :: vs) (d :: ds)
theorem Left.tups {H H' : Hp} {vs : List V} {ds : List D} (h : Left H vs ds) (s : ∀ b vs, H b = some (.tup vs) -> H' b = some (.tup vs)) : Left H' vs ds := by
 induction h with
 | nil => exact .nil
 | cons hT h1 h2 _ ih => exact .cons (s _ _ hT) (h1.tups s _) (h2.tups s _) ih
theorem Left.append {H : Hp} {vs us : List V} {ds es : List D} (h : Left H vs ds) (k : Left H us es) : Left H (vs ++ us) (ds ++ es) := by
 induction h with
 | nil => exact k
 | cons hT h1 h2 _ ih => exact .cons hT h1 h2 ih
theorem Left.length {H : Hp} {vs : List V} {ds : List D} (h : Left H vs ds) : vs.length = ds.length := by
 induction h with
 | nil => rfl
 | cons _ _ _ _ ih => simp [ih]
theorem Left.last {H : Hp} : ∀ {vs : List V} {ds : List D}, Left H vs ds -> vs ≠ [] -> ∃ vs' ds' T u v d, vs = vs' ++ [.ref T] /\ ds = ds' ++ [d] /\ Left H vs' ds' /\ H T = some (.tup [u, v]) /\ RelD H u d /\ RelD H v d
 | _, _, .nil, h => absurd rfl h
 | _, _, .cons (T := T) (u := u) (v := v) (d := d) (vs := vs) (ds := ds) hT h1 h2 r, _ => by
  by_cases hn : vs = []
  ·subst hn
   have : ds = [] := List.eq_nil_of_length_eq_zero (by rw [<- r.length]; rfl)
   subst this
   exact ⟨[], [], T, u, v, d, rfl, rfl, .nil, hT, h1, h2⟩
  ·obtain ⟨vs', ds', T', u', v', d', e1, e2, r', hT', h1', h2'⟩ := Left.last r hn
   exact ⟨.ref T :: vs', d :: ds', T', u', v', d', by rw [e1]; rfl, by rw [e2]; rfl, .cons hT h1 h2 r', hT', h1', h2'⟩
theorem left_zip {H : Hp} : ∀ {Ts : List Addr} {us vs : List V} {ds : List D}, Ts.length = us.length -> RelDs H us ds -> RelDs H vs ds -> (∀ (j : Nat) T u v, Ts[j]? = some T -> us[j]? = some u -> vs[j]? = some v -> H T = some (.tup [u, v])) -> Left H (Ts.map V.ref) ds
 | [], us, vs, ds, hl, h1, h2, _ => by
  have e : us = [] := List.eq_nil_of_length_eq_zero hl.symm
  subst e
  have := h1.length
  have e2 : ds = [] := List.eq_nil_of_length_eq_zero this.symm
  subst e2
  exact .nil
 | T :: Ts, us, vs, [], hl, h1, h2, hp => by
  rw [show us = [] from h1] at hl
  simp at hl
 | T :: Ts, us, vs, d :: ds, hl, ⟨u, us', e1, r1, h1⟩, ⟨v, vs', e2, r2, h2⟩, hp => by
  subst e1 e2
  exact .cons (hp 0 T u v rfl rfl rfl) r1 r2 (left_zip (Ts := Ts) (by simpa using hl) h1 h2 fun j T' u' v' a b c => hp (j + 1) T' u' v' (by simpa using a) (by simpa using b) (by simpa using c))
def spAlike : Sp := fun vs H Q _ => ∃ u v d, vs = [u, v] /\ RelD H u d /\ RelD H v d /\ d.size <= 1000000 /\ ∀ H', Same H H' -> Q (.bl true) H'
section
variable {P : Program} {w : World} {K : PySem.W.Frag} {mg : Str -> Option Value} {base : Heap} {n m : Nat}
theorem okl_alike (T : Tx K mg) : DefIs P w K mg base (n + 1) "_law_alike" ["_law_found", "_law_due"] spAlike := by
 refine DefIs.of T.dl_alike scl_alike (fun vs H Q E h => ?_) (fun f cdv A outer s H vs Q E hr h => ?_)
 ·obtain ⟨_, _, _, rfl, _⟩ := h
  rfl
 obtain ⟨u, v, d, rfl, hu', hv', hd, k⟩ := h
 have nd := scl_alike.nd
 have hu := hu_of hr
 refine ⟨_, (zpn (ps_set (i := 2) nd rfl (by walk_at "o") (pe_lst (zpc (pe_tup (zpc (pv 0) (zpc (pv 1) pa_nil zsn) zsn)) pa_nil star_tup)))
   (zpn (ps_while PassesOwn.never (pt_cmpR (op_neE (Nat.lt_of_succ_lt hu)) (pv 2) (pe_lst pa_nil) (nomark _))
   (zpn (ps_asg (pe_bm0 PySem.F.plainAttrs_list PySem.F.slot_list_pop PySem.F.type_list_pop mt_pop (pv 2)) (pg_tup rfl (pgs_cons (pg_name (i := 3) nd rfl (by walk_at "o")) (pgs_cons (pg_name (i := 4) nd rfl (by walk_at "o")) pgs_nil))))
   (zpo (ps_if (pt_val (pe_callB call_isinst rfl T.z_isinstance PyProof.Rows.boot_isinstance (zpc (pv 4) (zpc (pe_gty T.z_tuple PyProof.Rows.boot_tuple) pa_nil zsn) zsn))) (zpn (ps_if (PW.pt (pw_or (pt_not (pt_val (pe_callB call_isinst rfl T.z_isinstance PyProof.Rows.boot_isinstance (zpc (pv 3) (zpc (pe_gty T.z_tuple PyProof.Rows.boot_tuple) pa_nil zsn) zsn)))) (pw_or1 (pt_cmpR op_ne (pe_callB call_len_seq rfl T.z_len PySem.boot_len (zpc (pv 3) pa_nil zsn)) (pe_callB call_len_seq rfl T.z_len PySem.boot_len (zpc (pv 4) pa_nil zsn)) (nomark _))))) (zpo (ps_ret pe_bl)) pss_nil)
   (zpo (ps_set (i := 2) nd rfl (by walk_at "o") (pe_op op_cat (pv 2) (pe_listzip rfl rfl T.z_list rfl T.z_zip (pv 3) (pv 4)))))) (zpo (ps_if (PW.pt (pw_or (pt_val (pe_callB call_isinst rfl T.z_isinstance PyProof.Rows.boot_isinstance (zpc (pv 3) (zpc (pe_gty T.z_bool PyProof.Rows.boot_bool) pa_nil zsn) zsn))) (pw_or (pt_cmpR op_ne (pe_callB call_isinst rfl T.z_isinstance PyProof.Rows.boot_isinstance (zpc (pv 3) (zpc (pe_gty T.z_int PyProof.Rows.boot_int) pa_nil zsn) zsn)) (pe_callB call_isinst rfl T.z_isinstance PyProof.Rows.boot_isinstance (zpc (pv 4) (zpc (pe_gty T.z_int PyProof.Rows.boot_int) pa_nil zsn) zsn)) (nomark _)) (pw_or1 (pt_cmpR op_ne (pv 3) (pv 4) (nomark _)))))) (zpo (ps_ret pe_bl)) pss_nil))))))
   (zpo (ps_ret pe_bl)))), ?_⟩
 refine ⟨_, rfl, _, rfl, (by show 2 <= sizeLine; decide), fun t0 ht0 => ⟨(by show 1 <= sizeLine; decide), fun l0 hl0 => ?_⟩⟩
 have s0 := (Same.new ht0 (.tup [u, v])).trans (Same.new hl0 (.lst [.ref t0]))
 refine ⟨fun j σ H' => ∃ l vs ds o3 o4, j = sizes ds /\ σ = [some u, some v, some (.ref l), o3, o4] /\ H l = none /\ H' l = some (.lst vs) /\ Left H' vs ds /\ sizes ds <= 1000000 /\ Same H H', ⟨_, l0, [.ref t0], [d], none, none, rfl, rfl, none_of_same (Same.new ht0 _) hl0, ups, ?_, ?_, s0⟩, ?_⟩
 ·exact .cons (Same.new hl0 _ _ _ ups) (hu'.same s0 _) (hv'.same s0 _) .nil
 ·show d.size + 0 <= _
  omega
 rintro j σ H1 ⟨l, vs, ds, o3, o4, rfl, rfl, hl, hl1, hL, hsz, sm⟩
 refine ⟨_, rfl, Nat.zero_le _, fun e he => ?_⟩
 have se := Same.new he (.lst [])
 refine ⟨l, e, vs, rfl, rfl, SqL.of (se _ _ hl1), SqL.of ups, _, rfl, ?_⟩
 have hL2 := hL.tups (fun b us z => se b _ z)
 have hl2 := se _ _ hl1
 have sm2 := sm.trans se
 generalize upd H1 e (.lst []) = H2 at hL2 hl2 sm2 ⊢
 by_cases hn : vs = []
 ·subst hn
  exact iteF (k H2 sm2)
 have hne : (!vs.isEmpty) = true := by
  cases vs with
  | nil => exact absurd rfl hn
  | cons _ _ => rfl
 refine iteBT hne ?_
 refine ⟨fun σ' H' => ∃ l vs ds' o3 o4, sizes ds' < sizes ds /\ σ' = [some u, some v, some (.ref l), o3, o4] /\ H l = none /\ H' l = some (.lst vs) /\ Left H' vs ds' /\ sizes ds' <= 1000000 /\ Same H H', fun σ' H' ⟨l', vs', ds', p3, p4, q0, q1, q2, q3, q4, q5, q6⟩ => ⟨_, q0, l', vs', ds', p3, p4, rfl, q1, q2, q3, q4, q5, q6⟩, ?_⟩
 obtain ⟨vs', ds', T1, u1, v1, d1, rfl, rfl, hL3, hT1, r1, r2⟩ := hL2.last hn
 have lL := hL3.length
 have lS := length_le_sizes ds'
 rw [sizes_append] at hsz ⊢
 have e1 : sizes [d1] = d1.size := by show d1.size + 0 = d1.size; omega
 rw [e1] at hsz ⊢
 refine ⟨_, rfl, .inl ⟨rfl, _, SqL.of hl2⟩, l, _, .ref T1, rfl, rfl, hl2, ?_, ?_⟩
 ·rw [List.length_append, List.length_singleton, Nat.add_sub_cancel, List.getElem?_append_right (Nat.le_refl _), Nat.sub_self]
  rfl
 rw [List.dropLast_concat]
 have tp : ∀ b us, H2 b = some (.tup us) -> (upd H2 l (.lst vs')) b = some (.tup us) := fun b us z => by
  rw [upd_ne (fun q => by rw [q, hl2] at z; cases z)]
  exact z
 have hT2 := tp _ _ hT1
 have r1' := r1.tups tp _
 have r2' := r2.tups tp _
 have hL4 := hL3.tups tp
 have hl4 : (upd H2 l (.lst vs')) l = some (.lst vs') := ups
 have sm4 : Same H (upd H2 l (.lst vs')) := fun b o z => by
  rw [upd_ne (fun q => by rw [q, hl] at z; cases z)]
  exact sm2 b o z
 generalize upd H2 l (.lst vs') = H4 at hT2 r1' r2' hL4 hl4 sm4 ⊢
 refine ⟨T1, [u1, v1], rfl, SqT.of hT2, rfl, _, _, rfl, _, _, rfl, rfl, ?_⟩
 match d1, r1', r2', hsz with
 | .tup es, ⟨a1, us, e3, ha1, h1⟩, ⟨a2, ws, e4, ha2, h2⟩, hsz =>
  subst e3 e4
  have l1 := h1.length
  have l2 := h2.length
  refine ⟨_, rfl, _, _, _, _, _, rfl, fun u hu' => hu', TyOf.tup ha2, rfl, _, rfl, iteT ?_⟩
  refine ⟨_, rfl, _, _, _, _, _, rfl, fun u hu' => hu', TyOf.tup ha1, rfl, _, rfl, iteF ?_⟩
  refine ⟨_, rfl, a1, _, rfl, .inr (SqT.of ha1), _, rfl, a2, _, rfl, .inr (SqT.of ha2), rfl, _, rfl, iteBF ?_ ?_⟩
  ·rw [decide_eq_true]
   ·rfl
   ·rw [l1, l2]
  refine ⟨_, rfl, _, rfl, _, rfl, a1, a2, us, ws, rfl, rfl, SqT.of ha1, SqT.of ha2, by omega, fun z H5 Ts hz s5 lT hz5 hp => ?_⟩
  have lSe := length_le_sizes es
  have hse : (D.tup es).size = sizes es + 1 := rfl
  refine ⟨l, z, vs', Ts.map V.ref, rfl, rfl, s5 _ _ hl4, hz5, ?_, fun p hp5 => ?_⟩
  ·rw [List.length_map]; exact fits (by omega)
  have sp := Same.new hp5 (.lst (vs' ++ Ts.map V.ref))
  refine ⟨p, _, ds' ++ es, _, _, ?_, rfl, none_of_same (sm4.trans s5) hp5, ups, ?_, ?_, sm4.trans (s5.trans sp)⟩
  ·rw [sizes_append]; omega
  ·refine (hL4.tups fun b us' z' => (s5.trans sp) _ _ z').append (left_zip (by omega) (h1.same (s5.trans sp) _) (h2.same (s5.trans sp) _) fun j T' u' v' b1 b2 b3 => sp _ _ (hp j T' u' v' b1 b2 b3))
  ·rw [sizes_append]; omega
 | .int i, e3, e4, hsz =>
  have e3' : u1 = .int i := e3
  have e4' : v1 = .int i := e4
  subst e3' e4'
  refine ⟨_, rfl, _, _, _, _, _, rfl, fun u hu' => hu', TyOf.int _, rfl, _, rfl, iteF ?_⟩
  refine ⟨_, rfl, _, _, _, _, _, rfl, fun u hu' => hu', TyOf.int _, rfl, _, rfl, iteF ?_⟩
  refine ⟨_, rfl, _, _, _, _, _, rfl, fun u hu' => hu', TyOf.int _, rfl, _, rfl, _, _, _, _, _, rfl, fun u hu' => hu', TyOf.int _, rfl, rfl, _, rfl, iteBF (by walk_at "k") ?_⟩
  refine ⟨_, rfl, _, rfl, rfl, _, rfl, iteBF ?_ ?_⟩
  ·rw [decide_eq_true rfl]; rfl
  exact ⟨l, vs', ds', _, _, by show sizes ds' < sizes ds' + 1; omega, rfl, hl, hl4, hL4, by omega, sm4⟩
 | .str x, e3, e4, hsz =>
  have e3' : u1 = .str x := e3
  have e4' : v1 = .str x := e4
  subst e3' e4'
  refine ⟨_, rfl, _, _, _, _, _, rfl, fun u hu' => hu', TyOf.str _, rfl, _, rfl, iteF ?_⟩
  refine ⟨_, rfl, _, _, _, _, _, rfl, fun u hu' => hu', TyOf.str _, rfl, _, rfl, iteF ?_⟩
  refine ⟨_, rfl, _, _, _, _, _, rfl, fun u hu' => hu', TyOf.str _, rfl, _, rfl, _, _, _, _, _, rfl, fun u hu' => hu', TyOf.str _, rfl, rfl, _, rfl, iteBF (by walk_at "k") ?_⟩
  refine ⟨_, rfl, _, rfl, rfl, _, rfl, iteBF ?_ ?_⟩
  ·rw [decide_eq_true rfl]; rfl
  exact ⟨l, vs', ds', _, _, by show sizes ds' < sizes ds' + 1; omega, rfl, hl, hl4, hL4, by omega, sm4⟩
end
end K4
end
section
namespace M
open PySem
theorem sizes_bs {R : D -> Tr -> Prop} {es : List D} {ts : List Tr} (h : All2 R es ts) (g : ∀ d t, R d t -> d.size <= 3 * t.cs.length) : sizes es <= 3 * (bs ts).length := by
 induction h with
 | nil => exact Nat.zero_le _
 | cons h1 _ ih =>
  have := g _ _ h1
  rw [bs_len_cons]
  show D.size _ + sizes _ <= _
  omega
theorem arm_size {R : D -> Tr -> Prop} (g : ∀ d t, R d t -> d.size <= 3 * t.cs.length) {d : D} {t : Tr} (h : Arm R d t) : d.size <= 3 * t.cs.length := by
 obtain ⟨a, x, e, te, ha, hx, he, rfl, rfl⟩ := h
 have := g _ _ he
 rw [cs_cons, bs_len_cons, bs_len_cons, bs_len_nil]
 simp only [Rw.d, Hn.d, Kn.d, Mk.d, dKinds, dCh, D.size, sizes]
 omega
theorem T2.size3 : ∀ {n : Nat} {d : D} {t : Tr}, T2 n d t -> d.size <= 3 * t.cs.length
 | 0, d, t, h => by
  have hp := List.length_pos_iff.mpr (cs_ne h)
  rcases h with ⟨n, _, _, rfl, _⟩ | ⟨x, _, rfl, _⟩
  ·simp only [D.size, sizes]
   omega
  ·simp only [D.size, sizes]
   omega
 | n + 1, d, t, h => by
  have ih : ∀ d t, T2 n d t -> d.size <= 3 * t.cs.length := fun d t h => T2.size3 h
  rcases h with h | ⟨s, a, b, ta, tb, hs, ha, hb, rfl, rfl⟩ | ⟨k, es, ts, hk, _, hes, rfl, rfl⟩ | ⟨a, ta, f, hf, ha, rfl, rfl⟩ | ⟨k, g, a, ta, hk, hg, ha, rfl, rfl⟩ | ⟨a, ta, arms, ts, ha, h1, _, hs, rfl, rfl⟩ | ⟨a, b, c, ta, tb, tc, ha, hb, hc, rfl, rfl⟩
  ·exact T2.size3 (n := 0) h
  ·have e1 := ih _ _ ha
   have e2 := ih _ _ hb
   rw [cs_cons, bs_len_cons, bs_len_cons, bs_len_nil]
   simp only [Rw.d, Hn.d, Kn.d, Mk.d, dKinds, dCh, D.size, sizes]
   omega
  ·have e1 := sizes_bs hes ih
   rw [cs_cons, bs_len_cons]
   simp only [Rw.d, Hn.d, Kn.d, Mk.d, dKinds, dCh, D.size, sizes]
   omega
  ·have e1 := ih _ _ ha
   rw [cs_cons, bs_len_cons, bs_len_cons, bs_len_nil]
   simp only [Rw.d, Hn.d, Kn.d, Mk.d, dKinds, dCh, D.size, sizes]
   omega
  ·have e1 := ih _ _ ha
   rw [cs_cons, bs_len_cons, bs_len_cons, bs_len_cons, bs_len_nil]
   simp only [Rw.d, Hn.d, Kn.d, Mk.d, dKinds, dCh, D.size, sizes]
   omega
  ·have e1 := ih _ _ ha
   have e2 := sizes_bs hs fun d t h => arm_size ih h
   rw [cs_cons, bs_len_cons]
   simp only [Rw.d, Hn.d, Kn.d, Mk.d, dKinds, dCh, D.size, sizes]
   omega
  ·have e1 := ih _ _ ha
   have e2 := ih _ _ hb
   have e3 := ih _ _ hc
   rw [cs_cons, bs_len_cons, bs_len_cons, bs_len_cons, bs_len_nil]
   simp only [Rw.d, Hn.d, Kn.d, Mk.d, dKinds, dCh, D.size, sizes]
   omega
theorem row_size {r : Rw} (h : r.Ok) : r.d.size <= 9610 := by
 cases r with
 | en => simp only [Rw.d, D.size, sizes]; omega
 | go n => simp only [Rw.d, D.size, sizes]; omega
 | take a b c => simp only [Rw.d, D.size, sizes]; omega
 | tell d t =>
  have h1 := h.1.size3
  have h2 := h.2
  simp only [Rw.d, Hn.d, Kn.d, Mk.d, dKinds, dCh, D.size, sizes]
  omega
 | iff d t n =>
  have h1 := h.1.1.size3
  have h2 := h.1.2
  simp only [Rw.d, Hn.d, Kn.d, Mk.d, dKinds, dCh, D.size, sizes]
  omega
 | set b x d t =>
  have h1 := h.2.1.size3
  have h2 := h.2.2
  simp only [Rw.d, Hn.d, Kn.d, Mk.d, dKinds, dCh, D.size, sizes]
  omega
theorem sizes_map {α : Type} {f : α -> D} {B : Nat} : ∀ {xs : List α}, (∀ x ∈ xs, (f x).size <= B) -> sizes (xs.map f) <= xs.length * B
 | [], _ => Nat.zero_le _
 | x :: xs, h => by
  have ih := sizes_map (xs := xs) fun y hy => h y (by simp [hy])
  have h1 := h x (by simp)
  rw [List.length_cons, Nat.succ_mul]
  show (f x).size + sizes (xs.map f) <= _
  omega
theorem parts_size (ps : List (Str × Str)) : (dParts ps).size <= 1 + 3 * ps.length := by
 have e0 := sizes_map (f := dPart) (B := 3) (xs := ps) fun p _ => by simp only [dPart, D.size, sizes]; omega
 simp only [dParts, D.size]
 omega
theorem hand_size {h : Hn} (o : HnOk h) : h.d.size <= 230700 := by
 obtain ⟨_, h5, h24, _, hr⟩ := o
 have e1 := parts_size h.boxes
 have e2 := sizes_map (f := Rw.d) (B := 9610) (xs := h.rows) fun r hr' => row_size (hr r hr')
 simp only [Rw.d, Hn.d, Kn.d, Mk.d, dKinds, dCh, D.size, sizes]
 have : h.rows.length * 9610 <= 24 * 9610 := Nat.mul_le_mul_right _ h24
 omega
theorem mk_size {m : Mk} (o : MkOk m) : m.d.size <= 1000000 := by
 have e1 := sizes_map (f := Kn.d) (B := 16) (xs := m.kinds) fun k hk => by
  have h4 := (o.ks k hk).2.1
  have := parts_size k.parts
  simp only [Rw.d, Hn.d, Kn.d, Mk.d, dKinds, dCh, D.size, sizes]
  omega
 have e2 := sizes_map (f := dCh) (B := 5) (xs := m.chans) fun c _ => by simp only [dCh, D.size, sizes]; omega
 have e3 := sizes_map (f := Hn.d) (B := 230700) (xs := m.hands) fun h hh => hand_size (o.hs h hh)
 have h1 := o.k6
 have h2 := o.c6
 have h3 := o.h4
 have g1 : m.kinds.length * 16 <= 6 * 16 := Nat.mul_le_mul_right _ h1
 have g2 : m.chans.length * 5 <= 6 * 5 := Nat.mul_le_mul_right _ h2
 have g3 : m.hands.length * 230700 <= 4 * 230700 := Nat.mul_le_mul_right _ h3
 simp only [Rw.d, Hn.d, Kn.d, Mk.d, dKinds, dCh, D.size, sizes]
 omega
end M
end
section
namespace K4
open PySem L2 M
seal L2.PE L2.PA L2.PS L2.PSs L2.PT L2.PW L2.PI L2.PG L2.PJ L2.PTs
def spLaw (K : PySem.W.Frag) : Sp := fun vs H Q _ => ∃ (a : Addr) (ns : List Int), vs = [.ref a] /\ SqL K H a (ns.map V.int) /\ ns.length <= 63 /\ ∀ H', Q (.bl true) H'
def mk0 : Mk := ⟨[], [], []⟩
theorem ok0 : MkOk mk0 := ⟨Nat.zero_le _, Nat.zero_le _, Nat.zero_le _, (fun _ h => nomatch h), (fun _ h => nomatch h), (fun _ h => nomatch h)⟩
section
variable {P : Program} {w : World} {K : PySem.W.Frag} {mg : Str -> Option Value} {base : Heap} {n m : Nat}
theorem read_is (D : DefXs P w K mg base n "read" ["text"] spRead) : DefIs P w K mg base n "read" ["text"] spRead := D.is fun vs H Q E h => h
theorem ok_law (T : Tx K mg) (Dl_feed : DefIs P w K mg base n "_law_feed" ["_law_script", "_law_k"] (spFeed K)) (Dl_name : DefIs P w K mg base n "_law_name" ["_law_feed_here"] spLName) (Dl_make : DefIs P w K mg base n "_law_make" ["_law_script", "_law_at", "_law_pool"] (spLMake K)) (Dl_lines : DefIs P w K mg base n "_law_lines" ["_law_make_here"] spLines) (D_shown : DefIs P w K mg base n "shown" ["make"] spShown) (D_read : DefIs P w K mg base n "read" ["text"] spRead) (Dl_alike : DefIs P w K mg base n "_law_alike" ["_law_found", "_law_due"] spAlike) :
  DefIs P w K mg base (n + 1) "law" ["_law_script"] (spLaw K) := by
 refine DefIs.of T.d_law sc_law (fun vs H Q E h => ?_) (fun f cdv A outer s H vs Q E hr h => ?_)
 ·obtain ⟨_, _, rfl, _⟩ := h
  rfl
 obtain ⟨a, ns, rfl, hS, h63, k⟩ := h
 have nd := sc_law.nd
 refine ⟨_, (zpn (ps_set (i := 1) nd rfl (by walk_at "o") (pd Dl_feed hr (zpc (pv 0) (zpc pe_int pa_nil so) zsn)))
   (zpn (ps_setComp (i := 2) ["_law_k", "_law_names"] [none, some 1] rfl (by kernel_rfl) nd rfl (by walk_at "o") (pi_range1 rfl T.z_range (zpc pe_int pa_nil so)) (fun _ _ _ _ => (pg_name (i := 0) (by show List.Nodup (["_law_k", "_law_names"] : List Str); decide +kernel) rfl (Or.inl rfl))) (fun _ _ _ _ => pts_nil) (fun _ _ _ _ => (pd Dl_name hr (zpc (pv 1) pa_nil zsn))))
   (zpn (ps_set (i := 3) nd rfl (by walk_at "o") (pd Dl_make hr (zpc (pv 0) (zpc pe_int (zpc (pv 2) pa_nil zsn) so) zsn)))
   (zpn (ps_set (i := 4) nd rfl (by walk_at "o") (pd Dl_make hr (zpc (pv 0) (zpc pe_int (zpc (pv 2) pa_nil zsn) so) zsn)))
   (zpn (ps_for PassesOwn.never rfl (pi_tup (pe_tup (zpc (pv 3) (zpc (pv 4) (zpc (pv 3) (zpc (pe_tup (zpc (pe_tup pa_nil) (zpc (pe_tup pa_nil) (zpc (pe_tup pa_nil) pa_nil star_tup) star_tup) star_tup)) pa_nil star_tup) zsn) zsn) zsn))) (pg_name (i := 5) nd rfl (by walk_at "o"))
   (zpn (ps_set (i := 6) nd rfl (by walk_at "o") (pe_bm PySem.F.plainAttrs_str PySem.F.slot_str_join PySem.F.type_str_join mt_join pe_str (zpc (pd Dl_lines hr (zpc (pv 5) pa_nil zsn)) pa_nil zsc)))
   (zpo (ps_if (PW.pt (pw_or (pt_cmpR op_ne (pd D_shown hr (zpc (pv 5) pa_nil zsn)) (pv 6) (nomark _)) (pw_or1 (pt_not (pt_val (pd Dl_alike hr (zpc (pd D_read hr (zpc (pv 6) pa_nil zsn)) (zpc (pv 5) pa_nil zsn) zsc))))))) (zpo (ps_ret pe_bl)) pss_nil))))
   (zpo (ps_ret pe_bl))))))), ?_⟩
 refine ⟨_, rfl, a, ns, 1, rfl, hS, h63, by decide, fun r1 p1 q1 n1 => ?_⟩
 have s1 := Same.new n1 (.lst [.int p1, .int q1])
 have f1 : (upd H r1 (.lst [.int p1, .int q1])) r1 = some (.lst [.int p1, .int q1]) := ups
 refine ⟨_, rfl, by decide, by decide, ?_⟩
 refine comp_range (j := 0) (fun i ys H' => Fed r1 (upd H r1 (.lst [.int p1, .int q1])) H' /\ ∃ zs : List Str, ys = zs.map V.str /\ ∀ z ∈ zs, Name z) (by rfl) ⟨Fed.refl f1, [], rfl, fun _ h => nomatch h⟩ (fitsLt (by decide)) ?_ ?_
 ·rintro i ys H2 hi hl ⟨g2, zs, rfl, hz⟩
  obtain ⟨p2, q2, h2⟩ := g2.2
  refine ⟨_, rfl, r1, p2, q2, rfl, h2, fun x H3 hx g3 => nxt hi hl ⟨g2.trans g3, zs ++ [x], by simp, fun z hzm => ?_⟩⟩
  rcases List.mem_append.mp hzm with hzm | hzm
  ·exact hz z hzm
  ·rw [List.mem_singleton.mp hzm]; exact hx
 rintro ys H2 hl ⟨g2, zs, rfl, hz⟩ b hb
 have sH2 : Same H H2 := Fed.back n1 s1 g2
 have sb := Same.new hb (.lst (zs.map V.str))
 have s2 := sH2.trans sb
 have h8 : zs.length = 8 := by rw [List.length_map] at hl; exact hl
 have hbl : (upd H2 b (.lst (zs.map V.str))) b = some (.lst (zs.map V.str)) := ups
 generalize upd H2 b (.lst (zs.map V.str)) = H3 at sb s2 hbl ⊢
 refine ⟨_, rfl, _, rfl, a, b, ns, 2, zs, rfl, s2.seq hS, h63, by decide, hbl, h8, hz, fun v1 m1 H4 rd1 ok1 s4 => ?_⟩
 have s24 := s2.trans s4
 refine ⟨_, rfl, _, rfl, a, b, ns, 8, zs, rfl, s24.seq hS, h63, by decide, s4 _ _ hbl, h8, hz, fun v2 m2 H5 rd2 ok2 s5 => ?_⟩
 have rd15 := rd1.same s5 _
 refine ⟨_, rfl, _, rfl, _, rfl, (by show 0 <= sizeLine; decide), fun e1 he1 => ⟨(by show 0 <= sizeLine; decide), fun e2 he2 => ⟨(by show 0 <= sizeLine; decide), fun e3 he3 => ⟨(by show 3 <= sizeLine; decide), fun e4 he4 => ⟨(by show 4 <= sizeLine; decide), fun tp htp => ⟨tp, rfl, ⟨_, SqT.of ups⟩, ?_⟩⟩⟩⟩⟩⟩
 have z1 := Same.new he1 (.tup [])
 have z2 := Same.new he2 (.tup [])
 have z3 := Same.new he3 (.tup [])
 have z4 := Same.new he4 (.tup [.ref e1, .ref e2, .ref e3])
 have z5 := Same.new htp (.tup [v1, v2, v1, .ref e4])
 have z35 := z3.trans (z4.trans z5)
 have z15 := z1.trans (z2.trans z35)
 have htp6 : upd (upd (upd (upd (upd H5 e1 (.tup [])) e2 (.tup [])) e3 (.tup [])) e4 (.tup [.ref e1, .ref e2, .ref e3])) tp (.tup [v1, v2, v1, .ref e4]) tp = some (.tup [v1, v2, v1, .ref e4]) := ups
 have rd0 : RelD (upd (upd (upd (upd (upd H5 e1 (.tup [])) e2 (.tup [])) e3 (.tup [])) e4 (.tup [.ref e1, .ref e2, .ref e3])) tp (.tup [v1, v2, v1, .ref e4])) (.ref e4) mk0.d := ⟨e4, _, rfl, z5 _ _ ups, _, _, rfl, ⟨e1, _, rfl, (z2.trans z35) _ _ ups, rfl⟩, _, _, rfl, ⟨e2, _, rfl, z35 _ _ ups, rfl⟩, _, _, rfl, ⟨e3, _, rfl, (z4.trans z5) _ _ ups, rfl⟩, rfl⟩
 have rd16 := rd15.same z15 _
 have rd26 := rd2.same z15 _
 generalize upd (upd (upd (upd (upd H5 e1 (.tup [])) e2 (.tup [])) e3 (.tup [])) e4 (.tup [.ref e1, .ref e2, .ref e3])) tp (.tup [v1, v2, v1, .ref e4]) = H6 at htp6 rd0 rd16 rd26 ⊢
 refine for_tup (xs := [v1, v2, v1, .ref e4]) (fun i σ H' => ∃ o5 o6, σ = [some (.ref a), some (.ref r1), some (.ref b), some v1, some v2, o5, o6] /\ Same H6 H') ⟨none, none, rfl, Same.refl _⟩ (fun i σ H' _ p => ?_) ?_ ?_
 ·obtain ⟨_, _, _, sm⟩ := p
  exact SqT.of (sm _ _ htp6)
 ·rintro i v σ H7 hv ⟨o5, o6, rfl, sm⟩
  have hv3 : ∃ mk, MkOk mk /\ RelD H7 v mk.d := by
   match i, hv with
   | 0, hv => cases hv; exact ⟨m1, ok1, rd16.same sm _⟩
   | 1, hv => cases hv; exact ⟨m2, ok2, rd26.same sm _⟩
   | 2, hv => cases hv; exact ⟨m1, ok1, rd16.same sm _⟩
   | 3, hv => cases hv; exact ⟨mk0, ok0, rd0.same sm _⟩
   | i + 4, hv => simp at hv
  obtain ⟨mk, ok, rd⟩ := hv3
  refine ⟨rfl, _, rfl, v, mk, rfl, rd, ok, fun l H8 s8 hl8 => ⟨S "\n", l, mk.lns.map Ln.line, rfl, rfl, SqL.of hl8, text_fits ok, ?_⟩⟩
  refine ⟨_, rfl, v, mk, rfl, rd.same s8 _, ok, fun H9 s9 => ?_⟩
  refine ⟨_, rfl, rfl, _, rfl, iteBF ?_ ?_⟩
  ·rw [show Mk.text mk = Txt.join (S "\n") (mk.lns.map Ln.line) from rfl, decide_eq_true rfl]; rfl
  refine ⟨_, rfl, mk, rfl, ok, fun v' H10 s10 r10 => ?_⟩
  have s8' := s8.trans (s9.trans s10)
  refine ⟨_, rfl, v', v, mk.d, rfl, r10, rd.same s8' _, mk_size ok, fun H11 s11 => ⟨_, rfl, iteF ?_⟩⟩
  exact ⟨_, _, rfl, sm.trans (s8'.trans s11)⟩
 ·rintro σ H7 ⟨o5, o6, rfl, sm⟩
  exact k H7
theorem law_is (T : Tx K mg) : DefIs P w K mg base 30 "law" ["_law_script"] (spLaw K) := by
 have feed : ∀ k, DefIs P w K mg base (k + 1) "_law_feed" ["_law_script", "_law_k"] (spFeed K) := fun k => okl_feed T
 have take : ∀ k, DefIs P w K mg base (k + 1) "_law_take" ["_law_feed_here", "_law_many"] spTake := fun k => okl_take T
 have name : ∀ k, DefIs P w K mg base (k + 2) "_law_name" ["_law_feed_here"] spLName := fun k => okl_name T (take k)
 have whole : ∀ k, DefIs P w K mg base (k + 2) "_law_whole" ["_law_feed_here"] spWhole := fun k => okl_whole T (take k)
 have some' : ∀ k, DefIs P w K mg base (k + 2) "_law_some" ["_law_feed_here", "_law_pool"] spSome := fun k => okl_some T (take k)
 have someG : ∀ k, DefIs P w K mg base (k + 2) "_law_some" ["_law_feed_here", "_law_pool"] spSomeG := fun k => okl_someG T (take k)
 have leaf : ∀ k, DefIs P w K mg base (k + 3) "_law_leaf" ["_law_feed_here", "_law_pool"] spLeaf := fun k => okl_leaf T (take (k + 1)) (whole k) (some' k)
 have term : ∀ m : Nat, DefIs P w K mg base (m + 4) "_law_term" ["_law_feed_here", "_law_pool", "_law_room_here", "_law_deep"] (spTerm m) := by
  intro m
  induction m with
  | zero => exact okl_term (n := 3) T (fun _ _ _ _ => False) (take 2) (leaf 0) (some' 1) (DefIs.none T.dl_term fun _ _ _ _ h => h) (fun k e => by cases e)
  | succ m ih => exact okl_term (n := m + 4) T (spTerm m) (take (m + 3)) (leaf (m + 1)) (some' (m + 2)) ih (fun k e => by cases e; rfl)
 have row : DefIs P w K mg base 12 "_law_row" ["_law_feed_here", "_law_pool", "_law_left"] spLRow := okl_row (n := 11) T (take 10) (whole 9) (some' 9) (okl_room (n := 10) T (take 9)) (term 7)
 have hand : DefIs P w K mg base 13 "_law_hand" ["_law_feed_here", "_law_pool", "_law_left"] spLHand := okl_hand (n := 12) T (take 11) (someG 10) row
 have parts : DefIs P w K mg base 12 "_law_parts" ["_law_feed_here", "_law_pool", "_law_least"] spLParts := okl_parts (n := 11) T (take 10) (someG 9)
 have make : DefIs P w K mg base 14 "_law_make" ["_law_script", "_law_at", "_law_pool"] (spLMake K) := okl_make (n := 13) T (feed 12) (take 12) (okl_kinds (n := 12) T (take 11) (someG 10) parts) (okl_channels (n := 12) T (take 11) (someG 10)) hand
 have lines : DefIs P w K mg base 10 "_law_lines" ["_law_make_here"] spLines := okl_lines (n := 9) T (okl_row_line (n := 8) T (law_writer T 7 (by omega)))
 have wt : DefIs P w K mg base 25 "row_text" ["row"] spRowT := ok_row_text (n := 24) T (ok_word_text (n := 23) T (writer T 7 (by omega)))
 have sh : DefIs P w K mg base 27 "shown" ["make"] spShown := ok_shown (n := 26) T (ok_kind_text T) (ok_channel_text T) (ok_hand_texts (n := 25) T wt)
 have made : ∀ k, DefIs P w K mg base (k + 1) "is_made_of" ["text", "signs", "most"] spMade := fun k => ok_is_made_of T
 have iname : ∀ k, DefIs P w K mg base (k + 2) "is_name" ["text"] spName := fun k => ok_is_name T (made k)
 have inum : ∀ k, DefIs P w K mg base (k + 2) "is_number" ["text"] spNumber := fun k => ok_is_number T (made k)
 have need : ∀ k, DefIs P w K mg base (k + 1) "need" ["holds"] spNeed := fun k => ok_need T
 have nf : ∀ k, DefIs P w K mg base (k + 3) "name_from" ["tree"] spNameFrom := fun k => ok_name_from T (need (k + 1)) (iname k)
 have kf : ∀ k, DefIs P w K mg base (k + 4) "kind_from" ["word"] spKindFrom := fun k => ok_kind_from T (need (k + 2)) (ok_is_kind T (iname k))
 have tin : DefIs P w K mg base 23 "term_in" ["words"] (spTermIn K) := ok_term_in (n := 22) T (whole_reader T (m := 7) (by omega))
 have hrow : DefIs P w K mg base 24 "hand_row" ["words"] (spHRow K) := ok_hand_row (n := 23) T (need 22) (nf 20) tin (ok_number_from (n := 22) T (need 21) (inum 20))
 have pin : DefIs P w K mg base 25 "put_in_hand" ["hand", "words"] (spPutIn K) := ok_put_in_hand (n := 24) T (need 23) (nf 21) (kf 20) hrow
 have prow : DefIs P w K mg base 26 "put_row" ["draft", "words"] (spPutRow K) := ok_put_row (n := 25) T (need 24) (nf 22) (ok_kind_row (n := 24) T (need 23) (nf 21) (kf 20)) (ok_channel_row (n := 24) T (need 23) (nf 21) (kf 20)) pin
 have rd : DefXs P w K mg base 27 "read" ["text"] spRead := ok_read (n := 25) T (ok_dinit T) (ok_initQ T) (ok_rows_in T) prow.xs (ok_made T)
 exact ok_law (n := 29) T (feed 28) (name 27) (make.mono (by omega)) (lines.mono (by omega)) (sh.mono (by omega)) ((read_is rd).mono (by omega)) (okl_alike (n := 28) T)
end
end K4
end
noncomputable def PySem.W.Fast.tw13950337775400602504 : Nat := 0
noncomputable def PySem.W.Fast.tw5581411555136392897 : Nat := 0
noncomputable def PySem.W.Fast.tw4004842234141522492 : Nat := 0
noncomputable def PySem.W.Fast.tw7947772764115094129 : Nat := 0
noncomputable def PySem.W.Fast.tw8476244480068443654 : Nat := 0
noncomputable def PySem.W.Fast.tw2887662498621752597 : Nat := 0
noncomputable def PySem.W.Fast.tw1970063376520457528 : Nat := 0
noncomputable def PySem.W.Fast.tw12243776889236213479 : Nat := 0
noncomputable def PySem.W.Fast.tw10478466069835619448 : Nat := 0
noncomputable def PySem.W.Fast.tw10583308984710563947 : Nat := 0
noncomputable def PySem.W.Fast.tw7651284581698688923 : Nat := 0
noncomputable def PySem.W.Fast.tw1727094285720896965 : Nat := 0
noncomputable def PySem.W.Fast.tw13755427214910972664 : Nat := 0
noncomputable def PySem.W.Fast.tw9686650535531422468 : Nat := 0
noncomputable def PySem.W.Fast.tw5658401556662316757 : Nat := 0
noncomputable def PySem.W.Fast.tw17804162782708422263 : Nat := 0
noncomputable def PySem.W.Fast.tw6571667629315073836 : Nat := 0
noncomputable def PySem.W.Fast.tw10961294288911826402 : Nat := 0
noncomputable def PySem.W.Fast.tw12688339260805082861 : Nat := 0
noncomputable def PySem.W.Fast.tw2328021576604861313 : Nat := 0
noncomputable def PySem.W.Fast.tw7691945501693436757 : Nat := 0
noncomputable def PySem.W.Fast.tw11559972063078379312 : Nat := 0
noncomputable def PySem.W.Fast.tw10102261415549927910 : Nat := 0
noncomputable def PySem.W.Fast.tw8256743231647749658 : Nat := 0
noncomputable def PySem.W.Fast.tw9418671735777618882 : Nat := 0
noncomputable def PySem.W.Fast.tw16461160824809173950 : Nat := 0
noncomputable def PySem.W.Fast.tw5726482556995553036 : Nat := 0
noncomputable def PySem.W.Fast.tw6764736823217175056 : Nat := 0
noncomputable def PySem.W.Fast.tw10009002089984554012 : Nat := 0
open PySem PySem.W PyProof.Rows
set_option maxRecDepth 100000 in
set_option maxHeartbeats 0 in
theorem PySem.Challenge.cw_swapstride_k04_whole_makes_written_and_r_holds : PySem.Challenge.rw_swapstride_k04_whole_makes_written_and_r.Holds := by
 w_on; o_law; k_head; (case hw => w_witness2)
 k_fill
 refine L2.walk_of (l := PySem.Challenge.rw_swapstride_k04_whole_makes_written_and_r) (n := 63) (k := 30) (x := "_law_script") (CX := fun _ => L2.CX0) (sp := fun _ => K4.spLaw _) rfl (by decide) rfl ⟨rfl, by decide, by decide⟩ (fun w h Y => PySem.W.kIn_of Y) ?F (fun _ _ a ns hl _ hS => ⟨a, ns, rfl, hS, hl, fun _ => rfl⟩) fun _ _ _ _ _ z => z
 case F =>
  intro w mg fa h KX G hmg
  have d_is_name : L2.DefTx (L2.KOf KX) mg "is_name" K4.s_is_name ["text"] := by
   dsimp only [L2.KOf]
   refine' L2.deftx_mk KX G ?a ?l ?c ?k ?b
   walk_at "c"
   (case b => exact fun _ _ _ _ _ _ us hl => match us, hl with | [_], _ => rfl)
  have d_is_number : L2.DefTx (L2.KOf KX) mg "is_number" K4.s_is_number ["text"] := by
   dsimp only [L2.KOf]
   refine' L2.deftx_mk KX G ?a ?l ?c ?k ?b
   walk_at "c"
   (case b => exact fun _ _ _ _ _ _ us hl => match us, hl with | [_], _ => rfl)
  have d_is_kind : L2.DefTx (L2.KOf KX) mg "is_kind" K4.s_is_kind ["text"] := by
   dsimp only [L2.KOf]
   refine' L2.deftx_mk KX G ?a ?l ?c ?k ?b
   walk_at "c"
   (case b => exact fun _ _ _ _ _ _ us hl => match us, hl with | [_], _ => rfl)
  have d_is_made_of : L2.DefTx (L2.KOf KX) mg "is_made_of" K4.s_is_made_of ["text", "signs", "most"] := by
   dsimp only [L2.KOf]
   refine' L2.deftx_mk KX G ?a ?l ?c ?k ?b
   walk_at "c"
   (case b => exact fun _ _ _ _ _ _ us hl => match us, hl with | [_, _, _], _ => rfl)
  have d_term_text : L2.DefTx (L2.KOf KX) mg "term_text" K4.s_term_text ["term"] := by
   dsimp only [L2.KOf]
   refine' L2.deftx_mk KX G ?a ?l ?c ?k ?b
   walk_at "c"
   (case b => exact fun _ _ _ _ _ _ us hl => match us, hl with | [_], _ => rfl)
  have d_bracketed : L2.DefTx (L2.KOf KX) mg "bracketed" K4.s_bracketed ["texts"] := by
   dsimp only [L2.KOf]
   refine' L2.deftx_mk KX G ?a ?l ?c ?k ?b
   walk_at "c"
   (case b => exact fun _ _ _ _ _ _ us hl => match us, hl with | [_], _ => rfl)
  have d_inner_texts : L2.DefTx (L2.KOf KX) mg "inner_texts" K4.s_inner_texts ["term"] := by
   dsimp only [L2.KOf]
   refine' L2.deftx_mk KX G ?a ?l ?c ?k ?b
   walk_at "c"
   (case b => exact fun _ _ _ _ _ _ us hl => match us, hl with | [_], _ => rfl)
  have d_term_texts : L2.DefTx (L2.KOf KX) mg "term_texts" K4.s_term_texts ["terms"] := by
   dsimp only [L2.KOf]
   refine' L2.deftx_mk KX G ?a ?l ?c ?k ?b
   walk_at "c"
   (case b => exact fun _ _ _ _ _ _ us hl => match us, hl with | [_], _ => rfl)
  have d_arm_text : L2.DefTx (L2.KOf KX) mg "arm_text" K4.s_arm_text ["arm"] := by
   dsimp only [L2.KOf]
   refine' L2.deftx_mk KX G ?a ?l ?c ?k ?b
   walk_at "c"
   (case b => exact fun _ _ _ _ _ _ us hl => match us, hl with | [_], _ => rfl)
  have d_term_of : L2.DefTx (L2.KOf KX) mg "term_of" K4.s_term_of ["text"] := by
   dsimp only [L2.KOf]
   refine' L2.deftx_mk KX G ?a ?l ?c ?k ?b
   walk_at "c"
   (case b => exact fun _ _ _ _ _ _ us hl => match us, hl with | [_], _ => rfl)
  have d_term_with : L2.DefTx (L2.KOf KX) mg "term_with" K4.s_term_with ["text", "more"] := by
   dsimp only [L2.KOf]
   refine' L2.deftx_mk KX G ?a ?l ?c ?k ?b
   walk_at "c"
   (case b => exact fun _ _ _ _ _ _ us hl => match us, hl with | [_, _], _ => rfl)
  have d_need : L2.DefTx (L2.KOf KX) mg "need" K4.s_need ["holds"] := by
   dsimp only [L2.KOf]
   refine' L2.deftx_mk KX G ?a ?l ?c ?k ?b
   walk_at "c"
   (case b => exact fun _ _ _ _ _ _ us hl => match us, hl with | [_], _ => rfl)
  have d_trees_of : L2.DefTx (L2.KOf KX) mg "trees_of" K4.s_trees_of ["text"] := by
   dsimp only [L2.KOf]
   refine' L2.deftx_mk KX G ?a ?l ?c ?k ?b
   walk_at "c"
   (case b => exact fun _ _ _ _ _ _ us hl => match us, hl with | [_], _ => rfl)
  have d_put_word : L2.DefTx (L2.KOf KX) mg "put_word" K4.s_put_word ["pile", "word"] := by
   dsimp only [L2.KOf]
   refine' L2.deftx_mk KX G ?a ?l ?c ?k ?b
   walk_at "c"
   (case b => exact fun _ _ _ _ _ _ us hl => match us, hl with | [_, _], _ => rfl)
  have d_close_brackets : L2.DefTx (L2.KOf KX) mg "close_brackets" K4.s_close_brackets ["pile", "many"] := by
   dsimp only [L2.KOf]
   refine' L2.deftx_mk KX G ?a ?l ?c ?k ?b
   walk_at "c"
   (case b => exact fun _ _ _ _ _ _ us hl => match us, hl with | [_, _], _ => rfl)
  have d_term_from : L2.DefTx (L2.KOf KX) mg "term_from" K4.s_term_from ["tree", "more"] := by
   dsimp only [L2.KOf]
   refine' L2.deftx_mk KX G ?a ?l ?c ?k ?b
   walk_at "c"
   (case b => exact fun _ _ _ _ _ _ us hl => match us, hl with | [_, _], _ => rfl)
  have d_terms_from : L2.DefTx (L2.KOf KX) mg "terms_from" K4.s_terms_from ["trees", "more"] := by
   dsimp only [L2.KOf]
   refine' L2.deftx_mk KX G ?a ?l ?c ?k ?b
   walk_at "c"
   (case b => exact fun _ _ _ _ _ _ us hl => match us, hl with | [_, _], _ => rfl)
  have d_leaf_from : L2.DefTx (L2.KOf KX) mg "leaf_from" K4.s_leaf_from ["word", "more"] := by
   dsimp only [L2.KOf]
   refine' L2.deftx_mk KX G ?a ?l ?c ?k ?b
   walk_at "c"
   (case b => exact fun _ _ _ _ _ _ us hl => match us, hl with | [_, _], _ => rfl)
  have d_name_from : L2.DefTx (L2.KOf KX) mg "name_from" K4.s_name_from ["tree"] := by
   dsimp only [L2.KOf]
   refine' L2.deftx_mk KX G ?a ?l ?c ?k ?b
   walk_at "c"
   (case b => exact fun _ _ _ _ _ _ us hl => match us, hl with | [_], _ => rfl)
  have d_arm_from : L2.DefTx (L2.KOf KX) mg "arm_from" K4.s_arm_from ["tree", "more"] := by
   dsimp only [L2.KOf]
   refine' L2.deftx_mk KX G ?a ?l ?c ?k ?b
   walk_at "c"
   (case b => exact fun _ _ _ _ _ _ us hl => match us, hl with | [_, _], _ => rfl)
  have d_shown : L2.DefTx (L2.KOf KX) mg "shown" K4.s_shown ["make"] := by
   dsimp only [L2.KOf]
   refine' L2.deftx_mk KX G ?a ?l ?c ?k ?b
   walk_at "c"
   (case b => exact fun _ _ _ _ _ _ us hl => match us, hl with | [_], _ => rfl)
  have d_kind_text : L2.DefTx (L2.KOf KX) mg "kind_text" K4.s_kind_text ["kind"] := by
   dsimp only [L2.KOf]
   refine' L2.deftx_mk KX G ?a ?l ?c ?k ?b
   walk_at "c"
   (case b => exact fun _ _ _ _ _ _ us hl => match us, hl with | [_], _ => rfl)
  have d_channel_text : L2.DefTx (L2.KOf KX) mg "channel_text" K4.s_channel_text ["channel"] := by
   dsimp only [L2.KOf]
   refine' L2.deftx_mk KX G ?a ?l ?c ?k ?b
   walk_at "c"
   (case b => exact fun _ _ _ _ _ _ us hl => match us, hl with | [_], _ => rfl)
  have d_hand_texts : L2.DefTx (L2.KOf KX) mg "hand_texts" K4.s_hand_texts ["hand"] := by
   dsimp only [L2.KOf]
   refine' L2.deftx_mk KX G ?a ?l ?c ?k ?b
   walk_at "c"
   (case b => exact fun _ _ _ _ _ _ us hl => match us, hl with | [_], _ => rfl)
  have d_row_text : L2.DefTx (L2.KOf KX) mg "row_text" K4.s_row_text ["row"] := by
   dsimp only [L2.KOf]
   refine' L2.deftx_mk KX G ?a ?l ?c ?k ?b
   walk_at "c"
   (case b => exact fun _ _ _ _ _ _ us hl => match us, hl with | [_], _ => rfl)
  have d_word_text : L2.DefTx (L2.KOf KX) mg "word_text" K4.s_word_text ["word"] := by
   dsimp only [L2.KOf]
   refine' L2.deftx_mk KX G ?a ?l ?c ?k ?b
   walk_at "c"
   (case b => exact fun _ _ _ _ _ _ us hl => match us, hl with | [_], _ => rfl)
  have d_read : L2.DefTx (L2.KOf KX) mg "read" K4.s_read ["text"] := by
   dsimp only [L2.KOf]
   refine' L2.deftx_mk KX G ?a ?l ?c ?k ?b
   walk_at "c"
   (case b => exact fun _ _ _ _ _ _ us hl => match us, hl with | [_], _ => rfl)
  have d_rows_in : L2.DefTx (L2.KOf KX) mg "rows_in" K4.s_rows_in ["text"] := by
   dsimp only [L2.KOf]
   refine' L2.deftx_mk KX G ?a ?l ?c ?k ?b
   walk_at "c"
   (case b => exact fun _ _ _ _ _ _ us hl => match us, hl with | [_], _ => rfl)
  have d_made : L2.DefTx (L2.KOf KX) mg "made" K4.s_made ["draft"] := by
   dsimp only [L2.KOf]
   refine' L2.deftx_mk KX G ?a ?l ?c ?k ?b
   walk_at "c"
   (case b => exact fun _ _ _ _ _ _ us hl => match us, hl with | [_], _ => rfl)
  have d_put_row : L2.DefTx (L2.KOf KX) mg "put_row" K4.s_put_row ["draft", "words"] := by
   dsimp only [L2.KOf]
   refine' L2.deftx_mk KX G ?a ?l ?c ?k ?b
   walk_at "c"
   (case b => exact fun _ _ _ _ _ _ us hl => match us, hl with | [_, _], _ => rfl)
  have d_put_in_hand : L2.DefTx (L2.KOf KX) mg "put_in_hand" K4.s_put_in_hand ["hand", "words"] := by
   dsimp only [L2.KOf]
   refine' L2.deftx_mk KX G ?a ?l ?c ?k ?b
   walk_at "c"
   (case b => exact fun _ _ _ _ _ _ us hl => match us, hl with | [_, _], _ => rfl)
  have d_kind_row : L2.DefTx (L2.KOf KX) mg "kind_row" K4.s_kind_row ["words"] := by
   dsimp only [L2.KOf]
   refine' L2.deftx_mk KX G ?a ?l ?c ?k ?b
   walk_at "c"
   (case b => exact fun _ _ _ _ _ _ us hl => match us, hl with | [_], _ => rfl)
  have d_channel_row : L2.DefTx (L2.KOf KX) mg "channel_row" K4.s_channel_row ["words"] := by
   dsimp only [L2.KOf]
   refine' L2.deftx_mk KX G ?a ?l ?c ?k ?b
   walk_at "c"
   (case b => exact fun _ _ _ _ _ _ us hl => match us, hl with | [_], _ => rfl)
  have d_hand_row : L2.DefTx (L2.KOf KX) mg "hand_row" K4.s_hand_row ["words"] := by
   dsimp only [L2.KOf]
   refine' L2.deftx_mk KX G ?a ?l ?c ?k ?b
   walk_at "c"
   (case b => exact fun _ _ _ _ _ _ us hl => match us, hl with | [_], _ => rfl)
  have d_term_in : L2.DefTx (L2.KOf KX) mg "term_in" K4.s_term_in ["words"] := by
   dsimp only [L2.KOf]
   refine' L2.deftx_mk KX G ?a ?l ?c ?k ?b
   walk_at "c"
   (case b => exact fun _ _ _ _ _ _ us hl => match us, hl with | [_], _ => rfl)
  have d_number_from : L2.DefTx (L2.KOf KX) mg "number_from" K4.s_number_from ["word"] := by
   dsimp only [L2.KOf]
   refine' L2.deftx_mk KX G ?a ?l ?c ?k ?b
   walk_at "c"
   (case b => exact fun _ _ _ _ _ _ us hl => match us, hl with | [_], _ => rfl)
  have d_kind_from : L2.DefTx (L2.KOf KX) mg "kind_from" K4.s_kind_from ["word"] := by
   dsimp only [L2.KOf]
   refine' L2.deftx_mk KX G ?a ?l ?c ?k ?b
   walk_at "c"
   (case b => exact fun _ _ _ _ _ _ us hl => match us, hl with | [_], _ => rfl)
  have dl_feed : L2.DefTx (L2.KOf KX) mg "_law_feed" K4.sl_feed ["_law_script", "_law_k"] := by
   dsimp only [L2.KOf]
   refine' L2.deftx_mk KX G ?a ?l ?c ?k ?b
   walk_at "c"
   (case b => exact fun _ _ _ _ _ _ us hl => match us, hl with | [_, _], _ => rfl)
  have dl_take : L2.DefTx (L2.KOf KX) mg "_law_take" K4.sl_take ["_law_feed_here", "_law_many"] := by
   dsimp only [L2.KOf]
   refine' L2.deftx_mk KX G ?a ?l ?c ?k ?b
   walk_at "c"
   (case b => exact fun _ _ _ _ _ _ us hl => match us, hl with | [_, _], _ => rfl)
  have dl_name : L2.DefTx (L2.KOf KX) mg "_law_name" K4.sl_name ["_law_feed_here"] := by
   dsimp only [L2.KOf]
   refine' L2.deftx_mk KX G ?a ?l ?c ?k ?b
   walk_at "c"
   (case b => exact fun _ _ _ _ _ _ us hl => match us, hl with | [_], _ => rfl)
  have dl_whole : L2.DefTx (L2.KOf KX) mg "_law_whole" K4.sl_whole ["_law_feed_here"] := by
   dsimp only [L2.KOf]
   refine' L2.deftx_mk KX G ?a ?l ?c ?k ?b
   walk_at "c"
   (case b => exact fun _ _ _ _ _ _ us hl => match us, hl with | [_], _ => rfl)
  have dl_some : L2.DefTx (L2.KOf KX) mg "_law_some" K4.sl_some ["_law_feed_here", "_law_pool"] := by
   dsimp only [L2.KOf]
   refine' L2.deftx_mk KX G ?a ?l ?c ?k ?b
   walk_at "c"
   (case b => exact fun _ _ _ _ _ _ us hl => match us, hl with | [_, _], _ => rfl)
  have dl_leaf : L2.DefTx (L2.KOf KX) mg "_law_leaf" K4.sl_leaf ["_law_feed_here", "_law_pool"] := by
   dsimp only [L2.KOf]
   refine' L2.deftx_mk KX G ?a ?l ?c ?k ?b
   walk_at "c"
   (case b => exact fun _ _ _ _ _ _ us hl => match us, hl with | [_, _], _ => rfl)
  have dl_term : L2.DefTx (L2.KOf KX) mg "_law_term" K4.sl_term ["_law_feed_here", "_law_pool", "_law_room_here", "_law_deep"] := by
   dsimp only [L2.KOf]
   refine' L2.deftx_mk KX G ?a ?l ?c ?k ?b
   walk_at "c"
   (case b => exact fun _ _ _ _ _ _ us hl => match us, hl with | [_, _, _, _], _ => rfl)
  have dl_text : L2.DefTx (L2.KOf KX) mg "_law_text" K4.sl_text ["_law_term_here"] := by
   dsimp only [L2.KOf]
   refine' L2.deftx_mk KX G ?a ?l ?c ?k ?b
   walk_at "c"
   (case b => exact fun _ _ _ _ _ _ us hl => match us, hl with | [_], _ => rfl)
  have dl_parts : L2.DefTx (L2.KOf KX) mg "_law_parts" K4.sl_parts ["_law_feed_here", "_law_pool", "_law_least"] := by
   dsimp only [L2.KOf]
   refine' L2.deftx_mk KX G ?a ?l ?c ?k ?b
   walk_at "c"
   (case b => exact fun _ _ _ _ _ _ us hl => match us, hl with | [_, _, _], _ => rfl)
  have dl_kinds : L2.DefTx (L2.KOf KX) mg "_law_kinds" K4.sl_kinds ["_law_feed_here", "_law_pool"] := by
   dsimp only [L2.KOf]
   refine' L2.deftx_mk KX G ?a ?l ?c ?k ?b
   walk_at "c"
   (case b => exact fun _ _ _ _ _ _ us hl => match us, hl with | [_, _], _ => rfl)
  have dl_channels : L2.DefTx (L2.KOf KX) mg "_law_channels" K4.sl_channels ["_law_feed_here", "_law_pool"] := by
   dsimp only [L2.KOf]
   refine' L2.deftx_mk KX G ?a ?l ?c ?k ?b
   walk_at "c"
   (case b => exact fun _ _ _ _ _ _ us hl => match us, hl with | [_, _], _ => rfl)
  have dl_room : L2.DefTx (L2.KOf KX) mg "_law_room" K4.sl_room ["_law_feed_here", "_law_left"] := by
   dsimp only [L2.KOf]
   refine' L2.deftx_mk KX G ?a ?l ?c ?k ?b
   walk_at "c"
   (case b => exact fun _ _ _ _ _ _ us hl => match us, hl with | [_, _], _ => rfl)
  have dl_row : L2.DefTx (L2.KOf KX) mg "_law_row" K4.sl_row ["_law_feed_here", "_law_pool", "_law_left"] := by
   dsimp only [L2.KOf]
   refine' L2.deftx_mk KX G ?a ?l ?c ?k ?b
   walk_at "c"
   (case b => exact fun _ _ _ _ _ _ us hl => match us, hl with | [_, _, _], _ => rfl)
  have dl_hand : L2.DefTx (L2.KOf KX) mg "_law_hand" K4.sl_hand ["_law_feed_here", "_law_pool", "_law_left"] := by
   dsimp only [L2.KOf]
   refine' L2.deftx_mk KX G ?a ?l ?c ?k ?b
   walk_at "c"
   (case b => exact fun _ _ _ _ _ _ us hl => match us, hl with | [_, _, _], _ => rfl)
  have dl_make : L2.DefTx (L2.KOf KX) mg "_law_make" K4.sl_make ["_law_script", "_law_at", "_law_pool"] := by
   dsimp only [L2.KOf]
   refine' L2.deftx_mk KX G ?a ?l ?c ?k ?b
   walk_at "c"
   (case b => exact fun _ _ _ _ _ _ us hl => match us, hl with | [_, _, _], _ => rfl)
  have dl_row_line : L2.DefTx (L2.KOf KX) mg "_law_row_line" K4.sl_row_line ["_law_row_here"] := by
   dsimp only [L2.KOf]
   refine' L2.deftx_mk KX G ?a ?l ?c ?k ?b
   walk_at "c"
   (case b => exact fun _ _ _ _ _ _ us hl => match us, hl with | [_], _ => rfl)
  have dl_lines : L2.DefTx (L2.KOf KX) mg "_law_lines" K4.sl_lines ["_law_make_here"] := by
   dsimp only [L2.KOf]
   refine' L2.deftx_mk KX G ?a ?l ?c ?k ?b
   walk_at "c"
   (case b => exact fun _ _ _ _ _ _ us hl => match us, hl with | [_], _ => rfl)
  have dl_alike : L2.DefTx (L2.KOf KX) mg "_law_alike" K4.sl_alike ["_law_found", "_law_due"] := by
   dsimp only [L2.KOf]
   refine' L2.deftx_mk KX G ?a ?l ?c ?k ?b
   walk_at "c"
   (case b => exact fun _ _ _ _ _ _ us hl => match us, hl with | [_, _], _ => rfl)
  have d_law : L2.DefTx (L2.KOf KX) mg "law" K4.s_law ["_law_script"] := by
   dsimp only [L2.KOf]
   refine' L2.deftx_mk KX G ?a ?l ?c ?k ?b
   walk_at "c"
   (case b => exact fun _ _ _ _ _ _ us hl => match us, hl with | [_], _ => rfl)
  have g_LONGEST_NAME : ∃ t, mg "LONGEST_NAME" = some (.int 6 t) := by
   refine' L2.gint_mk KX G ?a
   (case a => k_is)
  have g_LONGEST_NUMBER : ∃ t, mg "LONGEST_NUMBER" = some (.int 10 t) := by
   refine' L2.gint_mk KX G ?a
   (case a => k_is)
  have g_DEEPEST : ∃ t, mg "DEEPEST" = some (.int 20 t) := by
   refine' L2.gint_mk KX G ?a
   (case a => k_is)
  have g_MOST_ARMS : ∃ t, mg "MOST_ARMS" = some (.int 4 t) := by
   refine' L2.gint_mk KX G ?a
   (case a => k_is)
  have g_MOST_PARTS : ∃ t, mg "MOST_PARTS" = some (.int 4 t) := by
   refine' L2.gint_mk KX G ?a
   (case a => k_is)
  have g_LETTERS : ∃ t, mg "LETTERS" = some (.str (PySem.Str.ofString "abcdefghijklmnopqrstuvwxyz") t) := by
   refine' L2.gstr_mk KX G ?a
   (case a => k_is)
  have g_FIGURES : ∃ t, mg "FIGURES" = some (.str (PySem.Str.ofString "0123456789") t) := by
   refine' L2.gstr_mk KX G ?a
   (case a => k_is)
  have g_NO_NAMES : ∃ a, mg "NO_NAMES" = some (.ref a) /\ ∀ H, L2.SqT (L2.KOf KX) H a [.str (PySem.Str.ofString "num"), .str (PySem.Str.ofString "it")] := by
   dsimp only [L2.KOf]
   refine' L2.gtup_mk KX G ?a ?l ?z ?r
   (case a => k_is); (case l => k_is); (case z => decide)
   (case r => exact (.cons ⟨_, rfl⟩ (.cons ⟨_, rfl⟩ .nil)))
  have g_OPS : ∃ a, mg "OPS" = some (.ref a) /\ ∀ H, L2.SqT (L2.KOf KX) H a [.str (PySem.Str.ofString "+"), .str (PySem.Str.ofString "-"), .str (PySem.Str.ofString "*"), .str (PySem.Str.ofString "<"), .str (PySem.Str.ofString "=")] := by
   dsimp only [L2.KOf]
   refine' L2.gtup_mk KX G ?a ?l ?z ?r
   (case a => k_is); (case l => k_is); (case z => decide)
   (case r => exact (.cons ⟨_, rfl⟩ (.cons ⟨_, rfl⟩ (.cons ⟨_, rfl⟩ (.cons ⟨_, rfl⟩ (.cons ⟨_, rfl⟩ .nil))))))
  have z_all : mg "all" = none := by
   refine' PySem.W.mg_none_of KX G ?a
   (case a => k_is)
  have z_bool : mg "bool" = none := by
   refine' PySem.W.mg_none_of KX G ?a
   (case a => k_is)
  have z_enumerate : mg "enumerate" = none := by
   refine' PySem.W.mg_none_of KX G ?a
   (case a => k_is)
  have z_int : mg "int" = none := by
   refine' PySem.W.mg_none_of KX G ?a
   (case a => k_is)
  have z_isinstance : mg "isinstance" = none := by
   refine' PySem.W.mg_none_of KX G ?a
   (case a => k_is)
  have z_len : mg "len" = none := by
   refine' PySem.W.mg_none_of KX G ?a
   (case a => k_is)
  have z_list : mg "list" = none := by
   refine' PySem.W.mg_none_of KX G ?a
   (case a => k_is)
  have z_max : mg "max" = none := by
   refine' PySem.W.mg_none_of KX G ?a
   (case a => k_is)
  have z_min : mg "min" = none := by
   refine' PySem.W.mg_none_of KX G ?a
   (case a => k_is)
  have z_range : mg "range" = none := by
   refine' PySem.W.mg_none_of KX G ?a
   (case a => k_is)
  have z_str : mg "str" = none := by
   refine' PySem.W.mg_none_of KX G ?a
   (case a => k_is)
  have z_tuple : mg "tuple" = none := by
   refine' PySem.W.mg_none_of KX G ?a
   (case a => k_is)
  have z_zip : mg "zip" = none := by
   refine' PySem.W.mg_none_of KX G ?a
   (case a => k_is)
  have c_BadText : mg "BadText" = some (.ref (L2.cAt (L2.KOf KX) 0)) := by
   refine' PySem.W.mg_of KX G ?a
   (case a => kernel_rfl)
  have c_SwapError : mg "SwapError" = some (.ref (L2.ad (L2.KOf KX) "SwapError")) := by
   refine' PySem.W.mg_of KX G ?a
   (case a => kernel_rfl)
  have c_Draft : mg "Draft" = some (.ref (L2.ad (L2.KOf KX) "Draft")) := by
   refine' PySem.W.mg_of KX G ?a
   (case a => kernel_rfl)
  have dt : L2.DTab (L2.KOf KX) "Draft" ["kinds", "channels", "hands"] := by
   refine' L2.dtab_of ?a
   (case a => kernel_rfl)
  have di : L2.InitTx (L2.KOf KX) "Draft.__init__" (L2.ad (L2.KOf KX) "Draft") K4.s_dinit ["self"] := by
   dsimp only [L2.KOf]
   refine' L2.init_mk ?a ?i ?n ?l ?c ?k ?b
   (case a => k_is); (case i => k_is); (case n => k_is); (case l => k_is); (case c => k_is); (case k => k_is)
   (case b => exact fun _ _ _ _ _ _ us hl => match us, hl with | [_], _ => rfl)
  have xt : L2.XTabA (L2.KOf KX) := by
   refine' L2.xtabA_of ?a
   (case a => kernel_rfl)
  have it : L2.InitTx (L2.KOf KX) "BadText.__init__" (L2.ad (L2.KOf KX) "BadText") K4.s_init ["self", "at"] := by
   dsimp only [L2.KOf]
   refine' L2.init_mk ?a ?i ?n ?l ?c ?k ?b
   (case a => k_is); (case i => k_is); (case n => k_is); (case l => k_is); (case c => k_is); (case k => k_is)
   (case b => exact fun _ _ _ _ _ _ us hl => match us, hl with | [_, _], _ => rfl)
  have T : K4.Tx (L2.KOf KX) mg := ⟨d_is_name, d_is_number, d_is_kind, d_is_made_of, d_term_text, d_bracketed, d_inner_texts, d_term_texts, d_arm_text, d_term_of, d_term_with, d_need, d_trees_of, d_put_word, d_close_brackets, d_term_from, d_terms_from, d_leaf_from, d_name_from, d_arm_from, d_shown, d_kind_text, d_channel_text, d_hand_texts, d_row_text, d_word_text, d_read, d_rows_in, d_made, d_put_row, d_put_in_hand, d_kind_row, d_channel_row, d_hand_row, d_term_in, d_number_from, d_kind_from, dl_feed, dl_take, dl_name, dl_whole, dl_some, dl_leaf, dl_term, dl_text, dl_parts, dl_kinds, dl_channels, dl_room, dl_row, dl_hand, dl_make, dl_row_line, dl_lines, dl_alike, d_law, g_LONGEST_NAME, g_LONGEST_NUMBER, g_DEEPEST, g_MOST_ARMS, g_MOST_PARTS, g_LETTERS, g_FIGURES, g_NO_NAMES, g_OPS, z_all, z_bool, z_enumerate, z_int, z_isinstance, z_len, z_list, z_max, z_min, z_range, z_str, z_tuple, z_zip, c_BadText, c_SwapError, c_Draft, dt, di, xt, it⟩
  exact L2.law_top d_law hmg fun base => K4.law_is T
