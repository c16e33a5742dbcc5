import PyProof.Rows.All
import Wide.All
import OpenK.AllK
import Wide.FinOn
import Lean
import PyProof.EqAt
import PyProof.EqKinds
import PyProof.TupleCall
import PyProof.ZipIter
import PyProof.ListNew
import PyProof.TupleIter
import PyProof.WalksMore
import KE.KIntText
import PyProof.Rows.EqBoolInt
import PyProof.Rows.ZipGen
import PySem.Str
import PyProof.StrLawsTight
import PyProof.StrLawsIdx
import PyProof.StrLawsIn
import PyProof.Rows.SetFrom
import KE.KDictSum
import PyProof.Rows.SortWalk
import PyProof.NeKinds
import KE.KDictList
import KE.KRevIter
import PyProof.EnumMake
import PyProof.Rows.EnumRows
import PyProof.ExcInit
import PyProof.InstStoreFacts
import PyProof.ExcArgsOwn
import PyProof.ExcAttrAll.ValueError
import PyProof.ExcBaseAll.ValueError
import PyProof.ConsumeWalk
import PyProof.AttrMissHeap
import KE.KItemsList
import KE.KEqDict
import PyProof.StationsW
import PyProof.RulesAs
import PyProof.NsDelKeeps
import PySem.Challenge.RW_swapstride_k10_kinds_looked_at
set_option Elab.async false
set_option linter.all false
set_option maxRecDepth 100000
namespace L2
open PySem PySem.Spec PyProof.Rows

noncomputable abbrev Key := Sum Int Str
noncomputable def keyIs : Key → Value → Bool
  | .inl k, v => Value.isInt k v
  | .inr x, v => Value.isStrOf x v
noncomputable def keyH (w : World) : Key → Int
  | .inl k => hashInt k
  | .inr x => hashStr w x
theorem keyIs_shape : ∀ {k : Key} {v : Value}, keyIs k v = true → (∃ i t, k = Sum.inl i ∧ v = Value.int i t) ∨ (∃ x t, k = Sum.inr x ∧ v = Value.str x t)
  | .inl i, v, h => by
    obtain ⟨t, e⟩ := Value.isInt_shape (k := i) (v := v) h
    exact .inl ⟨i, t, rfl, e⟩
  | .inr x, v, h => by
    obtain ⟨t, e⟩ := Value.isStrOf_shape (x := x) (v := v) h
    exact .inr ⟨x, t, rfl, e⟩
theorem keyIs_int (i : Int) (t : Tok) : keyIs (.inl i) (.int i t) = true := by simp [keyIs, Value.isInt]
theorem keyIs_str (x : Str) (t : Tok) : keyIs (.inr x) (.str x t) = true := by simp [keyIs, Value.isStrOf]
theorem key_ll (a b : Int) : decide ((Sum.inl a : Key) = Sum.inl b) = (a == b) := by
  by_cases e : a = b
  · subst e; simp
  · have h : ¬ (Sum.inl a : Key) = Sum.inl b := fun q => e (Sum.inl.inj q)
    rw [decide_eq_false h]
    exact (beq_eq_false_iff_ne.mpr e).symm
theorem key_rr (a b : Str) : decide ((Sum.inr a : Key) = Sum.inr b) = decide (a = b) := by
  by_cases e : a = b
  · subst e; simp
  · have h : ¬ (Sum.inr a : Key) = Sum.inr b := fun q => e (Sum.inr.inj q)
    rw [decide_eq_false h, decide_eq_false e]
theorem key_lr (a : Int) (b : Str) : decide ((Sum.inl a : Key) = Sum.inr b) = false := decide_eq_false (fun q => nomatch q)
theorem key_rl (a : Str) (b : Int) : decide ((Sum.inr a : Key) = Sum.inl b) = false := decide_eq_false (fun q => nomatch q)

noncomputable def mixKind (prog : Program) (w : World) : PySem.KeyKind prog w Key where
  is := keyIs
  hash := keyH w
  inj := fun v a b ha hb => by
    rcases keyIs_shape ha with ⟨i, t, rfl, rfl⟩ | ⟨x, t, rfl, rfl⟩
    · rcases keyIs_shape hb with ⟨j, u, rfl, e⟩ | ⟨y, u, rfl, e⟩
      · injection e with e1 _; rw [e1]
      · exact nomatch e
    · rcases keyIs_shape hb with ⟨j, u, rfl, e⟩ | ⟨y, u, rfl, e⟩
      · exact nomatch e
      · injection e with e1 _; rw [e1]
  byValue := fun k v h => by
    rcases keyIs_shape h with ⟨i, t, rfl, rfl⟩ | ⟨x, t, rfl, rfl⟩ <;> rfl
  pyHash := fun hv h => by
    rcases keyIs_shape hv with ⟨i, t, rfl, rfl⟩ | ⟨x, t, rfl, rfl⟩
    · exact wpAny_pyHash_int h
    · exact wpAny_pyHash_str h
  eqBool := fun hu hv h => by
    rcases keyIs_shape hu with ⟨i, t, rfl, rfl⟩ | ⟨x, t, rfl, rfl⟩
    · rcases keyIs_shape hv with ⟨j, u, rfl, rfl⟩ | ⟨y, u, rfl, rfl⟩
      · rw [key_ll] at h; exact wpAny_eqBool_int h
      · rw [key_lr] at h; exact SeqAt.EqAt.int_str i t y u _ _ _ _ h
    · rcases keyIs_shape hv with ⟨j, u, rfl, rfl⟩ | ⟨y, u, rfl, rfl⟩
      · rw [key_rl] at h; exact SeqAt.EqAt.str_int x t j u _ _ _ _ h
      · rw [key_rr] at h; exact wpAny_eqBool_str h
  «strs» := fun k x t v h => by
    rcases keyIs_shape h with ⟨i, u, rfl, e⟩ | ⟨y, u, rfl, e⟩
    · exact nomatch e
    · injection e with e1 _
      subst e1
      cases v <;> rfl

theorem mixKind_int (prog : Program) (w : World) (i : Int) (t : Tok) : (mixKind prog w).is (.inl i) (.int i t) = true := keyIs_int i t
theorem mixKind_str (prog : Program) (w : World) (x : Str) (t : Tok) : (mixKind prog w).is (.inr x) (.str x t) = true := keyIs_str x t
end L2

namespace L2
open PySem PySem.Spec PyProof.Rows

inductive V where
  | non | bl (b : Bool) | int (i : Int) | str (x : Str) | byt (b : Array UInt8) | flt (b : UInt64) | ref (a : Addr) | ty (n : String)
  deriving DecidableEq

noncomputable def RelV : V → Value → Prop
  | .non, u => u = Value.none
  | .bl b, u => u = Value.bool b
  | .int i, u => ∃ t, u = Value.int i t
  | .str x, u => ∃ t, u = Value.str x t
  | .byt b, u => ∃ t, u = Value.bytes b t
  | .flt b, u => ∃ t, u = Value.float b t
  | .ref a, u => u = Value.ref a
  | .ty n, u => u = Value.type n

noncomputable abbrev Vals : List V → List Value → Prop := Paired RelV
theorem Vals.length {xs : List V} {us : List Value} (r : Vals xs us) : xs.length = us.length := Paired.length r
theorem Vals.get : ∀ {xs : List V} {us : List Value} {i : Nat} {x : V}, Vals xs us → xs[i]? = some x → ∃ u, us[i]? = some u ∧ RelV x u
  | _, _, _, _, .nil, e => by simp at e
  | _, _, 0, _, .cons r _, e => by simp at e; subst e; exact ⟨_, rfl, r⟩
  | _, _, i + 1, x, .cons _ t, e => by
    obtain ⟨u, h1, h2⟩ := Vals.get (i := i) (x := x) t (by simpa using e)
    exact ⟨u, by simpa using h1, h2⟩
theorem Vals.set {x : V} {u : Value} (r : RelV x u) : ∀ {xs : List V} {us : List Value} (i : Nat), Vals xs us → Vals (xs.set i x) (us.set i u)
  | _, _, _, .nil => .nil
  | _, _, 0, .cons _ t => .cons r t
  | _, _, i + 1, .cons q t => .cons q (Vals.set r i t)
theorem Vals.append : ∀ {xs ys : List V} {us ws : List Value}, Vals xs us → Vals ys ws → Vals (xs ++ ys) (us ++ ws)
  | _, _, _, _, .nil, s => s
  | _, _, _, _, .cons r t, s => .cons r (Vals.append t s)
theorem Vals.take : ∀ {xs : List V} {us : List Value} (n : Nat), Vals xs us → Vals (xs.take n) (us.take n)
  | _, _, 0, _ => .nil
  | _, _, _ + 1, .nil => .nil
  | _, _, n + 1, .cons r t => .cons r (Vals.take n t)
theorem Vals.drop : ∀ {xs : List V} {us : List Value} (n : Nat), Vals xs us → Vals (xs.drop n) (us.drop n)
  | _, _, 0, r => r
  | _, _, _ + 1, .nil => .nil
  | _, _, n + 1, .cons _ t => Vals.drop n t
noncomputable def RelO : Option V → Option Value → Prop
  | some v, some u => RelV v u
  | none, none => True
  | _, _ => False
noncomputable def KV {κ : Type} : List (κ × V) → List (κ × Value) → Prop := Paired fun (p : κ × V) (q : κ × Value) => p.1 = q.1 ∧ RelV p.2 q.2

noncomputable def kV : Key → V
  | .inl i => .int i
  | .inr x => .str x

inductive HO where
  /-- a list -/
  | lst (xs : List V)
  /-- a tuple (never changes) -/
  | tup (xs : List V)
  /-- a dict whose keys are ints and texts; one whose keys are tuples of ints and texts (the empty one is both) -/
  | dK (kvs : List (Key × V)) | dT (kvs : List (List Key × V))
  /-- a set of ints: its members, its size -/
  | set (S : Int → Bool) (n : Nat)
  /-- an instance of the class at C, its dict at dx, its attributes -/
  | ins (C dx : Addr) (fs : List (Str × V))
  /-- the dict of the instance at x -/
  | own (x : Addr)
  /-- the dict of an exception -/
  | xd (fs : List (Str × V))
  /-- a bound method, f of x -/
  | met (f x : Addr)
  /-- a range object lo, lo + 1, .. below hi -/
  | rng (lo hi : Int)
  /-- a thing that is known to the object (the script; a dict while a loop walks it): read, never written while it is so -/
  | frz (o : Obj) (u : HO)
  /-- a code object's table -/
  | tbl (ps : Array Value)
  /-- any other thing, by what is true of its one object (a def of one's own: SetO a S n := HO.ext fun h => ..) -/
  | ext (φ : Heap → Prop)

noncomputable abbrev Hp := Addr → Option HO
noncomputable def upd (H : Hp) (a : Addr) (o : HO) : Hp := fun b => if b = a then some o else H b
theorem upd_same {H : Hp} {a : Addr} {o : HO} : upd H a o a = some o := by unfold upd; rw [if_pos rfl]
theorem upd_ne {H : Hp} {a b : Addr} {o : HO} (h : b ≠ a) : upd H a o b = H b := by unfold upd; rw [if_neg h]
theorem ne_of {H : Hp} {a b : Addr} {o u : HO} (h : H a = some o) (h' : H b = some u) (d : o ≠ u) : a ≠ b := by
  intro e; subst e; rw [h] at h'; exact d (Option.some.inj h')
theorem ne_of_none {H : Hp} {a b : Addr} {o : HO} (h : H a = some o) (h' : H b = none) : a ≠ b := by
  intro e; subst e; rw [h] at h'; cases h'

section
variable (P : Program) (w : World)
noncomputable def ObjOk (H : Hp) (h : Heap) (a : Addr) : HO → Prop
  | .lst xs => xs.length ≤ sizeLine ∧ ∃ (its : List Value) (n : Nat), Vals xs its ∧ h.get? a = some { cls := .type "list", data := .seq its.toArray n }
  | .tup xs => xs.length ≤ sizeLine ∧ ∃ its : List Value, Vals xs its ∧ IsTup h a its.toArray
  | .dK kvs => kvs.length ≤ sizeLine ∧ (a == sysModules) = false ∧ ∃ vs, KV kvs vs ∧ h.DictOf (mixKind P w) a vs
  | .dT kvs => kvs.length ≤ sizeLine ∧ (a == sysModules) = false ∧ ∃ xs : List (List Key × Addr × Value),
      Paired (fun (p : List Key × V) (q : List Key × Addr × Value) => p.1 = q.1 ∧ H q.2.1 = some (.tup (p.1.map kV)) ∧ RelV p.2 q.2.2) kvs xs ∧
      ∃ o es ep, h.get? a = some o ∧ o.ExactDict ∧ o.data = .dict es ep ∧ es.toList = xs.map (entryOfKey (tupleKind (mixKind P w))) ∧ (xs.map (·.1)).Nodup
  | .set S n => h.SetOf (intKind P w) a S n
  | .ins C dx fs => H dx = some (.own a) ∧ fs.length ≤ 1000 ∧ dx ≠ a ∧ h.get? a = some (PySem.W.instObj C dx) ∧
      ∃ mA, h.Ns1 dx mA ∧ (∀ f, RelO (fs.lookup f) (mA f)) ∧ PySem.Within mA (fs.map (·.1))
  | .own _ => ∃ o, h.get? a = some o
  | .xd fs => ∃ mA, h.Ns1 a mA ∧ ∀ f, RelO (fs.lookup f) (mA f)
  | .rng lo hi => ∃ t u v, h.get? a = some { cls := .type "range", data := .fields #[.int lo t, .int hi u, .int 1 v] }
  | .frz o u => h.get? a = some o ∧ ObjOk H h a u
  | .tbl ps => h.get? a = some { cls := .none, data := .fields ps }
  | .met f x => h.get? a = some (PySem.W.methodObj (.ref f) (.ref x))
  | .ext φ => φ h ∧ (∃ o, h.get? a = some o) ∧ ∀ h1 h2 : Heap, φ h1 → (∀ o, h1.get? a = some o → h2.get? a = some o) → φ h2
noncomputable def HOk (H : Hp) (h : Heap) : Prop := ∀ a o, H a = some o → ObjOk P w H h a o
end

section
variable {P : Program} {w : World} {H H' : Hp} {h h' : Heap} {a : Addr} {o : HO}
theorem ObjOk.lt (x : ObjOk P w H h a o) : a < h.objs.size := by
  cases o with
  | lst xs => obtain ⟨_, _, _, _, e⟩ := x; exact Heap.lt_size e
  | tup xs => obtain ⟨_, _, _, p⟩ := x; exact p.lt
  | dK kvs => obtain ⟨_, _, _, _, o, _, _, e, _⟩ := x; exact Heap.lt_size e
  | dT kvs => obtain ⟨_, _, _, _, o, _, _, e, _⟩ := x; exact Heap.lt_size e
  | set S n => obtain ⟨o, _, _, _, e, _⟩ := x; exact Heap.lt_size e
  | ins C dx fs => obtain ⟨_, _, _, e, _⟩ := x; exact Heap.lt_size e
  | own y => obtain ⟨_, e⟩ := x; exact Heap.lt_size e
  | xd fs => obtain ⟨_, ⟨_, _, _, e, _⟩, _⟩ := x; exact Heap.lt_size e
  | rng lo hi => obtain ⟨_, _, _, e⟩ := x; exact Heap.lt_size e
  | frz ob u => obtain ⟨e, _⟩ := x; exact Heap.lt_size e
  | tbl ps => exact Heap.lt_size (show h.get? a = some _ from x)
  | met f y => exact Heap.lt_size (show h.get? a = some _ from x)
  | ext φ => obtain ⟨_, ⟨_, e⟩, _⟩ := x; exact Heap.lt_size e
theorem Paired.mapP {α β : Type} {F G : α → β → Prop} : ∀ {l₁ : List α} {l₂ : List β}, Paired F l₁ l₂ → (∀ a b, F a b → G a b) → Paired G l₁ l₂
  | _, _, .nil, _ => .nil
  | _, _, .cons r t, f => .cons (f _ _ r) (Paired.mapP t f)
theorem ObjOk.stay (x : ObjOk P w H h a o) (k : ∀ b u, (b = a ∨ H b = some (.own a)) → h.get? b = some u → h'.get? b = some u)
    (ho : ∀ b, H b = some (.own a) → H' b = some (.own a)) (ht : ∀ b xs, H b = some (.tup xs) → H' b = some (.tup xs)) : ObjOk P w H' h' a o := by
  induction o with
  | lst xs => obtain ⟨z, its, n, r, e⟩ := x; exact ⟨z, its, n, r, k _ _ (.inl rfl) e⟩
  | tup xs => obtain ⟨z, its, r, ob, e, c⟩ := x; exact ⟨z, its, r, ob, k _ _ (.inl rfl) e, c⟩
  | dK kvs => obtain ⟨z, y, vs, r, ob, es, ep, e, c⟩ := x; exact ⟨z, y, vs, r, ob, es, ep, k _ _ (.inl rfl) e, c⟩
  | dT kvs =>
    obtain ⟨z, y, xs, r, ob, es, ep, e, c⟩ := x
    exact ⟨z, y, xs, Paired.mapP r fun p q z => ⟨z.1, ht _ _ z.2.1, z.2.2⟩, ob, es, ep, k _ _ (.inl rfl) e, c⟩
  | set S n => obtain ⟨ob, es, ep, t, e, c⟩ := x; exact ⟨ob, es, ep, t, k _ _ (.inl rfl) e, c⟩
  | ins C dx fs =>
    obtain ⟨d, z, ne, e, mA, ⟨od, es, ep, e2, c⟩, r⟩ := x
    exact ⟨ho _ d, z, ne, k _ _ (.inl rfl) e, mA, ⟨od, es, ep, k _ _ (.inr d) e2, c⟩, r⟩
  | own y => obtain ⟨ob, e⟩ := x; exact ⟨ob, k _ _ (.inl rfl) e⟩
  | xd fs => obtain ⟨mA, ⟨od, es, ep, e, c⟩, r⟩ := x; exact ⟨mA, ⟨od, es, ep, k _ _ (.inl rfl) e, c⟩, r⟩
  | rng lo hi => obtain ⟨t, u, v, e⟩ := x; exact ⟨t, u, v, k _ _ (.inl rfl) e⟩
  | frz ob u ih => obtain ⟨e, q⟩ := x; exact ⟨k _ _ (.inl rfl) e, ih q⟩
  | tbl ps =>
    have e : h.get? a = some { cls := .none, data := .fields ps } := x
    show h'.get? a = some { cls := .none, data := .fields ps }
    exact k a _ (.inl rfl) e
  | met f y =>
    have e : h.get? a = some (PySem.W.methodObj (.ref f) (.ref y)) := x
    show h'.get? a = some (PySem.W.methodObj (.ref f) (.ref y))
    exact k a _ (.inl rfl) e
  | ext φ => obtain ⟨p, ⟨o, e⟩, st⟩ := x; exact ⟨st _ _ p fun o q => k _ _ (.inl rfl) q, ⟨o, k _ _ (.inl rfl) e⟩, st⟩
theorem HOk.lt (x : HOk P w H h) (e : H a = some o) : a < h.objs.size := (x a o e).lt
theorem HOk.fresh (x : HOk P w H h) (e : h.objs.size ≤ a) : H a = none := by
  cases q : H a with
  | none => rfl
  | some u => exact absurd (Nat.lt_of_lt_of_le (x.lt q) e) (Nat.lt_irrefl _)
theorem HOk.kept (x : HOk P w H h) (k : ∀ b u, h.get? b = some u → h'.get? b = some u) : HOk P w H h' := fun a o e =>
  (x a o e).stay (fun b u _ q => k b u q) (fun _ q => q) fun _ _ q => q
theorem HOk.laid (x : HOk P w H h) (k : ∀ b u, h.get? b = some u → h'.get? b = some u) (hp : h.objs.size ≤ a) (new : ObjOk P w (upd H a o) h' a o) : HOk P w (upd H a o) h' := fun b u e => by
  have hn := x.fresh hp
  by_cases hb : b = a
  · subst hb; rw [upd_same] at e; cases e; exact new
  · rw [upd_ne hb] at e
    exact (x b u e).stay (fun c v _ q => k c v q) (fun c q => by rw [upd_ne (ne_of_none q hn)]; exact q) fun c xs q => by rw [upd_ne (ne_of_none q hn)]; exact q
end

noncomputable def Rd (H : Hp) (a : Addr) (u : HO) : Prop := H a = some u ∨ ∃ o, H a = some (.frz o u)
theorem Rd.ok {P : Program} {w : World} {H : Hp} {h : Heap} {a : Addr} {u : HO} (r : Rd H a u) (x : HOk P w H h) : ObjOk P w H h a u := by
  rcases r with r | ⟨o, r⟩
  · exact x a u r
  · obtain ⟨_, q⟩ := x a _ r
    exact q
noncomputable def Mut : Option HO → Prop
  | some (.lst _) => True
  | some (.dK _) => True
  | some (.dT _) => True
  | some (.set _ _) => True
  | some (.ins _ _ _) => True
  | some (.ext _) => True
  | _ => False
section
variable {P : Program} {w : World} {H : Hp} {h h' : Heap} {x e : Addr} {o' : HO}
theorem HOk.write (ok : HOk P w H h) (mu : Mut (H x)) (he : e = x ∨ H e = some (.own x)) (k : ∀ b u, b ≠ e → h.get? b = some u → h'.get? b = some u) (heo : ∃ u, h'.get? e = some u)
    (new : ObjOk P w (upd H x o') h' x o') : HOk P w (upd H x o') h' := fun b u q => by
  have nown : ∀ c y, H c = some (.own y) → c ≠ x := fun c y r z => by subst z; rw [r] at mu; exact mu
  have ntup : ∀ c xs, H c = some (.tup xs) → c ≠ x := fun c xs r z => by subst z; rw [r] at mu; exact mu
  by_cases hb : b = x
  · subst hb; rw [upd_same] at q; cases q; exact new
  · rw [upd_ne hb] at q
    by_cases hbe : b = e
    · have q' : H b = some (.own x) := by
        rcases he with z | z
        · exact absurd (hbe.trans z) hb
        · rw [hbe]; exact z
      rw [q] at q'; cases q'
      obtain ⟨v, hv⟩ := heo
      exact ⟨v, by rw [hbe]; exact hv⟩
    · refine (ok b u q).stay (fun c v hc r => k c v ?_ r) (fun c r => by rw [upd_ne (nown c b r)]; exact r) fun c xs r => by rw [upd_ne (ntup c xs r)]; exact r
      rcases hc with rfl | hc
      · exact hbe
      · rintro rfl
        rcases he with z | z
        · exact nown c b hc z
        · rw [hc] at z; cases z; exact hb rfl
end

structure Un (fs ex : List Addr) (H H' : Hp) (h h' : Heap) : Prop where
  keep : ∀ b o, h.get? b = some o → H b = none → b ∉ fs → b ∉ ex → h'.get? b = some o
  slot : ∀ b o, h.get? b = some o → H b = none → b ∈ fs → b ∉ ex → ∃ sl, h'.get? b = some { o with slots := sl }
  free : ∀ b o, h.get? b = some o → H b = none → b ∉ ex → H' b = none
  there : ∀ b o, h.get? b = some o → b ∉ ex → ∃ o', h'.get? b = some o'
  tups : ∀ b xs, H b = some (.tup xs) → H' b = some (.tup xs)
  frzs : ∀ b o u, H b = some (.frz o u) → H' b = some (.frz o u)
  tbls : ∀ b ps, H b = some (.tbl ps) → ∃ more, H' b = some (.tbl (ps ++ more))
section
variable {fs fs' ex ex' : List Addr} {H H1 H2 : Hp} {h h1 h2 h' : Heap} {a x e : Addr} {o : HO}
theorem Un.any (u : Un fs ex H H1 h h1) {b : Addr} {ob : Obj} (q : h.get? b = some ob) (n : H b = none) (hx : b ∉ ex) : ∃ sl, h1.get? b = some { ob with slots := sl } := by
  by_cases hb : b ∈ fs
  · exact u.slot b ob q n hb hx
  · exact ⟨ob.slots, u.keep b ob q n hb hx⟩
theorem Un.kept (k : ∀ b u, h.get? b = some u → h'.get? b = some u) : Un fs ex H H h h' :=
  ⟨fun b ob q _ _ _ => k b ob q, fun b ob q _ _ _ => ⟨ob.slots, k b ob q⟩, fun _ _ _ n _ => n, fun b ob q _ => ⟨ob, k b ob q⟩, fun _ _ q => q, fun _ _ _ q => q, fun _ ps q => ⟨#[], by rw [q]; simp⟩⟩
theorem Un.refl : Un fs ex H H h h := Un.kept fun _ _ q => q
theorem Un.laid (k : ∀ b u, h.get? b = some u → h'.get? b = some u) (hp : h.objs.size ≤ a) (hn : H a = none) : Un fs ex H (upd H a o) h h' where
  keep := fun b u q _ _ _ => k b u q
  slot := fun b u q _ _ _ => ⟨u.slots, k b u q⟩
  free := fun b u q n _ => by rw [upd_ne (Nat.ne_of_lt (Nat.lt_of_lt_of_le (Heap.lt_size q) hp))]; exact n
  there := fun b u q _ => ⟨u, k b u q⟩
  tups := fun b xs q => by rw [upd_ne (ne_of_none q hn)]; exact q
  frzs := fun b u xs q => by rw [upd_ne (ne_of_none q hn)]; exact q
  tbls := fun b ps q => ⟨#[], by rw [upd_ne (ne_of_none q hn), q]; simp⟩
theorem Un.write (mu : Mut (H x)) (he : e = x ∨ H e = some (.own x)) (k : ∀ b u, b ≠ e → h.get? b = some u → h'.get? b = some u) (heo : ∃ u, h'.get? e = some u) : Un fs ex H (upd H x o) h h' := by
  have hx : ∀ b, H b = none → b ≠ x := fun b n z => by subst z; rw [n] at mu; exact mu
  have hb : ∀ b, H b = none → b ≠ e := fun b n z => by
    subst z
    rcases he with r | r
    · exact hx b n r
    · rw [n] at r; cases r
  have hm : ∀ b u, H b = some u → ¬ Mut (some u) → b ≠ x := fun b u q nm z => by subst z; rw [q] at mu; exact nm mu
  refine ⟨fun b u q n _ _ => k b u (hb b n) q, fun b u q n _ _ => ⟨u.slots, k b u (hb b n) q⟩, fun b u q n _ => by rw [upd_ne (hx b n)]; exact n, fun b u q _ => ?_,
    fun b xs q => by rw [upd_ne (hm b _ q fun z => z)]; exact q, fun b u xs q => by rw [upd_ne (hm b _ q fun z => z)]; exact q, fun b ps q => ⟨#[], by rw [upd_ne (hm b _ q fun z => z), q]; simp⟩⟩
  by_cases hbe : b = e
  · subst hbe; exact heo
  · exact ⟨u, k b u hbe q⟩
end

noncomputable def trk (h : Heap) (H : Hp) : List Addr := (List.range h.objs.size).filter fun a => (H a).isSome
noncomputable def hidT (h : Heap) (H : Hp) : Heap := PySem.W.hideAll h (trk h H)
theorem hidT_size (h : Heap) (H : Hp) : (hidT h H).objs.size = h.objs.size := PySem.W.hideAll_size _ _
theorem hidT_get {h : Heap} {H : Hp} {b : Addr} {o : Obj} (e : h.get? b = some o) (n : H b = none) : (hidT h H).get? b = some o :=
  PySem.W.hideAll_get _ e fun hm => by
    have q : (H b).isSome = true := (List.mem_filter.mp hm).2
    rw [n] at q; simp at q
theorem of_hidT {h : Heap} {H : Hp} {b : Addr} {o : Obj} (e : (hidT h H).get? b = some o) : h.get? b = some o ∧ H b = none := by
  have e' : h.get? b = some o := PySem.W.of_hideAll (trk h H) e
  refine ⟨e', ?_⟩
  cases q : H b with
  | none => rfl
  | some x =>
    have hm : b ∈ trk h H := List.mem_filter.mpr ⟨List.mem_range.mpr (Heap.lt_size e'), by simp [q]⟩
    have z : (hidT h H).get? b = none := PySem.W.hideAll_none (trk h H) hm
    rw [z] at e; cases e

end L2

namespace L2
open PySem PySem.Spec PyProof.Rows

structure Mod (K : PySem.W.Frag) (mg : Str → Option Value) (base : Heap) : Prop where
  kin : K.In base
  glob : base.Ns mainGlobals mg
  blt : ∃ mb, base.Ns builtinsNs mb ∧ ∀ x : Str, x ≠ "__name__" → mb x = bootBuiltins x
  nolimit : base.NoLimit

structure Cx where
  prog : Program
  w : World
  K : PySem.W.Frag
  mg : Str → Option Value
  base : Heap
  A : Around
  N : List Str
  s₀ : Shared
  H₀ : Hp
  env : Env
  outer : List Env
  stack : List Env
  ex : List Addr
  fn : Str → Bool
  calm : Bool
  pn : List (Addr × Obj)
  xe : Value → Shared → Prop
noncomputable def frs (l : List Env) : List Addr := l.filterMap (·.frame)
noncomputable abbrev Cx.fs (X : Cx) : List Addr := frs X.outer

noncomputable def Vis (sc : Scope) (x : Str) : Prop := sc.names.lookup x = some .local ∨ sc.names.lookup x = some .cell ∨ sc.names.lookup x = some .free
noncomputable def Loc (sc : Scope) (x : Str) : Prop := sc.names.lookup x = some .local ∨ sc.names.lookup x = some .cell
noncomputable def Look (env : Env) (h : Heap) (m : Str → Option Value) (x : Str) (u : Value) : Prop :=
  (env.kindOf x = some .local ∧ m x = some u) ∨ ((env.kindOf x = some .cell ∨ env.kindOf x = some .free) ∧ ∃ c, env.cells.lookup x = some c ∧ h.IsCell c (some u))

structure Cx.Ok (X : Cx) : Prop where
  mod : Mod X.K X.mg X.base
  kind : X.env.scope.kind = .function
  glob : X.env.globals = mainGlobals
  blt : X.env.builtins = builtinsNs
  above : X.s₀.heap.objs.size ≤ X.env.locals
  inj : ∀ x y c, X.env.cells.lookup x = some c → X.env.cells.lookup y = some c → x = y
  has : ∀ x, (X.env.kindOf x = some .cell ∨ X.env.kindOf x = some .free) → ∃ c, X.env.cells.lookup x = some c
  cab : ∀ x c, X.fn x = true → X.env.cells.lookup x = some c → X.s₀.heap.objs.size ≤ c
  hd : X.calm = true → X.A.handled = none
  frames : X.A.frames = some X.stack
  stk : X.stack = X.outer ∨ (X.stack = X.env :: X.outer ∧ X.env.frame = some X.env.locals)
  exf : ∀ b ∈ X.ex, b ≠ X.env.locals ∧ ∀ x c, X.env.cells.lookup x = some c → c ≠ b
  bs : ∀ b o, X.base.get? b = some o → X.s₀.heap.get? b = some o ∧ X.H₀ b = none
  bsz : X.base.objs.size ≤ X.s₀.heap.objs.size
  noex : ∀ b o, X.base.get? b = some o → b ∉ X.ex
  exfs : ∀ b ∈ X.ex, b ∉ X.fs
  funs : X.s₀.heap.FunFrames X.base X.outer
  frf : ∀ b ∈ X.fs, X.H₀ b = none

structure Inv (X : Cx) (pins : List (Addr × Obj)) (σ : List (Option V)) (H : Hp) (s : Shared) : Prop where
  ok : X.Ok
  os : s.os = X.s₀.os
  bare : AllBare s.gens
  base : Un X.fs X.ex X.H₀ H X.s₀.heap s.heap
  loc : ∃ m, s.heap.Ns X.env.locals m ∧ ∀ (i : Nat) (x : Str) (v : V), X.N[i]? = some x → σ[i]? = some (some v) → Vis X.env.scope x → ∃ u, RelV v u ∧ Look X.env s.heap m x u
  cell : ∀ x c, X.env.cells.lookup x = some c → ∃ v, s.heap.IsCell c v
  free : H X.env.locals = none
  freeC : ∀ x c, X.env.cells.lookup x = some c → H c = none
  pin : ∀ p ∈ X.pn ++ pins, s.heap.get? p.1 = some p.2 ∧ H p.1 = none ∧ p.1 ≠ X.env.locals ∧ p.1 ∉ X.fs ∧ ∀ v, p.2.data ≠ .cell v
  hok : HOk X.prog X.w H s.heap
  len : σ.length = X.N.length

section
variable {X : Cx} {pins : List (Addr × Obj)} {σ : List (Option V)} {H H' : Hp} {s : Shared} {h' : Heap}

theorem Cx.Ok.nofr (ok : X.Ok) {b : Addr} {o : Obj} (e : X.base.get? b = some o) : b ∉ X.fs := fun hb => by
  have := (ok.funs.mem hb).1
  rw [e] at this; cases this
theorem Inv.bs (I : Inv X pins σ H s) : ∀ b o, X.base.get? b = some o → s.heap.get? b = some o ∧ H b = none := fun b o e =>
  ⟨I.base.keep b o (I.ok.bs b o e).1 (I.ok.bs b o e).2 (I.ok.nofr e) (I.ok.noex b o e), I.base.free b o (I.ok.bs b o e).1 (I.ok.bs b o e).2 (I.ok.noex b o e)⟩
theorem Inv.bk (I : Inv X pins σ H s) : ∀ b o, X.base.get? b = some o → s.heap.get? b = some o := fun b o e => (I.bs b o e).1
theorem Inv.mod (I : Inv X pins σ H s) : Mod X.K X.mg X.base := I.ok.mod
theorem Inv.kIn (I : Inv X pins σ H s) : X.K.In s.heap := I.ok.mod.kin.keeps I.bk
theorem Inv.lt (I : Inv X pins σ H s) : X.env.locals < s.heap.objs.size := let ⟨_, hn, _⟩ := I.loc; hn.lt
theorem Inv.sz (I : Inv X pins σ H s) : X.s₀.heap.objs.size ≤ s.heap.objs.size := Nat.le_trans I.ok.above (Nat.le_of_lt I.lt)
theorem Inv.nofs (I : Inv X pins σ H s) {a : Addr} (h : s.heap.objs.size ≤ a) : a ∉ X.fs := fun hb => by
  obtain ⟨_, o, ho, _⟩ := I.ok.funs.mem hb
  exact absurd (Nat.lt_of_lt_of_le (Heap.lt_size ho) (Nat.le_trans I.sz h)) (Nat.lt_irrefl _)
theorem Inv.cne (I : Inv X pins σ H s) : ∀ x c, X.env.cells.lookup x = some c → c ≠ X.env.locals := fun x c e z => by
  obtain ⟨v, o, ho, hd⟩ := I.cell x c e
  obtain ⟨m, ⟨o', es, ep, ho', hd', _⟩, _⟩ := I.loc
  rw [z, ho'] at ho; cases ho; rw [hd'] at hd; cases hd
theorem Inv.funs (I : Inv X pins σ H s) : s.heap.FunFrames X.base X.outer := by
  have all : ∀ (l : List Env), (∀ b ∈ frs l, b ∈ X.fs) → X.s₀.heap.FunFrames X.base l → s.heap.FunFrames X.base l := by
    intro l
    induction l with
    | nil => intro _ _; trivial
    | cons env r ih =>
      intro hs hl
      obtain ⟨hk, ⟨L, o, hf, hn, ho, hd⟩, hr⟩ := hl
      have hL : L ∈ X.fs := hs L (by unfold frs; rw [List.filterMap_cons, hf]; exact List.mem_cons_self)
      obtain ⟨sl, e⟩ := I.base.slot L o ho (I.ok.frf L hL) hL fun z => I.ok.exfs L z hL
      exact ⟨hk, ⟨L, _, hf, hn, e, hd⟩, ih (fun b hb => hs b (by unfold frs; rw [List.filterMap_cons, hf]; exact List.mem_cons_of_mem _ hb)) hr⟩
  exact all X.outer (fun _ hb => hb) I.ok.funs

theorem Inv.stack (I : Inv X pins σ H s) : s.heap.FunFrames X.base X.stack := by
  rcases I.ok.stk with e | ⟨e, hf⟩
  · rw [e]; exact I.funs
  · rw [e]
    obtain ⟨m, hn, _⟩ := I.loc
    refine .cons (by rw [I.ok.kind]; decide) hf hn ?_ I.funs
    exact Heap.get?_none_of_le (Nat.le_trans I.ok.bsz I.ok.above)
theorem Inv.stkSub (I : Inv X pins σ H s) : ∀ b ∈ frs X.stack, b ∈ X.env.locals :: X.fs := fun b hb => by
  rcases I.ok.stk with e | ⟨e, hf⟩
  · rw [e] at hb; exact List.mem_cons_of_mem _ hb
  · rw [e] at hb
    unfold frs at hb
    rw [List.filterMap_cons, hf] at hb
    exact hb
theorem Inv.stkFree (I : Inv X pins σ H s) : ∀ b ∈ frs X.stack, H b = none := fun b hb => by
  rcases List.mem_cons.mp (I.stkSub b hb) with e | hb
  · rw [e]; exact I.free
  · obtain ⟨_, o, ho, _⟩ := I.ok.funs.mem hb
    exact I.base.free b o ho (I.ok.frf b hb) fun z => I.ok.exfs b z hb

theorem Inv.step {g' : Array GenState} {t' : Nat} {d' : Drawn} {ch : List Addr} (I : Inv X pins σ H s)
    (hch : ∀ b ∈ ch, (b ∈ X.ex ∨ X.s₀.heap.objs.size ≤ b) ∧ b ≠ X.env.locals ∧ (∀ x c, X.env.cells.lookup x = some c → c ≠ b) ∧ ∀ p ∈ X.pn ++ pins, p.1 ≠ b)
    (keep : ∀ b o, b ≠ X.env.locals → b ∉ X.fs → b ∉ ch → s.heap.get? b = some o → H b = none → h'.get? b = some o)
    (slot : ∀ b o, b ≠ X.env.locals → b ∈ X.fs → b ∉ ch → s.heap.get? b = some o → H b = none → ∃ sl, h'.get? b = some { o with slots := sl }) (free : ∀ b o, b ∉ ch → s.heap.get? b = some o → H b = none → H' b = none)
    (there : ∀ b o, b ∉ ch → s.heap.get? b = some o → ∃ o', h'.get? b = some o')
    (tups : ∀ b xs, H b = some (.tup xs) → H' b = some (.tup xs)) (frzs : ∀ b o u, H b = some (.frz o u) → H' b = some (.frz o u)) (tbls : ∀ b ps, H b = some (.tbl ps) → ∃ more, H' b = some (.tbl (ps ++ more)))
    (ns : ∀ m, s.heap.Ns X.env.locals m → h'.Ns X.env.locals m) (hok : HOk X.prog X.w H' h') (hg : AllBare g') :
    Inv X pins σ H' { s with heap := h', gens := g', drawn := d', toks := t' } := by
  have neL : ∀ b o, X.s₀.heap.get? b = some o → b ≠ X.env.locals := fun b o e => Nat.ne_of_lt (Nat.lt_of_lt_of_le (Heap.lt_size e) I.ok.above)
  have neC : ∀ b o, X.s₀.heap.get? b = some o → b ∉ X.ex → b ∉ ch := fun b o e hx hb => by
    rcases (hch b hb).1 with z | z
    · exact hx z
    · exact absurd (Nat.lt_of_lt_of_le (Heap.lt_size e) z) (Nat.lt_irrefl _)
  have cellK : ∀ x c, X.env.cells.lookup x = some c → ∀ v, s.heap.IsCell c v → h'.IsCell c v := fun x c e v ⟨o, ho, hd⟩ => by
    have nch : c ∉ ch := fun z => (hch c z).2.2.1 x c e rfl
    by_cases hc : c ∈ X.fs
    · obtain ⟨sl, q⟩ := slot c o (I.cne x c e) hc nch ho (I.freeC x c e)
      exact ⟨_, q, hd⟩
    · exact ⟨o, keep c o (I.cne x c e) hc nch ho (I.freeC x c e), hd⟩
  refine ⟨I.ok, I.os, hg, ⟨fun b o e n hb hx => ?_, fun b o e n hb hx => ?_, fun b o e n hx => ?_, fun b o e hx => ?_, fun b xs e => tups b xs (I.base.tups b xs e), fun b o xs e => frzs b o xs (I.base.frzs b o xs e), fun b ps e => ?_⟩, ?_, fun x c e => ?_, ?_, fun x c e => ?_, fun p hp => ?_, hok, I.len⟩
  · exact keep b o (neL b o e) hb (neC b o e hx) (I.base.keep b o e n hb hx) (I.base.free b o e n hx)
  · obtain ⟨sl, e1⟩ := I.base.slot b o e n hb hx
    obtain ⟨sl', e2⟩ := slot b _ (neL b o e) hb (neC b o e hx) e1 (I.base.free b o e n hx)
    exact ⟨sl', e2⟩
  · obtain ⟨o', e1⟩ := I.base.there b o e hx
    exact free b o' (neC b o e hx) e1 (I.base.free b o e n hx)
  · obtain ⟨o', e1⟩ := I.base.there b o e hx
    exact there b o' (neC b o e hx) e1
  · obtain ⟨m1, e1⟩ := I.base.tbls b ps e
    obtain ⟨m2, e2⟩ := tbls b _ e1
    exact ⟨m1 ++ m2, by rw [e2, Array.append_assoc]⟩
  · obtain ⟨m, hn, hl⟩ := I.loc
    refine ⟨m, ns m hn, fun i x v e1 e2 e3 => ?_⟩
    obtain ⟨u, r, l⟩ := hl i x v e1 e2 e3
    refine ⟨u, r, ?_⟩
    rcases l with l | ⟨k, c, e, z⟩
    · exact .inl l
    · exact .inr ⟨k, c, e, cellK x c e _ z⟩
  · obtain ⟨v, z⟩ := I.cell x c e
    exact ⟨v, cellK x c e v z⟩
  · obtain ⟨m, ⟨o, _, _, ho, _⟩, _⟩ := I.loc
    exact free _ o (fun z => (hch _ z).2.1 rfl) ho I.free
  · obtain ⟨v, o, ho, hd⟩ := I.cell x c e
    exact free c o (fun z => (hch c z).2.2.1 x c e rfl) ho (I.freeC x c e)
  · obtain ⟨e, n, ne, nf, d⟩ := I.pin p hp
    have nch : p.1 ∉ ch := fun z => (hch p.1 z).2.2.2 p hp rfl
    exact ⟨keep p.1 p.2 ne nf nch e n, free p.1 p.2 nch e n, ne, nf, d⟩
theorem Inv.un {t' : Nat} (I : Inv X pins σ H s) (u : Un X.fs [] H H' s.heap h') (hok : HOk X.prog X.w H' h') : Inv X pins σ H' { s with heap := h', toks := t' } := by
  obtain ⟨m, ⟨o, es, ep, ho, r⟩, _⟩ := id I.loc
  obtain ⟨sl, hL⟩ := u.any ho I.free (by simp)
  exact I.step (g' := s.gens) (d' := s.drawn) (ch := []) (fun _ z => nomatch z) (fun b o _ hb _ e n => u.keep b o e n hb (by simp)) (fun b o _ hb _ e n => u.slot b o e n hb (by simp)) (fun b o _ e n => u.free b o e n (by simp)) (fun b o _ e => u.there b o e (by simp)) u.tups u.frzs u.tbls (fun m' hm => by
    obtain ⟨o', es', ep', ho', r'⟩ := hm
    rw [ho] at ho'; cases ho'
    exact ⟨_, es', ep', hL, r'⟩) hok I.bare
theorem Inv.call {g' : Array GenState} {t' : Nat} {d' : Drawn} {ch : List Addr} (I : Inv X pins σ H s) (u : Un (frs X.stack) ch H H' s.heap h') (hok : HOk X.prog X.w H' h') (hg : AllBare g')
    (hch : ∀ b ∈ ch, (b ∈ X.ex ∨ X.s₀.heap.objs.size ≤ b) ∧ b ≠ X.env.locals ∧ (∀ x c, X.env.cells.lookup x = some c → c ≠ b) ∧ ∀ p ∈ X.pn ++ pins, p.1 ≠ b) :
    Inv X pins σ H' { s with heap := h', gens := g', drawn := d', toks := t' } := by
  obtain ⟨m, ⟨o, es, ep, ho, r⟩, _⟩ := id I.loc
  obtain ⟨sl, hL⟩ := u.any ho I.free fun z => (hch _ z).2.1 rfl
  exact I.step (ch := ch) hch (fun b o hL hb hc e n => u.keep b o e n (fun z => (List.mem_cons.mp (I.stkSub b z)).elim hL hb) hc) (fun b o _ _ hc e n => u.any e n hc) (fun b o hc e n => u.free b o e n hc) (fun b o hc e => u.there b o e hc) u.tups u.frzs u.tbls (fun m' hm => by
    obtain ⟨o', es', ep', ho', r'⟩ := hm
    rw [ho] at ho'; cases ho'
    exact ⟨_, es', ep', hL, r'⟩) hok hg
theorem Inv.turned {t' : Nat} {it : Addr} (I : Inv X pins σ H s) (k : ∀ b o, b ≠ it → s.heap.get? b = some o → h'.get? b = some o) (hn : H it = none) (hL : it ≠ X.env.locals)
    (h1 : it ∈ X.ex ∨ X.s₀.heap.objs.size ≤ it) (h2 : ∀ x c, X.env.cells.lookup x = some c → c ≠ it) (h3 : ∀ p ∈ X.pn ++ pins, p.1 ≠ it) : Inv X pins σ H { s with heap := h', toks := t' } := by
  have nit : ∀ b u, H b = some u → b ≠ it := fun b u e z => by rw [z, hn] at e; cases e
  refine I.step (g' := s.gens) (d' := s.drawn) (ch := [it]) (fun b hb => ?_) (fun b o _ _ hc e _ => k b o (fun z => hc (by simp [z])) e) (fun b o _ _ hc e _ => ⟨o.slots, k b o (fun z => hc (by simp [z])) e⟩) (fun _ _ _ _ n => n)
    (fun b o hc e => ⟨o, k b o (fun z => hc (by simp [z])) e⟩) (fun _ _ e => e) (fun _ _ _ e => e) (fun b ps e => ⟨#[], by rw [e]; simp⟩) (fun m hm => ?_) (fun b u e => ?_) I.bare
  · have e : b = it := by simpa using hb
    subst e
    exact ⟨h1, hL, h2, h3⟩
  · obtain ⟨o, es, ep, ho, r⟩ := hm
    exact ⟨o, es, ep, k _ o (Ne.symm hL) ho, r⟩
  · refine (I.hok b u e).stay (fun c v hc q => k c v ?_ q) (fun _ q => q) fun _ _ q => q
    rcases hc with z | z
    · rw [z]; exact nit b u e
    · exact nit c _ z
theorem Inv.tok (I : Inv X pins σ H s) (t : Nat) : Inv X pins σ H { s with toks := t } := I.un (h' := s.heap) (t' := t) Un.refl I.hok
theorem Inv.kept {t' : Nat} (I : Inv X pins σ H s) (k : ∀ b u, s.heap.get? b = some u → h'.get? b = some u) : Inv X pins σ H { s with heap := h', toks := t' } := I.un (Un.kept k) (I.hok.kept k)
theorem Inv.laid {a : Addr} {o : HO} {t' : Nat} (I : Inv X pins σ H s) (k : ∀ b u, s.heap.get? b = some u → h'.get? b = some u) (hp : s.heap.objs.size ≤ a) (new : ObjOk X.prog X.w (upd H a o) h' a o) :
    Inv X pins σ (upd H a o) { s with heap := h', toks := t' } := I.un (Un.laid k hp (I.hok.fresh hp)) (I.hok.laid k hp new)
theorem Inv.write {x e : Addr} {o : HO} {t' : Nat} (I : Inv X pins σ H s) (mu : Mut (H x)) (he : e = x ∨ H e = some (.own x)) (k : ∀ b u, b ≠ e → s.heap.get? b = some u → h'.get? b = some u) (heo : ∃ u, h'.get? e = some u)
    (new : ObjOk X.prog X.w (upd H x o) h' x o) : Inv X pins σ (upd H x o) { s with heap := h', toks := t' } := I.un (Un.write mu he k heo) (I.hok.write mu he k heo new)
theorem Inv.weak {σ' : List (Option V)} (I : Inv X pins σ H s) (hl : σ'.length = σ.length) (w : ∀ (i : Nat) v, σ'[i]? = some (some v) → σ[i]? = some (some v)) : Inv X pins σ' H s :=
  ⟨I.ok, I.os, I.bare, I.base, let ⟨m, hn, hl'⟩ := I.loc; ⟨m, hn, fun i x v e1 e2 e3 => hl' i x v e1 (w i v e2) e3⟩, I.cell, I.free, I.freeC, I.pin, I.hok, hl.trans I.len⟩
theorem Inv.pins_of {pins' : List (Addr × Obj)} (I : Inv X pins σ H s) (h : ∀ p ∈ pins', s.heap.get? p.1 = some p.2 ∧ H p.1 = none ∧ p.1 ≠ X.env.locals ∧ p.1 ∉ X.fs ∧ ∀ v, p.2.data ≠ .cell v) : Inv X pins' σ H s :=
  ⟨I.ok, I.os, I.bare, I.base, I.loc, I.cell, I.free, I.freeC, fun p hp => (List.mem_append.mp hp).elim (fun z => I.pin p (List.mem_append_left _ z)) (h p), I.hok, I.len⟩

theorem nodup_ix {N : List Str} (hN : N.Nodup) {i j : Nat} {x : Str} (a : N[i]? = some x) (b : N[j]? = some x) : i = j := by
  obtain ⟨h1, e1⟩ := List.getElem?_eq_some_iff.mp a
  obtain ⟨h2, e2⟩ := List.getElem?_eq_some_iff.mp b
  exact (List.getElem_inj hN).mp (e1.trans e2.symm)

theorem store_ok2 {M : Model} {A : Around} {E : Value → Shared → Prop} {i : Nat} {x : Str} {v : V} {u : Value} {Q : Unit → Shared → Prop} (I : Inv X pins σ H s) (hN : X.N.Nodup) (hi : X.N[i]? = some x) (hx : Loc X.env.scope x) (r : RelV v u)
    (h : ∀ s', Inv X pins (σ.set i (some v)) H s' → (∃ a, Heap.SameBut a s.heap s'.heap ∧ (a = X.env.locals ∨ X.env.cells.lookup x = some a)) → Q () s') (hf : X.fn x = true ∨ X.env.scope.names.lookup x = some .local := by first | exact .inl rfl | exact .inr rfl | assumption) : wpAny M A (storeName X.env x u) Q E s := by
  obtain ⟨m, hn, hl⟩ := id I.loc
  have hcls : (X.env.scope.kind == .class || (X.env.scope.kind == .module && X.env.locals != X.env.globals)) = false := by rw [I.ok.kind]; rfl
  have hiσ : i < σ.length := by rw [I.len]; exact (List.getElem?_eq_some_iff.mp hi).1
  have cne := I.cne
  have tracked : ∀ {a : Addr} {h' : Heap}, (∃ o, s.heap.get? a = some o ∧ H a = none) → Heap.SameBut a s.heap h' → HOk X.prog X.w H h' := fun {a h'} ha hs b ob e => by
    obtain ⟨_, _, hfree⟩ := ha
    refine (I.hok b ob e).stay (fun c w' hc q => (hs.2 c ?_).trans q) (fun _ q => q) fun _ _ q => q
    rintro rfl
    rcases hc with rfl | hc
    · rw [hfree] at e; cases e
    · rw [hfree] at hc; cases hc
  rcases hx with hk | hk
  · refine wpAny_storeName_local hk hn (fun h' hn' hs => ?_) hcls
    obtain ⟨oL, _, _, hoL, _⟩ := id hn
    refine h _ ⟨I.ok, I.os, I.bare, ⟨fun b o e n hb hx => ?_, fun b o e n hb hx => ?_, I.base.free, fun b o e hx => ?_, I.base.tups, I.base.frzs, I.base.tbls⟩, ⟨_, hn', fun j y v' e1 e2 e3 => ?_⟩, fun y c e => ?_, I.free, I.freeC, fun p hp => ?_, tracked ⟨oL, hoL, I.free⟩ hs, by simpa using I.len⟩ ⟨_, hs, .inl rfl⟩
    · exact (hs.2 b (Nat.ne_of_lt (Nat.lt_of_lt_of_le (Heap.lt_size e) I.ok.above))).trans (I.base.keep b o e n hb hx)
    · obtain ⟨sl, e1⟩ := I.base.slot b o e n hb hx
      exact ⟨sl, (hs.2 b (Nat.ne_of_lt (Nat.lt_of_lt_of_le (Heap.lt_size e) I.ok.above))).trans e1⟩
    · obtain ⟨o', e1⟩ := I.base.there b o e hx
      exact ⟨o', (hs.2 b (Nat.ne_of_lt (Nat.lt_of_lt_of_le (Heap.lt_size e) I.ok.above))).trans e1⟩
    · by_cases hj : j = i
      · subst hj
        rw [hi] at e1; cases e1
        rw [List.getElem?_set_self hiσ] at e2
        cases e2
        exact ⟨u, r, .inl ⟨hk, by simp⟩⟩
      · rw [List.getElem?_set_ne (Ne.symm hj)] at e2
        obtain ⟨u', r', q⟩ := hl j y v' e1 e2 e3
        refine ⟨u', r', ?_⟩
        rcases q with ⟨k, e⟩ | ⟨k, c, e, z⟩
        · refine .inl ⟨k, ?_⟩
          have : y ≠ x := fun e => hj (nodup_ix hN e1 (e ▸ hi))
          simp [this, e]
        · exact .inr ⟨k, c, e, z.sameBut hs (cne y c e)⟩
    · obtain ⟨w', z⟩ := I.cell y c e
      exact ⟨w', z.sameBut hs (cne y c e)⟩
    · obtain ⟨e, n, ne, nf, d⟩ := I.pin p hp
      exact ⟨(hs.2 p.1 ne).trans e, n, ne, nf, d⟩
  · have hfn : X.fn x = true := by
      rcases hf with z | z
      · exact z
      · rw [z] at hk; cases hk
    obtain ⟨c, hc⟩ := I.ok.has x (.inl hk)
    obtain ⟨w', z⟩ := I.cell x c hc
    refine wpAny_storeName_cell I.ok.kind hk hc z (fun h' hc' hs => ?_)
    obtain ⟨oc, hoc, hocd⟩ := id z
    refine h { s with heap := h' } ⟨I.ok, I.os, I.bare, ⟨fun b o e n hb hx => ?_, fun b o e n hb hx => ?_, I.base.free, fun b o e hx => ?_, I.base.tups, I.base.frzs, I.base.tbls⟩, ⟨m, hn.sameBut hs (Ne.symm (cne x c hc)), fun j y v' e1 e2 e3 => ?_⟩, fun y c' e => ?_, I.free, I.freeC, fun p hp => ?_, tracked ⟨oc, hoc, I.freeC x c hc⟩ hs, by simpa using I.len⟩ ⟨c, hs, .inr hc⟩
    · exact (hs.2 b (Nat.ne_of_lt (Nat.lt_of_lt_of_le (Heap.lt_size e) (I.ok.cab x c hfn hc)))).trans (I.base.keep b o e n hb hx)
    · obtain ⟨sl, e1⟩ := I.base.slot b o e n hb hx
      exact ⟨sl, (hs.2 b (Nat.ne_of_lt (Nat.lt_of_lt_of_le (Heap.lt_size e) (I.ok.cab x c hfn hc)))).trans e1⟩
    · obtain ⟨o', e1⟩ := I.base.there b o e hx
      exact ⟨o', (hs.2 b (Nat.ne_of_lt (Nat.lt_of_lt_of_le (Heap.lt_size e) (I.ok.cab x c hfn hc)))).trans e1⟩
    · by_cases hj : j = i
      · subst hj
        rw [hi] at e1; cases e1
        rw [List.getElem?_set_self hiσ] at e2
        cases e2
        exact ⟨u, r, .inr ⟨.inl hk, c, hc, hc'⟩⟩
      · rw [List.getElem?_set_ne (Ne.symm hj)] at e2
        obtain ⟨u', r', q⟩ := hl j y v' e1 e2 e3
        refine ⟨u', r', ?_⟩
        rcases q with q | ⟨k, c', e, z'⟩
        · exact .inl q
        · refine .inr ⟨k, c', e, z'.sameBut hs ?_⟩
          rintro rfl
          exact hj (nodup_ix hN e1 (I.ok.inj _ _ _ e hc ▸ hi))
    · by_cases hcc : c' = c
      · subst hcc; exact ⟨_, hc'⟩
      · obtain ⟨w2, z2⟩ := I.cell y c' e
        exact ⟨w2, z2.sameBut hs hcc⟩
    · obtain ⟨e, n, ne, nf, d⟩ := I.pin p hp
      refine ⟨(hs.2 p.1 ?_).trans e, n, ne, nf, d⟩
      intro q
      rw [q, hoc] at e
      have q' : oc = p.2 := Option.some.inj e
      exact d w' (by rw [← q']; exact hocd)
theorem store_ok {M : Model} {A : Around} {E : Value → Shared → Prop} {i : Nat} {x : Str} {v : V} {u : Value} {Q : Unit → Shared → Prop} (I : Inv X pins σ H s) (hN : X.N.Nodup) (hi : X.N[i]? = some x) (hx : Loc X.env.scope x) (r : RelV v u)
    (h : ∀ s', Inv X pins (σ.set i (some v)) H s' → Q () s') (hf : X.fn x = true ∨ X.env.scope.names.lookup x = some .local := by first | exact .inl rfl | exact .inr rfl | assumption) : wpAny M A (storeName X.env x u) Q E s :=
  store_ok2 I hN hi hx r (fun s' I' _ => h s' I') hf
theorem Inv.call' {s' : Shared} {ch : List Addr} (I : Inv X pins σ H s) (ho : s'.os = s.os) (u : Un (frs X.stack) ch H H' s.heap s'.heap) (hok : HOk X.prog X.w H' s'.heap) (hg : AllBare s'.gens)
    (hch : ∀ b ∈ ch, (b ∈ X.ex ∨ X.s₀.heap.objs.size ≤ b) ∧ b ≠ X.env.locals ∧ (∀ x c, X.env.cells.lookup x = some c → c ≠ b) ∧ ∀ p ∈ X.pn ++ pins, p.1 ≠ b) : Inv X pins σ H' s' := by
  obtain ⟨h', g', d', t', o'⟩ := s'
  have e : o' = s.os := ho
  subst e
  exact I.call (g' := g') (t' := t') (d' := d') u hok hg hch
end

noncomputable abbrev XK := Value → Option Addr → Hp → Prop
noncomputable abbrev St := List (Option V)
noncomputable abbrev VK := V → Hp → Prop
noncomputable abbrev TE := St → Hp → VK → Prop
noncomputable abbrev TT := St → Hp → (Bool → Hp → Prop) → Prop
noncomputable abbrev TA := St → Hp → (List V → Hp → Prop) → Prop
structure Ends where
  nx : St → Hp → Prop
  rt : VK
  bk : St → Hp → Prop := fun _ _ => False
  ct : St → Hp → Prop := fun _ _ => False
noncomputable abbrev TS := Ends → St → Hp → Prop

noncomputable def EP (X : Cx) (pins : List (Addr × Obj)) (σ : St) (Q : VK) (u : Value) (s' : Shared) : Prop := ∃ v H', Inv X pins σ H' s' ∧ RelV v u ∧ Q v H'
noncomputable def TP (X : Cx) (pins : List (Addr × Obj)) (σ : St) (Q : Bool → Hp → Prop) (b : Bool) (s' : Shared) : Prop := ∃ H', Inv X pins σ H' s' ∧ Q b H'
noncomputable def AP (X : Cx) (pins : List (Addr × Obj)) (σ : St) (Q : List V → Hp → Prop) (us : List Value) (s' : Shared) : Prop := ∃ vs H', Inv X pins σ H' s' ∧ Vals vs us ∧ Q vs H'
noncomputable def SP (X : Cx) (pins : List (Addr × Obj)) (D : Ends) (f : Flow) (s' : Shared) : Prop :=
  match f with
  | .next => ∃ σ' H', Inv X pins σ' H' s' ∧ D.nx σ' H'
  | .brk => ∃ σ' H', Inv X pins σ' H' s' ∧ D.bk σ' H'
  | .cont => ∃ σ' H', Inv X pins σ' H' s' ∧ D.ct σ' H'
  | .ret u => ∃ v σ' H', Inv X pins σ' H' s' ∧ RelV v u ∧ D.rt v H'

noncomputable def PE (X : Cx) (e : Expr) (t : TE) : Prop :=
  ∀ (pins : List (Addr × Obj)) (s : Shared) (σ : St) (H : Hp) (Q : VK), Inv X pins σ H s → t σ H Q → wpAny (model X.prog X.w) X.A (eval e X.env) (EP X pins σ Q) X.xe s
noncomputable def PT (X : Cx) (e : Expr) (t : TT) : Prop :=
  ∀ (pins : List (Addr × Obj)) (s : Shared) (σ : St) (H : Hp) (Q : Bool → Hp → Prop), Inv X pins σ H s → t σ H Q → wpAny (model X.prog X.w) X.A (isTrue e X.env (eval e X.env)) (TP X pins σ Q) X.xe s
noncomputable def PW (X : Cx) (e : Expr) (t : TT) : Prop :=
  ∀ (whole : Sem Value) (pins : List (Addr × Obj)) (s : Shared) (σ : St) (H : Hp) (Q : Bool → Hp → Prop), Inv X pins σ H s → t σ H Q → wpAny (model X.prog X.w) X.A (isTrue e X.env whole) (TP X pins σ Q) X.xe s
theorem PW.pt {X : Cx} {e : Expr} {t : TT} (h : PW X e t) : PT X e t := h _
noncomputable def PA (X : Cx) (es : List Expr) (t : TA) : Prop :=
  ∀ (pos : Pos) (pins : List (Addr × Obj)) (s : Shared) (σ : St) (H : Hp) (Q : List V → Hp → Prop), Inv X pins σ H s → t σ H Q → wpAny (model X.prog X.w) X.A (spliced (backTo pos (starEach es X.env))) (AP X pins σ Q) X.xe s
noncomputable def PS (X : Cx) (st : Stmt) (t : TS) : Prop :=
  ∀ (pins : List (Addr × Obj)) (s : Shared) (σ : St) (H : Hp) (D : Ends), Inv X pins σ H s → t D σ H → wpAny (model X.prog X.w) X.A (exec st X.env) (SP X pins D) X.xe s
noncomputable def PSs (X : Cx) (st : List Stmt) (t : TS) : Prop :=
  ∀ (pins : List (Addr × Obj)) (s : Shared) (σ : St) (H : Hp) (D : Ends), Inv X pins σ H s → t D σ H → wpAny (model X.prog X.w) X.A (execs st X.env) (SP X pins D) X.xe s
theorem thn {α : Type} {t : Sem α} {Q Q' : α → Shared → Prop} {M : Model} {A : Around} {E : Value → Shared → Prop} {s : Shared} (h : wpAny M A t Q E s) (hQ : ∀ a s, Q a s → Q' a s) : wpAny M A t Q' E s := wpAny_mono h hQ fun _ _ x => x
end L2

namespace L2
open PySem PySem.Spec PyProof.Rows
section
variable {X : Cx}

noncomputable def tVar (i : Nat) : TE := fun σ H Q => ∃ v, σ[i]? = some (some v) ∧ Q v H
noncomputable def tC (v : V) : TE := fun _ H Q => Q v H
theorem pe_var {i : Nat} {x : Str} {pos : Pos} (hN : X.N[i]? = some x) (hv : Vis X.env.scope x) (hd : (x == ("__debug__" : Str)) = false := by decide) (hcd : (x == ("__classdict__" : Str)) = false := by decide) : PE X (.Name x pos) (tVar i) := by
  intro pins s σ H Q I h
  obtain ⟨v, e, h⟩ := h
  obtain ⟨m, hn, hl⟩ := I.loc
  obtain ⟨u, r, l⟩ := hl i x v hN e hv
  have fin : EP X pins σ Q u s := ⟨v, H, I, r, h⟩
  rcases l with ⟨hk, hm⟩ | ⟨hk, c, hc, hcell⟩
  · exact wpAny_Name (wpAny_loadName_local I.ok.kind hk hn hm fin) hd
  · rcases hk with hk | hk
    · exact wpAny_Name (wpAny_loadName_cell I.ok.kind hk hc hcell fin) hd
    · exact wpAny_Name (wpAny_loadName_free I.ok.kind hk hc hcell fin hcd) hd
theorem pe_int {i j pos} : PE X (.Constant (.int i) j pos) (tC (.int i)) := fun _ _ _ H _ I h => wpAny_Constant_int ⟨.int i, H, I.tok _, ⟨_, rfl⟩, h⟩
theorem pe_bl {b j pos} : PE X (.Constant (.bool b) j pos) (tC (.bl b)) := fun _ _ _ H _ I h => Constant_bool ⟨.bl b, H, I, rfl, h⟩
theorem pe_non {j pos} : PE X (.Constant .none j pos) (tC .non) := fun _ _ _ H _ I h => Constant_none ⟨.non, H, I, rfl, h⟩
theorem pe_str {x j pos} : PE X (.Constant (.str x) j pos) (tC (.str x)) := fun _ _ _ H _ I h => Calls.Constant_str ⟨.str x, H, I.tok _, ⟨_, rfl⟩, h⟩

noncomputable def Gl (X : Cx) (x : Str) : Prop := X.env.kindOf x = some .globalImplicit
theorem ld_glob {E : Value → Shared → Prop} {pins : List (Addr × Obj)} {s : Shared} {σ : St} {H : Hp} {x : Str} {u : Value} {pos : Pos} {Q : Value → Shared → Prop} (I : Inv X pins σ H s) (hg : Gl X x) (hm : X.mg x = some u) (h : Q u s)
    (hd : (x == ("__debug__" : Str)) = false := by decide) : wpAny (model X.prog X.w) X.A (eval (.Name x pos) X.env) Q E s :=
  Calls.Name_function_global I.ok.kind hg (Calls.loadGlobal_global (by rw [I.ok.glob]; exact I.mod.glob.keeps I.bk) hm h) hd
theorem ld_blt {E : Value → Shared → Prop} {pins : List (Addr × Obj)} {s : Shared} {σ : St} {H : Hp} {x : Str} {u : Value} {pos : Pos} {Q : Value → Shared → Prop} (I : Inv X pins σ H s) (hg : Gl X x) (hm : X.mg x = none) (hv : bootBuiltins x = some u) (h : Q u s)
    (hn : x ≠ "__name__" := by decide) (hd : (x == ("__debug__" : Str)) = false := by decide) : wpAny (model X.prog X.w) X.A (eval (.Name x pos) X.env) Q E s := by
  obtain ⟨mb, h1, h2⟩ := I.mod.blt
  exact Calls.Name_function_global I.ok.kind hg (Calls.loadGlobal_builtin (by rw [I.ok.glob]; exact I.mod.glob.keeps I.bk) hm (by rw [I.ok.blt]; exact h1.keeps I.bk) ((h2 x hn).trans hv) h) hd
theorem pe_glob {x : Str} {v : V} {u : Value} {pos : Pos} (hg : Gl X x) (hm : X.mg x = some u) (r : RelV v u) (hd : (x == ("__debug__" : Str)) = false := by decide) : PE X (.Name x pos) (tC v) :=
  fun _ _ _ H _ I h => ld_glob I hg hm ⟨v, H, I, r, h⟩ hd
theorem pe_bltn {x : Str} {v : V} {u : Value} {pos : Pos} (hg : Gl X x) (hm : X.mg x = none) (hv : bootBuiltins x = some u) (r : RelV v u) (hn : x ≠ "__name__" := by decide) (hd : (x == ("__debug__" : Str)) = false := by decide) : PE X (.Name x pos) (tC v) :=
  fun _ _ _ H _ I h => ld_blt I hg hm hv ⟨v, H, I, r, h⟩ hn hd

variable {a b : Expr} {ta tb : TE} {pos : Pos}
noncomputable def PC (X : Cx) (op : CmpOp) (a b : Expr) (t : TE) : Prop :=
  ∀ (pins : List (Addr × Obj)) (s : Shared) (σ : St) (H : Hp) (Q : VK), Inv X pins σ H s → t σ H Q →
    wpAny (model X.prog X.w) X.A (eval a X.env) (fun v s₁ => wpAny (model X.prog X.w) X.A (eval b X.env) (fun u s₂ => wpAny (model X.prog X.w) X.A (compareOp op v u) (EP X pins σ Q) X.xe s₂) X.xe s₁) X.xe s
noncomputable def tB (t : TE) : TT := fun σ H Q => t σ H fun x H1 => ∃ c, x = .bl c ∧ Q c H1
theorem pt_cmp {op : CmpOp} {t : TE} (h : PC X op a b t) (h1 : behindInMarks op b = false := by first | exact nobehind _ (by decide) (by decide) | rfl) : PT X (.Compare a [op] [b] pos) (tB t) := by
  intro pins s σ H Q I hw
  refine wpAny_isTrue_Compare1 (thn (h pins s σ H _ I hw) fun v s1 h1 => thn h1 fun u s2 h2 => thn h2 fun c s3 ⟨x, H1, I1, r1, q1⟩ => ?_) h1
  obtain ⟨d, rfl, q⟩ := q1
  cases r1
  exact wpAny_truthy_bool ⟨H1, I1, q⟩
theorem pt_val {e : Expr} {t : TE} (h : PE X e t) (he : ∀ whole, isTrue e X.env whole = (do let v ← whole; standAt e.pos; holding [v] (truthy v)) := by intro _; rfl) : PT X e (tB t) := by
  intro pins s σ H Q I hw
  refine isTrue_plain (thn (h pins s σ H _ I hw) fun v s1 ⟨x, H1, I1, r1, q1⟩ => ?_) (he _)
  obtain ⟨d, rfl, q⟩ := q1
  cases r1
  exact wpAny_truthy_bool ⟨H1, I1, q⟩

variable {tA tB' : TT} {rest : List Expr}
noncomputable def tAnd (t u : TT) : TT := fun σ H Q => t σ H fun c H1 => if c = true then u σ H1 Q else Q false H1
noncomputable def tOr (t u : TT) : TT := fun σ H Q => t σ H fun c H1 => if c = true then Q true H1 else u σ H1 Q
noncomputable def tNot (t : TT) : TT := fun σ H Q => t σ H fun c H1 => Q (!c) H1
theorem pw_and1 (ha : PT X a tA) : PW X (.BoolOp .And [a] pos) tA := by
  intro wh pins s σ H Q I h
  refine isTrue_and (thn (ha pins s σ H Q I h) fun c s1 e => ?_)
  cases c with
  | true => exact isTrue_and_nil e
  | false => exact e
theorem pw_or1 (ha : PT X a tA) : PW X (.BoolOp .Or [a] pos) tA := by
  intro wh pins s σ H Q I h
  refine isTrue_or (thn (ha pins s σ H Q I h) fun c s1 e => ?_)
  cases c with
  | false => exact isTrue_or_nil e
  | true => exact e
theorem pw_and (ha : PT X a tA) (hb : PW X (.BoolOp .And (b :: rest) pos) tB') : PW X (.BoolOp .And (a :: b :: rest) pos) (tAnd tA tB') := by
  intro wh pins s σ H Q I h
  refine isTrue_and (thn (ha pins s σ H _ I h) fun c s1 ⟨H1, I1, q1⟩ => ?_)
  cases c with
  | true => exact hb wh pins s1 σ H1 Q I1 q1
  | false => exact ⟨H1, I1, q1⟩
theorem pw_or (ha : PT X a tA) (hb : PW X (.BoolOp .Or (b :: rest) pos) tB') : PW X (.BoolOp .Or (a :: b :: rest) pos) (tOr tA tB') := by
  intro wh pins s σ H Q I h
  refine isTrue_or (thn (ha pins s σ H _ I h) fun c s1 ⟨H1, I1, q1⟩ => ?_)
  cases c with
  | true => exact ⟨H1, I1, q1⟩
  | false => exact hb wh pins s1 σ H1 Q I1 q1
theorem pt_not (ha : PT X a tA) : PT X (.UnaryOp .Not a pos) (tNot tA) := by
  intro pins s σ H Q I h
  exact isTrue_not (ha pins s σ H (fun c H1 => Q (!c) H1) I h)
end
end L2

namespace L2
open PySem PySem.Spec PyProof.Rows

noncomputable def SqL (K : PySem.W.Frag) (H : Hp) (a : Addr) (xs : List V) : Prop :=
  Rd H a (.lst xs) ∨
    ∃ (o : Obj) (its : Array Value) (n : Nat), K.lookup a = some o ∧ o.cls = .type "list" ∧ o.dict = none ∧ o.data = .seq its n ∧ its.size ≤ sizeLine ∧ Vals xs its.toList
noncomputable def SqT (K : PySem.W.Frag) (H : Hp) (a : Addr) (xs : List V) : Prop :=
  Rd H a (.tup xs) ∨
    ∃ (o : Obj) (its : Array Value) (n : Nat), K.lookup a = some o ∧ o.cls = .type "tuple" ∧ o.data = .seq its n ∧ its.size ≤ sizeLine ∧ Vals xs its.toList
noncomputable def absV : Value → Option V
  | .none => some .non
  | .bool b => some (.bl b)
  | .int i _ => some (.int i)
  | .str x _ => some (.str x)
  | .bytes b _ => some (.byt b)
  | .float b _ => some (.flt b)
  | .ref a => some (.ref a)
  | .type n => some (.ty n)
  | _ => none
theorem RelV.abs {x : V} {u : Value} (r : RelV x u) : absV u = some x := by
  cases x with
  | non => cases r; rfl
  | bl _ => cases r; rfl
  | int _ => obtain ⟨t, rfl⟩ := r; rfl
  | str _ => obtain ⟨t, rfl⟩ := r; rfl
  | byt _ => obtain ⟨t, rfl⟩ := r; rfl
  | flt _ => obtain ⟨t, rfl⟩ := r; rfl
  | ref _ => cases r; rfl
  | ty _ => cases r; rfl
theorem RelV.inj {x y : V} {u : Value} (r : RelV x u) (q : RelV y u) : x = y := Option.some.inj (r.abs.symm.trans q.abs)
theorem Vals.inj : ∀ {xs ys : List V} {us : List Value}, Vals xs us → Vals ys us → xs = ys
  | _, _, _, .nil, .nil => rfl
  | _, _, _, .cons r t, .cons r' t' => by rw [r.inj r', Vals.inj t t']
section
variable {X : Cx} {pins : List (Addr × Obj)} {σ : St} {H : Hp} {s : Shared} {a : Addr} {xs ys : List V}
theorem SqL.of {K : PySem.W.Frag} (h : H a = some (.lst xs)) : SqL K H a xs := .inl (.inl h)
theorem SqT.of {K : PySem.W.Frag} (h : H a = some (.tup xs)) : SqT K H a xs := .inl (.inl h)
theorem Inv.list (I : Inv X pins σ H s) (h : SqL X.K H a xs) : ∃ its : List Value, Vals xs its ∧ PlainL s.heap a its.toArray ∧ xs.length ≤ sizeLine := by
  rcases h with h | ⟨o, its, n, hk, hc, hd, hs, hz, r⟩
  · obtain ⟨z, its, n, r, e⟩ := h.ok I.hok
    exact ⟨its, r, ⟨_, n, e, rfl, rfl, rfl⟩, z⟩
  · refine ⟨its.toList, r, ⟨o, n, I.kIn a o hk, hc, hd, by simpa using hs⟩, ?_⟩
    have e := r.length
    simp only [Array.length_toList] at e
    omega
theorem Inv.tuple (I : Inv X pins σ H s) (h : SqT X.K H a xs) : ∃ its : List Value, Vals xs its ∧ IsTup s.heap a its.toArray ∧ xs.length ≤ sizeLine := by
  rcases h with h | ⟨o, its, n, hk, hc, hs, hz, r⟩
  · obtain ⟨z, its, r, p⟩ := h.ok I.hok
    exact ⟨its, r, p, z⟩
  · refine ⟨its.toList, r, ⟨o, I.kIn a o hk, hc, n, by simpa using hs⟩, ?_⟩
    have e := r.length
    simp only [Array.length_toList] at e
    omega
theorem Inv.list_inj (I : Inv X pins σ H s) (h : SqL X.K H a xs) (h' : SqL X.K H a ys) : xs = ys := by
  obtain ⟨its, r, ⟨o, n, e, _, _, d⟩, _⟩ := I.list h
  obtain ⟨its', r', ⟨o', n', e', _, _, d'⟩, _⟩ := I.list h'
  rw [e] at e'; cases e'
  rw [d] at d'
  injection d' with d1 _
  have : its = its' := by simpa using congrArg Array.toList d1
  subst this
  exact r.inj r'
theorem Inv.tuple_inj (I : Inv X pins σ H s) (h : SqT X.K H a xs) (h' : SqT X.K H a ys) : xs = ys := by
  obtain ⟨its, r, ⟨o, e, _, n, d⟩, _⟩ := I.tuple h
  obtain ⟨its', r', ⟨o', e', _, n', d'⟩, _⟩ := I.tuple h'
  rw [e] at e'; cases e'
  rw [d] at d'
  injection d' with d1 _
  have : its = its' := by simpa using congrArg Array.toList d1
  subst this
  exact r.inj r'
end

noncomputable abbrev Cx.wish (X : Cx) (E : Value → Shared → Prop) : Cx := { X with xe := E }
noncomputable abbrev Cx.nox (X : Cx) : Cx := X.wish fun _ _ => False
theorem Cx.Ok.wish {X : Cx} (ok : X.Ok) (E : Value → Shared → Prop) : (X.wish E).Ok :=
  ⟨ok.mod, ok.kind, ok.glob, ok.blt, ok.above, ok.inj, ok.has, ok.cab, ok.hd, ok.frames, ok.stk, ok.exf, ok.bs, ok.bsz, ok.noex, ok.exfs, ok.funs, ok.frf⟩
theorem Cx.Ok.unwish {X : Cx} {E : Value → Shared → Prop} (ok : (X.wish E).Ok) : X.Ok :=
  ⟨ok.mod, ok.kind, ok.glob, ok.blt, ok.above, ok.inj, ok.has, ok.cab, ok.hd, ok.frames, ok.stk, ok.exf, ok.bs, ok.bsz, ok.noex, ok.exfs, ok.funs, ok.frf⟩
section
variable {X : Cx} {pins : List (Addr × Obj)} {σ : St} {H : Hp} {s : Shared} {E : Value → Shared → Prop}
theorem Inv.wish (I : Inv X pins σ H s) (E : Value → Shared → Prop) : Inv (X.wish E) pins σ H s := ⟨I.ok.wish E, I.os, I.bare, I.base, I.loc, I.cell, I.free, I.freeC, I.pin, I.hok, I.len⟩
theorem Inv.unwish (I : Inv (X.wish E) pins σ H s) : Inv X pins σ H s := ⟨I.ok.unwish, I.os, I.bare, I.base, I.loc, I.cell, I.free, I.freeC, I.pin, I.hok, I.len⟩
theorem SP.unwish {D : Ends} {f : Flow} {s' : Shared} (h : SP (X.wish E) pins D f s') : SP X pins D f s' := by
  cases f with
  | next => obtain ⟨σ', H', I, q⟩ := h; exact ⟨σ', H', I.unwish, q⟩
  | brk => obtain ⟨σ', H', I, q⟩ := h; exact ⟨σ', H', I.unwish, q⟩
  | cont => obtain ⟨σ', H', I, q⟩ := h; exact ⟨σ', H', I.unwish, q⟩
  | ret u => obtain ⟨v, σ', H', I, r, q⟩ := h; exact ⟨v, σ', H', I.unwish, r, q⟩
theorem PSs.nox {st : List Stmt} {t : TS} (h : PSs X.nox st t) : PSs X st t := fun pins s σ H D I hw =>
  wpAny_mono (h pins s σ H D (I.wish _) hw) (fun _ _ q => q.unwish) fun _ _ z => False.elim z
end

section
variable {X : Cx} {st : Stmt} {rest : List Stmt} {t u : TS} {e : Expr} {te : TE} {pos : Pos}
noncomputable def tNext : TS := fun D σ H => D.nx σ H
noncomputable def tSeq (t u : TS) : TS := fun D σ H => t { D with nx := u D } σ H
theorem pss_nil : PSs X [] tNext := fun _ _ σ H _ I h => wpAny_execs_nil ⟨σ, H, I, h⟩
theorem pss_cons (h1 : PS X st t) (h2 : PSs X rest u) : PSs X (st :: rest) (tSeq t u) := by
  intro pins s σ H D I h
  refine wpAny_execs_cons (thn (h1 pins s σ H { D with nx := u D } I h) fun f s1 q => ?_)
  cases f with
  | next =>
    obtain ⟨σ', H', I', q⟩ := q
    exact h2 pins s1 σ' H' D I' q
  | ret v => exact q
  | brk => exact q
  | cont => exact q
theorem pss_one (h1 : PS X st t) : PSs X [st] t := by
  intro pins s σ H D I h
  refine wpAny_execs_cons (thn (h1 pins s σ H D I h) fun f s1 q => ?_)
  cases f with
  | next => exact wpAny_execs_nil q
  | ret v => exact q
  | brk => exact q
  | cont => exact q
theorem Inv.quiet {pins : List (Addr × Obj)} {σ : St} {H : Hp} {s : Shared} (I : Inv X pins σ H s) : interactive X.env = false := by simp [interactive, I.ok.kind]
noncomputable def tDrop (te : TE) : TS := fun D σ H => te σ H fun _ H1 => D.nx σ H1
theorem ps_expr (he : PE X e te) (hs : swapsWith e none pos.line X.env = pure false := by rfl) : PS X (.Expr e pos) (tDrop te) := by
  intro pins s σ H D I h
  exact wpAny_Expr_any (thn (he pins s σ H _ I h) fun v s1 ⟨x, H1, I1, r1, q1⟩ => ⟨σ, H1, I1, q1⟩) I.quiet hs
noncomputable def tRet (te : TE) : TS := fun D σ H => te σ H D.rt
theorem ps_ret (he : PE X e te) : PS X (.Return (some e) pos) (tRet te) := by
  intro pins s σ H D I h
  exact wpAny_Return_some (thn (he pins s σ H _ I h) fun v s1 ⟨x, H1, I1, r1, q1⟩ => ⟨x, σ, H1, I1, r1, q1⟩)
noncomputable def tIfS (c : TT) (t u : TS) : TS := fun D σ H => c σ H fun b H1 => if b = true then t D σ H1 else u D σ H1
theorem ps_if {c : Expr} {a b : List Stmt} {tc : TT} (hc : PT X c tc) (ha : PSs X a t) (hb : PSs X b u) : PS X (.If c a b pos) (tIfS tc t u) := by
  intro pins s σ H D I h
  refine wpAny_If (thn (hc pins s σ H _ I h) fun d s1 ⟨H1, I1, q1⟩ => ?_)
  cases d with
  | true => exact ha pins s1 σ H1 D I1 q1
  | false => exact hb pins s1 σ H1 D I1 q1
end

noncomputable abbrev TG := V → St → Hp → (St → Hp → Prop) → Prop
noncomputable abbrev TGs := List V → St → Hp → (St → Hp → Prop) → Prop
noncomputable def PG (X : Cx) (target : Expr) (t : TG) : Prop :=
  ∀ (pins : List (Addr × Obj)) (s : Shared) (σ : St) (H : Hp) (v : V) (u : Value) (Q : St → Hp → Prop), Inv X pins σ H s → RelV v u → t v σ H Q →
    wpAny (model X.prog X.w) X.A (assign target X.env u) (fun _ s' => ∃ σ' H', Inv X pins σ' H' s' ∧ Q σ' H') X.xe s
noncomputable def PGs (X : Cx) (ts : List Expr) (t : TGs) : Prop :=
  ∀ (pins : List (Addr × Obj)) (s : Shared) (σ : St) (H : Hp) (vs : List V) (us : List Value) (Q : St → Hp → Prop), Inv X pins σ H s → Vals vs us → t vs σ H Q →
    wpAny (model X.prog X.w) X.A (assignInOrder ((assignEach ts X.env).map (·.2)) us) (fun _ s' => ∃ σ' H', Inv X pins σ' H' s' ∧ Q σ' H') X.xe s
noncomputable abbrev TSet := V → V → V → Hp → (Hp → Prop) → Prop
noncomputable def PSet (X : Cx) (t : TSet) : Prop :=
  ∀ (pins : List (Addr × Obj)) (s : Shared) (σ : St) (H : Hp) (o i v : V) (ov iv u : Value) (Q : Hp → Prop), Inv X pins σ H s → RelV o ov → RelV i iv → RelV v u → t o i v H Q →
    wpAny (model X.prog X.w) X.A (setItem ov iv u) (fun _ s' => ∃ H', Inv X pins σ H' s' ∧ Q H') X.xe s
section
variable {X : Cx} {pos : Pos}
noncomputable def gName (i : Nat) : TG := fun v σ H Q => Q (σ.set i (some v)) H
theorem pg_name {i : Nat} {x : Str} (hN : X.N.Nodup) (hi : X.N[i]? = some x) (hx : Loc X.env.scope x) (hf : X.fn x = true ∨ X.env.scope.names.lookup x = some .local := by first | exact .inl rfl | exact .inr rfl | assumption) : PG X (.Name x pos) (gName i) := by
  intro pins s σ H v u Q I r h
  exact wpAny_assign_Name (store_ok I hN hi hx r (fun s' I' => ⟨_, H, I', h⟩) hf)
noncomputable def gNil : TGs := fun vs σ H Q => vs = [] ∧ Q σ H
noncomputable def gCons (t : TG) (u : TGs) : TGs := fun vs σ H Q => ∃ v r, vs = v :: r ∧ t v σ H fun σ' H' => u r σ' H' Q
theorem pgs_nil : PGs X [] gNil := by
  intro pins s σ H vs us Q I r h
  obtain ⟨e, h⟩ := h
  subst e
  cases r
  exact assignInOrder_nil ⟨σ, H, I, h⟩
theorem pgs_cons {e : Expr} {es : List Expr} {t : TG} {u : TGs} (h1 : PG X e t) (h2 : PGs X es u)
    (hs : (assignEach (e :: es) X.env).map (·.2) = assign e X.env :: (assignEach es X.env).map (·.2) := by rfl) : PGs X (e :: es) (gCons t u) := by
  intro pins s σ H vs us Q I r h
  obtain ⟨v, vr, e1, h⟩ := h
  subst e1
  cases r with
  | cons r rr =>
    rw [hs]
    refine assignInOrder_cons (thn (h1 pins s σ H _ _ _ I r h) fun _ s1 ⟨σ1, H1, I1, q1⟩ => ?_)
    exact h2 pins s1 σ1 H1 _ _ Q I1 rr q1
noncomputable def gTup (K : PySem.W.Frag) (n : Nat) (t : TGs) : TG := fun v σ H Q => ∃ a xs, v = .ref a ∧ SqT K H a xs ∧ xs.length = n ∧ t xs σ H Q
theorem pg_tup {es : List Expr} {k : Nat} {t : TGs} {n : Nat} (hc : X.calm = true) (h : PGs X es t)
    (hn : (assignEach es X.env).length = n := by rfl) (hst : (assignEach es X.env).findIdx? (·.1) = none := by rfl) : PG X (.Tuple es k pos) (gTup X.K n t) := by
  intro pins s σ H v u Q I r hw
  obtain ⟨a, xs, e1, hq, hl, hw⟩ := hw
  subst e1
  cases r
  obtain ⟨its, rv, ht, hz⟩ := I.tuple hq
  refine assign_Tuple_tuple (I.ok.hd hc) ht (by simp [hn, ← hl, rv.length]) hst fun h' hx => ?_
  have I1 : Inv X pins σ H { s with heap := h' } := I.kept (t' := s.toks) fun b o e => hx b o (Nat.ne_of_lt (Heap.lt_size e)) e
  exact h pins _ σ H xs _ Q I1 (by simpa using rv) hw
noncomputable def gSub (to ti : TE) (t : TSet) : TG := fun v σ H Q => to σ H fun o H1 => ti σ H1 fun i H2 => t o i v H2 fun H3 => Q σ H3
theorem pg_sub {o i : Expr} {to ti : TE} {t : TSet} (ho : PE X o to) (hi : PE X i ti) (hs : PSet X t)
    (ha : ∀ v, assign (.Subscript o i pos) X.env v = (do
      let ov ← holding [v] (eval o X.env)
      let iv ← holding [v, ov] (eval i X.env)
      standAt pos
      holding [v, ov, iv] (setItem ov iv v)
      release [v, ov, iv] []) := by intro _; rfl) : PG X (.Subscript o i pos) (gSub to ti t) := by
  intro pins s σ H v u Q I r h
  rw [ha]
  refine wpAny_bind (wpAny_holding (thn (ho pins s σ H _ I h) fun ov s1 ⟨x, H1, I1, r1, q1⟩ => ?_))
  refine wpAny_bind (wpAny_holding (thn (hi pins s1 σ H1 _ I1 q1) fun iv s2 ⟨y, H2, I2, r2, q2⟩ => ?_))
  refine wpAny_bind (wpAny_standAt (wpAny_bind (wpAny_holding (thn (hs pins s2 σ H2 x y v ov iv u _ I2 r1 r2 r q2) fun _ s3 ⟨H3, I3, q3⟩ => ?_))))
  exact wpAny_release ⟨σ, H3, I3, q3⟩
noncomputable def tAsg (te : TE) (g : TG) : TS := fun D σ H => te σ H fun x H1 => g x σ H1 D.nx
theorem ps_asg {tg e : Expr} {te : TE} {g : TG} (he : PE X e te) (hg : PG X tg g) (hs : swapsWithSole [tg] e pos.line X.env = pure false := by rfl) (hw : swappedStores [tg] e X.env = pure none := by rfl)
    (h1 : (assignEach [tg] X.env).map (·.2) = [assign tg X.env] := by rfl) : PS X (.Assign [tg] e pos) (tAsg te g) := by
  intro pins s σ H D I h
  refine wpAny_Assign_stores (thn (he pins s σ H _ I h) fun v s1 ⟨x, H1, I1, r1, q1⟩ => ?_) hs hw
  rw [h1]
  exact thn (hg pins s1 σ H1 x v _ I1 r1 q1) fun _ s2 q => q
theorem ps_set {i : Nat} {x : Str} {e : Expr} {te : TE} {pos' : Pos} (hN : X.N.Nodup) (hi : X.N[i]? = some x) (hx : Loc X.env.scope x) (he : PE X e te) (hs : swapsWith e (some (.Name x pos')) pos.line X.env = pure false := by rfl) (hf : X.fn x = true ∨ X.env.scope.names.lookup x = some .local := by first | exact .inl rfl | exact .inr rfl | assumption) :
    PS X (.Assign [.Name x pos'] e pos) (tAsg te (gName i)) := by
  intro pins s σ H D I h
  refine wpAny_Assign_Name (thn (he pins s σ H _ I h) fun v s1 ⟨y, H1, I1, r1, q1⟩ => ?_) hs
  exact store_ok I1 hN hi hx r1 (fun s2 I2 => ⟨_, H1, I2, q1⟩) hf
end

section
variable {X : Cx} {pos : Pos}
end

structure It where
  go : Nat → Hp → Prop
  yld : Nat → Hp → V → Hp → Prop
  stop : Nat → Hp → Prop
noncomputable def FpOk (X : Cx) (pins : List (Addr × Obj)) (H : Hp) (b : Addr) : Prop :=
  H b = none ∧ b ≠ X.env.locals ∧ b ∉ X.fs ∧ (b ∈ X.ex ∨ X.s₀.heap.objs.size ≤ b) ∧ (∀ x c, X.env.cells.lookup x = some c → c ≠ b) ∧ ∀ p ∈ X.pn ++ pins, p.1 ≠ b
theorem Inv.fpOk {X : Cx} {pins : List (Addr × Obj)} {σ : St} {H H' : Hp} {s : Shared} {b : Addr} (I : Inv X pins σ H s) (hb : s.heap.objs.size ≤ b) (hn : H' b = none) : FpOk X pins H' b := by
  refine ⟨hn, Nat.ne_of_gt (Nat.lt_of_lt_of_le I.lt hb), I.nofs hb, .inr (Nat.le_trans I.sz hb), fun x c e z => ?_, fun p hp z => ?_⟩
  · obtain ⟨v, q⟩ := I.cell x c e
    exact absurd (Nat.lt_of_lt_of_le q.lt (by rw [z]; exact hb)) (Nat.lt_irrefl _)
  · exact absurd (Nat.lt_of_lt_of_le (Heap.lt_size (I.pin p hp).1) (by rw [z]; exact hb)) (Nat.lt_irrefl _)
structure Turn (P : Program) (w : World) (K : PySem.W.Frag) (tg : Expr) (J : It) (fp : List Addr) (it : Addr) (tn : Nat → Heap → Prop) : Prop where
  mem : it ∈ fp
  obj : ∀ i h, tn i h → ∀ b ∈ fp, ∃ o, h.get? b = some o ∧ ∀ v, o.data ≠ .cell v
  keep : ∀ i h h', tn i h → (∀ b ∈ fp, ∀ o, h.get? b = some o → h'.get? b = some o) → tn i h'
  item : ∀ (X : Cx), X.prog = P → X.w = w → X.K = K → X.calm = true → ∀ (i : Nat) (pins : List (Addr × Obj)) (s : Shared) (σ : St) (H : Hp) (E : Value → Shared → Prop), Inv X pins σ H s → (∀ b ∈ fp, FpOk X pins H b) → tn i s.heap → J.go i H →
    wpAny (model P w) X.A (pyNext (.ref it)) (fun r s1 => ∃ u, r = some u ∧
      wpAny (model P w) X.A (letOwnedTupleGo tg (.ref it) u) (fun _ s2 => ∃ x H', Inv X pins σ H' s2 ∧ RelV x u ∧ J.yld i H x H' ∧ tn (i + 1) s2.heap ∧ ∀ b ∈ fp, H' b = none) E s1) E s
  done : ∀ (X : Cx), X.prog = P → X.w = w → X.K = K → X.calm = true → ∀ (i : Nat) (pins : List (Addr × Obj)) (s : Shared) (σ : St) (H : Hp) (E : Value → Shared → Prop), Inv X pins σ H s → (∀ b ∈ fp, FpOk X pins H b) → tn i s.heap → J.stop i H →
    wpAny (model P w) X.A (pyNext (.ref it)) (fun r s1 => r = none ∧ Inv X pins σ H s1) E s
  self : ∀ (A : Around) (i : Nat) (s : Shared) (Q : Value → Shared → Prop) (E : Value → Shared → Prop), tn i s.heap → Q (.ref it) s → wpAny (model P w) A (pyIter (.ref it)) Q E s
noncomputable abbrev TI := St → Hp → (It → Hp → Prop) → Prop
noncomputable def PIE (X : Cx) (pins : List (Addr × Obj)) (σ : St) (tg : Expr) (R : It → Hp → Prop) (itv : Value) (s2 : Shared) : Prop :=
  ∃ (it : Addr) (fp : List Addr) (tn : Nat → Heap → Prop) (J : It) (H' : Hp), itv = .ref it ∧ Inv X pins σ H' s2 ∧ Turn X.prog X.w X.K tg J fp it tn ∧ tn 0 s2.heap ∧ (∀ b ∈ fp, FpOk X pins H' b) ∧ R J H'
noncomputable def PI (X : Cx) (tg iter : Expr) (wi : TI) : Prop :=
  ∀ (pins : List (Addr × Obj)) (s : Shared) (σ : St) (H : Hp) (R : It → Hp → Prop), Inv X pins σ H s → wi σ H R →
    wpAny (model X.prog X.w) X.A (eval iter X.env) (fun v s1 => wpAny (model X.prog X.w) X.A (pyIter v) (PIE X pins σ tg R) X.xe s1) X.xe s

theorem go_of {M : Model} {A : Around} {E : Value → Shared → Prop} {s : Shared} {tg : Expr} {it : Addr} {u : Value} {o : Obj} {n : String} {vs : Array Value} {Q : Unit → Shared → Prop} (ho : s.heap.get? it = some o) (hc : o.cls = .type n) (hd : o.data = .fields vs)
    (hn : ["enumerate", "zip", "dict_itemiterator", "dict_reverseitemiterator", "odict_iterator", "itertools.zip_longest", "itertools.pairwise"].contains n = false) (hQ : Q () s) : wpAny M A (letOwnedTupleGo tg (.ref it) u) Q E s := by
  unfold letOwnedTupleGo
  cases tg <;> first
    | exact wpAny_pure hQ
    | (cases u <;> first
        | exact wpAny_pure hQ
        | (refine wpAny_bind (wpAny_load ho ?_)
           rw [hc, hd]
           show wpAny M A (if (["enumerate", "zip", "dict_itemiterator", "dict_reverseitemiterator", "odict_iterator", "itertools.zip_longest", "itertools.pairwise"].contains n && vs[0]? == some (rawInt _)) = true then _ else _) Q E s
           rw [if_neg (by intro h; rw [hn, Bool.false_and] at h; cases h)]
           exact wpAny_pure hQ))

noncomputable def Itl (K : PySem.W.Frag) (a : Addr) : It :=
  ⟨fun i H => ∃ xs x, SqL K H a xs ∧ xs[i]? = some x, fun i H x H' => H' = H ∧ ∀ xs, SqL K H a xs → xs[i]? = some x, fun i H => ∃ xs, SqL K H a xs ∧ xs.length ≤ i⟩
noncomputable def Itt (K : PySem.W.Frag) (a : Addr) : It :=
  ⟨fun i H => ∃ xs x, SqT K H a xs ∧ xs[i]? = some x, fun i H x H' => H' = H ∧ ∀ xs, SqT K H a xs → xs[i]? = some x, fun i H => ∃ xs, SqT K H a xs ∧ xs.length ≤ i⟩
noncomputable def Itr (lo : Int) (n : Nat) : It := ⟨fun i _ => i < n, fun i H x H' => H' = H ∧ x = .int (lo + i), fun i _ => n ≤ i⟩
theorem turn_list {P : Program} {w : World} {K : PySem.W.Frag} {tg : Expr} (a it : Addr) : Turn P w K tg (Itl K a) [it] it (fun i h => h.IsListIter it a i) where
  mem := by simp
  obj := fun i h st b hb => by
    have e : b = it := by simpa using hb
    subst e
    obtain ⟨o, e, c, d⟩ := st
    exact ⟨o, e, fun v z => by rw [d] at z; cases z⟩
  keep := fun i h h' st k => st.at fun o e => k it (by simp) o e
  item := by
    intro X hP hw hK hc i pins s σ H E I hf st hg
    subst hP hw hK
    obtain ⟨xs, x, hq, hx⟩ := hg
    obtain ⟨its, rv, p, hz⟩ := I.list hq
    obtain ⟨u, hu, ru⟩ := rv.get hx
    obtain ⟨f0, f1, f2, f3, f4, f5⟩ := hf it (by simp)
    refine wpAny_pyNext_list_item st p.isList (x := u) (by simpa using hu) fun h' st' sb => ?_
    have I1 : Inv X pins σ H { s with heap := h' } := I.turned (t' := s.toks) (fun b o hb e => (sb.2 b hb).trans e) f0 f1 f3 f4 f5
    obtain ⟨o, e, c, d⟩ := id st'
    exact ⟨u, rfl, go_of (s := { s with heap := h' }) e c d (by decide) ⟨x, H, I1, ru, ⟨rfl, fun ys hy => by rw [I.list_inj hy hq]; exact hx⟩, st', fun b hb => (hf b hb).1⟩⟩
  done := by
    intro X hP hw hK hc i pins s σ H E I hf st hg
    subst hP hw hK
    obtain ⟨xs, hq, hx⟩ := hg
    obtain ⟨its, rv, p, hz⟩ := I.list hq
    obtain ⟨f0, f1, f2, f3, f4, f5⟩ := hf it (by simp)
    have hl := rv.length
    exact wpAny_pyNext_list_end (I.ok.hd hc) st p.isList (by simp; omega) fun h' eb => ⟨rfl, I.turned (t' := s.toks) (fun b o hb e => eb b o hb e) f0 f1 f3 f4 f5⟩
  self := fun _ _ _ _ _ st h => wpAny_pyIter_listiter st h
theorem turn_tuple {P : Program} {w : World} {K : PySem.W.Frag} {tg : Expr} (a it : Addr) : Turn P w K tg (Itt K a) [it] it (fun i h => h.IsTupleIter it a i) where
  mem := by simp
  obj := fun i h st b hb => by
    have e : b = it := by simpa using hb
    subst e
    obtain ⟨o, e, c, d⟩ := st
    exact ⟨o, e, fun v z => by rw [d] at z; cases z⟩
  keep := fun i h h' st k => st.at fun o e => k it (by simp) o e
  item := by
    intro X hP hw hK hc i pins s σ H E I hf st hg
    subst hP hw hK
    obtain ⟨xs, x, hq, hx⟩ := hg
    obtain ⟨its, rv, p, hz⟩ := I.tuple hq
    obtain ⟨u, hu, ru⟩ := rv.get hx
    obtain ⟨f0, f1, f2, f3, f4, f5⟩ := hf it (by simp)
    refine wpAny_pyNext_tuple_item st (show s.heap.IsTuple a its.toArray from p) (x := u) (by simpa using hu) fun h' st' sb => ?_
    have I1 : Inv X pins σ H { s with heap := h' } := I.turned (t' := s.toks) (fun b o hb e => (sb.2 b hb).trans e) f0 f1 f3 f4 f5
    obtain ⟨o, e, c, d⟩ := id st'
    exact ⟨u, rfl, go_of (s := { s with heap := h' }) e c d (by decide) ⟨x, H, I1, ru, ⟨rfl, fun ys hy => by rw [I.tuple_inj hy hq]; exact hx⟩, st', fun b hb => (hf b hb).1⟩⟩
  done := by
    intro X hP hw hK hc i pins s σ H E I hf st hg
    subst hP hw hK
    obtain ⟨xs, hq, hx⟩ := hg
    obtain ⟨its, rv, p, hz⟩ := I.tuple hq
    obtain ⟨f0, f1, f2, f3, f4, f5⟩ := hf it (by simp)
    have hl := rv.length
    exact wpAny_pyNext_tuple_end (I.ok.hd hc) st (show s.heap.IsTuple a its.toArray from p) (by simp; omega) fun h' eb => ⟨rfl, I.turned (t' := s.toks) (fun b o hb e => eb b o hb e) f0 f1 f3 f4 f5⟩
  self := fun _ _ _ _ _ st h => wpAny_pyIter_tupleiter st h
theorem turn_range {P : Program} {w : World} {K : PySem.W.Frag} {tg : Expr} (it : Addr) (lo : Int) (n : Nat) : Turn P w K tg (Itr lo n) [it] it (fun i h => IsRangeIter h it (lo + (i : Nat) * 1) ((n : Int) - (i : Nat)) 1) where
  mem := by simp
  obj := fun i h st b hb => by
    have e : b = it := by simpa using hb
    subst e
    exact ⟨_, st, fun v z => by
      have z' : Data.fields _ = Data.cell v := z
      cases z'⟩
  keep := fun i h h' st k => k it (by simp) _ st
  item := by
    intro X hP hw hK hc i pins s σ H E I hf st hg
    subst hP hw hK
    obtain ⟨f0, f1, f2, f3, f4, f5⟩ := hf it (by simp)
    have W := Walks.range (prog := X.prog) (w := X.w) (I.ok.hd hc) it lo 1 n
    refine W.item i s _ _ hg st fun v h' tk hv st' kk => ?_
    obtain ⟨t, rfl⟩ := hv
    have I1 : Inv X pins σ H { s with heap := h', toks := tk } := I.turned (fun b o hb e => kk b o (by simpa using hb) e) f0 f1 f3 f4 f5
    refine ⟨_, rfl, go_of (s := { s with heap := h', toks := tk }) (n := "range_iterator") st' rfl rfl (by decide) ⟨.int (lo + i), H, I1, ⟨t, ?_⟩, ⟨rfl, rfl⟩, st', fun b hb => (hf b hb).1⟩⟩
    rw [Int.mul_one]
  done := by
    intro X hP hw hK hc i pins s σ H E I hf st hg
    subst hP hw hK
    obtain ⟨f0, f1, f2, f3, f4, f5⟩ := hf it (by simp)
    exact wpAny_pyNext_range_end (I.ok.hd hc) st (by have : n ≤ i := hg; omega) fun h' eb => ⟨rfl, I.turned (t' := s.toks) (fun b o hb e => eb b o hb e) f0 f1 f3 f4 f5⟩
  self := fun _ _ _ _ _ st h => wpAny_pyIter_rangeiter st h
end L2

namespace L2
open PySem PySem.Spec PyProof.Rows
section
variable {X : Cx} {tg : Expr}
noncomputable def iList (K : PySem.W.Frag) (tl : TE) : TI := fun σ H R => tl σ H fun x H1 => ∃ a, x = .ref a ∧ (∃ xs, SqL K H1 a xs) ∧ R (Itl K a) H1
noncomputable def iTup (K : PySem.W.Frag) (tl : TE) : TI := fun σ H R => tl σ H fun x H1 => ∃ a, x = .ref a ∧ (∃ xs, SqT K H1 a xs) ∧ R (Itt K a) H1
theorem pi_list {l : Expr} {tl : TE} (hl : PE X l tl) : PI X tg l (iList X.K tl) := by
  intro pins s σ H R I h
  refine thn (hl pins s σ H _ I h) fun v s1 ⟨x, H1, I1, r1, q1⟩ => ?_
  obtain ⟨a, e, ⟨xs, hq⟩, q⟩ := q1
  subst e
  cases r1
  obtain ⟨its, rv, p, hz⟩ := I1.list hq
  refine wpAny_pyIter_list p.isList ?_
  refine ⟨s1.heap.objs.size, [s1.heap.objs.size], _, _, H1, rfl, I1.kept (t' := s1.toks) fun b o e => Heap.get?_push_of_some _ e, turn_list a _, ⟨_, Heap.get?_push_size _ rfl, rfl, rfl⟩, fun b hb => ?_, q⟩
  have e : b = s1.heap.objs.size := by simpa using hb
  subst e
  exact I1.fpOk (Nat.le_refl _) (I1.hok.fresh (Nat.le_refl _))
theorem pi_tup {l : Expr} {tl : TE} (hl : PE X l tl) : PI X tg l (iTup X.K tl) := by
  intro pins s σ H R I h
  refine thn (hl pins s σ H _ I h) fun v s1 ⟨x, H1, I1, r1, q1⟩ => ?_
  obtain ⟨a, e, ⟨xs, hq⟩, q⟩ := q1
  subst e
  cases r1
  obtain ⟨its, rv, p, hz⟩ := I1.tuple hq
  refine wpAny_pyIter_tuple (show s1.heap.IsTuple a its.toArray from p) ?_
  refine ⟨s1.heap.objs.size, [s1.heap.objs.size], _, _, H1, rfl, I1.kept (t' := s1.toks) fun b o e => Heap.get?_push_of_some _ e, turn_tuple a _, ⟨_, Heap.get?_push_size _ rfl, rfl, rfl⟩, fun b hb => ?_, q⟩
  have e : b = s1.heap.objs.size := by simpa using hb
  subst e
  exact I1.fpOk (Nat.le_refl _) (I1.hok.fresh (Nat.le_refl _))
theorem range_it {pins : List (Addr × Obj)} {σ : St} {H : Hp} {s : Shared} {R : It → Hp → Prop} {E : Value → Shared → Prop} {lo hi : Int} {t u v : Tok} {tk : Nat} (I : Inv X pins σ H s) (h1 : -(2 ^ 62) ≤ lo) (h2 : lo < 2 ^ 62) (h3 : -(2 ^ 62) ≤ hi) (h4 : hi < 2 ^ 62)
    (q : R (Itr lo (hi - lo).toNat) H) : wpAny (model X.prog X.w) X.A (pyIter (.ref s.heap.objs.size)) (PIE X pins σ tg R) E { s with heap := s.heap.push { cls := .type "range", data := .fields #[.int lo t, .int hi u, .int 1 v] }, toks := tk } := by
  refine wpAny_pyIter_range (IsRange.new ..) (small_one h1 h2 h3 h4) ?_
  have I1 : Inv X pins σ H { s with heap := s.heap.push { cls := .type "range", data := .fields #[.int lo t, .int hi u, .int 1 v] }, toks := tk } := I.kept fun b o e => Heap.get?_push_of_some _ e
  refine ⟨(s.heap.push { cls := .type "range", data := .fields #[.int lo t, .int hi u, .int 1 v] }).objs.size, [(s.heap.push { cls := .type "range", data := .fields #[.int lo t, .int hi u, .int 1 v] }).objs.size], _, _, H, rfl,
    I1.kept (t' := tk) fun b o e => Heap.get?_push_of_some _ e, turn_range _ lo (hi - lo).toNat, ?_, fun b hb => ?_, q⟩
  · have e1 : lo + ((0 : Nat) : Int) * 1 = lo := by simp
    have e2 : (((hi - lo).toNat : Nat) : Int) - ((0 : Nat) : Int) = Builtin.Range.rangeSize lo hi 1 := by rw [rangeSize_one]; split <;> omega
    show IsRangeIter _ _ (lo + ((0 : Nat) : Int) * 1) ((((hi - lo).toNat : Nat) : Int) - ((0 : Nat) : Int)) 1
    rw [e1, e2]
    exact Heap.get?_push_size _ rfl
  · have e : b = (s.heap.push { cls := .type "range", data := .fields #[.int lo t, .int hi u, .int 1 v] }).objs.size := by simpa using hb
    subst e
    exact I1.fpOk (Nat.le_refl _) (I1.hok.fresh (Nat.le_refl _))
noncomputable def iRng1 (ta : TA) : TI := fun σ H R => ta σ H fun vs H1 => ∃ j : Int, vs = [.int j] ∧ -(2 ^ 62) ≤ j ∧ j < 2 ^ 62 ∧ R (Itr 0 j.toNat) H1
theorem pi_range1 {a : Expr} {ta : TA} {p pos : Pos} (hg : Gl X "range") (hm : X.mg "range" = none) (ha : PA X [a] ta) (hs : starEach [a] X.env = [(false, eval a X.env)] := by rfl) : PI X tg (.Call (.Name "range" p) [a] [] pos) (iRng1 ta) := by
  intro pins s σ H R I h
  refine Call_ (ld_blt I hg hm boot_range (PyProof.Rows.callWith_type1 (thn (ha pos pins s σ H _ I h) fun us s1 ⟨vs, H1, I1, r1, q1⟩ => ?_) hs rfl))
  obtain ⟨j, e, q1, q2, q⟩ := q1
  subst e
  cases r1 with
  | cons r rr =>
    cases rr
    obtain ⟨t, rfl⟩ := r
    exact call_range_1 (range_it I1 (by omega) (by omega) q1 q2 (by simpa using q))
noncomputable def tFor (wi : TI) (g : TG) (tb : TS) : TS := fun D σ H => wi σ H fun J H1 => ∃ W : Nat → Nat → St → Hp → Prop, (∃ m, W 0 m σ H1) ∧ ∀ i m σ H, W i m σ H →
  (J.stop i H ∧ D.nx σ H) ∨ (J.go i H ∧ ∃ N : St → Hp → Prop, (∀ σ' H', N σ' H' → ∃ m', m' < m ∧ W (i + 1) m' σ' H') ∧ ∀ x H', J.yld i H x H' → g x σ H' fun σ2 H2 => tb { D with nx := N, ct := N, bk := D.nx } σ2 H2)
noncomputable def pinsAt (fp : List Addr) (h : Heap) : List (Addr × Obj) := fp.filterMap fun b => (h.get? b).map fun o => (b, o)
theorem mem_pinsAt {fp : List Addr} {h : Heap} {b : Addr} {o : Obj} (hb : b ∈ fp) (e : h.get? b = some o) : (b, o) ∈ pinsAt fp h := List.mem_filterMap.mpr ⟨b, hb, by rw [e]; rfl⟩
theorem of_pinsAt {fp : List Addr} {h : Heap} {p : Addr × Obj} (hp : p ∈ pinsAt fp h) : p.1 ∈ fp ∧ h.get? p.1 = some p.2 := by
  obtain ⟨b, hb, e⟩ := List.mem_filterMap.mp hp
  cases q : h.get? b with
  | none => rw [q] at e; cases e
  | some o =>
    rw [q] at e
    have e' : (b, o) = p := Option.some.inj e
    subst e'
    exact ⟨hb, q⟩
theorem Inv.pinned {pins : List (Addr × Obj)} {σ : St} {H : Hp} {s : Shared} {fp : List Addr} (I : Inv X pins σ H s) (hf : ∀ b ∈ fp, FpOk X pins H b) (ho : ∀ b ∈ fp, ∃ o, s.heap.get? b = some o ∧ ∀ v, o.data ≠ .cell v) : Inv X (pins ++ pinsAt fp s.heap) σ H s :=
  I.pins_of fun p hp => (List.mem_append.mp hp).elim (fun z => I.pin p (List.mem_append_right _ z)) fun z => by
    obtain ⟨hb, e⟩ := of_pinsAt z
    obtain ⟨f0, f1, f2, _⟩ := hf p.1 hb
    obtain ⟨o, e', d⟩ := ho p.1 hb
    rw [e] at e'; cases e'
    exact ⟨e, f0, f1, f2, d⟩
theorem Inv.unpinned {pins pl : List (Addr × Obj)} {σ : St} {H : Hp} {s : Shared} (I : Inv X (pins ++ pl) σ H s) : Inv X pins σ H s := I.pins_of fun p hp => I.pin p (List.mem_append_right _ (List.mem_append_left _ hp))
theorem ps_for {iter : Expr} {body : List Stmt} {wi : TI} {g : TG} {tb : TS} {pos : Pos} (hp : PassesOwn (model X.prog X.w) X.A X.env X.xe) (hc : X.calm = true) (hi : PI X tg iter wi) (hg : PG X tg g) (hb : PSs X body tb)
    (hs : ∀ x, foldedSetIterable iter X.env x = pure x := by intro _; rfl) : PS X (.For tg iter body [] pos) (tFor wi g tb) := by
  intro pins s σ H D I h
  refine wpAny_For (thn (hi pins s σ H _ I h) fun v s1 h1 => thn h1 fun itv s2 h2 => ?_) hs
  obtain ⟨it, fp, tn, J, H2, e, I2, T, st2, f2, W, ⟨m0, w0⟩, turn⟩ := h2
  subst e
  -- what stays true of the iterator's objects through the loop
  have stat : ∀ {H' : Hp}, (∀ b ∈ fp, H' b = none) → ∀ b ∈ fp, FpOk X pins H' b := fun hn b hb => ⟨hn b hb, (f2 b hb).2⟩
  refine codeAny_forLoop_any (fun n s' => ∃ i σ' H', Inv X pins σ' H' s' ∧ tn i s'.heap ∧ (∀ b ∈ fp, H' b = none) ∧ W i n σ' H') ?_ m0 ⟨0, σ, H2, I2, st2, fun b hb => (f2 b hb).1, w0⟩
  rintro n s3 ⟨i, σ3, H3, I3, st3, fr3, w3⟩
  rcases turn i n σ3 H3 w3 with ⟨stop, qn⟩ | ⟨go, N, hN, step⟩
  · refine wpAny_passesOwn hp (thn (T.done X rfl rfl rfl hc i pins s3 σ3 H3 X.xe I3 (stat fr3) st3 stop) fun r s4 ⟨hr, I4⟩ => ?_)
    subst hr
    exact wpAny_execs_nil ⟨σ3, H3, I4, qn⟩
  · refine wpAny_passesOwn hp (thn (T.item X rfl rfl rfl hc i pins s3 σ3 H3 X.xe I3 (stat fr3) st3 go) fun r s4 ⟨u, hr, h4⟩ => ?_)
    subst hr
    refine wpAny_passesOwn hp (thn h4 fun _ s5 ⟨x, H5, I5, r5, y5, st5, fr5⟩ => ?_)
    have I5' := I5.pinned (stat fr5) (T.obj _ _ st5)
    refine wpAny_passesOwn hp (thn (hg _ s5 σ3 H5 x u _ I5' r5 (step x H5 y5)) fun _ s6 ⟨σ6, H6, I6, q6⟩ => ?_)
    refine wpAny_passesOwn hp (thn (hb _ s6 σ6 H6 _ I6 q6) fun f s7 q7 => ?_)
    have again : ∀ {σ7 : St} {H7 : Hp}, Inv X (pins ++ pinsAt fp s5.heap) σ7 H7 s7 → N σ7 H7 → ∃ m, m < n ∧ ∃ i σ' H', Inv X pins σ' H' s7 ∧ tn i s7.heap ∧ (∀ b ∈ fp, H' b = none) ∧ W i m σ' H' := fun {σ7 H7} I7 n7 => by
      obtain ⟨m', hm, w7⟩ := hN σ7 H7 n7
      refine ⟨m', hm, i + 1, σ7, H7, I7.unpinned, T.keep _ _ _ st5 fun b hb o e => (I7.pin (b, o) (List.mem_append_right _ (List.mem_append_right _ (mem_pinsAt hb e)))).1, fun b hb => ?_, w7⟩
      obtain ⟨o, e, d⟩ := T.obj _ _ st5 b hb
      exact (I7.pin (b, o) (List.mem_append_right _ (List.mem_append_right _ (mem_pinsAt hb e)))).2.1
    cases f with
    | next => obtain ⟨σ7, H7, I7, n7⟩ := q7; exact again I7 n7
    | cont => obtain ⟨σ7, H7, I7, n7⟩ := q7; exact again I7 n7
    | brk => obtain ⟨σ7, H7, I7, q7⟩ := q7; exact ⟨σ7, H7, I7.unpinned, q7⟩
    | ret v => obtain ⟨x7, σ7, H7, I7, r7, q7⟩ := q7; exact ⟨x7, σ7, H7, I7.unpinned, r7, q7⟩
end

theorem for_list {K : PySem.W.Frag} {a : Addr} {xs : List V} {g : TG} {tb : TS} {D : Ends} {σ : St} {H : Hp} (Pv : Nat → St → Hp → Prop) (h0 : Pv 0 σ H) (hl : ∀ i σ H, i ≤ xs.length → Pv i σ H → SqL K H a xs)
    (hs : ∀ i x σ H, xs[i]? = some x → Pv i σ H → g x σ H fun σ2 H2 => tb { D with nx := Pv (i + 1), ct := Pv (i + 1), bk := D.nx } σ2 H2) (hd : ∀ σ H, Pv xs.length σ H → D.nx σ H) :
    ∃ W : Nat → Nat → St → Hp → Prop, (∃ m, W 0 m σ H) ∧ ∀ i m σ H, W i m σ H →
      ((Itl K a).stop i H ∧ D.nx σ H) ∨ ((Itl K a).go i H ∧ ∃ N : St → Hp → Prop, (∀ σ' H', N σ' H' → ∃ m', m' < m ∧ W (i + 1) m' σ' H') ∧ ∀ x H', (Itl K a).yld i H x H' → g x σ H' fun σ2 H2 => tb { D with nx := N, ct := N, bk := D.nx } σ2 H2) := by
  refine ⟨fun i m σ H => m = xs.length - i ∧ i ≤ xs.length ∧ Pv i σ H, ⟨xs.length, by simp, Nat.zero_le _, h0⟩, ?_⟩
  rintro i m σ H ⟨rfl, hi, p⟩
  have q := hl i σ H hi p
  by_cases hlt : i < xs.length
  · refine .inr ⟨⟨xs, xs[i], q, by simp [hlt]⟩, Pv (i + 1), fun σ' H' p' => ⟨xs.length - (i + 1), by omega, rfl, hlt, p'⟩, fun x H' y => ?_⟩
    obtain ⟨e, y⟩ := y
    subst e
    exact hs i x σ _ (y xs q) p
  · have e : i = xs.length := by omega
    subst e
    exact .inl ⟨⟨xs, q, Nat.le_refl _⟩, hd σ H p⟩
theorem for_tup {K : PySem.W.Frag} {a : Addr} {xs : List V} {g : TG} {tb : TS} {D : Ends} {σ : St} {H : Hp} (Pv : Nat → St → Hp → Prop) (h0 : Pv 0 σ H) (hl : ∀ i σ H, i ≤ xs.length → Pv i σ H → SqT K H a xs)
    (hs : ∀ i x σ H, xs[i]? = some x → Pv i σ H → g x σ H fun σ2 H2 => tb { D with nx := Pv (i + 1), ct := Pv (i + 1), bk := D.nx } σ2 H2) (hd : ∀ σ H, Pv xs.length σ H → D.nx σ H) :
    ∃ W : Nat → Nat → St → Hp → Prop, (∃ m, W 0 m σ H) ∧ ∀ i m σ H, W i m σ H →
      ((Itt K a).stop i H ∧ D.nx σ H) ∨ ((Itt K a).go i H ∧ ∃ N : St → Hp → Prop, (∀ σ' H', N σ' H' → ∃ m', m' < m ∧ W (i + 1) m' σ' H') ∧ ∀ x H', (Itt K a).yld i H x H' → g x σ H' fun σ2 H2 => tb { D with nx := N, ct := N, bk := D.nx } σ2 H2) := by
  refine ⟨fun i m σ H => m = xs.length - i ∧ i ≤ xs.length ∧ Pv i σ H, ⟨xs.length, by simp, Nat.zero_le _, h0⟩, ?_⟩
  rintro i m σ H ⟨rfl, hi, p⟩
  have q := hl i σ H hi p
  by_cases hlt : i < xs.length
  · refine .inr ⟨⟨xs, xs[i], q, by simp [hlt]⟩, Pv (i + 1), fun σ' H' p' => ⟨xs.length - (i + 1), by omega, rfl, hlt, p'⟩, fun x H' y => ?_⟩
    obtain ⟨e, y⟩ := y
    subst e
    exact hs i x σ _ (y xs q) p
  · have e : i = xs.length := by omega
    subst e
    exact .inl ⟨⟨xs, q, Nat.le_refl _⟩, hd σ H p⟩
theorem for_range {lo : Int} {n : Nat} {g : TG} {tb : TS} {D : Ends} {σ : St} {H : Hp} (Pv : Nat → St → Hp → Prop) (h0 : Pv 0 σ H)
    (hs : ∀ i σ H, i < n → Pv i σ H → g (.int (lo + i)) σ H fun σ2 H2 => tb { D with nx := Pv (i + 1), ct := Pv (i + 1), bk := D.nx } σ2 H2) (hd : ∀ σ H, Pv n σ H → D.nx σ H) :
    ∃ W : Nat → Nat → St → Hp → Prop, (∃ m, W 0 m σ H) ∧ ∀ i m σ H, W i m σ H →
      ((Itr lo n).stop i H ∧ D.nx σ H) ∨ ((Itr lo n).go i H ∧ ∃ N : St → Hp → Prop, (∀ σ' H', N σ' H' → ∃ m', m' < m ∧ W (i + 1) m' σ' H') ∧ ∀ x H', (Itr lo n).yld i H x H' → g x σ H' fun σ2 H2 => tb { D with nx := N, ct := N, bk := D.nx } σ2 H2) := by
  refine ⟨fun i m σ H => m = n - i ∧ i ≤ n ∧ Pv i σ H, ⟨n, by simp, Nat.zero_le _, h0⟩, ?_⟩
  rintro i m σ H ⟨rfl, hi, p⟩
  by_cases hlt : i < n
  · refine .inr ⟨hlt, Pv (i + 1), fun σ' H' p' => ⟨n - (i + 1), by omega, rfl, hlt, p'⟩, fun x H' y => ?_⟩
    obtain ⟨e, y⟩ := y
    subst e y
    exact hs i σ _ hlt p
  · have e : i = n := by omega
    subst e
    exact .inl ⟨Nat.le_refl _, hd σ H p⟩
end L2

namespace L2
open PySem PySem.Spec PyProof.Rows

noncomputable abbrev R2 := V → V → Hp → VK → Prop
noncomputable def OpR (X : Cx) (f : Value → Value → Sem Value) (r : R2) : Prop :=
  ∀ (pins : List (Addr × Obj)) (s : Shared) (σ : St) (H : Hp) (x y : V) (v u : Value) (Q : VK), Inv X pins σ H s → RelV x v → RelV y u → r x y H Q →
    wpAny (model X.prog X.w) X.A (f v u) (EP X pins σ Q) X.xe s
noncomputable def UnR (X : Cx) (f : Value → Sem Value) (r : V → Hp → VK → Prop) : Prop :=
  ∀ (pins : List (Addr × Obj)) (s : Shared) (σ : St) (H : Hp) (x : V) (v : Value) (Q : VK), Inv X pins σ H s → RelV x v → r x H Q →
    wpAny (model X.prog X.w) X.A (f v) (EP X pins σ Q) X.xe s
noncomputable def CallR (X : Cx) (f : Value) (r : List V → Hp → VK → Prop) : Prop :=
  ∀ (pins : List (Addr × Obj)) (s : Shared) (σ : St) (H : Hp) (xs : List V) (us : List Value) (Q : VK), Inv X pins σ H s → Vals xs us → r xs H Q →
    wpAny (model X.prog X.w) X.A (call f us) (EP X pins σ Q) X.xe s
noncomputable def tOp (r : R2) (ta tb : TE) : TE := fun σ H Q => ta σ H fun x H1 => tb σ H1 fun y H2 => r x y H2 Q
noncomputable def tUn (r : V → Hp → VK → Prop) (ta : TE) : TE := fun σ H Q => ta σ H fun x H1 => r x H1 Q
noncomputable def rI (C : Int → Int → Prop) (g : Int → Int → V) : R2 := fun x y H Q => ∃ i j, x = .int i ∧ y = .int j ∧ C i j ∧ Q (g i j) H
noncomputable def rI0 (g : Int → Int → V) : R2 := fun x y H Q => ∃ i j, x = .int i ∧ y = .int j ∧ Q (g i j) H
noncomputable def rU (g : Int → V) : V → Hp → VK → Prop := fun x H Q => ∃ i, x = .int i ∧ Q (g i) H

section
variable {X : Cx} {a b c : Expr} {ta tb tc : TE} {pos : Pos}

theorem binT (ha : PE X a ta) (hb : PE X b tb) {pins : List (Addr × Obj)} {s : Shared} {σ : St} {H : Hp} {R : V → V → Hp → Prop} (I : Inv X pins σ H s)
    (h : ta σ H fun x H1 => tb σ H1 fun y H2 => R x y H2) {Q : Value → Shared → Prop} {f : Value → Value → Sem Value}
    (hf : ∀ v u s2 x y H2, Inv X pins σ H2 s2 → RelV x v → RelV y u → R x y H2 → wpAny (model X.prog X.w) X.A (f v u) Q X.xe s2) :
    wpAny (model X.prog X.w) X.A (eval a X.env) (fun v s₁ => wpAny (model X.prog X.w) X.A (eval b X.env) (fun u s₂ => wpAny (model X.prog X.w) X.A (f v u) Q X.xe s₂) X.xe s₁) X.xe s := by
  refine thn (ha pins s σ H _ I h) fun v s1 ⟨x, H1, I1, r1, q1⟩ => ?_
  refine thn (hb pins s1 σ H1 _ I1 q1) fun u s2 ⟨y, H2, I2, r2, q2⟩ => ?_
  exact hf v u s2 x y H2 I2 r1 r2 q2

theorem pe_op {op : Operator} {r : R2} (ho : OpR X (binaryOp op) r) (ha : PE X a ta) (hb : PE X b tb) : PE X (.BinOp a op b pos) (tOp r ta tb) := by
  intro pins s σ H Q I h
  exact wpAny_BinOp (binT ha hb I h fun v u s2 x y H2 I2 rx ry q => ho pins s2 σ H2 x y v u Q I2 rx ry q)
theorem pe_un {op : UnaryOp} {r : V → Hp → VK → Prop} (ho : UnR X (unaryOp op) r) (ha : PE X a ta) : PE X (.UnaryOp op a pos) (tUn r ta) := by
  intro pins s σ H Q I h
  exact UnaryOp_ (thn (ha pins s σ H _ I h) fun v s1 ⟨x, H1, I1, r1, q1⟩ => ho pins s1 σ H1 x v Q I1 r1 q1)
theorem opI {f : Value → Value → Sem Value} {C : Int → Int → Prop} {g : Int → Int → Int}
    (rule : ∀ (i j : Int) (t u : Tok) (s : Shared) (Q : Value → Shared → Prop) (E : Value → Shared → Prop), C i j → Q (.int (g i j) s.toks) { s with toks := s.toks + 1 } → wpAny (model X.prog X.w) X.A (f (.int i t) (.int j u)) Q E s) :
    OpR X f (rI C fun i j => .int (g i j)) := by
  intro pins s σ H x y v u Q I rx ry h
  obtain ⟨i, j, rfl, rfl, hc, q⟩ := h
  obtain ⟨t, rfl⟩ := rx
  obtain ⟨t', rfl⟩ := ry
  exact rule i j t t' s _ _ hc ⟨.int (g i j), H, I.tok _, ⟨_, rfl⟩, q⟩
theorem opI0 {f : Value → Value → Sem Value} {g : Int → Int → Int}
    (rule : ∀ (i j : Int) (t u : Tok) (s : Shared) (Q : Value → Shared → Prop) (E : Value → Shared → Prop), Q (.int (g i j) s.toks) { s with toks := s.toks + 1 } → wpAny (model X.prog X.w) X.A (f (.int i t) (.int j u)) Q E s) :
    OpR X f (rI0 fun i j => .int (g i j)) := by
  intro pins s σ H x y v u Q I rx ry h
  obtain ⟨i, j, rfl, rfl, q⟩ := h
  obtain ⟨t, rfl⟩ := rx
  obtain ⟨t', rfl⟩ := ry
  exact rule i j t t' s _ _ ⟨.int (g i j), H, I.tok _, ⟨_, rfl⟩, q⟩
theorem opB0 {f : Value → Value → Sem Value} {g : Int → Int → Bool}
    (rule : ∀ (i j : Int) (t u : Tok) (s : Shared) (Q : Value → Shared → Prop) (E : Value → Shared → Prop), Q (.bool (g i j)) s → wpAny (model X.prog X.w) X.A (f (.int i t) (.int j u)) Q E s) :
    OpR X f (rI0 fun i j => .bl (g i j)) := by
  intro pins s σ H x y v u Q I rx ry h
  obtain ⟨i, j, rfl, rfl, q⟩ := h
  obtain ⟨t, rfl⟩ := rx
  obtain ⟨t', rfl⟩ := ry
  exact rule i j t t' s _ _ ⟨.bl (g i j), H, I, rfl, q⟩

noncomputable def CPow (i j : Int) : Prop := 0 ≤ j ∧ j ≤ 1000000 ∧ i.natAbs < 2 ^ 64
noncomputable def CMul (i j : Int) : Prop := (-(2 ^ 64) < i ∧ i < 2 ^ 64) ∨ (-(2 ^ 64) < j ∧ j < 2 ^ 64)
theorem CMul.ok {i j : Int} (h : CMul i j) : IntMulOk i j := by
  rcases h with ⟨h1, h2⟩ | ⟨h1, h2⟩
  · exact .of_left (intBits_le_64 h1 h2)
  · exact .of_right (intBits_le_64 h1 h2)
theorem op_add : OpR X (binaryOp .Add) (rI0 fun i j => .int (i + j)) := opI0 fun _ _ _ _ _ _ _ q => add_int q
theorem op_sub : OpR X (binaryOp .Sub) (rI0 fun i j => .int (i - j)) := opI0 fun _ _ _ _ _ _ _ q => sub_int q
theorem op_mul : OpR X (binaryOp .Mult) (rI CMul fun i j => .int (i * j)) := opI fun _ _ _ _ _ _ _ hc q => mul_int q hc.ok
theorem op_mod : OpR X (binaryOp .Mod) (rI (fun _ j => 0 < j) fun i j => .int (i % j)) := opI fun i j _ _ _ _ _ hc q => by
  have h1 : (0 : Int) < j := hc
  exact mod_int' (by omega) (by rw [Int.fmod_eq_emod_of_nonneg i (by omega)]; exact q)
theorem op_pow : OpR X (binaryOp .Pow) (rI CPow fun i j => .int (i ^ j.toNat)) := opI fun _ _ _ _ _ _ _ hc q => pow_int_small hc.1 hc.2.1 hc.2.2 q
theorem unI {f : Value → Sem Value} {g : Int → Int}
    (rule : ∀ (i : Int) (t : Tok) (s : Shared) (Q : Value → Shared → Prop) (E : Value → Shared → Prop), Q (.int (g i) s.toks) { s with toks := s.toks + 1 } → wpAny (model X.prog X.w) X.A (f (.int i t)) Q E s) :
    UnR X f (rU fun i => .int (g i)) := by
  intro pins s σ H x v Q I rx h
  obtain ⟨i, rfl, q⟩ := h
  obtain ⟨t, rfl⟩ := rx
  exact rule i t s _ _ ⟨.int (g i), H, I.tok _, ⟨_, rfl⟩, q⟩
theorem un_neg : UnR X (unaryOp .USub) (rU fun i => .int (-i)) := unI fun _ _ _ _ _ q => neg_int q
end

noncomputable def scal : V → V → Bool
  | .non, .non => true | .non, .int _ => true | .int _, .non => true | .non, .bl _ => true | .bl _, .non => true | .non, .str _ => true | .str _, .non => true
  | .int _, .int _ => true | .bl _, .bl _ => true | .str _, .str _ => true | .byt _, .byt _ => true
  | .int _, .str _ => true | .str _, .int _ => true | .bl _, .str _ => true | .str _, .bl _ => true
  | _, _ => false
noncomputable def rEq : R2 := fun x y H Q => scal x y = true ∧ Q (.bl (decide (x = y))) H
noncomputable def rNe : R2 := fun x y H Q => scal x y = true ∧ Q (.bl (!decide (x = y))) H

theorem dec_int {i j : Int} : decide (V.int i = V.int j) = (i == j) := by
  rw [Bool.eq_iff_iff]
  simp
theorem dec_bl {i j : Bool} : decide (V.bl i = V.bl j) = (i == j) := by
  rw [Bool.eq_iff_iff]
  simp
theorem dec_str {i j : Str} : decide (V.str i = V.str j) = (i == j) := by
  rw [Bool.eq_iff_iff]
  simp
theorem dec_byt {i j : Array UInt8} : decide (V.byt i = V.byt j) = (i.toList == j.toList) := by
  rw [Bool.eq_iff_iff]
  cases i
  cases j
  simp

section
variable {X : Cx} {a b c : Expr} {ta tb tc : TE} {pos : Pos}
theorem fin_bl {pins : List (Addr × Obj)} {σ : St} {H : Hp} {s : Shared} {Q : VK} {k k' : Bool} (I : Inv X pins σ H s) (q : Q (.bl k) H) (e : k = k') : EP X pins σ Q (.bool k') s := by
  subst e
  exact ⟨.bl k, H, I, rfl, q⟩
theorem op_eq : OpR X (compareOp .Eq) rEq := by
  intro pins s σ H x y v u Q I rx ry h
  obtain ⟨hs, q⟩ := h
  cases x with
  | non =>
    cases rx
    cases y with
    | non => cases ry; exact PySem.EqNone.eq_none_none (fin_bl I q (by simp))
    | bl j => cases ry; exact PySem.EqNone.eq_none_bool (fin_bl I q (by simp))
    | int j => obtain ⟨t', rfl⟩ := ry; exact PySem.EqNone.eq_none_int (fin_bl I q (by simp))
    | str j => obtain ⟨t', rfl⟩ := ry; exact PySem.EqNone.eq_none_str (fin_bl I q (by simp))
    | _ => exact absurd (show false = true from hs) Bool.false_ne_true
  | bl i =>
    cases rx
    cases y with
    | non => cases ry; exact PySem.EqNone.eq_bool_none (fin_bl I q (by simp))
    | bl j => cases ry; exact eq_bool (fin_bl I q dec_bl)
    | str j => obtain ⟨t', rfl⟩ := ry; exact PySem.EqMixed.eq_bool_str (fin_bl I q (by simp))
    | _ => exact absurd (show false = true from hs) Bool.false_ne_true
  | int i =>
    obtain ⟨t, rfl⟩ := rx
    cases y with
    | non => cases ry; exact PySem.EqNone.eq_int_none (fin_bl I q (by simp))
    | int j => obtain ⟨t', rfl⟩ := ry; exact eq_int (fin_bl I q dec_int)
    | str j => obtain ⟨t', rfl⟩ := ry; exact PySem.EqMixed.eq_int_str (fin_bl I q (by simp))
    | _ => exact absurd (show false = true from hs) Bool.false_ne_true
  | str i =>
    obtain ⟨t, rfl⟩ := rx
    cases y with
    | non => cases ry; exact PySem.EqNone.eq_str_none (fin_bl I q (by simp))
    | bl j => cases ry; exact PySem.EqMixed.eq_str_bool (fin_bl I q (by simp))
    | int j => obtain ⟨t', rfl⟩ := ry; exact PySem.EqMixed.eq_str_int (fin_bl I q (by simp))
    | str j => obtain ⟨t', rfl⟩ := ry; exact eq_str (fin_bl I q dec_str)
    | _ => exact absurd (show false = true from hs) Bool.false_ne_true
  | byt i =>
    obtain ⟨t, rfl⟩ := rx
    cases y with
    | byt j => obtain ⟨t', rfl⟩ := ry; exact PySem.W.eq_bytes (fin_bl I q dec_byt)
    | _ => exact absurd (show false = true from hs) Bool.false_ne_true
  | _ => cases y <;> exact absurd (show false = true from hs) Bool.false_ne_true
theorem op_ne : OpR X (compareOp .NotEq) rNe := by
  intro pins s σ H x y v u Q I rx ry h
  obtain ⟨hs, q⟩ := h
  cases x with
  | non =>
    cases rx
    cases y with
    | non => cases ry; exact PySem.EqNone.ne_none_none (fin_bl I q (by simp))
    | bl j => cases ry; exact PySem.EqNone.ne_none_bool (fin_bl I q (by simp))
    | int j => obtain ⟨t', rfl⟩ := ry; exact PySem.EqNone.ne_none_int (fin_bl I q (by simp))
    | str j => obtain ⟨t', rfl⟩ := ry; exact PySem.EqNone.ne_none_str (fin_bl I q (by simp))
    | _ => exact absurd (show false = true from hs) Bool.false_ne_true
  | bl i =>
    cases rx
    cases y with
    | non => cases ry; exact PySem.EqNone.ne_bool_none (fin_bl I q (by simp))
    | bl j => cases ry; exact ne_bool (fin_bl I q (congrArg not dec_bl))
    | str j => obtain ⟨t', rfl⟩ := ry; exact PySem.EqMixed.ne_bool_str (fin_bl I q (by simp))
    | _ => exact absurd (show false = true from hs) Bool.false_ne_true
  | int i =>
    obtain ⟨t, rfl⟩ := rx
    cases y with
    | non => cases ry; exact PySem.EqNone.ne_int_none (fin_bl I q (by simp))
    | int j => obtain ⟨t', rfl⟩ := ry; exact ne_int (fin_bl I q (congrArg not dec_int))
    | str j => obtain ⟨t', rfl⟩ := ry; exact PySem.EqMixed.ne_int_str (fin_bl I q (by simp))
    | _ => exact absurd (show false = true from hs) Bool.false_ne_true
  | str i =>
    obtain ⟨t, rfl⟩ := rx
    cases y with
    | non => cases ry; exact PySem.EqNone.ne_str_none (fin_bl I q (by simp))
    | bl j => cases ry; exact PySem.EqMixed.ne_str_bool (fin_bl I q (by simp))
    | int j => obtain ⟨t', rfl⟩ := ry; exact PySem.EqMixed.ne_str_int (fin_bl I q (by simp))
    | str j => obtain ⟨t', rfl⟩ := ry; exact ne_str (fin_bl I q (congrArg not dec_str))
    | _ => exact absurd (show false = true from hs) Bool.false_ne_true
  | byt i =>
    obtain ⟨t, rfl⟩ := rx
    cases y with
    | byt j => obtain ⟨t', rfl⟩ := ry; exact PySem.W.ne_bytes (fin_bl I q (congrArg not dec_byt))
    | _ => exact absurd (show false = true from hs) Bool.false_ne_true
  | _ => cases y <;> exact absurd (show false = true from hs) Bool.false_ne_true

theorem op_lt : OpR X (compareOp .Lt) (rI0 fun i j => .bl (decide (i < j))) := opB0 fun _ _ _ _ _ _ _ q => lt_int q
theorem op_gt : OpR X (compareOp .Gt) (rI0 fun i j => .bl (decide (j < i))) := opB0 fun _ _ _ _ _ _ _ q => gt_int q
theorem op_ge : OpR X (compareOp .GtE) (rI0 fun i j => .bl (decide (j ≤ i))) := opB0 fun _ _ _ _ _ _ _ q => ge_int q
theorem op_isN : OpR X (compareOp .Is) (fun x y H Q => y = .non ∧ Q (.bl (decide (x = .non))) H) := by
  intro pins s σ H x y v u Q I rx ry h
  obtain ⟨rfl, q⟩ := h
  cases ry
  refine is_none_gen (fin_bl I q ?_)
  cases x <;> first
    | (cases rx; rfl)
    | (obtain ⟨t, rfl⟩ := rx; rfl)
theorem nomark (b : Expr) {op : CmpOp} (h : op ≠ .In := by decide) (h2 : op ≠ .NotIn := by decide) : behindInMarks op b = false := by
  have e1 : (op == CmpOp.In) = false := by cases op <;> first | rfl | exact absurd rfl h
  have e2 : (op == CmpOp.NotIn) = false := by cases op <;> first | rfl | exact absurd rfl h2
  cases b <;> simp [behindInMarks, e1, e2]
theorem pe_cmpR {op : CmpOp} {r : R2} (ho : OpR X (compareOp op) r) (ha : PE X a ta) (hb : PE X b tb) (hm : behindInMarks op b = false) : PE X (.Compare a [op] [b] pos) (tOp r ta tb) := by
  intro pins s σ H Q I h
  exact wpAny_Compare1 (binT ha hb I h fun v u s2 x y H2 I2 rx ry q => ho pins s2 σ H2 x y v u Q I2 rx ry q) hm
noncomputable def tTest (t : TE) : TT := fun σ H Q => t σ H fun x H' => ∃ k, x = .bl k ∧ Q k H'
theorem pt_cmpR {op : CmpOp} {r : R2} (ho : OpR X (compareOp op) r) (ha : PE X a ta) (hb : PE X b tb) (hm : behindInMarks op b = false) : PT X (.Compare a [op] [b] pos) (tTest (tOp r ta tb)) := by
  intro pins s σ H Q I h
  refine wpAny_isTrue_Compare1 (thn (ha pins s σ H _ I h) fun v s1 ⟨x, H1, I1, r1, q1⟩ => thn (hb pins s1 σ H1 _ I1 q1) fun u s2 ⟨y, H2, I2, r2, q2⟩ =>
    thn (ho pins s2 σ H2 x y v u _ I2 r1 r2 q2) fun c s3 ⟨z, H3, I3, r3, k, e, q3⟩ => ?_) hm
  subst e
  cases r3
  exact wpAny_truthy_bool ⟨H3, I3, q3⟩
theorem line63 : (sizeLine : Nat) < 2 ^ 63 := by rw [sizeLine_eq]; decide
theorem op_add_str : OpR X (binaryOp .Add) (fun x y H Q => ∃ i j, x = .str i ∧ y = .str j ∧ i.length + j.length ≤ sizeLine ∧ Q (.str (i ++ j)) H) := by
  intro pins s σ H x y v u Q I rx ry h
  obtain ⟨i, j, rfl, rfl, hz, q⟩ := h
  obtain ⟨t, rfl⟩ := rx
  obtain ⟨t', rfl⟩ := ry
  exact add_str (fun t' tk => ⟨.str (i ++ j), H, I.tok _, ⟨_, rfl⟩, q⟩) hz
theorem vals1 {x : V} {us : List Value} (r : Vals [x] us) : ∃ u, us = [u] ∧ RelV x u := by
  cases r with
  | cons r1 r2 => cases r2; exact ⟨_, rfl, r1⟩
theorem vals2 {x y : V} {us : List Value} (r : Vals [x, y] us) : ∃ u w', us = [u, w'] ∧ RelV x u ∧ RelV y w' := by
  cases r with
  | cons r1 r2 =>
    cases r2 with
    | cons r3 r4 => cases r4; exact ⟨_, _, rfl, r1, r3⟩
theorem call_min2 (hc : X.calm = true) : CallR X (.builtin "min") (fun xs H Q => ∃ i j, xs = [.int i, .int j] ∧ Q (.int (if j < i then j else i)) H) := by
  intro pins s σ H xs us Q I r h
  obtain ⟨i, j, rfl, q⟩ := h
  obtain ⟨u, w', rfl, ⟨t, rfl⟩, ⟨t', rfl⟩⟩ := vals2 r
  refine min_two_ints (I.ok.hd hc) fun h' tk k => ⟨_, H, I.kept k, ?_, q⟩
  by_cases hj : j < i
  · rw [if_pos hj, if_pos hj]; exact ⟨_, rfl⟩
  · rw [if_neg hj, if_neg hj]; exact ⟨_, rfl⟩
theorem call_int1 : CallR X (.type "int") (fun xs H Q => (∃ i, xs = [.int i] ∧ Q (.int i) H) ∨ ∃ k, xs = [.bl k] ∧ Q (.int (if k then 1 else 0)) H) := by
  intro pins s σ H xs us Q I r h
  rcases h with ⟨i, rfl, q⟩ | ⟨k, rfl, q⟩
  · obtain ⟨u, rfl, t, rfl⟩ := vals1 r
    exact call_int_int ⟨.int i, H, I, ⟨_, rfl⟩, q⟩
  · obtain ⟨u, rfl, r1⟩ := vals1 r
    cases r1
    exact call_int_bool ⟨.int (if k then 1 else 0), H, I.tok _, ⟨_, rfl⟩, q⟩
end
end L2

namespace L2
open PySem PySem.Spec PyProof.Rows

theorem lookIn_ns {h : Heap} {dx : Addr} {mA : Str → Option Value} (n : h.Ns1 dx mA) : ∃ od, h.get? dx = some od ∧ ∀ name, PySem.W.lookIn name od = some (mA name) := by
  obtain ⟨o, es, ep, ho, hd, hk, _, hm⟩ := n
  refine ⟨o, ho, fun name => ?_⟩
  have e := hm name
  unfold nsFind findBy at e
  rw [← Array.find?_toList] at e
  unfold PySem.W.lookIn
  rw [hd]
  dsimp only
  split
  · rename_i y q
    rw [q] at e
    exact congrArg some e
  · rename_i q
    rw [q] at e
    have a : es.toList.any (·.refKey) = false := by
      rw [List.any_eq_false]
      intro y hy
      obtain ⟨z, t, hkey⟩ := hk y (Array.mem_toList_iff.mp hy)
      simp [DictEntry.refKey, hkey]
    have a' : ¬ es.toList.any (·.refKey) = true := by rw [a]; exact Bool.false_ne_true
    rw [if_neg a']
    exact congrArg some e

section
variable {prog : Program} {w : World} {A : Around} {E : Value → Shared → Prop} {s : Shared} {K : PySem.W.Frag} {x dx C f : Addr} {mA : Str → Option Value} {name : Str} {v : Value}

end

theorem RelO.some_of {v : V} {o : Option Value} (r : RelO (some v) o) : ∃ u, o = some u ∧ RelV v u := by
  cases o with
  | none => exact (show False from r).elim
  | some u => exact ⟨u, rfl, r⟩
section
variable {P : Program} {w : World} {H H' : Hp} {h h' : Heap} {a C dx : Addr} {fs fs' : List (Str × V)}
end

noncomputable def NoAttr (K : PySem.W.Frag) (C : Addr) (f : Str) : Prop := PySem.W.findIn K (.ref C) f = some none
section
variable {X : Cx} {pins : List (Addr × Obj)} {σ : St} {H : Hp} {s : Shared} {a C dx : Addr} {fs : List (Str × V)} {f : Str} {v : V} {A : Around} {E : Value → Shared → Prop}

end

section
variable {X : Cx} {o e value : Expr} {f : Str} {pos pos' tpos : Pos} {ta tv : TE}
end

section
variable {X : Cx} {pins : List (Addr × Obj)} {σ : St} {H : Hp} {s : Shared} {A : Around} {E : Value → Shared → Prop} {Q : Value → Shared → Prop} {c : Value} {b : Bool}
end
end L2

namespace L2
open PySem PySem.Spec PyProof.Rows

structure Room (k : Nat) (A : Around) : Prop where
  hd : A.handled = none
  dp : A.depth + 3 * k + 5 < recursionLimit
  un : A.units + 16 * k + 200 < cLine
theorem Room.mono {j k : Nat} {A : Around} (r : Room k A) (h : j ≤ k) : Room j A := ⟨r.hd, by have := r.dp; omega, by have := r.un; omega⟩
theorem Room.deeper {k : Nat} {A : Around} (r : Room (k + 1) A) (env : Env) : Room k (A.deeper env) :=
  ⟨r.hd, by have := r.dp; show A.depth + 1 + 3 * k + 5 < _; omega, by have := r.un; show A.units + 3 + 16 * k + 200 < _; omega⟩
theorem Room.depth {k : Nat} {A : Around} (r : Room k A) : A.depth < recursionLimit := by have := r.dp; omega
theorem Room.units {k : Nat} {A : Around} (r : Room k A) : A.units + 64 < cLine := by have := r.un; omega
noncomputable def tNil : TA := fun _ H Q => Q [] H
noncomputable def tCons (ta : TE) (tr : TA) : TA := fun σ H Q => ta σ H fun x H1 => tr σ H1 fun xs H2 => Q (x :: xs) H2
section
variable {X : Cx} {e : Expr} {es : List Expr} {te : TE} {t : TA} {pos : Pos}
theorem pa_nil : PA X [] tNil := fun _ _ _ _ H Q I h => Calls.spliced_nil ⟨[], H, I, .nil, h⟩
theorem pa_cons (ha : PE X e te) (hr : PA X es t) (hs : starEach (e :: es) X.env = (false, eval e X.env) :: starEach es X.env := by rfl) : PA X (e :: es) (tCons te t) := by
  intro pos pins s σ H Q I h
  rw [hs]
  show wpAny _ _ (spliced ((false, eval e X.env) :: backTo pos (starEach es X.env))) _ _ s
  refine Calls.spliced_cons (thn (ha pins s σ H _ I h) fun u s1 ⟨x, H1, I1, r1, q1⟩ => ?_)
  exact thn (hr pos pins s1 σ H1 _ I1 q1) fun us s2 ⟨xs, H2, I2, r2, q2⟩ => ⟨x :: xs, H2, I2, .cons r1 r2, q2⟩

noncomputable def tTup (t : TA) : TE := fun σ H Q => t σ H fun xs H1 => xs.length ≤ sizeLine ∧ ∀ p, H1 p = none → Q (.ref p) (upd H1 p (.tup xs))
noncomputable def tLst (t : TA) : TE := fun σ H Q => t σ H fun xs H1 => xs.length ≤ sizeLine ∧ ∀ p, H1 p = none → Q (.ref p) (upd H1 p (.lst xs))
theorem pe_tup {x1} (h : PA X es t) : PE X (.Tuple es x1 pos) (tTup t) := by
  intro pins s σ H Q I hq
  refine wpAny_Tuple_spliced (thn (h pos pins s σ H _ I hq) fun us s1 ⟨xs, H1, I1, r, z, q⟩ => ⟨by rw [← r.length]; exact z, ?_⟩)
  have hf : H1 s1.heap.objs.size = none := I1.hok.fresh (Nat.le_refl _)
  refine ⟨.ref s1.heap.objs.size, upd H1 s1.heap.objs.size (.tup xs), I1.laid (t' := s1.toks) (fun b u e => Heap.get?_push_of_some _ e) (Nat.le_refl _) ?_, rfl, q _ hf⟩
  exact ⟨z, us, r, ⟨_, Heap.get?_push_size _ rfl, rfl, _, rfl⟩⟩
theorem pe_lst (h : PA X es t) : PE X (.List es pos) (tLst t) := by
  intro pins s σ H Q I hq
  refine wpAny_List_spliced (thn (h pos pins s σ H _ I hq) fun us s1 ⟨xs, H1, I1, r, z, q⟩ => ⟨by rw [← r.length]; exact z, ?_⟩)
  have hf : H1 s1.heap.objs.size = none := I1.hok.fresh (Nat.le_refl _)
  refine ⟨.ref s1.heap.objs.size, upd H1 s1.heap.objs.size (.lst xs), I1.laid (t' := s1.toks) (fun b u e => Heap.get?_push_of_some _ e) (Nat.le_refl _) ?_, rfl, q _ hf⟩
  exact ⟨z, us, 0, r, Heap.get?_push_size _ rfl⟩
end

noncomputable abbrev Sp := List V → Hp → VK → XK → Prop
noncomputable abbrev CXT := List Env → Hp → Shared → XK → Value → Shared → Prop

structure Env0 (P : Program) (w : World) (K : PySem.W.Frag) (mg : Str → Option Value) (base : Heap) (A : Around) (outer : List Env) (s : Shared) (H : Hp) : Prop where
  frames : A.frames = some outer
  mod : Mod K mg base
  bs : ∀ b o, base.get? b = some o → s.heap.get? b = some o ∧ H b = none
  bsz : base.objs.size ≤ s.heap.objs.size
  funs : s.heap.FunFrames base outer
  frf : ∀ b ∈ frs outer, H b = none
  hok : HOk P w H s.heap
  bare : AllBare s.gens
noncomputable def CE (outer : List Env) (P : Program) (w : World) (H : Hp) (s : Shared) (Q : VK) (u : Value) (s' : Shared) : Prop :=
  ∃ v H', s'.os = s.os ∧ AllBare s'.gens ∧ Un (frs outer) [] H H' s.heap s'.heap ∧ HOk P w H' s'.heap ∧ RelV v u ∧ Q v H'
noncomputable def CR (CX : CXT) (outer : List Env) (P : Program) (w : World) (H : Hp) (s : Shared) (Q : VK) (E : XK) (r : Result) (s' : Shared) : Prop :=
  match r with
  | .ok (.ret u) => CE outer P w H s Q u s'
  | .ok _ => False
  | .error e => CX outer H s E e s'
structure FnOk (P : Program) (w : World) (K : PySem.W.Frag) (mg : Str → Option Value) (base : Heap) (CX : CXT) (k : Nat) (f : Addr) (fd : FuncData) (ps : List Str) (sp : Sp) : Prop where
  len : ∀ vs H Q E, sp vs H Q E → vs.length = ps.length
  run : ∀ (A : Around) (outer : List Env) (s : Shared) (H : Hp) (args : Args) (us : List Value) (vs : List V) (Q : VK) (E : XK), Room k A → Env0 P w K mg base A outer s H → BindsTo s fd args (ps.zip us) → Vals vs us → sp vs H Q E →
    codeAny (model P w) A (.call (.ref f) args) (CR CX outer P w H s Q E) s
theorem FnOk.mono {P : Program} {w : World} {K : PySem.W.Frag} {mg : Str → Option Value} {base : Heap} {CX : CXT} {j k : Nat} {f : Addr} {fd : FuncData} {ps : List Str} {sp : Sp} (F : FnOk P w K mg base CX j f fd ps sp) (h : j ≤ k) :
    FnOk P w K mg base CX k f fd ps sp := ⟨F.len, fun A outer s H args us vs Q E hr => F.run A outer s H args us vs Q E (hr.mono h)⟩
theorem FnOk.imp {P : Program} {w : World} {K : PySem.W.Frag} {mg : Str → Option Value} {base : Heap} {CX : CXT} {k : Nat} {f : Addr} {fd : FuncData} {ps : List Str} {sp sp' : Sp} (F : FnOk P w K mg base CX k f fd ps sp)
    (h : ∀ vs H Q E, sp' vs H Q E → sp vs H Q E) : FnOk P w K mg base CX k f fd ps sp' :=
  ⟨fun vs H Q E q => F.len vs H Q E (h _ _ _ _ q), fun A outer s H args us vs Q E hr he hb hv hs => F.run A outer s H args us vs Q E hr he hb hv (h _ _ _ _ hs)⟩

section
variable {X : Cx} {pins : List (Addr × Obj)} {σ : St} {H : Hp} {s s' : Shared}
theorem Inv.env0 (I : Inv X pins σ H s) : Env0 X.prog X.w X.K X.mg X.base X.A X.stack s H :=
  ⟨I.ok.frames, I.ok.mod, I.bs, Nat.le_trans I.ok.bsz I.sz, I.stack, I.stkFree, I.hok, I.bare⟩
theorem Inv.after {Q : VK} {u : Value} (I : Inv X pins σ H s) (h : CE X.stack X.prog X.w H s Q u s') : EP X pins σ Q u s' := by
  obtain ⟨v, H', os, bare, un, hok, r, q⟩ := h
  obtain ⟨hh, g, d, t, os'⟩ := s'
  obtain rfl : os' = s.os := os
  exact ⟨v, H', I.call (h' := hh) (g' := g) (d' := d) (t' := t) (ch := []) un hok bare (fun b z => absurd z (by simp)), r, q⟩
end

noncomputable def tCall (sp : Sp) (dvs : List V) (E : XK) (t : TA) : TE := fun σ H Q => t σ H fun vs H1 => sp (vs ++ dvs) H1 Q E
noncomputable def Binds (K : PySem.W.Frag) (fd : FuncData) (ps : List Str) (ds : List Value) : Prop :=
  ∀ (s : Shared) (us : List Value), K.In s.heap → (us ++ ds).length = ps.length → BindsTo s fd ⟨us, []⟩ (ps.zip (us ++ ds))
theorem Binds.all {K : PySem.W.Frag} {fd : FuncData} {ps : List Str} (h : ∀ us : List Value, us.length = ps.length → bindArgs fd ⟨us, []⟩ = pure (ps.zip us)) : Binds K fd ps [] := fun s us _ hl => by
  rw [List.append_nil] at hl ⊢
  exact .of_eq (h us hl)

noncomputable def Passes (CX : CXT) (X : Cx) (E : XK) : Prop := ∀ (pins : List (Addr × Obj)) (σ : St) (H : Hp) (s : Shared) (e : Value) (s' : Shared), Inv X pins σ H s → CX X.stack H s E e s' → X.xe e s'

section
variable {X : Cx} {CX : CXT} {k : Nat} {f C : Addr} {fd : FuncData} {ps : List Str} {sp : Sp} {dvs : List V} {ds : List Value} {E : XK} {x m : Str} {p pos apos : Pos} {e o : Expr} {es : List Expr} {ta : TE} {t : TA}

theorem run_fn {pins : List (Addr × Obj)} {σ : St} {H : Hp} {s : Shared} {Q : VK} {us : List Value} {vs : List V} (F : FnOk X.prog X.w X.K X.mg X.base CX k f fd ps sp) (hr : Room k X.A) (hb : Binds X.K fd ps ds) (hd : Vals dvs ds) (hx : Passes CX X E)
    (I : Inv X pins σ H s) (r : Vals vs us) (h : sp (vs ++ dvs) H Q E) : wpAny (model X.prog X.w) X.A (call (.ref f) us) (EP X pins σ Q) X.xe s := by
  have r2 : Vals (vs ++ dvs) (us ++ ds) := r.append hd
  have hl : (us ++ ds).length = ps.length := by rw [← r2.length]; exact F.len _ _ _ _ h
  refine wpAny_call (codeAny_mono (F.run X.A X.stack s H ⟨us, []⟩ (us ++ ds) (vs ++ dvs) Q E hr I.env0 (hb s us I.kIn hl) r2 h) fun r s' hq => ?_)
  cases r with
  | error e => exact hx pins σ H s e s' I hq
  | ok fl =>
    cases fl with
    | ret u => exact I.after hq
    | next => exact False.elim hq
    | brk => exact False.elim hq
    | cont => exact False.elim hq

theorem pe_call (F : FnOk X.prog X.w X.K X.mg X.base CX k f fd ps sp) (hr : Room k X.A) (hg : Gl X x) (hm : X.mg x = some (.ref f)) (hk : PySem.W.keepIn X.K (.ref f) = true) (hb : Binds X.K fd ps ds) (hd : Vals dvs ds) (hx : Passes CX X E)
    (ha : PA X (e :: es) t) (hdb : (x == ("__debug__" : Str)) = false := by decide) (he : starEach (e :: es) X.env = (false, eval e X.env) :: starEach es X.env := by rfl) (hpl : (backTo pos (starEach es X.env)).any (·.1) = false := by rfl) :
    PE X (.Call (.Name x p) (e :: es) [] pos) (tCall sp dvs E t) := by
  intro pins s σ H Q I h
  refine wpAny_Call_Name_kw (ld_glob I hg hm ?_ hdb)
  refine PySem.W.callWith_K (h₀ := X.base) I.ok.mod.kin hk (thn (ha pos pins s σ H _ I h) fun us s1 ⟨vs, H1, I1, r, q⟩ => ⟨I1.kIn, ?_⟩) he hpl
  exact run_fn F hr hb hd hx I1 r q
end

section
variable {X : Cx} {CX : CXT} {k : Nat} {f C : Addr} {fd : FuncData} {ps ks : List Str} {sp : Sp} {E : XK} {x m : Str} {p pos apos kpos : Pos} {e o : Expr} {es : List Expr} {kws : List Keyword} {te ta : TE} {t tk : TA} {nm : Option Str}
variable {g : List Value → List Value → List Value} {gV : List V → List V → List V}
end

structure FnScope (N P : List Str) (sc : Scope) : Prop where
  kind : sc.kind = .function
  co : sc.isCoroutine = false
  gen : sc.isGenerator = false
  nd : N.Nodup
  pre : N.take P.length = P
  par : ∀ x ∈ P, sc.names.lookup x = some .local ∨ sc.names.lookup x = some .cell
  nofree : ∀ y ∈ sc.names, y.2 ≠ .free

theorem bindL_out {kindOf : Str → Option NameKind} {x : Str} : ∀ {binds : List (Str × Value)} {m : Str → Option Value}, (∀ v, (x, v) ∉ binds) → bindL kindOf binds m x = m x
  | [], _, _ => rfl
  | (n, v) :: r, m, h => by
    unfold bindL
    rw [bindL_out fun w hw => h w (List.mem_cons_of_mem _ hw)]
    split
    · have : x ≠ n := by rintro rfl; exact h v List.mem_cons_self
      simp [this]
    · rfl
theorem bindC_out {kindOf : Str → Option NameKind} {x : Str} : ∀ {binds : List (Str × Value)} {m : Str → Option Value}, (∀ v, (x, v) ∉ binds) → bindC kindOf binds m x = m x
  | [], _, _ => rfl
  | (n, v) :: r, m, h => by
    unfold bindC
    rw [bindC_out fun w hw => h w (List.mem_cons_of_mem _ hw)]
    split
    · rfl
    · have : x ≠ n := by rintro rfl; exact h v List.mem_cons_self
      simp [this]
theorem bindL_get {kindOf : Str → Option NameKind} {x : Str} {v : Value} : ∀ {P : List Str} {vs : List Value} {i : Nat} {m : Str → Option Value}, P.Nodup → P[i]? = some x → vs[i]? = some v → kindOf x = some .local →
    bindL kindOf (P.zip vs) m x = some v
  | [], _, _, _, _, h, _, _ => by simp at h
  | _ :: _, [], _, _, _, _, h, _ => by simp at h
  | p :: P, w :: vs, 0, m, nd, h1, h2, hk => by
    simp at h1 h2; subst h1; subst h2
    show bindL kindOf ((p, w) :: P.zip vs) m p = _
    unfold bindL
    rw [bindL_out fun v hv => (List.nodup_cons.mp nd).1 (List.of_mem_zip hv).1, if_pos hk]
    simp
  | p :: P, w :: vs, i + 1, m, nd, h1, h2, hk => by
    show bindL kindOf ((p, w) :: P.zip vs) m x = _
    unfold bindL
    exact bindL_get (i := i) (List.nodup_cons.mp nd).2 (by simpa using h1) (by simpa using h2) hk
theorem bindC_get {kindOf : Str → Option NameKind} {x : Str} {v : Value} : ∀ {P : List Str} {vs : List Value} {i : Nat} {m : Str → Option Value}, P.Nodup → P[i]? = some x → vs[i]? = some v → kindOf x ≠ some .local →
    bindC kindOf (P.zip vs) m x = some v
  | [], _, _, _, _, h, _, _ => by simp at h
  | _ :: _, [], _, _, _, _, h, _ => by simp at h
  | p :: P, w :: vs, 0, m, nd, h1, h2, hk => by
    simp at h1 h2; subst h1; subst h2
    show bindC kindOf ((p, w) :: P.zip vs) m p = _
    unfold bindC
    rw [bindC_out fun v hv => (List.nodup_cons.mp nd).1 (List.of_mem_zip hv).1, if_neg hk]
    simp
  | p :: P, w :: vs, i + 1, m, nd, h1, h2, hk => by
    show bindC kindOf ((p, w) :: P.zip vs) m x = _
    unfold bindC
    exact bindC_get (i := i) (List.nodup_cons.mp nd).2 (by simpa using h1) (by simpa using h2) hk

noncomputable def start (N : List Str) (vs : List V) : St := vs.map some ++ List.replicate (N.length - vs.length) none

noncomputable def cxOf (CX : CXT) (P : Program) (w : World) (K : PySem.W.Frag) (mg : Str → Option Value) (base : Heap) (N : List Str) (qual : Str) (scope : Scope) (f : Addr) (cd : Value) (A : Around) (outer : List Env) (s : Shared) (H : Hp) (E : XK) : Cx where
  prog := P
  w := w
  K := K
  mg := mg
  base := base
  A := A.deeper (envOfC qual scope s.heap.objs.size f cd)
  N := N
  s₀ := s
  H₀ := H
  env := envOfC qual scope s.heap.objs.size f cd
  outer := outer
  stack := envOfC qual scope s.heap.objs.size f cd :: outer
  ex := []
  calm := true
  fn := fun _ => true
  pn := []
  xe := fun e s' => wpAny (model P w) (A.deeper (envOfC qual scope s.heap.objs.size f cd)) (leaving (envOfC qual scope s.heap.objs.size f cd) e) (fun _ s'' => CX outer H s E e s'') (fun e' s'' => CX outer H s E e' s'') s'

theorem cell_has {sc : Scope} {n : Nat} {x : Str} (h : sc.names.lookup x = some .cell) : ∃ c, (cellsFrom n sc.names []).lookup x = some c := by
  have q := PySem.W.cellsFrom_some sc.names n [] (.inl h)
  exact Option.isSome_iff_exists.mp q

theorem inv_start {CX : CXT} {P : Program} {w : World} {K : PySem.W.Frag} {mg : Str → Option Value} {base : Heap} {N ps : List Str} {qual : Str} {scope : Scope} {f : Addr} {cd : Value} {A : Around} {outer : List Env} {s s1 : Shared} {H : Hp} {E : XK} {us : List Value} {vs : List V}
    (S : FnScope N ps scope) (hd : A.handled = none) (e0 : Env0 P w K mg base A outer s H) (hl : vs.length = ps.length) (r : Vals vs us)
    (x : InCallC s s.heap.objs.size (bindL (envOfC qual scope s.heap.objs.size f cd).kindOf (ps.zip us) fun _ => none) (cellsFrom (s.heap.objs.size + 1) scope.names []) (bindC (envOfC qual scope s.heap.objs.size f cd).kindOf (ps.zip us) fun _ => none) s1) :
    Inv (cxOf CX P w K mg base N qual scope f cd A outer s H E) [] (start N vs) H s1 := by
  have hpl : ps.length ≤ N.length := by have := congrArg List.length S.pre; rw [List.length_take] at this; omega
  obtain ⟨h1, tk, rfl, hk⟩ := x.done
  have noA : ∀ b : Addr, b ∉ (cxOf CX P w K mg base N qual scope f cd A outer s H E).ex := fun b z => absurd (show b ∈ ([] : List Addr) from z) (by simp)
  refine ⟨⟨e0.mod, S.kind, rfl, rfl, Nat.le_refl _, fun y z c h1 h2 => ?_, fun y hy => ?_, fun y c _ h => ?_, fun _ => hd, Around.frames_deeper e0.frames, .inr ⟨rfl, rfl⟩, fun b z => absurd z (noA b), e0.bs, e0.bsz, fun b _ _ => noA b, fun b z => absurd z (noA b), e0.funs, e0.frf⟩,
    rfl, e0.bare, Un.kept hk, ⟨_, x.toInCall.ns, fun i y v h1 h2 h3 => ?_⟩, fun y c h => ⟨_, x.cell y c h⟩, e0.hok.fresh (Nat.le_refl _), fun y c h => ?_, fun p hp => absurd (show p ∈ ([] : List (Addr × Obj)) from hp) (by simp), e0.hok.kept hk, ?_⟩
  · exact name_of_addr x.apart (PySem.mem_of_lookup h1) (PySem.mem_of_lookup h2)
  · have hy : scope.names.lookup y = some .cell ∨ scope.names.lookup y = some .free := hy
    rcases hy with hy | hy
    · exact cell_has hy
    · exact absurd rfl (S.nofree _ (PySem.mem_of_lookup hy))
  · exact Nat.le_of_lt (x.above y c (PySem.mem_of_lookup h))
  · have hi : i < vs.length := by
      unfold start at h2
      by_cases hi : i < vs.length
      · exact hi
      · rw [List.getElem?_append_right (by simpa using hi)] at h2
        rw [List.getElem?_replicate] at h2
        split at h2 <;> cases h2
    have ha : vs[i]? = some v := by
      unfold start at h2
      rw [List.getElem?_append_left (by simpa using hi), List.getElem?_map] at h2
      cases e : vs[i]? with
      | none => rw [e] at h2; cases h2
      | some a => rw [e] at h2; cases h2; rfl
    obtain ⟨u, hu, rv⟩ := r.get ha
    have hp : ps[i]? = some y := by
      rw [← S.pre, List.getElem?_take_of_lt (by omega)]; exact h1
    have ndP : ps.Nodup := by rw [← S.pre]; exact S.nd.sublist (List.take_sublist _ _)
    refine ⟨u, rv, ?_⟩
    rcases S.par y (List.mem_of_getElem? hp) with k | k
    · exact .inl ⟨k, bindL_get ndP hp hu k⟩
    · obtain ⟨c, e⟩ := cell_has (n := s.heap.objs.size + 1) k
      refine .inr ⟨.inl k, c, e, ?_⟩
      have q := x.cell y c e
      rw [bindC_get ndP hp hu (by show scope.names.lookup y ≠ _; rw [k]; decide)] at q
      exact q
  · exact e0.hok.fresh (Nat.le_of_lt (x.above y c (PySem.mem_of_lookup h)))
  · unfold start
    show _ = N.length
    rw [List.length_append, List.length_map, List.length_replicate]
    omega

theorem fn_of {CX : CXT} {P : Program} {w : World} {K : PySem.W.Frag} {mg : Str → Option Value} {base : Heap} {k : Nat} {f : Addr} {name qual : Str} {params : Arguments} {body : List Stmt} {scope : Scope} {dV kV doc pm cdv ct oc : Value} {an od : Option Addr}
    {osl : Array (Option Value)} {N ps : List Str} {sp : Sp} (lk : K.lookup f = some ⟨oc, od, .func (PySem.W.fnOf name qual params body scope dV kV doc pm an cdv ct), osl⟩) (hcd : PySem.W.codeIn K cdv qual = true) (S : FnScope N ps scope)
    (len : ∀ vs H Q E, sp vs H Q E → vs.length = ps.length)
    (hbody : ∀ (A : Around) (outer : List Env) (s : Shared) (H : Hp) (vs : List V) (Q : VK) (E : XK), Room k (A.deeper (envOfC qual scope s.heap.objs.size f cdv)) → sp vs H Q E →
      ∃ t, PSs (cxOf CX P w K mg base N qual scope f cdv A outer s H E) body t ∧ t { nx := fun _ H' => Q .non H', rt := Q } (start N vs) H) :
    FnOk P w K mg base CX (k + 1) f (PySem.W.fnOf name qual params body scope dV kV doc pm an cdv ct) ps sp := by
  refine ⟨len, fun A outer s H args us vs Q E hr e0 hb r hsp => ?_⟩
  have hl := len _ _ _ _ hsp
  have KX : K.In s.heap := e0.mod.kin.keeps fun b o e => (e0.bs b o e).1
  have lim : s.heap.NoLimit := e0.mod.nolimit.keeps fun b o e => (e0.bs b o e).1
  have hkind : ∀ y ∈ ps.zip us, scope.names.lookup y.1 = some .local ∨ (scope.names.lookup y.1 = some .cell ∧ ((cellsFrom (s.heap.objs.size + 1) scope.names []).lookup y.1).isSome = true) := fun ⟨n, v⟩ hy => by
    rcases S.par n (List.of_mem_zip hy).1 with q | q
    · exact .inl q
    · exact .inr ⟨q, PySem.W.cellsFrom_some _ _ _ (.inl q)⟩
  refine codeAny_call_function hr.depth (KX _ _ lk) rfl S.co S.gen rfl (PySem.W.codeRec_of KX hcd) (hb _ _ _ _ ?_)
  refine wpAny_newFunctionEnv_cells S.kind hkind fun env he s1 x => ?_
  subst he
  refine ⟨lim.keeps x.toInCall.keep, codeAny_func ?_⟩
  obtain ⟨t, ht, hq⟩ := hbody A outer s H vs Q E (hr.deeper _) hsp
  have I : Inv (cxOf CX P w K mg base N qual scope f cdv A outer s H E) [] (start N vs) H s1 := inv_start S hr.hd e0 hl r x
  refine wpAny_mono (ht [] s1 (start N vs) H _ I hq) (fun fl s' hs => ?_) fun e s' hs => hs
  have fin : ∀ {σ' : St} {H' : Hp} {v : V} {u : Value}, Inv (cxOf CX P w K mg base N qual scope f cdv A outer s H E) [] σ' H' s' → RelV v u → Q v H' → CE outer P w H s Q u s' :=
    fun {σ' H' v u} J rv q => ⟨v, H', J.os, J.bare, J.base, J.hok, rv, q⟩
  cases fl with
  | ret u =>
    obtain ⟨v, σ', H', J, rv, q⟩ := hs
    exact fin J rv q
  | next =>
    obtain ⟨σ', H', J, q⟩ := hs
    exact fin (v := V.non) (u := Value.none) J rfl q
  | brk =>
    obtain ⟨_, _, _, q⟩ := hs
    exact False.elim q
  | cont =>
    obtain ⟨_, _, _, q⟩ := hs
    exact False.elim q
end L2

namespace L2
open PySem PySem.Spec PyProof.Rows
section
variable {X : Cx} {x : Str} {p pos : Pos} {e : Expr} {es : List Expr} {t : TA} {id T : String} {r : List V → Hp → VK → Prop}

noncomputable def tCB (r : List V → Hp → VK → Prop) (t : TA) : TE := fun σ H Q => t σ H fun vs H1 => r vs H1 Q
theorem pe_callB (hc : CallR X (.builtin id) r) (hg : Gl X x) (hm : X.mg x = none) (hv : bootBuiltins x = some (.builtin id)) (ha : PA X (e :: es) t) (hn : x ≠ "__name__" := by decide) (hdb : (x == ("__debug__" : Str)) = false := by decide)
    (he : starEach (e :: es) X.env = (false, eval e X.env) :: starEach es X.env := by rfl) (hpl : (backTo pos (starEach es X.env)).any (·.1) = false := by rfl) : PE X (.Call (.Name x p) (e :: es) [] pos) (tCB r t) := by
  intro pins s σ H Q I h
  refine wpAny_Call_Name_kw (ld_blt I hg hm hv ?_ hn hdb)
  exact PyProof.Rows.callWith_builtin1 (thn (ha pos pins s σ H _ I h) fun us s1 ⟨vs, H1, I1, r1, q1⟩ => hc pins s1 σ H1 vs us Q I1 r1 q1) he hpl
theorem pe_callTy (hc : CallR X (.type T) r) (hg : Gl X x) (hm : X.mg x = none) (hv : bootBuiltins x = some (.type T)) (ha : PA X (e :: es) t) (hn : x ≠ "__name__" := by decide) (hdb : (x == ("__debug__" : Str)) = false := by decide)
    (he : starEach (e :: es) X.env = (false, eval e X.env) :: starEach es X.env := by rfl) (hpl : (backTo pos (starEach es X.env)).any (·.1) = false := by rfl) : PE X (.Call (.Name x p) (e :: es) [] pos) (tCB r t) := by
  intro pins s σ H Q I h
  refine wpAny_Call_Name_kw (ld_blt I hg hm hv ?_ hn hdb)
  exact PyProof.Rows.callWith_type1 (thn (ha pos pins s σ H _ I h) fun us s1 ⟨vs, H1, I1, r1, q1⟩ => hc pins s1 σ H1 vs us Q I1 r1 q1) he hpl
end
end L2

namespace HT
open PySem PyProof.Rows

section
open PySem.SeqAt
open PySem.AutoSeq1 (wpAny_loadPart')
open PySem.MeetsSeq PySem.MeetsSeq2 PySem.MeetsSeq3

end

section
variable {prog : Program} {w : World} {A : Around} {E : Value → Shared → Prop} {s : Shared}

theorem cat_tup {t b : Addr} {vs ws : List Value} {Q : Value → Shared → Prop} (ht : IsTup s.heap t vs.toArray) (hb : IsTup s.heap b ws.toArray) (hv : vs ≠ [])
    (h1 : ws = [] → Q (.ref t) s) (h2 : ws ≠ [] → Q (.ref s.heap.objs.size) { s with heap := s.heap.push { cls := .type "tuple", data := .seq (vs ++ ws).toArray } })
    (hsz : vs.length + ws.length ≤ sizeLine) : wpAny (model prog w) A (binaryOp .Add (.ref t) (.ref b)) Q E s := by
  obtain ⟨⟨cls, dd, data, sl⟩, ho, hc, n, hd⟩ := id ht
  obtain ⟨⟨cls2, dd2, data2, sl2⟩, ho2, hc2, n2, hd2⟩ := id hb
  simp only at hc hd hc2 hd2
  subst hc hd hc2 hd2
  have e : vs.toArray ++ ws.toArray = (vs ++ ws).toArray := by simp
  by_cases hw : ws = []
  · exact concat_meets ⟨_, ho, rfl⟩ ⟨_, ho2, rfl⟩ noFill_tuple_add seq_tuple_add PySem.F.slot_tuple_add PySem.F.entry_tuple_add (PySem.F.args_tuple_add_2 _ _)
      (tuple_addW1 t b vs.toArray ws.toArray n n2 dd dd2 sl sl2 (by simpa using hv) (by simp [hw])) ⟨ho, ho2, h1 hw⟩
  · refine concat_meets ⟨_, ho, rfl⟩ ⟨_, ho2, rfl⟩ noFill_tuple_add seq_tuple_add PySem.F.slot_tuple_add PySem.F.entry_tuple_add (PySem.F.args_tuple_add_2 _ _)
      (tuple_addW2 t b vs.toArray ws.toArray n n2 dd dd2 sl sl2 (by simpa using hv) (by simpa using hw) (by rw [List.size_toArray, List.size_toArray]; exact hsz)) ⟨ho, ho2, ?_⟩
    rw [e]
    exact h2 hw

noncomputable def sIx (n d : Nat) : Option Int → Nat
  | none => d
  | some v => if v < 0 then (v + (n : Int)).toNat else min v.toNat n
theorem sIx_none (n d : Nat) : sIx n d none = d := rfl
theorem sIx_nat (n d k : Nat) : sIx n d (some (k : Int)) = min k n := by
  show (if (k : Int) < 0 then ((k : Int) + (n : Int)).toNat else min (k : Int).toNat n) = min k n
  rw [if_neg (by omega), Int.toNat_natCast]
theorem sIx_le (n d : Nat) (hd : d ≤ n) (o : Option Int) : sIx n d o ≤ n := by
  cases o with
  | none => exact hd
  | some v =>
    show (if v < 0 then (v + (n : Int)).toNat else min v.toNat n) ≤ n
    by_cases hv : v < 0
    · rw [if_pos hv]; omega
    · rw [if_neg hv]; exact Nat.min_le_right _ _
theorem clip_eq (v : Int) (n d : Nat) : (if v < 0 then max (v + (n : Int)) 0 else min v (n : Int)) = ((sIx n d (some v) : Nat) : Int) := by
  show (if v < 0 then max (v + (n : Int)) 0 else min v (n : Int)) = (((if v < 0 then (v + (n : Int)).toNat else min v.toNat n) : Nat) : Int)
  by_cases hv : v < 0
  · simp only [if_pos hv]; omega
  · simp only [if_neg hv]; omega
theorem adjust_gen (lo hi : Option Int) (n : Nat) : Builtin.Slice.sliceAdjust lo hi 1 (n : Int) = (((sIx n 0 lo : Nat) : Int), ((sIx n n hi : Nat) : Int)) := by
  have h1 : ¬ ((1 : Int) < 0) := by omega
  unfold Builtin.Slice.sliceAdjust
  simp only [h1, if_false]
  refine Prod.ext ?_ ?_
  · cases lo with
    | none => rfl
    | some v => exact clip_eq v n 0
  · cases hi with
    | none => rfl
    | some v => exact clip_eq v n n
theorem places_gen (i j : Nat) : Builtin.Slice.slicePlaces (i : Int) (j : Int) 1 = j - i := by
  unfold Builtin.Slice.slicePlaces
  have h1 : (1 : Int) > 0 := by omega
  simp only [h1, if_true, Int.ediv_one]
  split <;> omega
theorem slicePart_ {v : Value} {o : Option Int} {Q : Option Int → Shared → Prop} (p : IsPart v o) (h : Q o s) : wpAny (model prog w) A (Builtin.Slice.slicePartIndex v) Q E s := by
  cases p with
  | none => exact slicePart_none h
  | int i t => exact slicePart_int h
theorem sliceApplied_gen {sl : Addr} {vl vu : Value} {lo hi : Option Int} {n : Nat} {Q : Int × Int × Nat → Shared → Prop} (hs : s.heap.IsSliceOf sl vl vu .none) (pl : IsPart vl lo) (pu : IsPart vu hi)
    (h : Q (((sIx n 0 lo : Nat) : Int), 1, sIx n n hi - sIx n 0 lo) s) : wpAny (model prog w) A (Builtin.Slice.sliceApplied (.ref sl) (pure (n : Int))) Q E s := by
  obtain ⟨os, hos, hcs, hds⟩ := id hs
  unfold Builtin.Slice.sliceApplied Builtin.Slice.sliceFields
  refine wpAny_bind (wpAny_bind (wpAny_field hos hds (x := vl) rfl (wpAny_bind (wpAny_field hos hds (x := vu) rfl (wpAny_bind (wpAny_field hos hds (x := .none) rfl (wpAny_pure ?_)))))))
  refine wpAny_bind (slicePart_none ?_)
  show wpAny _ _ (if ((1 : Int) == 0) = true then _ else _) _ _ s
  rw [if_neg (by decide)]
  refine wpAny_bind (slicePart_ pl (wpAny_bind (slicePart_ pu (wpAny_bind (wpAny_pure ?_)))))
  show wpAny _ _ (match Builtin.Slice.sliceAdjust lo hi 1 (n : Int) with | (lo, hi) => pure (lo, (1 : Int), Builtin.Slice.slicePlaces lo hi 1)) _ _ s
  rw [adjust_gen lo hi n]
  show wpAny _ _ (pure (((sIx n 0 lo : Nat) : Int), (1 : Int), Builtin.Slice.slicePlaces ((sIx n 0 lo : Nat) : Int) ((sIx n n hi : Nat) : Int) 1)) _ _ s
  rw [places_gen]
  exact wpAny_pure h
theorem pick_gen (xs : Array Value) (i k : Nat) : ((List.range k).filterMap fun (m : Nat) => xs[((i : Int) + (m : Int) * 1).toNat]?).toArray = ((xs.toList.drop i).take k).toArray := by
  have e : (fun (m : Nat) => xs[((i : Int) + (m : Int) * 1).toNat]?) = fun m => xs[i + m]? := by
    funext m
    have : ((i : Int) + (m : Int) * 1).toNat = i + m := by omega
    rw [this]
  rw [e]
  have := pick_run xs i k
  rw [List.filterMap_map] at this
  have e2 : ((fun x => xs[x]?) ∘ fun x => i + x) = fun m => xs[i + m]? := rfl
  rw [e2] at this
  rw [this]

theorem getItem_tuple_cut {t sl : Addr} {items : Array Value} {vl vu : Value} {lo hi : Option Int} {Q : Value → Shared → Prop} (ht : IsTup s.heap t items) (hs : s.heap.IsSliceOf sl vl vu .none) (pl : IsPart vl lo) (pu : IsPart vu hi)
    (hw : ¬ (sIx items.size 0 lo = 0 ∧ sIx items.size items.size hi = items.size))
    (h : Q (.ref s.heap.objs.size) { s with heap := s.heap.push { cls := .type "tuple", data := .seq ((items.toList.drop (sIx items.size 0 lo)).take (sIx items.size items.size hi - sIx items.size 0 lo)).toArray } })
    (hsz : items.size ≤ sizeLine) : wpAny (model prog w) A (getItem (.ref t) (.ref sl)) Q E s := by
  have htake : sizeOk (.seq ((items.toList.drop (sIx items.size 0 lo)).take (sIx items.size items.size hi - sIx items.size 0 lo)).toArray) := by
    show ((items.toList.drop (sIx items.size 0 lo)).take (sIx items.size items.size hi - sIx items.size 0 lo)).toArray.size ≤ sizeLine
    rw [List.size_toArray, List.length_take, List.length_drop, Array.length_toList]
    omega
  have hj : sIx items.size items.size hi ≤ items.size := sIx_le _ _ (Nat.le_refl _) hi
  obtain ⟨os, hos, hcs, hds⟩ := id hs
  have hTs : s.TypeIs (.ref sl) "slice" := ⟨os, hos, hcs⟩
  unfold getItem
  try with_reducible refine wpAny_holding ?_
  first | refine wpAny_bind (wpAny_pure ?_) | skip
  refine wpAny_bind (wpAny_sequenceKey ht.typeIs (by decide) ?_)
  refine wpAny_bind (wpAny_callSpecial?_slot (name := Str.ofString "__getitem__") ht.typeIs PyProof.Rows.slot_tuple_getitem
    (wpAny_call_entry PyProof.Rows.slot_tuple_getitem ht.typeIs entry_tuple_getitem ?_ (args_tuple_getitem _ _)))
  show wpAny _ _ (Builtin.Tuple.tupleItemsOf (.ref t) >>= _) _ _ s
  refine wpAny_bind (tupleItemsOf_ ht ?_)
  refine wpAny_bind (wpAny_typeOf hTs ?_)
  rw [if_pos (by decide)]
  refine wpAny_bind (sliceApplied_gen hs pl pu ?_)
  have hno : ¬ ((((sIx items.size 0 lo : Nat) : Int) == 0 && (1 : Int) == 1 && (sIx items.size items.size hi - sIx items.size 0 lo) == items.size) = true) := by
    intro q
    rw [Bool.and_eq_true, Bool.and_eq_true] at q
    have q1 : ((sIx items.size 0 lo : Nat) : Int) = 0 := eq_of_beq q.1.1
    have q2 : sIx items.size items.size hi - sIx items.size 0 lo = items.size := eq_of_beq q.2
    exact hw ⟨by omega, by omega⟩
  show wpAny _ _ (if (((sIx items.size 0 lo : Nat) : Int) == 0 && (1 : Int) == 1 && (sIx items.size items.size hi - sIx items.size 0 lo) == items.size) = true then _ else _) _ _ s
  rw [if_neg hno, pick_gen]
  first
    | exact wpAny_bind (m := Builtin.Tuple.tupleExact _) (wpAny_newObj_type (wpAny_pure ⟨_, rfl, wpAny_pure h⟩) htake)
    | exact wpAny_bind (m := Builtin.Tuple.tupleExact _) (wpAny_newObj_type (wpAny_bind (wpAny_pure (wpAny_pure ⟨_, rfl, wpAny_pure h⟩))) htake)
    | exact wpAny_bind (wpAny_bind (m := Builtin.Tuple.tupleExact _) (wpAny_newObj_type (wpAny_pure (wpAny_pure ⟨_, rfl, wpAny_pure h⟩)) htake))
    | exact wpAny_bind (wpAny_bind (m := Builtin.Tuple.tupleExact _) (wpAny_newObj_type (wpAny_pure ⟨_, rfl, wpAny_pure h⟩) htake))
end
end HT

namespace L2
open PySem PySem.Spec PyProof.Rows

noncomputable abbrev TO := St → Hp → (Option Int → Hp → Prop) → Prop
noncomputable def PO (X : Cx) (e : Option Expr) (t : TO) : Prop :=
  ∀ (pins : List (Addr × Obj)) (s : Shared) (σ : St) (H : Hp) (Q : Option Int → Hp → Prop), Inv X pins σ H s → t σ H Q →
    wpAny (model X.prog X.w) X.A (evalPart e X.env) (fun u s' => ∃ o H', Inv X pins σ H' s' ∧ IsPart u o ∧ Q o H') X.xe s
noncomputable def tNoPart : TO := fun _ H Q => Q none H
noncomputable def tPart (t : TE) : TO := fun σ H Q => t σ H fun x H1 => ∃ i, x = .int i ∧ Q (some i) H1

theorem intsAre_of {ns : List Int} : ∀ {us : List Value}, Vals (ns.map V.int) us → IntsAre us ns := by
  induction ns with
  | nil => intro us r; rw [List.map_nil] at r; cases r; exact .nil
  | cons n ns ih =>
    intro us r
    rw [List.map_cons] at r
    cases r with
    | cons r1 r2 =>
      obtain ⟨t, e⟩ := r1
      subst e
      exact .cons n t (ih r2)

section
variable {X : Cx} {e : Expr} {te : TE} {lo hi : Option Expr} {tl th : TO} {pos p2 : Pos}

theorem po_none : PO X none tNoPart := by
  intro pins s σ H Q I h
  rw [evalPart_none]
  exact wpAny_pure ⟨none, H, I, .none, h⟩
theorem po_some (h : PE X e te) : PO X (some e) (tPart te) := by
  intro pins s σ H Q I hw
  rw [evalPart_some]
  refine thn (h pins s σ H _ I hw) fun u s1 ⟨x, H1, I1, r1, q1⟩ => ?_
  obtain ⟨i, rfl, q⟩ := q1
  obtain ⟨t, rfl⟩ := r1
  exact ⟨some i, H1, I1, .int i t, q⟩

noncomputable def SlR (X : Cx) (r : V → Option Int → Option Int → Hp → VK → Prop) : Prop :=
  ∀ (pins : List (Addr × Obj)) (s : Shared) (σ : St) (H : Hp) (x : V) (v vl vu : Value) (lo hi : Option Int) (sl : Addr) (Q : VK), Inv X pins σ H s → RelV x v → s.heap.IsSliceOf sl vl vu .none → IsPart vl lo → IsPart vu hi → r x lo hi H Q →
    ∃ T id, typeLookup (.type T) "__getitem__" = pure (some (.builtin id)) ∧ s.TypeIs v T ∧ wpAny (model X.prog X.w) X.A (getItem v (.ref sl)) (EP X pins σ Q) X.xe s
noncomputable def tSl (r : V → Option Int → Option Int → Hp → VK → Prop) (te : TE) (tl th : TO) : TE := fun σ H Q => te σ H fun x H1 => tl σ H1 fun l H2 => th σ H2 fun u H3 => r x l u H3 Q
theorem pe_slice {r : V → Option Int → Option Int → Hp → VK → Prop} (hr : SlR X r) (he : PE X e te) (hl : PO X lo tl) (hu : PO X hi th) : PE X (.Subscript e (.Slice lo hi none p2) pos) (tSl r te tl th) := by
  intro pins s σ H Q I h
  refine Subscript_ (thn (he pins s σ H _ I h) fun v s1 ⟨x, H1, I1, r1, q1⟩ => ?_)
  refine wpAny_Slice (thn (hl pins s1 σ H1 _ I1 q1) fun vl s2 ⟨l, H2, I2, pl, q2⟩ => thn (hu pins s2 σ H2 _ I2 q2) fun vu s3 ⟨u, H3, I3, pu, q3⟩ => ?_)
  rw [evalPart_none]
  refine wpAny_pure ?_
  have I4 : Inv X pins σ H3 { s3 with heap := s3.heap.push { cls := .type "slice", data := .fields #[vl, vu, .none] } } := I3.kept (t' := s3.toks) fun b ob q => Heap.get?_push_of_some _ q
  obtain ⟨T, id, hT, ht, hg⟩ := hr pins { s3 with heap := s3.heap.push { cls := .type "slice", data := .fields #[vl, vu, .none] } } σ H3 x v vl vu l u s3.heap.objs.size Q I4 r1 (Heap.IsSliceOf.new ..) pl pu q3
  show wpAny (model X.prog X.w) X.A (subscriptTail e (.Slice lo hi none p2) v (.ref s3.heap.objs.size)) (EP X pins σ Q) X.xe { s3 with heap := s3.heap.push { cls := .type "slice", data := .fields #[vl, vu, .none] } }
  exact tail_any (ops := [.ref s3.heap.objs.size, v]) ht hT hg (by with_unfolding_all rfl)

noncomputable def cutV (xs : List V) (lo hi : Option Int) : List V := (xs.drop (HT.sIx xs.length 0 lo)).take (HT.sIx xs.length xs.length hi - HT.sIx xs.length 0 lo)
theorem cutV_length (xs : List V) (lo hi : Option Int) : (cutV xs lo hi).length ≤ xs.length := by
  unfold cutV
  rw [List.length_take, List.length_drop]
  omega
noncomputable def rSlT (K : PySem.W.Frag) : V → Option Int → Option Int → Hp → VK → Prop := fun x lo hi H Q => ∃ a xs, x = .ref a ∧ SqT K H a xs ∧
  ¬ (HT.sIx xs.length 0 lo = 0 ∧ HT.sIx xs.length xs.length hi = xs.length) ∧ ∀ p, H p = none → Q (.ref p) (upd H p (.tup (cutV xs lo hi)))
theorem sl_tup : SlR X (rSlT X.K) := by
  intro pins s σ H x v vl vu lo hi sl Q I rx hs pl pu h
  obtain ⟨a, xs, rfl, hx, hw, q⟩ := h
  cases rx
  obtain ⟨its, r, ht, hz⟩ := I.tuple hx
  have hlen : its.toArray.size = xs.length := by rw [List.size_toArray]; exact r.length.symm
  refine ⟨"tuple", _, PyProof.Rows.slot_tuple_getitem.lookup, ht.typeIs, ?_⟩
  refine HT.getItem_tuple_cut ht hs pl pu (by rw [hlen]; exact hw) ?_ (by rw [hlen]; exact hz)
  rw [hlen]
  refine ⟨.ref s.heap.objs.size, _, I.laid (t' := s.toks) (o := .tup (cutV xs lo hi)) (fun b ob q => Heap.get?_push_of_some _ q) (Nat.le_refl _) ?_, rfl, q _ (I.hok.fresh (Nat.le_refl _))⟩
  exact ⟨Nat.le_trans (cutV_length xs lo hi) hz, _, (r.drop (HT.sIx xs.length 0 lo)).take (HT.sIx xs.length xs.length hi - HT.sIx xs.length 0 lo), IsTup.new _ _⟩

noncomputable def rCatT (K : PySem.W.Frag) : R2 := fun x y H Q => ∃ a b xs ys, x = .ref a ∧ y = .ref b ∧ SqT K H a xs ∧ SqT K H b ys ∧ xs ≠ [] ∧ xs.length + ys.length ≤ sizeLine ∧
  (ys = [] → Q (.ref a) H) ∧ (ys ≠ [] → ∀ p, H p = none → Q (.ref p) (upd H p (.tup (xs ++ ys))))
theorem Vals.nil_iff {xs : List V} {us : List Value} (r : Vals xs us) : us = [] ↔ xs = [] := by
  cases r with
  | nil => simp
  | cons _ _ => simp
theorem op_catT : OpR X (binaryOp .Add) (rCatT X.K) := by
  intro pins s σ H x y v u Q I rx ry h
  obtain ⟨a, b, xs, ys, rfl, rfl, ha, hb, hx, hz, q1, q2⟩ := h
  cases rx
  cases ry
  obtain ⟨its, r1, p1, _⟩ := I.tuple ha
  obtain ⟨its2, r2, p2, _⟩ := I.tuple hb
  refine HT.cat_tup p1 p2 (fun z => hx (r1.nil_iff.mp z)) (fun z => ⟨.ref a, H, I, rfl, q1 (r2.nil_iff.mp z)⟩) (fun z => ?_) (by rw [← r1.length, ← r2.length]; exact hz)
  refine ⟨.ref s.heap.objs.size, _, I.laid (t' := s.toks) (o := .tup (xs ++ ys)) (fun b ob q => Heap.get?_push_of_some _ q) (Nat.le_refl _) ?_, rfl, q2 (fun w => z (r2.nil_iff.mpr w)) _ (I.hok.fresh (Nat.le_refl _))⟩
  exact ⟨by rw [List.length_append]; exact hz, _, r1.append r2, IsTup.new _ _⟩
end
end L2

namespace L2
open PySem PySem.Spec PyProof.Rows

noncomputable def ixN (n : Nat) (i : Int) : Option Nat := if 0 ≤ i then (if i < n then some i.toNat else none) else if -(n : Int) ≤ i then some (i + n).toNat else none
noncomputable def atI {α : Type} (xs : List α) (i : Int) : Option α := (ixN xs.length i).bind fun j => xs[j]?
theorem ixN_seq {n : Nat} {i : Int} {j : Nat} (h : ixN n i = some j) : seqIndex? i n = some j ∧ j < n ∧ -(n : Int) ≤ i ∧ i < n := by
  unfold ixN at h
  by_cases h0 : 0 ≤ i
  · rw [if_pos h0] at h
    by_cases h1 : i < n
    · rw [if_pos h1] at h
      have e : i.toNat = j := Option.some.inj h
      exact ⟨by rw [seqIndex_of h0 h1, e], by omega, by omega, h1⟩
    · rw [if_neg h1] at h; cases h
  · rw [if_neg h0] at h
    by_cases h1 : -(n : Int) ≤ i
    · rw [if_pos h1] at h
      have e : (i + n).toNat = j := Option.some.inj h
      exact ⟨by rw [seqIndex_neg (by omega) h1, e], by omega, h1, by omega⟩
    · rw [if_neg h1] at h; cases h
theorem atI_get {α : Type} {xs : List α} {i : Int} {v : α} (h : atI xs i = some v) : ∃ j, seqIndex? i xs.length = some j ∧ xs[j]? = some v ∧ j < xs.length ∧ -(xs.length : Int) ≤ i ∧ i < xs.length := by
  unfold atI at h
  cases e : ixN xs.length i with
  | none => rw [e] at h; cases h
  | some j =>
    rw [e] at h
    obtain ⟨h1, h2, h3, h4⟩ := ixN_seq e
    exact ⟨j, h1, h, h2, h3, h4⟩
theorem atI_nat {α : Type} {xs : List α} {j : Nat} {v : α} (h : xs[j]? = some v) : atI xs (j : Int) = some v := by
  have hj : j < xs.length := (List.getElem?_eq_some_iff.mp h).1
  have e : ixN xs.length (j : Int) = some j := by
    unfold ixN
    rw [if_pos (by omega), if_pos (by omega)]; simp
  unfold atI; rw [e]; exact h
theorem atI_last {α : Type} (xs : List α) (v : α) : atI (xs ++ [v]) (-1) = some v := by
  have hl : (xs ++ [v]).length = xs.length + 1 := by simp
  have e : ixN (xs ++ [v]).length (-1) = some xs.length := by
    unfold ixN
    rw [hl, if_neg (by decide), if_pos (by omega)]
    congr 1
    omega
  unfold atI
  rw [e]
  show (xs ++ [v])[xs.length]? = some v
  simp

noncomputable def PlainIx (b : Expr) : Prop := ∀ o i, subscripted b false o i = operate [o, i] (getItem o i)
noncomputable def IxR (X : Cx) (r : R2) : Prop :=
  ∀ (value slice : Expr) (pins : List (Addr × Obj)) (s : Shared) (σ : St) (H : Hp) (x y : V) (v u : Value) (Q : VK), Inv X pins σ H s → RelV x v → RelV y u → r x y H Q →
    subscripted slice false v u = operate [v, u] (getItem v u) → wpAny (model X.prog X.w) X.A (subscriptTail value slice v u) (EP X pins σ Q) X.xe s
noncomputable def MtR (X : Cx) (id : String) (r : V → List V → Hp → VK → Prop) : Prop :=
  ∀ (pins : List (Addr × Obj)) (s : Shared) (σ : St) (H : Hp) (x : V) (xs : List V) (v : Value) (us : List Value) (Q : VK), Inv X pins σ H s → RelV x v → Vals xs us → r x xs H Q →
    wpAny (model X.prog X.w) X.A (call (.builtin id) (v :: us)) (EP X pins σ Q) X.xe s
section
variable {X : Cx} {a b : Expr} {ta tb : TE} {pos : Pos}
theorem pe_ix {r : R2} (hr : IxR X r) (ha : PE X a ta) (hb : PE X b tb) (hs : PlainIx b) : PE X (.Subscript a b pos) (tOp r ta tb) := by
  intro pins s σ H Q I h
  exact Subscript_ (binT ha hb I h fun v u s2 x y H2 I2 rx ry q => hr a b pins s2 σ H2 x y v u Q I2 rx ry q (hs _ _))

noncomputable def rIxL (K : PySem.W.Frag) : R2 := fun x y H Q => ∃ p xs i v, x = .ref p ∧ y = .int i ∧ SqL K H p xs ∧ atI xs i = some v ∧ Q v H
noncomputable def rIxT (K : PySem.W.Frag) : R2 := fun x y H Q => ∃ p xs i v, x = .ref p ∧ y = .int i ∧ SqT K H p xs ∧ atI xs i = some v ∧ Q v H
noncomputable def rIxS : R2 := fun x y H Q => ∃ z i c, x = .str z ∧ y = .int i ∧ z.length ≤ sizeLine ∧ atI z.cps.toList i = some c ∧ Q (.str ⟨#[c]⟩) H
theorem ix_list : IxR X (rIxL X.K) := by
  intro value slice pins s σ H x y v u Q I rx ry h hs
  obtain ⟨p, xs, i, z, rfl, rfl, hq, he, q⟩ := h
  cases rx
  obtain ⟨t, rfl⟩ := ry
  obtain ⟨its, r, pl, hz⟩ := I.list hq
  obtain ⟨j, h1, h2, h3, h4, h5⟩ := atI_get he
  obtain ⟨w, ew, rw'⟩ := r.get h2
  have hl := r.length
  have hn := line63
  have fin : EP X pins σ Q w s := ⟨z, H, I, rw', q⟩
  by_cases h0 : 0 ≤ i
  · have hj : i.toNat = j := by
      rw [seqIndex_of h0 h5] at h1
      exact Option.some.inj h1
    exact item_listR pl.isList h0 (by omega) (by rw [hj]; simpa using ew) fin hs
  · have hj : (i + (its.toArray.size : Int)).toNat = j := by
      rw [seqIndex_neg (by omega) h4] at h1
      rw [List.size_toArray, ← hl]
      exact Option.some.inj h1
    exact subscriptTail_builtinR (x := w) pl.isList.typeIs slot_list_getitem.lookup
      (wpAny_getItem_list_neg (Q := fun r s' => r = w ∧ EP X pins σ Q r s') pl.isList (by omega) (by rw [List.size_toArray] <;> omega) (by omega) (by rw [hj]; simpa using ew) ⟨rfl, fin⟩) hs
theorem ix_tup : IxR X (rIxT X.K) := by
  intro value slice pins s σ H x y v u Q I rx ry h hs
  obtain ⟨p, xs, i, z, rfl, rfl, hq, he, q⟩ := h
  cases rx
  obtain ⟨t, rfl⟩ := ry
  obtain ⟨its, r, pl, hz⟩ := I.tuple hq
  obtain ⟨j, h1, h2, h3, h4, h5⟩ := atI_get he
  obtain ⟨w, ew, rw'⟩ := r.get h2
  have hl := r.length
  have hn := line63
  have fin : EP X pins σ Q w s := ⟨z, H, I, rw', q⟩
  exact subscriptTail_builtinR (x := w) pl.typeIs slot_tuple_getitem.lookup
    (getItem_tuple (j := j) (Q := fun r s' => r = w ∧ EP X pins σ Q r s') pl (by omega) (by omega) (by rw [List.size_toArray, ← hl]; exact h1) (by simpa using ew) ⟨rfl, fin⟩) hs
theorem ix_str : IxR X rIxS := by
  intro value slice pins s σ H x y v u Q I rx ry h hs
  obtain ⟨z, i, c, rfl, rfl, hz, he, q⟩ := h
  obtain ⟨t, rfl⟩ := rx
  obtain ⟨t', rfl⟩ := ry
  obtain ⟨j, h1, h2, h3, h4, h5⟩ := atI_get he
  have hl : z.cps.toList.length = z.length := by simp [Str.length]
  rw [hl] at h1 h4 h5
  have hn := line63
  exact tail_any (typeIs_str s z t) slot_str_getitem.lookup (getItem_str (c := c) (by
    have e1 : decide (i < -(2 ^ 63 : Int)) = false := decide_eq_false (by omega)
    have e2 : decide (i ≥ 2 ^ 63) = false := decide_eq_false (by omega)
    rw [e1, e2, Bool.or_false]) (by rw [h1]; simpa using h2) ⟨.str ⟨#[c]⟩, H, I.tok _, ⟨_, rfl⟩, q⟩) hs
theorem mapSeq_set (its : List Value) (n j : Nat) (u : Value) : Obj.mapSeq (·.setIfInBounds j u) { cls := .type "list", data := .seq its.toArray n } = { cls := .type "list", data := .seq (its.set j u).toArray n } := by
  simp [Obj.mapSeq]
theorem Inv.lst {pins : List (Addr × Obj)} {σ : St} {H : Hp} {s : Shared} {p : Addr} {xs : List V} (I : Inv X pins σ H s) (h : H p = some (.lst xs)) :
    ∃ (its : List Value) (n : Nat), Vals xs its ∧ s.heap.get? p = some { cls := .type "list", data := .seq its.toArray n } ∧ xs.length ≤ sizeLine := by
  obtain ⟨z, its, n, r, e⟩ := I.hok p _ h
  exact ⟨its, n, r, e, z⟩
theorem Inv.lstUpd {pins : List (Addr × Obj)} {σ : St} {H : Hp} {s : Shared} {p : Addr} {xs ys : List V} {its its' : List Value} {n n' : Nat} {f : Obj → Obj} (I : Inv X pins σ H s) (h : H p = some (.lst xs))
    (ho : s.heap.get? p = some { cls := .type "list", data := .seq its.toArray n }) (hf : f { cls := .type "list", data := .seq its.toArray n } = { cls := .type "list", data := .seq its'.toArray n' }) (r : Vals ys its') (hz : ys.length ≤ sizeLine) (t : Nat) :
    Inv X pins σ (upd H p (.lst ys)) { s with heap := s.heap.update p f, toks := t } := by
  have e : (s.heap.update p f).get? p = some { cls := .type "list", data := .seq its'.toArray n' } := by
    rw [Heap.get?_update_self f ho (by rw [hf] <;> rfl), hf]
  refine I.write (x := p) (e := p) (by rw [h]; trivial) (.inl rfl) (fun b u hb q => (Heap.get?_update_other _ _ (Ne.symm hb)).trans q) ⟨_, e⟩ ?_
  exact ⟨hz, its', n', r, e⟩
noncomputable def rSetL : V → V → V → Hp → (Hp → Prop) → Prop := fun o i v H Q => ∃ p xs k j, o = .ref p ∧ i = .int k ∧ H p = some (.lst xs) ∧ ixN xs.length k = some j ∧ Q (upd H p (.lst (xs.set j v)))
theorem set_list : PSet X rSetL := by
  intro pins s σ H o i v ov iv u Q I ro ri rv h
  obtain ⟨p, xs, k, j, rfl, rfl, hp, hj, q⟩ := h
  cases ro
  obtain ⟨t, rfl⟩ := ri
  obtain ⟨its, n, r, ho, hz⟩ := I.lst hp
  obtain ⟨h1, h2, h3, h4⟩ := ixN_seq hj
  have hl := r.length
  have hn := line63
  have I' : Inv X pins σ (upd H p (.lst (xs.set j v))) { s with heap := s.heap.update p (Obj.mapSeq (·.setIfInBounds j u)) } :=
    I.lstUpd hp ho (mapSeq_set its n j u) (r.set rv j) (by rw [List.length_set]; exact hz) s.toks
  by_cases h0 : 0 ≤ k
  · have hk : k.toNat = j := by
      rw [seqIndex_of h0 h4] at h1
      exact Option.some.inj h1
    exact PySem.W.ki_setAt ho h0 (by omega) (by rw [List.size_toArray, ← hl]; exact h4) (by rw [hk]; exact ⟨_, I', q⟩)
  · have hk : (k + (its.toArray.size : Int)).toNat = j := by
      rw [seqIndex_neg (by omega) h3] at h1
      rw [List.size_toArray, ← hl]
      exact Option.some.inj h1
    exact PySem.W.ki_setBack ho (by omega) (by rw [List.size_toArray, ← hl]; exact h3) (by omega) (by rw [hk]; exact ⟨_, I', q⟩)

noncomputable def flatV : V → Bool
  | .non => true
  | .bl _ => true
  | .int _ => true
  | .str _ => true
  | _ => false
noncomputable def eqV : V → V → Bool
  | .non, .non => true
  | .bl a, .bl b => a == b
  | .bl a, .int b => (if a then 1 else 0) == b
  | .int a, .bl b => a == (if b then 1 else 0)
  | .int a, .int b => a == b
  | .str a, .str b => a == b
  | _, _ => false
theorem eqAt_V {A : Around} {s : Shared} {y x : V} {u v : Value} (ry : RelV y u) (rx : RelV x v) (fy : flatV y = true) (fx : flatV x = true) : SeqAt.EqAt A s u v (eqV y x) := by
  cases y with
  | non =>
    cases ry
    cases x with
    | non => cases rx; exact SeqAt.EqAt.same _
    | bl b => cases rx; exact SeqAt.EqAt.none_bool b
    | int b => obtain ⟨t, rfl⟩ := rx; exact SeqAt.EqAt.none_int b t
    | str b => obtain ⟨t, rfl⟩ := rx; exact SeqAt.EqAt.none_str b t
    | _ => exact absurd (show false = true from fx) Bool.false_ne_true
  | bl a =>
    cases ry
    cases x with
    | non => cases rx; exact SeqAt.EqAt.bool_none a
    | bl b => cases rx; exact SeqAt.EqAt.bool_bool a b
    | int b => obtain ⟨t, rfl⟩ := rx; exact SeqAt.EqAt.bool_int a b t
    | str b => obtain ⟨t, rfl⟩ := rx; exact SeqAt.EqAt.bool_str a b t
    | _ => exact absurd (show false = true from fx) Bool.false_ne_true
  | int a =>
    obtain ⟨t', rfl⟩ := ry
    cases x with
    | non => cases rx; exact SeqAt.EqAt.int_none a t'
    | bl b => cases rx; exact SeqAt.EqAt.int_bool a t' b
    | int b => obtain ⟨t, rfl⟩ := rx; exact SeqAt.EqAt.int_int a t' b t
    | str b => obtain ⟨t, rfl⟩ := rx; exact SeqAt.EqAt.int_str a t' b t
    | _ => exact absurd (show false = true from fx) Bool.false_ne_true
  | str a =>
    obtain ⟨t', rfl⟩ := ry
    cases x with
    | non => cases rx; exact SeqAt.EqAt.str_none a t'
    | bl b => cases rx; exact SeqAt.EqAt.str_bool a t' b
    | int b => obtain ⟨t, rfl⟩ := rx; exact SeqAt.EqAt.str_int a t' b t
    | str b => obtain ⟨t, rfl⟩ := rx; exact SeqAt.EqAt.str_str a t' b t
    | _ => exact absurd (show false = true from fx) Bool.false_ne_true
  | _ => exact absurd (show false = true from fy) Bool.false_ne_true
noncomputable def eqU (x : V) (u : Value) : Bool := match u with
  | .none => eqV .non x
  | .bool b => eqV (.bl b) x
  | .int i _ => eqV (.int i) x
  | .str z _ => eqV (.str z) x
  | _ => false
theorem eqU_of {x y : V} {u : Value} (r : RelV y u) (f : flatV y = true) : eqU x u = eqV y x := by
  cases y with
  | non => cases r; rfl
  | bl b => cases r; rfl
  | int i => obtain ⟨t, rfl⟩ := r; rfl
  | str z => obtain ⟨t, rfl⟩ := r; rfl
  | _ => exact absurd (show false = true from f) Bool.false_ne_true
theorem any_eqU {x : V} : ∀ {xs : List V} {us : List Value}, Vals xs us → xs.all flatV = true → us.any (eqU x) = xs.any fun y => eqV y x
  | _, _, .nil, _ => rfl
  | y :: xs, u :: us, .cons r t, f => by
    rw [List.all_cons, Bool.and_eq_true] at f
    rw [List.any_cons, List.any_cons, eqU_of r f.1, any_eqU t f.2]
theorem mem_eqAt {A : Around} {s : Shared} {x : V} {v : Value} (rx : RelV x v) (fx : flatV x = true) : ∀ {xs : List V} {us : List Value}, Vals xs us → xs.all flatV = true → ∀ u ∈ us, SeqAt.EqAt A s u v (eqU x u)
  | _, _, .nil, _ => fun u hu => by cases hu
  | y :: xs, u :: us, .cons r t, f => fun u' hu => by
    rw [List.all_cons, Bool.and_eq_true] at f
    rcases List.mem_cons.mp hu with rfl | hu
    · rw [eqU_of r f.1]; exact eqAt_V r rx f.1 fx
    · exact mem_eqAt rx fx t f.2 u' hu
noncomputable def inV (x : V) (xs : List V) : Bool := xs.any fun y => eqV y x
noncomputable def rIn (K : PySem.W.Frag) (neg : Bool) : R2 := fun x y H Q => ∃ p xs, y = .ref p ∧ (SqL K H p xs ∨ SqT K H p xs) ∧ flatV x = true ∧ xs.all flatV = true ∧ Q (.bl (if neg then !inV x xs else inV x xs)) H
theorem op_in_seq : OpR X (compareOp .In) (rIn X.K false) := by
  intro pins s σ H x y v u Q I rx ry h
  obtain ⟨p, xs, rfl, hq, fx, fs, q⟩ := h
  cases ry
  rcases hq with hq | hq
  · obtain ⟨its, r, pl, hz⟩ := I.list hq
    refine SeqAt.in_listAt (eqU x) pl.isList (fun w hw => mem_eqAt rx fx r fs w (by simpa using hw)) ⟨.bl _, H, I, rfl, ?_⟩
    rw [show its.toArray.any (eqU x) = its.any (eqU x) by simp, any_eqU r fs]
    exact q
  · obtain ⟨its, r, pl, hz⟩ := I.tuple hq
    refine SeqAt.in_tupleAt (eqU x) pl (fun w hw => mem_eqAt rx fx r fs w (by simpa using hw)) ⟨.bl _, H, I, rfl, ?_⟩
    rw [show its.toArray.any (eqU x) = its.any (eqU x) by simp, any_eqU r fs]
    exact q
theorem op_notIn_seq : OpR X (compareOp .NotIn) (rIn X.K true) := by
  intro pins s σ H x y v u Q I rx ry h
  obtain ⟨p, xs, rfl, hq, fx, fs, q⟩ := h
  cases ry
  rcases hq with hq | hq
  · obtain ⟨its, r, pl, hz⟩ := I.list hq
    refine SeqAt.notIn_listAt (eqU x) pl.isList (fun w hw => mem_eqAt rx fx r fs w (by simpa using hw)) ⟨.bl _, H, I, rfl, ?_⟩
    rw [show its.toArray.any (eqU x) = its.any (eqU x) by simp, any_eqU r fs]
    exact q
  · obtain ⟨its, r, pl, hz⟩ := I.tuple hq
    refine SeqAt.notIn_tupleAt (eqU x) pl (fun w hw => mem_eqAt rx fx r fs w (by simpa using hw)) ⟨.bl _, H, I, rfl, ?_⟩
    rw [show its.toArray.any (eqU x) = its.any (eqU x) by simp, any_eqU r fs]
    exact q
theorem call_len_seq : CallR X (.builtin "len") (fun xs H Q => ∃ p ys, xs = [.ref p] ∧ (SqL X.K H p ys ∨ SqT X.K H p ys) ∧ Q (.int ys.length) H) := by
  intro pins s σ H xs us Q I r h
  obtain ⟨p, ys, rfl, hq, q⟩ := h
  obtain ⟨u, rfl, rx⟩ := vals1 r
  cases rx
  have hn := line63
  rcases hq with hq | hq
  · obtain ⟨its, r', pl, hz⟩ := I.list hq
    have hlen := r'.length
    exact Calls.call_len_list pl.isList (by simp only [List.size_toArray] <;> omega) ⟨.int ys.length, H, I.tok _, ⟨s.toks + 1, by rw [List.size_toArray, hlen]⟩, q⟩
  · obtain ⟨its, r', pl, hz⟩ := I.tuple hq
    have hlen := r'.length
    exact len_tuple pl (by simp only [List.size_toArray] <;> omega) ⟨.int ys.length, H, I.tok _, ⟨s.toks + 1, by rw [List.size_toArray, hlen]⟩, q⟩
theorem call_tuple_of : CallR X (.type "tuple") (fun xs H Q => ∃ p ys, xs = [.ref p] ∧ ((SqL X.K H p ys ∧ ∀ l, H l = none → Q (.ref l) (upd H l (.tup ys))) ∨ (SqT X.K H p ys ∧ Q (.ref p) H))) := by
  intro pins s σ H xs us Q I r h
  obtain ⟨p, ys, rfl, h⟩ := h
  obtain ⟨u, rfl, rx⟩ := vals1 r
  cases rx
  rcases h with ⟨hq, q⟩ | ⟨hq, q⟩
  · obtain ⟨its, r', pl, hz⟩ := I.list hq
    have hlen := r'.length
    refine call_tuple_list pl.isList (fun h' kp => ?_) (by simp only [List.size_toArray] <;> omega)
    have I1 : Inv X pins σ H { s with heap := h' } := I.kept (t' := s.toks) kp
    have I2 : Inv X pins σ (upd H h'.objs.size (.tup ys)) { s with heap := h'.push { cls := .type "tuple", data := .seq its.toArray } } :=
      I1.laid (t' := s.toks) (fun b o e => Heap.get?_push_of_some _ e) (Nat.le_refl _) (show ObjOk X.prog X.w _ _ _ (.tup ys) from ⟨hz, its, r', IsTup.new _ _⟩)
    exact ⟨.ref h'.objs.size, _, I2, rfl, q _ (I1.hok.fresh (Nat.le_refl _))⟩
  · obtain ⟨its, r', pl, hz⟩ := I.tuple hq
    exact call_tuple_same pl ⟨.ref p, H, I, rfl, q⟩

noncomputable def tyV (K : PySem.W.Frag) (T : String) (x : V) (H : Hp) : Prop := match x with
  | .str _ => T = "str"
  | .int _ => T = "int"
  | .ref p => (T = "list" ∧ ∃ xs, SqL K H p xs) ∨ (T = "tuple" ∧ ∃ o, K.lookup p = some o ∧ o.cls = .type "tuple" ∧ o.dict = none) ∨
      (T = "dict" ∧ ((∃ kvs, H p = some (.dK kvs)) ∨ ∃ kvs, H p = some (.dT kvs))) ∨ (T = "set" ∧ ∃ S n, H p = some (.set S n))
  | _ => False
theorem tyV_is {pins : List (Addr × Obj)} {σ : St} {H : Hp} {s : Shared} {T : String} {x : V} {v : Value} (I : Inv X pins σ H s) (r : RelV x v) (ty : tyV X.K T x H) :
    s.TypeIs v T ∧ ∀ a, v = .ref a → ∃ ob, s.heap.get? a = some ob ∧ ob.dict = none := by
  cases x with
  | str z =>
    obtain ⟨t, rfl⟩ := r
    cases (show T = "str" from ty)
    exact ⟨typeIs_str s z t, fun _ e => nomatch e⟩
  | int i =>
    obtain ⟨t, rfl⟩ := r
    cases (show T = "int" from ty)
    exact ⟨typeIs_int s i t, fun _ e => nomatch e⟩
  | ref p =>
    cases r
    rcases ty with ⟨rfl, xs, hq⟩ | ⟨rfl, o, hk, hc, hd⟩ | ⟨rfl, hk⟩ | ⟨rfl, S, n, hk⟩
    · obtain ⟨its, _, pl, _⟩ := I.list hq
      refine ⟨pl.isList.typeIs, fun a e => ?_⟩
      cases e
      obtain ⟨o, n, e, c, hd, _⟩ := pl
      exact ⟨o, e, hd⟩
    · refine ⟨⟨o, I.kIn p o hk, hc⟩, fun a e => ?_⟩
      cases e
      exact ⟨o, I.kIn _ o hk, hd⟩
    · have z : ∃ o, s.heap.get? p = some o ∧ o.ExactDict := by
        rcases hk with ⟨kvs, hk⟩ | ⟨kvs, hk⟩
        · obtain ⟨_, _, _, _, o, _, _, e, ex, _⟩ := I.hok p _ hk
          exact ⟨o, e, ex⟩
        · obtain ⟨_, _, _, _, o, _, _, e, ex, _⟩ := I.hok p _ hk
          exact ⟨o, e, ex⟩
      obtain ⟨o, e, ex⟩ := z
      refine ⟨⟨o, e, ex.1⟩, fun a e2 => ?_⟩
      cases e2
      exact ⟨o, e, ex.2.1⟩
    · obtain ⟨o, _, _, _, e, ex, _⟩ := I.hok p _ hk
      refine ⟨⟨o, e, ex.1⟩, fun a e2 => ?_⟩
      cases e2
      exact ⟨o, e, ex.2.1⟩
  | _ => exact False.elim ty
noncomputable def tBM (K : PySem.W.Frag) (T : String) (r : V → List V → Hp → VK → Prop) (to : TE) (t : TA) : TE := fun σ H Q => to σ H fun x H1 => tyV K T x H1 ∧ t σ H1 fun xs H2 => r x xs H2 Q
variable {o e : Expr} {es : List Expr} {to : TE} {t : TA} {name : Str} {apos cpos : Pos} {T id : String} {r : V → List V → Hp → VK → Prop}
theorem pe_bm (pa : PlainAttrs T) (slot : Slot T name id) (hty : typeOf (.builtin id) = pure (.type "method_descriptor")) (hm : MtR X id r) (ho : PE X o to) (ha : PA X (e :: es) t)
    (hbase : attributeBase o name X.env (eval o X.env) = eval o X.env := by rfl)
    (hfew : ((backTo cpos (starEach (e :: es) X.env)).all (fun x => !x.1) && (backToKw cpos (keywordEach [] X.env)).all (fun x => x.1.isSome)
      && decide ((e :: es).length + ([] : List Keyword).length + (if ([] : List Keyword).isEmpty then 0 else 1) < 30)) = true := by rfl)
    (hline : (apos.endLine == cpos.line) = true := by rfl) (hs : starEach (e :: es) X.env = (false, eval e X.env) :: starEach es X.env := by rfl) (hplain : (backTo cpos (starEach es X.env)).any (·.1) = false := by rfl) :
    PE X (.Call (.Attribute o name apos) (e :: es) [] cpos) (tBM X.K T r to t) := by
  intro pins s σ H Q I h
  refine wpAny_Call_method_late hbase hfew hline rfl (thn (ho pins s σ H _ I h) fun v s1 ⟨x, H1, I1, r1, ty, q1⟩ => ?_)
  obtain ⟨h1, h2⟩ := tyV_is I1 r1 ty
  refine ⟨T, id, pa, slot, hty, h1, h2, ?_⟩
  have hA := ha cpos pins s1 σ H1 _ I1 q1
  rw [hs] at hA ⊢
  refine Calls.callWith_builtin (by show (false || (backTo cpos (starEach es X.env)).any (·.1)) = false; rw [hplain] <;> rfl) (Calls.evalArgs_plain ?_)
  exact thn hA fun us s2 ⟨vs, H2, I2, r2, q2⟩ => hm pins s2 σ H2 x vs v us Q I2 r1 r2 q2
/- xs.append(e), list.index on a module's tuple .. are MtR facts of 06m -/
end
end L2

namespace L2
open PySem PySem.Spec PyProof.Rows

noncomputable def MtM (X : Cx) (id : String) (r : V → List V → Hp → VK → Prop) : Prop :=
  ∀ (pins : List (Addr × Obj)) (s : Shared) (σ : St) (H : Hp) (x : V) (xs : List V) (v : Value) (us : List Value) (Q : VK), Inv X pins σ H s → RelV x v → Vals xs us → r x xs H Q →
    wpAny (model X.prog X.w) X.A (call (.builtin id) (v :: us)) (EP X pins σ Q) X.xe s

theorem Vals.one : ∀ {x : V} {us : List Value}, Vals [x] us → ∃ u, us = [u] ∧ RelV x u
  | _, _, .cons r .nil => ⟨_, rfl, r⟩
theorem Vals.two : ∀ {x y : V} {us : List Value}, Vals [x, y] us → ∃ u v, us = [u, v] ∧ RelV x u ∧ RelV y v
  | _, _, _, .cons r (.cons q .nil) => ⟨_, _, rfl, r, q⟩
theorem Vals.rep {xs : List V} {us : List Value} (h : Vals xs us) : ∀ k : Nat, Vals (List.replicate k xs).flatten (List.replicate k us).flatten
  | 0 => .nil
  | k + 1 => by
    rw [List.replicate_succ, List.replicate_succ, List.flatten_cons, List.flatten_cons]
    exact Vals.append h (Vals.rep h k)
theorem foldl_rep (its : List Value) : ∀ (k : Nat) (acc : List Value),
    List.foldl (fun x1 x2 => x1 ++ x2) acc.toArray (List.replicate k its.toArray) = (acc ++ (List.replicate k its).flatten).toArray
  | 0, acc => by simp
  | k + 1, acc => by
    have e : acc.toArray ++ its.toArray = (acc ++ its).toArray := by simp
    have e2 : (acc ++ its) ++ (List.replicate k its).flatten = acc ++ (List.replicate (k + 1) its).flatten := by
      rw [List.replicate_succ, List.flatten_cons, List.append_assoc]
    rw [← e2, ← foldl_rep its k (acc ++ its), ← e, List.replicate_succ, List.foldl_cons]

section
variable {X : Cx} {pins : List (Addr × Obj)} {σ : St} {H : Hp} {s : Shared} {l b : Addr} {xs ys zs : List V}

theorem Inv.lset {its its' : List Value} {n : Nat} {f : Array Value → Array Value} {t' : Nat} (I : Inv X pins σ H s) (hH : H l = some (.lst xs))
    (e : s.heap.get? l = some { cls := .type "list", data := .seq its.toArray n }) (hf : f its.toArray = its'.toArray) (hv : Vals ys its') (hz : ys.length ≤ sizeLine) :
    Inv X pins σ (upd H l (.lst ys)) { s with heap := s.heap.update l (Obj.mapSeq f), toks := t' } := by
  have q := PySem.IsL.update e f
  rw [hf] at q
  refine I.write (x := l) (e := l) (by rw [hH]; exact trivial) (.inl rfl) (fun b' u hb hu => (Heap.get?_update_other s.heap (Obj.mapSeq f) (Ne.symm hb)).trans hu) ⟨_, q⟩ ?_
  exact ⟨hz, its', _, hv, q⟩
theorem Inv.lnew {its : List Value} {t' : Nat} (I : Inv X pins σ H s) (hv : Vals ys its) (hz : ys.length ≤ sizeLine) :
    Inv X pins σ (upd H s.heap.objs.size (.lst ys)) { s with heap := s.heap.push { cls := .type "list", data := .seq its.toArray }, toks := t' } :=
  I.laid (fun _ _ q => Heap.get?_push_of_some _ q) (Nat.le_refl _) ⟨hz, its, 0, hv, Heap.get?_push_size _ rfl⟩
theorem Inv.fresh (I : Inv X pins σ H s) : H s.heap.objs.size = none := I.hok.fresh (Nat.le_refl _)
theorem Inv.lstM (I : Inv X pins σ H s) (hH : H l = some (.lst xs)) : xs.length ≤ sizeLine ∧ ∃ (its : List Value) (n : Nat), Vals xs its ∧ xs.length = its.length ∧ s.heap.get? l = some { cls := .type "list", data := .seq its.toArray n } := by
  obtain ⟨z, its, n, r, e⟩ := I.hok l _ hH
  exact ⟨z, its, n, r, r.length, e⟩

theorem notLongL {n : Nat} (h : n ≤ sizeLine) : Builtin.List.listTooLong n = false := by
  unfold Builtin.List.listTooLong
  exact decide_eq_false (by omega)
end

section
variable {X : Cx}

noncomputable def rAppend : V → List V → Hp → VK → Prop := fun x vs H Q => ∃ l xs y, x = .ref l ∧ vs = [y] ∧ H l = some (.lst xs) ∧ xs.length < sizeLine ∧ Q .non (upd H l (.lst (xs ++ [y])))
theorem mt_append : MtM X "list.append" rAppend := by
  intro pins s σ H x vs v us Q I rx rv h
  obtain ⟨l, xs, y, rfl, rfl, hH, hz, q⟩ := h
  cases rx
  obtain ⟨u, rfl, ru⟩ := rv.one
  obtain ⟨z, its, n, r, hl, e⟩ := I.lstM hH
  refine call_meets F.slot_list_append ⟨_, e, rfl⟩ F.entry_list_append (F.args_list_append_2 _ _) (PySem.list_append l its.toArray n u (by rw [List.size_toArray]; omega)) ⟨e, ?_⟩
  refine ⟨.non, _, I.lset (its' := its ++ [u]) hH e (by simp) (r.append (.cons ru .nil)) ?_, rfl, q⟩
  rw [List.length_append, List.length_singleton]
  omega

noncomputable def rCat : R2 := fun x y H Q => ∃ l b xs zs, x = .ref l ∧ y = .ref b ∧ H l = some (.lst xs) ∧ H b = some (.lst zs) ∧ xs.length + zs.length ≤ sizeLine ∧ ∀ p, H p = none → Q (.ref p) (upd H p (.lst (xs ++ zs)))
theorem op_cat : OpR X (binaryOp .Add) rCat := by
  intro pins s σ H x y v u Q I rx ry h
  obtain ⟨l, b, xs, zs, rfl, rfl, hH, hB, hz, q⟩ := h
  cases rx
  cases ry
  obtain ⟨z, its, n, r, hl, e⟩ := I.lstM hH
  obtain ⟨z2, its2, n2, r2, hl2, e2⟩ := I.lstM hB
  refine PySem.P.add_list e e2 ?_ (by rw [List.size_toArray, List.size_toArray]; omega)
  have ea : its.toArray ++ its2.toArray = (its ++ its2).toArray := by simp
  rw [ea]
  exact ⟨.ref _, _, I.lnew (t' := s.toks) (r.append r2) (by rw [List.length_append]; omega), rfl, q _ I.fresh⟩
noncomputable def rRep : R2 := fun x y H Q => ∃ l k xs, x = .ref l ∧ y = .int k ∧ H l = some (.lst xs) ∧ -(2 ^ 63) ≤ k ∧ k < 2 ^ 63 ∧ xs.length * k.toNat ≤ sizeLine ∧
  ∀ p, H p = none → Q (.ref p) (upd H p (.lst (List.replicate k.toNat xs).flatten))
theorem len_rep {α : Type} (xs : List α) (k : Nat) : (List.replicate k xs).flatten.length = k * xs.length := by
  induction k with
  | zero => simp
  | succ k ih => rw [List.replicate_succ, List.flatten_cons, List.length_append, ih, Nat.succ_mul, Nat.add_comm]
theorem op_rep : OpR X (binaryOp .Mult) rRep := by
  intro pins s σ H x y v u Q I rx ry h
  obtain ⟨l, k, xs, rfl, rfl, hH, h1, h2, hz, q⟩ := h
  cases rx
  obtain ⟨t, rfl⟩ := ry
  obtain ⟨z, its, n, r, hl, e⟩ := I.lstM hH
  have hlen : its.toArray.size * k.toNat ≤ sizeLine := by rw [List.size_toArray, ← hl]; exact hz
  have hcap : ¬ its.toArray.size * k.toNat > (2 ^ 63 - 1) / 8 := by
    have : (sizeLine : Nat) ≤ (2 ^ 63 - 1) / 8 := by decide
    omega
  have hfit : ¬ (!Builtin.List.listFitsIndex k) = true := by
    rw [fitsIndex_both h1 h2]
    exact Bool.false_ne_true
  have hlong : ¬ Builtin.List.listTooLong (its.toArray.size * k.toNat) = true := by
    rw [notLongL hlen]
    exact Bool.false_ne_true
  have hnew : List.foldl (fun x1 x2 => x1 ++ x2) #[] (List.replicate (if its.toArray.isEmpty = true then 0 else k.toNat) its.toArray) = (List.replicate k.toNat its).flatten.toArray := by
    have f0 : ∀ m : Nat, List.foldl (fun x1 x2 => x1 ++ x2) #[] (List.replicate m its.toArray) = (List.replicate m its).flatten.toArray := fun m => by
      have := foldl_rep its m []
      rw [List.nil_append] at this
      exact this
    rw [f0]
    cases its with
    | nil => simp
    | cons a r' => rw [if_neg (by simp)]
  refine wpAny_binaryOp_repeat_ref (T := "list") (U := "int") (by decide) ⟨_, e, rfl⟩ (fun s' => typeIs_int s' k t) noFill_list_mul F.fills_int_mul F.slot_int_rmul repeat_list F.slot_int_index.lookup
    (call_meets F.slot_int_rmul (typeIs_int s k t) F.entry_int_rmul (F.args_int_rmul_2 _ _) (int___rmul___int_list k t l its.toArray n)
      ⟨e, rfl, ⟨_, e, rfl⟩, call_meets F.slot_list_mul ⟨_, e, rfl⟩ F.entry_list_mul (F.args_list_mul_2 _ _) (AutoListH.list___mul___list_int_3 l its.toArray n k t hfit hcap hlong) ⟨e, ?_⟩⟩)
  rw [hnew]
  exact ⟨.ref _, _, I.lnew (t' := s.toks) (r.rep k.toNat) (by rw [len_rep, Nat.mul_comm]; exact hz), rfl, q _ I.fresh⟩

end

section
variable {prog : Program} {w : World} {A : Around} {E : Value → Shared → Prop} {s : Shared}
end

section
variable {X : Cx}
end
end L2

namespace Att
open PySem PySem.W PySem.Calls PyProof.Rows

theorem ints_of_wellAll {P : Params} {h : Heap} : ∀ (ns : List Int) (vs : List Value), WellAll P h vs (ns.map WData.int) → IntsAre vs ns := by
  intro ns
  induction ns with
  | nil =>
    intro vs w
    rw [List.map_nil] at w
    cases w
    exact .nil
  | cons n ns ih =>
    intro vs w
    rw [List.map_cons] at w
    cases w with
    | cons a b =>
      cases a
      exact .cons _ _ (ih _ b)

theorem script_of {l : OpenLaw} {n : Nat} (hn : l.most = some n) {P : Params} {h : Heap} {args : List WData} {vals : List Value}
    (hpre : l.row.toRowW.claim.pre args = true) (hwl : WellAll P h vals args) :
    ∃ a vs ns, vals = [Value.ref a] ∧ args = [WData.list (ns.map WData.int)] ∧ h.get? a = some { cls := .type "list", data := .seq vs.toArray } ∧ IntsAre vs ns ∧ ns.length ≤ n := by
  have hsh : WShape.hasAll [] args [.list .int] = true := (pre_splitW hpre).1
  have hc : l.pre.holds [] { args := args } = true := (pre_splitW hpre).2
  obtain ⟨d, r, rfl, h1, h2⟩ := hasAllW_cons hsh
  obtain rfl := hasAllW_nil h2
  obtain ⟨xs, rfl, h3⟩ := hasW_list h1
  obtain ⟨ns, rfl⟩ := items_int h3
  have hlen : ns.length ≤ n := by
    unfold OpenLaw.pre at hc
    have h4 : (WTm.not (.lt (.lit (.int (n : Int))) (.len (.arg 0)))).holds [] { args := [.list (ns.map .int)] } = true := by
      have h4 := (holds_andW hc).1
      rw [hn] at h4
      exact h4
    have h5 := condW_of h4 (w_not (w_lt w_lit (w_len_list (w_arg rfl))))
    rw [List.length_map] at h5
    refine Nat.le_of_not_lt fun q => ?_
    have q' : (n : Int) < ((ns.length : Nat) : Int) := by omega
    first
      | (rw [decide_eq_true q'] at h5; exact absurd h5 (by decide))
      | (simp at h5; omega)
  cases hwl with
  | cons w1 w2 =>
    cases w2
    cases w1 with
    | list ho hall => exact ⟨_, _, ns, rfl, rfl, ho, ints_of_wellAll ns _ hall, hlen⟩

theorem post_true (l : OpenLaw) (args : List WData) : l.row.toRowW.claim.post args (.bool true) args = true :=
  postW_of (r := l.row.toRowW) (X := (true == true))
    (show WShape.has [] (.bool true) .bool = true by first | rfl | decide | simp [WShape.has, WShape.arms, WShape.armsAll])
    (show (WTm.eq .res (.lit (.bool true))).value [] { args := args, res := some (.bool true), after := args } = some (.bool (true == true)) from w_eq_bool (w_res rfl) w_lit) rfl

theorem attach_call {l : OpenLaw} {n : Nat} {q : Program} {loose : List Str} {XP : (Str → Option Value) → Heap → Prop} {YP : World → Heap → Prop} {d : DefRec}
    (hn : l.most = some n) (hdf : d.params.defaults = [])
    (call : ∀ (w : World) (s₀ s₁ : Shared) (mg mb : Str → Option Value) (fa : Addr) (o : Obj) (pm cd doc : Value) (a : Addr) (vs : List Value) (ns : List Int),
      Ground q loose [] XP w s₀ mg mb s₁.heap → YP w s₁.heap →
      s₁.heap.get? fa = some o → o.data = .func (docDef d.name d.params d.body d.scope pm cd doc) → s₁.heap.CodeRec cd d.name → mg d.name = some (.ref fa) →
      s₁.heap.get? a = some { cls := .type "list", data := .seq vs.toArray } → IntsAre vs ns → ns.length ≤ n → s₁.gens = #[] →
      codeAny (model l.prog w) callerA (.call (.ref fa) ⟨[.ref a], []⟩) (fun r s' => r = .ok (.ret (.bool true)) ∧ OldK s₁.heap s'.heap ∧ s'.os = s₁.os ∧ AllBare s'.gens) s₁) :
    WalkO q loose XP YP l.row.toRowW d [] (fun f vs => PySem.call f vs) := by
  intro w s₀ s₁ mg mb G Y fa o pm cd doc dV kV ho hd hcd hD hmg hg args vals as hpre hlay hrd hwl hlo
  obtain rfl : dV = .none := Dflts.none hD hdf
  obtain rfl : kV = .none := Dflts.noKw hD
  obtain ⟨a, vs, ns, rfl, rfl, hobj, hints, hlen⟩ := script_of hn hpre hwl
  refine enter_call (codeAny_mono (call w s₀ s₁ mg mb fa o pm cd doc a vs ns G Y ho (fd_plain hd) hcd hmg hobj hints hlen hg) fun r s' hq => ?_)
  obtain ⟨rfl, h2, h3, h4⟩ := hq
  exact ⟨.inl ⟨.bool true, .bool true, [], rfl, fun _ => rfl, .bool true, post_true l _, fun _ => ⟨List.Pairwise.nil, fun _ hm => (nomatch hm)⟩⟩, h2, h3, h4⟩

section
variable {prog : Program} {w : World} {A : Around} {E : Value → Shared → Prop} {s : Shared} {K : Frag}

end
end Att

namespace L2
open PySem PySem.Spec PyProof.Rows

theorem vals_ints : ∀ {vs : List Value} {ns : List Int}, IntsAre vs ns → Vals (ns.map V.int) vs
  | _, _, .nil => .nil
  | _, _, .cons n t h => .cons ⟨t, rfl⟩ (vals_ints h)

noncomputable def Only (H : Hp) : Prop := ∀ b, H b = none ∨ ∃ o xs, H b = some (.frz o (.lst xs))

theorem law_call {P : Program} {w : World} {K : PySem.W.Frag} {mg mb : Str → Option Value} {CX : CXT} {k : Nat} {fa a : Addr} {fd : FuncData} {x : Str} {sp : Sp} {s₁ : Shared} {vs : List Value} {ns : List Int}
    (KX : K.In s₁.heap) (hns : s₁.heap.Ns mainGlobals mg) (hb : s₁.heap.Ns builtinsNs mb) (hbb : ∀ x : Str, x ≠ "__name__" → mb x = bootBuiltins x) (hlim : s₁.heap.NoLimit) (hg : s₁.gens = #[])
    (ha : s₁.heap.get? a = some { cls := .type "list", data := .seq vs.toArray }) (hi : IntsAre vs ns) (hl : ns.length ≤ sizeLine) (hr : Room k callerA)
    (F : ∀ base : Heap, K.In base → base.Ns mainGlobals mg → FnOk P w K mg base CX k fa fd [x] sp) (hbind : ∀ (s : Shared) (u : Value), BindsTo s fd ⟨[u], []⟩ [(x, u)])
    (hsp : ∀ H : Hp, Only H → SqL K H a (ns.map V.int) → sp [.ref a] H (fun v _ => v = .bl true) fun _ _ _ => False)
    (hCX : ∀ H e s', CX [] H s₁ (fun _ _ _ => False) e s' → False) :
    codeAny (model P w) callerA (.call (.ref fa) ⟨[.ref a], []⟩) (fun r s' => r = .ok (.ret (.bool true)) ∧ OldK s₁.heap s'.heap ∧ s'.os = s₁.os ∧ AllBare s'.gens) s₁ := by
  have rv := vals_ints hi
  have lenV := hi.length
  -- from an abstract heap in which nothing but the script may be tracked
  have core : ∀ H : Hp, Only H → SqL K H a (ns.map V.int) → HOk P w H s₁.heap → (∀ b, H b ≠ none → b = a) → (H a ≠ none → K.lookup a = none) →
      codeAny (model P w) callerA (.call (.ref fa) ⟨[.ref a], []⟩) (fun r s' => r = .ok (.ret (.bool true)) ∧ OldK s₁.heap s'.heap ∧ s'.os = s₁.os ∧ AllBare s'.gens) s₁ := by
    intro H hO hS hok hA hK
    have base_of : ∀ {b : Addr} {o : Obj}, s₁.heap.get? b = some o → H b = none → (hidT s₁.heap H).get? b = some o := fun e n => hidT_get e n
    have noA : ∀ {b : Addr} {o : Obj} {es : Array DictEntry} {ep : Nat}, s₁.heap.get? b = some o → o.data = .dict es ep → H b = none := fun {b o es ep} e d => by
      cases q : H b with
      | none => rfl
      | some u =>
        have e' : b = a := hA b (by rw [q]; simp)
        subst e'
        rw [ha] at e; cases e
        have d' : Data.seq vs.toArray _ = Data.dict es ep := d
        cases d'
    have nsK : ∀ {b : Addr} {m : Str → Option Value}, s₁.heap.Ns b m → (hidT s₁.heap H).Ns b m := fun {b m} ⟨o, es, ep, e, d, r⟩ => ⟨o, es, ep, base_of e (noA e d), d, r⟩
    have hKb : K.In (hidT s₁.heap H) := fun b o e => base_of (KX b o e) (by
      cases q : H b with
      | none => rfl
      | some u =>
        have e' : b = a := hA b (by rw [q]; simp)
        subst e'
        rw [hK (by rw [q]; simp)] at e; cases e)
    have hM : Mod K mg (hidT s₁.heap H) := ⟨hKb, nsK hns, ⟨mb, nsK hb, hbb⟩, let ⟨mc, h1, h2⟩ := hlim; ⟨mc, nsK h1, h2⟩⟩
    have e0 : Env0 P w K mg (hidT s₁.heap H) callerA [] s₁ H := ⟨rfl, hM, fun b o e => of_hidT e, Nat.le_of_eq (hidT_size _ _), trivial, fun b hb => absurd (show b ∈ ([] : List Addr) from hb) (by simp), hok, .of_eq hg⟩
    refine codeAny_mono ((F _ hKb (nsK hns)).run callerA [] s₁ H ⟨[.ref a], []⟩ [.ref a] [.ref a] _ _ hr e0 (hbind s₁ (.ref a)) (.cons rfl .nil) (hsp H hO hS)) fun r s' h => ?_
    cases r with
    | error e => exact (hCX H e s' h).elim
    | ok fl =>
      cases fl with
      | next => exact False.elim h
      | brk => exact False.elim h
      | cont => exact False.elim h
      | ret u =>
        obtain ⟨v, H', os, bare, un, hok', r', q⟩ := h
        have q' : v = .bl true := q
        subst q'
        obtain rfl : u = Value.bool true := r'
        refine ⟨rfl, OldK.of_keep fun b o e => ?_, os, bare⟩
        cases q : H b with
        | none => exact un.keep b o e q (by intro z; exact absurd (show b ∈ ([] : List Addr) from z) (by simp)) (by simp)
        | some u =>
          rcases hO b with z | ⟨ob, xs, z⟩
          · rw [q] at z; cases z
          · have z2 := un.frzs b ob _ z
            obtain ⟨e1, _⟩ := hok b _ z
            obtain ⟨e2, _⟩ := hok' b _ z2
            rw [e] at e1; cases e1
            exact e2
  cases hk : K.lookup a with
  | some o =>
    -- the script is one of the module's own objects
    have e := KX a o hk
    rw [ha] at e
    cases e
    refine core (fun _ => none) (fun _ => .inl rfl) (.inr ⟨_, vs.toArray, _, hk, rfl, rfl, rfl, by rw [List.size_toArray, lenV]; exact hl, by simpa using rv⟩) (fun b u z => by have z' : (none : Option HO) = some u := z; cases z') (fun b z => absurd rfl z) fun z => absurd rfl z
  | none =>
    refine core (fun b => if b = a then some (.frz { cls := .type "list", data := .seq vs.toArray } (.lst (ns.map V.int))) else none) (fun b => ?_) (.inl (.inr ⟨{ cls := .type "list", data := .seq vs.toArray }, if_pos rfl⟩)) (fun b u z => ?_) (fun b z => ?_) fun _ => hk
    · by_cases hb : b = a
      · exact .inr ⟨_, _, if_pos hb⟩
      · exact .inl (if_neg hb)
    · by_cases hb : b = a
      · have z' := (if_pos hb).symm.trans z
        cases z'
        subst hb
        exact ⟨ha, by rw [List.length_map]; exact hl, vs, _, rv, ha⟩
      · have z' := (if_neg hb).symm.trans z
        cases z'
    · by_cases hb : b = a
      · exact hb
      · exact absurd (if_neg hb) z
end L2

namespace L2
open PySem PySem.Spec PyProof.Rows

noncomputable abbrev KOf {K : PySem.W.Frag} {h : Heap} (_ : K.In h) : PySem.W.Frag := K

theorem walk_of {l : PySem.W.OpenLaw} {n k : Nat} {q : Program} {loose : List Str} {XP : (Str → Option Value) → Heap → Prop} {YP : World → Heap → Prop} {d : DefRec} {K : Params → PySem.W.Frag} {CX : World → CXT} {sp : World → Sp} {x : Str}
    (hn : l.most = some n) (hn2 : n ≤ sizeLine) (hdf : d.params.defaults = []) (hr : Room k callerA)
    (hY : ∀ (w : World) (h : Heap), YP w h → (K w.params).In h)
    (F : ∀ (w : World) (mg : Str → Option Value) (fa : Addr) (h : Heap), (K w.params).In h → h.Ns mainGlobals mg → mg d.name = some (.ref fa) →
      ∃ fd : FuncData, (∀ (s : Shared) (u : Value), BindsTo s fd ⟨[u], []⟩ [(x, u)]) ∧
        ∀ base : Heap, (K w.params).In base → base.Ns mainGlobals mg → FnOk l.prog w (K w.params) mg base (CX w) k fa fd [x] (sp w))
    (hsp : ∀ (w : World) (H : Hp) (a : Addr) (ns : List Int), ns.length ≤ n → Only H → SqL (K w.params) H a (ns.map V.int) → sp w [.ref a] H (fun v _ => v = .bl true) fun _ _ _ => False)
    (hCX : ∀ (w : World) (H : Hp) (s : Shared) (e : Value) (s' : Shared), CX w [] H s (fun _ _ _ => False) e s' → False) :
    PySem.W.WalkO q loose XP YP l.row.toRowW d [] (fun f vs => PySem.call f vs) := by
  refine Att.attach_call hn hdf fun w s₀ s₁ mg mb fa o pm cd doc a vs ns G Y ho hd hcd hmg hobj hints hlen hg => ?_
  have KX := hY w _ Y
  obtain ⟨fd, hb, hF⟩ := F w mg fa _ KX G.T.g hmg
  exact law_call KX G.T.g G.T.b G.T.builtins G.T.nolimit hg hobj hints (Nat.le_trans hlen hn2) hr hF hb (fun H hO hS => hsp w H a ns hlen hO hS) fun H e s' => hCX w H s₁ e s'
end L2

/- THE LAST THEOREM (shape; LID, My.* are yours):
   My.Adr: a structure of the addresses that your layer names (classes, functions); My.Txt K t: a structure (Prop) of the equations over K;
   My.txt_mk : {K} {implicit addresses ..} (e1 : nsIn K mainGlobals "law" = some (some (.ref f))) (e2 : K.lookup f = some ⟨oc, od, .func (fnOf "law" "law" params body scope dV kV doc pm an cdv ct), sl⟩) (e3 : codeIn K cdv "law" = true) .. : ∃ t, My.Txt K t

set_option maxRecDepth 100000 in
set_option maxHeartbeats 0 in
theorem PySem.Challenge.cw_LID_holds : PySem.Challenge.rw_LID.Holds := by
  w_on; o_law; k_head; (case hw => w_witness2)
  k_fill
  refine L2.walk_of (l := PySem.Challenge.rw_LID) (n := 63) (k := 40) (x := "script") (CX := fun w => ..) (sp := fun _ => My.sp_law) rfl (by decide) rfl ⟨rfl, by decide, by decide⟩ (fun w h Y => PySem.W.kIn_of Y) ?F ?S ?C
  case F =>
    intro w mg fa h KX G hmg
    have T : ∃ t, My.Txt (L2.KOf KX) t := by
      dsimp only [L2.KOf]                          -- K must stand as «<heap const> w.params» for k_is
      refine' My.txt_mk ?e1 ?e2 ?e3 ..
      (case e1 => PySem.W.k_is)                    -- in the order: a name -> its address -> its object -> its parts
      (case e2 => PySem.W.k_is)
      ..
    obtain ⟨t, T⟩ := T
    have e0 := hmg.symm.trans (PySem.W.mg_of KX G T.law)
    cases e0                                       -- fa is the law's own address
    exact ⟨_, fun s u => .of_eq rfl, fun base kb nb => My.law_fn T kb nb⟩     -- if «.of_eq rfl» comes too early: refine' ⟨_, ?b, fun base kb nb => My.law_fn T kb nb⟩; exact fun s u => .of_eq rfl
  case S => exact fun w H a ns hl hO hS => ..
  case C => exact ..
(the tactic k_is has no namespace: write k_is) -/

namespace L2
open PySem PySem.Spec PyProof.Rows

noncomputable def defArgs (s : Stmt) : Arguments := match s with
  | .FunctionDef _ a _ _ _ _ _ _ _ _ => a
  | _ => { posonlyargs := [], args := [], vararg := none, kwonlyargs := [], kw_defaults := [], kwarg := none, defaults := [] }
noncomputable def defBody (s : Stmt) : List Stmt := match s with
  | .FunctionDef _ _ b _ _ _ _ _ _ _ => b
  | _ => []
noncomputable def defScope (s : Stmt) : Scope := match s with
  | .FunctionDef _ _ _ _ _ _ sc _ _ _ => sc
  | _ => { kind := .function, names := [], isGenerator := false, isCoroutine := false }

noncomputable abbrev CX0 : CXT := fun _ _ _ _ _ _ => False
noncomputable abbrev E0 : XK := fun _ _ _ => False
theorem pass0 {X : Cx} : Passes CX0 X E0 := fun _ _ _ _ _ _ _ h => h.elim

structure Fun (K : PySem.W.Frag) (x qual : Str) (st : Stmt) (f : Addr) (fd : FuncData) : Prop where
  ex : ∃ (oc : Value) (od : Option Addr) (kV doc pm : Value) (an : Option Addr) (cdv ct : Value) (osl : Array (Option Value)),
    fd = PySem.W.fnOf x qual (defArgs st) (defBody st) (defScope st) .none kV doc pm an cdv ct ∧ K.lookup f = some ⟨oc, od, .func fd, osl⟩ ∧ PySem.W.codeIn K cdv qual = true
  kp : PySem.W.keepIn K (.ref f) = true
section
variable {P : Program} {w : World} {K : PySem.W.Frag} {mg : Str → Option Value} {base : Heap}
theorem Fun.ok {x qual : Str} {st : Stmt} {f : Addr} {fd : FuncData} {N ps : List Str} {k : Nat} {sp : Sp} (F : Fun K x qual st f fd) (S : FnScope N ps (defScope st)) (len : ∀ vs H Q E, sp vs H Q E → vs.length = ps.length)
    (hbody : ∀ (cdv : Value) (A : Around) (outer : List Env) (s : Shared) (H : Hp) (vs : List V) (Q : VK) (E : XK), Room k (A.deeper (envOfC qual (defScope st) s.heap.objs.size f cdv)) → sp vs H Q E →
      ∃ t, PSs (cxOf CX0 P w K mg base N qual (defScope st) f cdv A outer s H E).nox (defBody st) t ∧ t { nx := fun _ H' => Q .non H', rt := Q } (start N vs) H) : FnOk P w K mg base CX0 (k + 1) f fd ps sp := by
  obtain ⟨oc, od, kV, doc, pm, an, cdv, ct, osl, rfl, lk, hcd⟩ := F.ex
  refine fn_of lk hcd S len fun A outer s H vs Q E hr hsp => ?_
  obtain ⟨t, h, q⟩ := hbody cdv A outer s H vs Q E hr hsp
  exact ⟨t, h.nox, q⟩
theorem fun_mk {x qual : Str} {st : Stmt} {f : Addr} {oc : Value} {od an : Option Addr} {osl : Array (Option Value)} {kV doc pm cdv ct : Value} (l : K.lookup f = some ⟨oc, od, .func (PySem.W.fnOf x qual (defArgs st) (defBody st) (defScope st) .none kV doc pm an cdv ct), osl⟩)
    (c : PySem.W.codeIn K cdv qual = true) (k : PySem.W.keepIn K (.ref f) = true) : Fun K x qual st f (PySem.W.fnOf x qual (defArgs st) (defBody st) (defScope st) .none kV doc pm an cdv ct) := ⟨⟨oc, od, kV, doc, pm, an, cdv, ct, osl, rfl, l, c⟩, k⟩
end
theorem hu_of {A : Around} {k : Nat} (hr : Room k A) : A.units + 1 < cLine := Nat.lt_of_le_of_lt (Nat.add_le_add_left (by decide : 1 ≤ 64) _) hr.units
section
variable {X : Cx}
theorem pv (i : Nat) {x : Str} {pos : Pos} (hN : X.N[i]? = some x := by rfl) (hv : Vis X.env.scope x := by first | exact Or.inl rfl | exact Or.inr (Or.inl rfl) | exact Or.inr (Or.inr rfl)) (hd : (x == ("__debug__" : Str)) = false := by decide)
    (hcd : (x == ("__classdict__" : Str)) = false := by decide) : PE X (.Name x pos) (tVar i) := pe_var hN hv hd hcd
end

theorem iteF {A B : Prop} (h : B) : if false = true then A else B := by
  rw [if_neg Bool.false_ne_true]
  exact h
theorem iteT {A B : Prop} (h : A) : if true = true then A else B := by
  rw [if_pos rfl]
  exact h
theorem ite2 {c A B : Prop} [Decidable c] (h1 : c → A) (h2 : ¬ c → B) : if c then A else B := by
  by_cases h : c
  · rw [if_pos h]
    exact h1 h
  · rw [if_neg h]
    exact h2 h
noncomputable def Same (H H' : Hp) : Prop := ∀ b o, H b = some o → H' b = some o
theorem Same.refl (H : Hp) : Same H H := fun _ _ h => h
theorem Same.trans {H H1 H2 : Hp} (a : Same H H1) (b : Same H1 H2) : Same H H2 := fun c o h => b c o (a c o h)
end L2

section
set_option Elab.async false
set_option linter.all false
set_option maxRecDepth 100000
set_option maxHeartbeats 4000000
namespace L2
open PySem PySem.Spec PyProof.Rows

section
variable {X : Cx}
end
noncomputable def clOf (env : Env) : List (Str × NameKind) → List (Str × Addr) → List (Str × Addr)
  | [], cs => cs
  | (n, k) :: r, cs => clOf env r (if k == .free then match env.cells.lookup n with | some a => (n, a) :: cs | none => cs else cs)
theorem clOf_from {env : Env} {x : Str} {c : Addr} : ∀ {ns : List (Str × NameKind)} {cs : List (Str × Addr)}, (∀ p ∈ cs, env.cells.lookup p.1 = some p.2) → (clOf env ns cs).lookup x = some c → env.cells.lookup x = some c
  | [], cs, h, e => by
    unfold clOf at e
    exact h (x, c) (PySem.mem_of_lookup e)
  | (n, k) :: r, cs, h, e => by
    unfold clOf at e
    refine clOf_from (ns := r) ?_ e
    intro p hp
    split at hp
    · split at hp
      · rename_i a ea
        rcases List.mem_cons.mp hp with rfl | hp
        · exact ea
        · exact h p hp
      · exact h p hp
    · exact h p hp
theorem lookup_ne_none {x : Str} : ∀ {cs : List (Str × Addr)}, (∃ c, (x, c) ∈ cs) → ∃ c, cs.lookup x = some c
  | [], ⟨_, h⟩ => nomatch h
  | (n, a) :: r, ⟨c, h⟩ => by
    rw [List.lookup_cons]
    cases e : x == n with
    | true => exact ⟨a, rfl⟩
    | false =>
      rcases List.mem_cons.mp h with h | h
      · cases h
        rw [beq_self_eq_true] at e; cases e
      · exact lookup_ne_none ⟨c, h⟩
theorem clOf_has {env : Env} {x : Str} : ∀ {ns : List (Str × NameKind)} {cs : List (Str × Addr)}, ((∃ c, (x, c) ∈ cs) ∨ ((x, NameKind.free) ∈ ns ∧ ∃ c, env.cells.lookup x = some c)) → ∃ c, (x, c) ∈ clOf env ns cs
  | [], cs, h => by
    unfold clOf
    rcases h with h | ⟨h, _⟩
    · exact h
    · cases h
  | (n, k) :: r, cs, h => by
    unfold clOf
    refine clOf_has (ns := r) ?_
    rcases h with ⟨c, h⟩ | ⟨h, c, hc⟩
    · refine .inl ⟨c, ?_⟩
      split
      · split
        · exact List.mem_cons_of_mem _ h
        · exact h
      · exact h
    · rcases List.mem_cons.mp h with h | h
      · cases h
        refine .inl ⟨c, ?_⟩
        rw [if_pos (by decide), hc]
        exact List.mem_cons_self
      · exact .inr ⟨h, c, hc⟩
theorem closureFor_eq {sc : Scope} {env : Env} (h : ∀ p ∈ sc.names, p.2 = NameKind.free → ∃ c, env.cells.lookup p.1 = some c) : closureFor sc env = pure (clOf env sc.names []) := by
  have go : ∀ (ns : List (Str × NameKind)) (cs : List (Str × Addr)), (∀ p ∈ ns, p.2 = NameKind.free → ∃ c, env.cells.lookup p.1 = some c) →
      (forIn ns cs fun (x : Str × NameKind) (r : List (Str × Addr)) => (if (x.2 == NameKind.free) = true then do
          let y ← cellOf env x.1
          pure (ForInStep.yield ((x.1, y) :: r)) else pure (ForInStep.yield r) : Sem (ForInStep (List (Str × Addr))))) = (pure (clOf env ns cs) : Sem (List (Str × Addr))) := by
    intro ns
    induction ns with
    | nil => intro cs _; rfl
    | cons p r ih =>
      intro cs hp
      obtain ⟨n, k⟩ := p
      rw [List.forIn_cons]
      unfold clOf
      by_cases hk : k = NameKind.free
      · subst hk
        obtain ⟨c, hc⟩ := hp (n, .free) List.mem_cons_self rfl
        have e1 : cellOf env n = pure c := by unfold cellOf; rw [hc]
        simp only [beq_self_eq_true, if_true, e1, hc, pure_bind]
        exact ih _ fun q hq => hp q (List.mem_cons_of_mem _ hq)
      · have hb : (k == NameKind.free) = false := by simpa using hk
        simp only [hb, Bool.false_eq_true, if_false, pure_bind]
        exact ih _ fun q hq => hp q (List.mem_cons_of_mem _ hq)
  unfold closureFor
  have := go sc.names [] h
  simp only [bind_pure_comp, id_map'] at this ⊢
  rw [this]
  rfl
end L2

end

section
set_option Elab.async false
set_option linter.all false
set_option maxRecDepth 100000
set_option maxHeartbeats 4000000
namespace L2
open PySem PySem.Spec PyProof.Rows

theorem relabel_lookup {env : Env} {x : Str} {k' : NameKind} : ∀ {ns : List (Str × NameKind)},
    (ns.map fun (n, k) => if (k == NameKind.free && env.scope.kind == .function && env.kindOf n == some .cell) then (n, NameKind.cell) else (n, k)).lookup x = some k' →
    ∃ k, ns.lookup x = some k ∧ (k' = k ∨ (k = .free ∧ k' = .cell))
  | [], h => by simp at h
  | (n, k) :: r, h => by
    have h' : List.lookup x ((if (k == NameKind.free && env.scope.kind == .function && env.kindOf n == some .cell) = true then (n, NameKind.cell) else (n, k)) :: (r.map fun (n, k) => if (k == NameKind.free && env.scope.kind == .function && env.kindOf n == some .cell) then (n, NameKind.cell) else (n, k))) = some k' := h
    rw [List.lookup_cons]
    by_cases hc : (k == NameKind.free && env.scope.kind == .function && env.kindOf n == some .cell) = true
    · rw [if_pos hc, List.lookup_cons] at h'
      cases e : x == n with
      | true =>
        rw [e] at h'
        cases h'
        refine ⟨k, rfl, .inr ⟨?_, rfl⟩⟩
        rw [Bool.and_eq_true, Bool.and_eq_true] at hc
        exact eq_of_beq hc.1.1
      | false =>
        rw [e] at h'
        exact relabel_lookup h'
    · rw [if_neg hc, List.lookup_cons] at h'
      cases e : x == n with
      | true =>
        rw [e] at h'
        cases h'
        exact ⟨_, rfl, .inl rfl⟩
      | false =>
        rw [e] at h'
        exact relabel_lookup h'
theorem relabel_has {env : Env} {x : Str} {k : NameKind} : ∀ {ns : List (Str × NameKind)}, ns.lookup x = some k →
    ∃ k', (ns.map fun (n, k) => if (k == NameKind.free && env.scope.kind == .function && env.kindOf n == some .cell) then (n, NameKind.cell) else (n, k)).lookup x = some k' ∧ (k' = k ∨ (k = .free ∧ k' = .cell))
  | [], h => by simp at h
  | (n, k0) :: r, h => by
    show ∃ k', List.lookup x ((if (k0 == NameKind.free && env.scope.kind == .function && env.kindOf n == some .cell) = true then (n, NameKind.cell) else (n, k0)) :: (r.map fun (n, k) => if (k == NameKind.free && env.scope.kind == .function && env.kindOf n == some .cell) then (n, NameKind.cell) else (n, k))) = some k' ∧ _
    rw [List.lookup_cons] at h
    by_cases hc : (k0 == NameKind.free && env.scope.kind == .function && env.kindOf n == some .cell) = true
    · rw [if_pos hc, List.lookup_cons]
      cases e : x == n with
      | true =>
        rw [e] at h
        cases h
        refine ⟨_, rfl, .inr ⟨?_, rfl⟩⟩
        rw [Bool.and_eq_true, Bool.and_eq_true] at hc
        exact eq_of_beq hc.1.1
      | false =>
        rw [e] at h
        exact relabel_has h
    · rw [if_neg hc, List.lookup_cons]
      cases e : x == n with
      | true =>
        rw [e] at h
        cases h
        exact ⟨_, rfl, .inl rfl⟩
      | false =>
        rw [e] at h
        exact relabel_has h

noncomputable abbrev Cap := List (Option Nat)
noncomputable def capt (ix : Cap) (σ : St) : St := ix.map fun o => (o.bind fun j => σ[j]?).join
noncomputable def capOk (N N' : List Str) (sc sc' : Scope) (ix : Cap) : Bool :=
  (ix.length == N'.length) && (sc'.kind == .function) &&
  (sc'.names.all fun p => p.2 != .cell && (p.2 != .local || sc'.names.lookup p.1 == some .local) && (p.2 != .free || (sc.names.lookup p.1 == some .cell || sc.names.lookup p.1 == some .free))) &&
  (List.range ix.length).all fun k => match ix[k]? with
    | some (some j) => match N'[k]? with
      | some x => N[j]? == some x && sc'.names.lookup x == some .free
      | none => false
    | _ => true
structure CapOk (N N' : List Str) (sc sc' : Scope) (ix : Cap) : Prop where
  len : ix.length = N'.length
  kind : sc'.kind = .function
  nocell : ∀ p ∈ sc'.names, p.2 ≠ .cell
  loc : ∀ p ∈ sc'.names, p.2 = .local → sc'.names.lookup p.1 = some .local
  fre : ∀ p ∈ sc'.names, p.2 = .free → sc.names.lookup p.1 = some .cell ∨ sc.names.lookup p.1 = some .free
  cap : ∀ (k j : Nat), ix[k]? = some (some j) → ∃ x, N'[k]? = some x ∧ N[j]? = some x ∧ sc'.names.lookup x = some .free
theorem capOk_of {N N' : List Str} {sc sc' : Scope} {ix : Cap} (h : capOk N N' sc sc' ix = true) : CapOk N N' sc sc' ix := by
  unfold capOk at h
  simp only [Bool.and_eq_true, List.all_eq_true, beq_iff_eq] at h
  obtain ⟨⟨⟨h1, h2⟩, h3⟩, h4⟩ := h
  refine ⟨h1, h2, fun p hp => ?_, fun p hp hl => ?_, fun p hp hf => ?_, fun k j hk => ?_⟩
  · have := (h3 p hp).1.1
    simpa using this
  · have := (h3 p hp).1.2
    rw [hl] at this
    simpa using this
  · have := (h3 p hp).2
    rw [hf] at this
    simpa using this
  · have hlt : k < ix.length := (List.getElem?_eq_some_iff.mp hk).1
    have := h4 k (List.mem_range.mpr hlt)
    rw [hk] at this
    simp only at this
    cases e : N'[k]? with
    | none => rw [e] at this; simp at this
    | some x =>
      rw [e] at this
      simp only [Bool.and_eq_true, beq_iff_eq] at this
      exact ⟨x, rfl, this.1, this.2⟩

noncomputable abbrev Cx.comp (X : Cx) (sc : Scope) (N' : List Str) (C : Addr) (s₀ : Shared) (H₀ : Hp) (ex : List Addr) : Cx :=
  { X with N := N', s₀ := s₀, H₀ := H₀, env := compEnvC sc (clOf X.env sc.names []) C X.env, outer := X.stack, stack := X.stack, ex := ex, fn := fun _ => false, pn := [], xe := fun _ _ => False }

noncomputable def Ext (σ σ' : St) : Prop := σ.length = σ'.length ∧ ∀ (i : Nat) v, σ[i]? = some (some v) → σ'[i]? = some (some v)
theorem ext_set {σ : St} {i : Nat} {v : Option V} (h : σ[i]? = some none) : Ext σ (σ.set i v) := by
  refine ⟨by simp, fun j w e => ?_⟩
  by_cases hj : i = j
  · subst hj; rw [h] at e; cases e
  · rw [List.getElem?_set_ne hj]; exact e
noncomputable def PTs (X : Cx) (ifs : List Expr) (t : TT) : Prop :=
  ∀ (pins : List (Addr × Obj)) (s : Shared) (σ : St) (H : Hp) (Q : Bool → Hp → Prop), Inv X pins σ H s → t σ H Q →
    wpAny (model X.prog X.w) X.A (forIn ifs true fun c r => if r = true then do let ok ← isTrue c X.env (eval c X.env); pure (ForInStep.yield ok) else pure (ForInStep.yield r)) (TP X pins σ Q) X.xe s
noncomputable def tYes : TT := fun _ H Q => Q true H
theorem pts_nil {X : Cx} : PTs X [] tYes := fun _ _ _ H _ I h => wpAny_tests_nil ⟨H, I, h⟩
theorem pts_one {X : Cx} {c : Expr} {t : TT} (h : PT X c t) : PTs X [c] t := fun pins s σ H Q I hw => wpAny_tests_one (h pins s σ H Q I hw)

noncomputable def CompGo (J : It) (ix : Cap) (g : TG) (tt : TT) (te : TE) (σ : St) (H1 : Hp) (Q : VK) : Prop := ∃ W : Nat → Nat → List V → Hp → Prop, (∃ m, W 0 m [] H1) ∧ ∀ i m ys H, W i m ys H →
  (J.stop i H ∧ ∀ D, H D = none → Q (.ref D) (upd H D (.lst ys))) ∨
  (J.go i H ∧ ys.length < sizeLine ∧ ∀ x H', J.yld i H x H' → g x (capt ix σ) H' fun σ2 H2 => Ext (capt ix σ) σ2 ∧ tt σ2 H2 fun b H3 =>
    if b = true then te σ2 H3 fun y H4 => ∃ m', m' < m ∧ W (i + 1) m' (ys ++ [y]) H4 else ∃ m', m' < m ∧ W (i + 1) m' ys H3)
noncomputable def tComp (ix : Cap) (wi : TI) (g : TG) (tt : TT) (te : TE) : TE := fun σ H Q => wi σ H fun J H1 => CompGo J ix g tt te σ H1 Q

theorem HOk.track {P : Program} {w : World} {H : Hp} {h : Heap} {a : Addr} {o : HO} (x : HOk P w H h) (hn : H a = none) (new : ObjOk P w (upd H a o) h a o) : HOk P w (upd H a o) h := fun b u e => by
  by_cases hb : b = a
  · subst hb; rw [upd_same] at e; cases e; exact new
  · rw [upd_ne hb] at e
    exact (x b u e).stay (fun c v _ q => q) (fun c q => by rw [upd_ne (ne_of_none q hn)]; exact q) fun c xs q => by rw [upd_ne (ne_of_none q hn)]; exact q

theorem codeAny_compLoop_own {prog : Program} {w : World} {A : Around} {R : Result → Shared → Prop} {s : Shared} {elt target iter : Expr} {ifs : List Expr} {scope : Scope} {pos : Pos} {it acc : Value} {env : Env} (I : Nat → Shared → Prop)
    (turn : ∀ n s, I n s → wpAny (model prog w) A (pyNext it) (fun r s₁ => match r with
      | none => R (.ok .next) s₁
      | some v => wpAny (model prog w) A (letOwnedTupleGo target it v) (fun _ s₁' => wpAny (model prog w) A (assign target env v) (fun _ s₂ =>
          wpAny (model prog w) A (forIn ifs true fun c r => if r = true then do let ok ← isTrue c env (eval c env); pure (ForInStep.yield ok) else pure (ForInStep.yield r)) (fun ok s₃ =>
            if ok = true then wpAny (model prog w) A (eval elt env) (fun x s₄ =>
              wpAny (model prog w) A (call (.builtin "list.append") [acc, x]) (fun _ s₅ => ∃ m, m < n ∧ I m s₅) (notedBy (model prog w) A env fun e s' => R (.error e) s') s₄) (notedBy (model prog w) A env fun e s' => R (.error e) s') s₃
            else ∃ m, m < n ∧ I m s₃) (notedBy (model prog w) A env fun e s' => R (.error e) s') s₂) (notedBy (model prog w) A env fun e s' => R (.error e) s') s₁') (notedBy (model prog w) A env fun e s' => R (.error e) s') s₁) (notedBy (model prog w) A env fun e s' => R (.error e) s') s)
    (n : Nat) (h : I n s) :
    codeAny (model prog w) A (.compLoop (.ListComp elt [⟨target, iter, ifs, 0⟩] scope pos) 0 it acc env) R s := by
  refine codeAny_loop rfl I (fun n s hI => ?_) n h
  show wpAny _ A ((compTurn (.ListComp elt [⟨target, iter, ifs, 0⟩] scope pos) 0 it acc env).onRaise (fun x => do noteFrame x env; theTreesLotGoes x)) _ _ s
  refine wpAny_noted ?_
  rw [compTurn_list]
  refine wpAny_bind (wpAny_standAt (wpAny_bind (wpAny_mono (turn n s hI) (fun r s₁ h₁ => ?_) fun _ _ h' => h')))
  cases r with
  | none => exact wpAny_pure h₁
  | some v =>
    refine wpAny_bind (wpAny_mono h₁ (fun _ s₁' h₁' => ?_) fun _ _ h' => h')
    refine wpAny_bind (wpAny_mono h₁' (fun _ s₂ h₂ => wpAny_bind (wpAny_mono h₂ (fun ok s₃ h₃ => ?_) fun _ _ h' => h')) fun _ _ h' => h')
    cases ok with
    | false => exact wpAny_pure ⟨rfl, h₃⟩
    | true =>
      exact wpAny_bind (wpAny_bind (wpAny_mono h₃ (fun x s₄ h₄ => wpAny_bind (wpAny_mono h₄ (fun _ s₅ h₅ => wpAny_pure (wpAny_pure ⟨rfl, h₅⟩)) fun _ _ h' => h')) fun _ _ h' => h'))

section
variable {X : Cx}
theorem no_exc {M : Model} {A : Around} {α : Type} {t : Sem α} {Q : α → Shared → Prop} {E : Value → Shared → Prop} {s : Shared} (h : wpAny M A t Q (fun _ _ => False) s) : wpAny M A t Q E s := wpAny_mono h (fun _ _ q => q) fun _ _ z => z.elim

theorem comp_block {elt tg iter : Expr} {ifs : List Expr} {sc : Scope} {pos : Pos} {N' : List Str} {ix : Cap} {g : TG} {tt : TT} {te : TE} {pins : List (Addr × Obj)} {σ : St} {s : Shared} {Q : VK} {RR : Value → Addr → Result → Shared → Prop} {E : Value → Shared → Prop}
    {itv : Value} (hc : X.calm = true) (ok : CapOk X.N N' X.env.scope sc ix)
    (hg : ∀ C s₀ H₀ ex, PG (X.comp sc N' C s₀ H₀ ex) tg g) (ht : ∀ C s₀ H₀ ex, PTs (X.comp sc N' C s₀ H₀ ex) ifs tt) (he : ∀ C s₀ H₀ ex, PE (X.comp sc N' C s₀ H₀ ex) elt te)
    (hi : PIE X pins σ tg (fun J H1 => CompGo J ix g tt te σ H1 Q) itv s)
    (fin : ∀ (D C : Addr) (s' : Shared) (H' : Hp) (m : Str → Option Value), Inv X pins σ H' s' → Q (.ref D) H' → s'.heap.Ns C m → H' C = none → C ≠ X.env.locals → X.s₀.heap.objs.size ≤ C → (∀ x c, X.env.cells.lookup x = some c → c ≠ C) → (∀ p ∈ X.pn ++ pins, p.1 ≠ C) →
      RR (.ref D) C (.ok .next) s') :
    wpAny (model X.prog X.w) X.A (newList []) (fun acc s₃ => wpAny (model X.prog X.w) X.A (newFunctionEnv sc X.env.globals (clOf X.env sc.names []) [] X.env.qual none .none (some X.env)) (fun cenv s₄ =>
      codeAny (model X.prog X.w) X.A (.compStart (.ListComp elt [⟨tg, iter, ifs, 0⟩] sc pos) 0 itv acc { cenv with scope := relabel sc X.env }) (RR acc cenv.locals) s₄) E s₃) E s := by
  obtain ⟨it, fp, tn, J, H2, rfl, I2, T, st2, f2, W, ⟨m0, w0⟩, turn⟩ := hi
  refine wpAny_newObj_type (wpAny_newFunctionEnv ok.nocell (by intro y hy; simp at hy) (fun h₁ hns₁ hsb₁ => ?_) ok.kind)
  dsimp only at hns₁ hsb₁ ⊢
  generalize hHD : s.heap.push { cls := .type "list", dict := none, data := .seq ([] : List Value).toArray } = hD at hns₁ hsb₁ ⊢
  have hCs : hD.objs.size = s.heap.objs.size + 1 := by rw [← hHD, Heap.size_push]
  have upC : s.heap.objs.size < hD.objs.size := by rw [hCs]; exact Nat.lt_succ_self _
  have hDC : s.heap.objs.size ≠ hD.objs.size := by rw [hCs]; exact Nat.ne_of_lt (Nat.lt_succ_self _)
  have below : ∀ b o, s.heap.get? b = some o → b ≠ hD.objs.size ∧ b ≠ s.heap.objs.size := fun b o e => by
    have := Heap.lt_size e
    exact ⟨Nat.ne_of_lt (by rw [hCs]; exact Nat.lt_succ_of_lt this), Nat.ne_of_lt this⟩
  have old : ∀ b o, s.heap.get? b = some o → h₁.get? b = some o := fun b o e => hsb₁.extBut b o (below b o e).1 (Heap.get?_push_of_some _ (hHD ▸ Heap.get?_push_of_some _ e))
  have hacc : h₁.get? s.heap.objs.size = some { cls := .type "list", data := .seq ([] : List Value).toArray 0 } := hsb₁.extBut _ _ hDC (Heap.get?_push_of_some _ (hHD ▸ Heap.get?_push_size _ rfl))
  -- the context
  have fpo : ∀ b ∈ fp, b < s.heap.objs.size := fun b hb => let ⟨o, e, _⟩ := T.obj _ _ st2 b hb; Heap.lt_size e
  have cellX : ∀ x c, (clOf X.env sc.names []).lookup x = some c → X.env.cells.lookup x = some c := fun x c e => clOf_from (fun p hp => absurd hp (by simp)) e
  have cellLt : ∀ x c, X.env.cells.lookup x = some c → c < s.heap.objs.size := fun x c e => let ⟨v, z⟩ := I2.cell x c e; z.lt
  have hasC : ∀ x, (x, NameKind.free) ∈ sc.names → ∃ c, (clOf X.env sc.names []).lookup x = some c := fun x hx => by
    have h1 := I2.ok.has x (ok.fre (x, .free) hx rfl)
    exact lookup_ne_none (clOf_has (.inr ⟨hx, h1⟩))
  have okX : (X.comp sc N' hD.objs.size s H2 fp).Ok := by
    refine ⟨I2.ok.mod, ok.kind, I2.ok.glob, I2.ok.blt, ?_, ?_, ?_, ?_, I2.ok.hd, I2.ok.frames, .inl rfl, ?_, I2.bs, Nat.le_trans I2.ok.bsz I2.sz, ?_, ?_, I2.stack, I2.stkFree⟩
    · exact Nat.le_of_lt upC
    · intro x y c h1 h2
      exact I2.ok.inj x y c (cellX x c h1) (cellX y c h2)
    · intro x hx
      have hx' : (relabel sc X.env).names.lookup x = some .cell ∨ (relabel sc X.env).names.lookup x = some .free := hx
      have : ∃ k, sc.names.lookup x = some k ∧ (k = .free ∨ k = .cell) := by
        rcases hx' with h | h
        · obtain ⟨k, e, z⟩ := relabel_lookup h
          rcases z with z | ⟨z, _⟩
          · exact ⟨k, e, .inr z.symm⟩
          · exact ⟨k, e, .inl z⟩
        · obtain ⟨k, e, z⟩ := relabel_lookup h
          rcases z with z | ⟨_, z⟩
          · exact ⟨k, e, .inl z.symm⟩
          · cases z
      obtain ⟨k, e, z⟩ := this
      rcases z with rfl | rfl
      · exact hasC x (PySem.mem_of_lookup e)
      · exact absurd rfl (ok.nocell _ (PySem.mem_of_lookup e))
    · intro x c h _
      cases h
    · intro b hb
      refine ⟨?_, fun x c e => (f2 b hb).2.2.2.2.1 x c (cellX x c e)⟩
      exact Nat.ne_of_lt (by rw [hCs]; exact Nat.lt_succ_of_lt (fpo b hb))
    · intro b o e hb
      rcases (f2 b hb).2.2.2.1 with z | z
      · exact I2.ok.noex b o e z
      · exact absurd (Nat.lt_of_lt_of_le (Heap.lt_size (I2.ok.bs b o e).1) z) (Nat.lt_irrefl _)
    · intro b hb z
      rcases List.mem_cons.mp (I2.stkSub b z) with z | z
      · exact (f2 b hb).2.1 z
      · exact (f2 b hb).2.2.1 z
  have hnD : H2 s.heap.objs.size = none := I2.hok.fresh (Nat.le_refl _)
  have hnC : H2 hD.objs.size = none := I2.hok.fresh (Nat.le_of_lt upC)
  have nofsD : ∀ a, s.heap.objs.size ≤ a → a ∉ frs X.stack := fun a ha z => by
    rcases List.mem_cons.mp (I2.stkSub a z) with z | z
    · exact absurd (Nat.lt_of_lt_of_le I2.lt ha) (by rw [z]; exact Nat.lt_irrefl _)
    · exact I2.nofs ha z
  have start : Inv (X.comp sc N' hD.objs.size s H2 fp) [(s.heap.objs.size, { cls := .type "list", data := .seq ([] : List Value).toArray 0 })] (capt ix σ) H2 { s with heap := h₁, toks := s.toks + ([] : List (Str × Value)).length } := by
    refine ⟨okX, rfl, I2.bare, Un.kept old, ⟨_, hns₁, ?_⟩, fun x c e => ?_, hnC, fun x c e => I2.freeC x c (cellX x c e), fun p hp => ?_, I2.hok.kept old, ?_⟩
    · intro i x v hN hv hvis
      have hl : i < ix.length := by rw [ok.len]; exact (List.getElem?_eq_some_iff.mp hN).1
      have hv' : (ix.map fun o => (o.bind fun j => σ[j]?).join)[i]? = some (some v) := hv
      rw [List.getElem?_map, List.getElem?_eq_getElem hl] at hv'
      have hv'' : ((ix[i].bind fun j => σ[j]?).join) = some v := Option.some.inj hv'
      cases ej : ix[i] with
      | none => rw [ej] at hv''; cases hv''
      | some j =>
        rw [ej] at hv''
        have hσ : σ[j]? = some (some v) := by
          have z : (σ[j]?).join = some v := hv''
          cases q : σ[j]? with
          | none => rw [q] at z; cases z
          | some o => rw [q] at z; exact congrArg some z
        obtain ⟨x', e1, e2, e3⟩ := ok.cap i j (by rw [List.getElem?_eq_getElem hl, ej])
        rw [show N'[i]? = some x from hN] at e1
        cases e1
        have hk := ok.fre (x, .free) (PySem.mem_of_lookup e3) rfl
        obtain ⟨m, hm, hl'⟩ := I2.loc
        obtain ⟨u, ru, lk⟩ := hl' j x v e2 hσ (hk.elim (fun z => .inr (.inl z)) fun z => .inr (.inr z))
        refine ⟨u, ru, .inr ⟨?_, ?_⟩⟩
        · show (relabel sc X.env).names.lookup x = some .cell ∨ (relabel sc X.env).names.lookup x = some .free
          obtain ⟨k', q1, q2⟩ := relabel_has (env := X.env) e3
          rcases q2 with q2 | ⟨_, q2⟩
          · exact .inr (q1.trans (congrArg some q2))
          · exact .inl (q1.trans (congrArg some q2))
        · obtain ⟨c, hc'⟩ := hasC x (PySem.mem_of_lookup e3)
          refine ⟨c, hc', ?_⟩
          rcases lk with ⟨z, _⟩ | ⟨_, c', ec, ⟨o, ho, hd⟩⟩
          · have z' : X.env.scope.names.lookup x = some .local := z
            rcases hk with hk | hk
            · rw [z'] at hk; cases hk
            · rw [z'] at hk; cases hk
          · rw [cellX x c hc'] at ec
            cases ec
            exact ⟨o, old _ _ ho, hd⟩
    · obtain ⟨v, o, ho, hd⟩ := I2.cell x c (cellX x c e)
      exact ⟨v, o, old _ _ ho, hd⟩
    · have e : p = (s.heap.objs.size, { cls := .type "list", data := .seq ([] : List Value).toArray 0 }) := by simpa using hp
      subst e
      exact ⟨hacc, hnD, hDC, nofsD _ (Nat.le_refl _), fun v z => by cases z⟩
    · show (ix.map _).length = N'.length
      rw [List.length_map]
      exact ok.len
  have st1 : tn 0 h₁ := T.keep _ _ _ st2 fun b hb o e => old b o e
  have loop : ∀ s₃ : Shared, s₃ = { s with heap := h₁, toks := s.toks + ([] : List (Str × Value)).length } →
      codeAny (model X.prog X.w) X.A (.compLoop (.ListComp elt [⟨tg, iter, ifs, 0⟩] sc pos) 0 (.ref it) (.ref s.heap.objs.size) (compEnvC sc (clOf X.env sc.names []) hD.objs.size X.env))
        (RR (.ref s.heap.objs.size) hD.objs.size) s₃ := by
    rintro s₃ rfl
    have fpI : ∀ {H' : Hp} {o : Obj}, (∀ b ∈ fp, H' b = none) → ∀ b ∈ fp, FpOk (X.comp sc N' hD.objs.size s H2 fp) [(s.heap.objs.size, o)] H' b := fun {H' o} hn b hb => by
      have hlt := fpo b hb
      refine ⟨hn b hb, (okX.exf b hb).1, okX.exfs b hb, .inl hb, (okX.exf b hb).2, fun p hp => ?_⟩
      have e : p = (s.heap.objs.size, o) := by simpa using hp
      subst e
      exact Nat.ne_of_gt hlt
    refine codeAny_compLoop_own (fun n s' => ∃ i ys its k H', Inv (X.comp sc N' hD.objs.size s H2 fp) [(s.heap.objs.size, { cls := .type "list", data := .seq its.toArray k })] (capt ix σ) H' s' ∧ Vals ys its ∧ ys.length ≤ sizeLine ∧ tn i s'.heap ∧ (∀ b ∈ fp, H' b = none) ∧ W i n ys H')
      ?_ m0 ⟨0, [], [], 0, H2, start, .nil, Nat.zero_le _, st1, fun b hb => (f2 b hb).1, w0⟩
    rintro n s4 ⟨i, ys, its, k, H4, I4, r4, z4, st4, fr4, w4⟩
    rcases turn i n ys H4 w4 with ⟨stop, q⟩ | ⟨go, hz, step⟩
    · refine no_exc (thn (T.done (X.comp sc N' hD.objs.size s H2 fp) rfl rfl rfl hc i _ s4 _ H4 (fun _ _ => False) I4 (fpI fr4) st4 stop) fun r s5 ⟨hr, I5⟩ => ?_)
      subst hr
      show RR (.ref s.heap.objs.size) hD.objs.size (.ok .next) s5
      obtain ⟨pD, nD, _, _, _⟩ := I5.pin (s.heap.objs.size, { cls := .type "list", data := .seq its.toArray k }) (by simp)
      obtain ⟨m5, hm5, _⟩ := I5.loc
      have okD : HOk X.prog X.w (upd H4 s.heap.objs.size (.lst ys)) s5.heap := I5.hok.track nD ⟨z4, its, k, r4, pD⟩
      have un : Un (frs X.stack) fp H2 (upd H4 s.heap.objs.size (.lst ys)) s.heap s5.heap := by
        have B : Un (frs X.stack) fp H2 H4 s.heap s5.heap := I5.base
        have ne : ∀ b u, H2 b = some u → b ≠ s.heap.objs.size := fun b u e => ne_of_none e hnD
        refine ⟨B.keep, B.slot, fun b o e n hb => ?_, B.there, fun b xs e => ?_, fun b o u e => ?_, fun b ps e => ?_⟩
        · rw [upd_ne (below b o e).2]; exact B.free b o e n hb
        · rw [upd_ne (ne b _ e)]; exact B.tups b xs e
        · rw [upd_ne (ne b _ e)]; exact B.frzs b o u e
        · rw [upd_ne (ne b _ e)]; exact B.tbls b ps e
      have IX : Inv X pins σ (upd H4 s.heap.objs.size (.lst ys)) s5 := I2.call' (ch := fp) I5.os un okD I5.bare fun b hb => ⟨(f2 b hb).2.2.2.1, (f2 b hb).2.1, (f2 b hb).2.2.2.2.1, (f2 b hb).2.2.2.2.2⟩
      refine fin _ _ s5 _ m5 IX (q _ nD) hm5 ?_ (Nat.ne_of_gt (Nat.lt_trans I2.lt upC)) (Nat.le_of_lt (Nat.lt_of_le_of_lt I2.sz upC)) (fun x c e => Nat.ne_of_lt (Nat.lt_trans (cellLt x c e) upC)) (fun p hp => Nat.ne_of_lt (Nat.lt_trans (Heap.lt_size (I2.pin p hp).1) upC))
      rw [upd_ne (Ne.symm hDC)]; exact I5.free
    · refine no_exc (thn (T.item (X.comp sc N' hD.objs.size s H2 fp) rfl rfl rfl hc i _ s4 _ H4 (fun _ _ => False) I4 (fpI fr4) st4 go) fun r s5 ⟨u, hr, h5⟩ => ?_)
      subst hr
      refine no_exc (thn h5 fun _ s6 ⟨x, H6, I6, r6, y6, st6, fr6⟩ => ?_)
      have I6' := I6.pinned (fpI fr6) (T.obj _ _ st6)
      refine no_exc (thn (hg _ _ _ _ _ s6 _ H6 x u _ I6' r6 (step x H6 y6)) fun _ s7 ⟨σ7, H7, I7, x7, q7⟩ => ?_)
      refine no_exc (thn (ht _ _ _ _ _ s7 σ7 H7 _ I7 q7) fun b s8 ⟨H8, I8, q8⟩ => ?_)
      -- what is left of a turn
      have back : ∀ {s9 : Shared} {H9 : Hp}, Inv (X.comp sc N' hD.objs.size s H2 fp) ([(s.heap.objs.size, { cls := .type "list", data := .seq its.toArray k })] ++ pinsAt fp s6.heap) σ7 H9 s9 →
          Inv (X.comp sc N' hD.objs.size s H2 fp) [(s.heap.objs.size, { cls := .type "list", data := .seq its.toArray k })] (capt ix σ) H9 s9 ∧ tn (i + 1) s9.heap ∧ (∀ b ∈ fp, H9 b = none) := fun {s9 H9} J9 => by
        refine ⟨(J9.unpinned).weak x7.1 x7.2, T.keep _ _ _ st6 fun b hb o e => (J9.pin (b, o) (List.mem_append_right _ (List.mem_append_right _ (mem_pinsAt hb e)))).1, fun b hb => ?_⟩
        obtain ⟨o, e, d⟩ := T.obj _ _ st6 b hb
        exact (J9.pin (b, o) (List.mem_append_right _ (List.mem_append_right _ (mem_pinsAt hb e)))).2.1
      cases b with
      | false =>
        rw [if_neg Bool.false_ne_true] at q8 ⊢
        obtain ⟨m', hm, w8⟩ := q8
        obtain ⟨J8, st8, fr8⟩ := back I8
        exact ⟨m', hm, i + 1, ys, its, k, H8, J8, r4, z4, st8, fr8, w8⟩
      | true =>
        rw [if_pos rfl] at q8 ⊢
        refine no_exc (thn (he _ _ _ _ _ s8 σ7 H8 _ I8 q8) fun y s9 ⟨v9, H9, I9, r9, q9⟩ => ?_)
        obtain ⟨m', hm, w9⟩ := q9
        obtain ⟨J9, st9, fr9⟩ := back I9
        obtain ⟨pD, nD, neC, nf, _⟩ := J9.pin (s.heap.objs.size, { cls := .type "list", data := .seq its.toArray k }) (by simp)
        have hlen := r4.length
        refine call_meets F.slot_list_append ⟨_, pD, rfl⟩ F.entry_list_append (F.args_list_append_2 _ _) (PySem.list_append s.heap.objs.size its.toArray k y (by rw [List.size_toArray]; omega)) ⟨pD, ?_⟩
        have q := PySem.IsL.update pD (·.push y)
        have ep : its.toArray.push y = (its ++ [y]).toArray := by simp
        dsimp only at q
        rw [ep] at q
        obtain ⟨k', q⟩ : ∃ k', (s9.heap.update s.heap.objs.size (Obj.mapSeq (·.push y))).get? s.heap.objs.size = some { cls := .type "list", data := .seq (its ++ [y]).toArray k' } := ⟨_, q⟩
        have J0 : Inv (X.comp sc N' hD.objs.size s H2 fp) [] (capt ix σ) H9 s9 := J9.pins_of fun p hp => absurd hp (by simp)
        have J1 : Inv (X.comp sc N' hD.objs.size s H2 fp) [] (capt ix σ) H9 { s9 with heap := s9.heap.update s.heap.objs.size (Obj.mapSeq (·.push y)) } :=
          J0.turned (it := s.heap.objs.size) (t' := s9.toks) (fun b o hb e => (Heap.get?_update_other _ _ (Ne.symm hb)).trans e) nD neC (.inr (Nat.le_refl _)) (fun x c e => Nat.ne_of_lt (cellLt x c (cellX x c e))) fun p hp => absurd hp (by simp)
        refine ⟨m', hm, i + 1, ys ++ [v9], its ++ [y], k', H9, J1.pins_of fun p hp => ?_, r4.append (.cons r9 .nil), ?_, T.keep _ _ _ st9 fun b hb o e => (Heap.get?_update_other _ _ ?_).trans e, fr9, w9⟩
        · have e : p = _ := List.mem_singleton.mp hp
          subst e
          exact ⟨q, nD, neC, nf, fun v z => by cases z⟩
        · rw [List.length_append, List.length_singleton]; omega
        · exact Nat.ne_of_gt (fpo b hb)
  exact codeAny_compStart_list (loop _ rfl) (T.self _ 0 _ _ _ st1 (loop _ rfl))

theorem Inv.letGo {pins : List (Addr × Obj)} {σ : St} {H : Hp} {s : Shared} {C : Addr} {h' : Heap} (I : Inv X pins σ H s) (hs : Heap.SameBut C s.heap h') (h0 : H C = none) (h1 : C ≠ X.env.locals) (h2 : X.s₀.heap.objs.size ≤ C) (h3 : ∀ x c, X.env.cells.lookup x = some c → c ≠ C)
    (h4 : ∀ p ∈ X.pn ++ pins, p.1 ≠ C) : Inv X pins σ H { s with heap := h' } := I.turned (t' := s.toks) (fun b o hb e => (hs.2 b hb).trans e) h0 h1 (.inr h2) h3 h4

theorem pe_comp {elt tg iter : Expr} {ifs : List Expr} {sc : Scope} {pos : Pos} (N' : List Str) (ix : Cap) {wi : TI} {g : TG} {tt : TT} {te : TE} (hc : X.calm = true) (hok : capOk X.N N' X.env.scope sc ix = true)
    (hi : PI X tg iter wi) (hg : ∀ C s₀ H₀ ex, PG (X.comp sc N' C s₀ H₀ ex) tg g) (ht : ∀ C s₀ H₀ ex, PTs (X.comp sc N' C s₀ H₀ ex) ifs tt) (he : ∀ C s₀ H₀ ex, PE (X.comp sc N' C s₀ H₀ ex) elt te)
    (hs : ∀ x, foldedSetIterable iter X.env x = pure x := by intro _; rfl) : PE X (.ListComp elt [⟨tg, iter, ifs, 0⟩] sc pos) (tComp ix wi g tt te) := by
  intro pins s σ H Q I h
  have ok := capOk_of hok
  rw [eval_ListComp]
  refine wpAny_comprehension_free (use := none) rfl hs (closureFor_eq fun p hp hk => I.ok.has p.1 (ok.fre p hp hk)) ok.kind ok.loc (thn (hi pins s σ H _ I h) fun v s1 h1 => thn h1 fun itv s2 h2 => ?_)
  refine comp_block (RR := fun acc C => compPost (model X.prog X.w) X.A X.xe none (EP X pins σ Q) acc C) hc ok hg ht he h2 ?_
  intro D C s' H' m I' q hm h0 h1 h2 h3 h4
  exact ⟨m, hm, fun h' hsb => ⟨.ref D, H', I'.letGo hsb h0 h1 h2 h3 h4, rfl, q⟩⟩
theorem ps_setComp {elt tg iter : Expr} {ifs : List Expr} {sc : Scope} {pos spos py : Pos} {i : Nat} {y : Str} (N' : List Str) (ix : Cap) {wi : TI} {g : TG} {tt : TT} {te : TE} (hc : X.calm = true) (hok : capOk X.N N' X.env.scope sc ix = true)
    (hN : X.N.Nodup) (hy : X.N[i]? = some y) (hx : Loc X.env.scope y)
    (hi : PI X tg iter wi) (hg : ∀ C s₀ H₀ ex, PG (X.comp sc N' C s₀ H₀ ex) tg g) (ht : ∀ C s₀ H₀ ex, PTs (X.comp sc N' C s₀ H₀ ex) ifs tt) (he : ∀ C s₀ H₀ ex, PE (X.comp sc N' C s₀ H₀ ex) elt te)
    (hs : ∀ x, foldedSetIterable iter X.env x = pure x := by intro _; rfl) (hsw : swapsWith (.ListComp elt [⟨tg, iter, ifs, 0⟩] sc pos) (some (.Name y py)) spos.line X.env = pure true := by rfl)
    (hf : X.fn y = true ∨ X.env.scope.names.lookup y = some .local := by first | exact .inl rfl | exact .inr rfl | assumption) :
    PS X (.Assign [.Name y py] (.ListComp elt [⟨tg, iter, ifs, 0⟩] sc pos) spos) (tAsg (tComp ix wi g tt te) (gName i)) := by
  intro pins s σ H D I h
  have ok := capOk_of hok
  rw [exec_Assign_Name_used _ _ _ _ hsw]
  refine wpAny_bind (wpAny_standAt (wpAny_bind ?_))
  show wpAny _ X.A (do let _ ← comprehension (.ListComp elt [⟨tg, iter, ifs, 0⟩] sc pos) sc X.env _ (newList []) false (eval iter X.env) (some (assign (.Name y py) X.env))) _ _ s
  refine wpAny_bind (wpAny_mono (wpAny_comprehension_free (use := some (assign (.Name y py) X.env)) (Q := fun _ s' => SP X pins D .next s') rfl hs (closureFor_eq fun p hp hk => I.ok.has p.1 (ok.fre p hp hk)) ok.kind ok.loc
    (thn (hi pins s σ H _ I h) fun v s1 h1 => thn h1 fun itv s2 h2 => ?_)) (fun _ s' hq => wpAny_pure (wpAny_pure hq)) fun _ _ e => e)
  refine comp_block (Q := fun x H1 => gName i x σ H1 D.nx) (RR := fun acc C => compPost (model X.prog X.w) X.A X.xe (some (assign (.Name y py) X.env)) (fun _ s' => SP X pins D .next s') acc C) hc ok hg ht he h2 ?_
  intro Dl C s' H' m I' q hm h0 h1 h2 h3 h4
  refine wpAny_assign_Name (store_ok2 I' hN hy hx (v := .ref Dl) rfl (fun s3 I3 sb => ?_) hf)
  obtain ⟨a, hsb, ha⟩ := sb
  have hne : C ≠ a := by
    rcases ha with e | e
    · rw [e]; exact h1
    · exact Ne.symm (h3 y a e)
  exact ⟨m, hm.sameBut hsb hne, fun h' hs' => ⟨_, H', I3.letGo hs' h0 h1 h2 h3 h4, q⟩⟩
end

section
variable {ix : Cap} {tt : TT} {te : TE} {g : TG} {σ : St} {H : Hp} {Q : VK}
noncomputable def Nxt (Pv : Nat → List V → Hp → Prop) (n i : Nat) (ys : List V) : VK := fun y H2 => ∃ m', m' < n - i ∧ m' = n - (i + 1) ∧ i + 1 ≤ n ∧ (ys ++ [y]).length = i + 1 ∧ Pv (i + 1) (ys ++ [y]) H2
theorem nxt {Pv : Nat → List V → Hp → Prop} {n i : Nat} {ys : List V} {y : V} {H2 : Hp} (hi : i < n) (hl : ys.length = i) (h : Pv (i + 1) (ys ++ [y]) H2) : Nxt Pv n i ys y H2 :=
  ⟨n - (i + 1), by omega, rfl, hi, by rw [List.length_append, List.length_singleton, hl], h⟩
theorem comp_range {lo : Int} {n j : Nat} (Pv : Nat → List V → Hp → Prop) (hj : (capt ix σ)[j]? = some none) (h0 : Pv 0 [] H) (hn : n < sizeLine)
    (hs : ∀ i ys H, i < n → ys.length = i → Pv i ys H → te ((capt ix σ).set j (some (.int (lo + i)))) H (Nxt Pv n i ys))
    (hd : ∀ ys H, ys.length = n → Pv n ys H → ∀ D, H D = none → Q (.ref D) (upd H D (.lst ys))) : CompGo (Itr lo n) ix (gName j) tYes te σ H Q := by
  refine ⟨fun i m ys H => m = n - i ∧ i ≤ n ∧ ys.length = i ∧ Pv i ys H, ⟨n, by simp, Nat.zero_le _, rfl, h0⟩, ?_⟩
  rintro i m ys H ⟨rfl, hi, hl, p⟩
  by_cases hlt : i < n
  · refine .inr ⟨hlt, by omega, fun x H' y => ?_⟩
    obtain ⟨e, y⟩ := y
    subst e y
    refine ⟨ext_set hj, ?_⟩
    unfold tYes
    dsimp only
    rw [if_pos rfl]
    exact hs i ys _ hlt hl p
  · have e : i = n := by omega
    subst e
    exact .inl ⟨Nat.le_refl _, hd ys H hl p⟩
theorem comp_list {K : PySem.W.Frag} {a : Addr} {xs : List V} {j : Nat} (Pv : Nat → List V → Hp → Prop) (hj : (capt ix σ)[j]? = some none) (h0 : Pv 0 [] H) (hn : xs.length < sizeLine) (hl' : ∀ i ys H, i ≤ xs.length → Pv i ys H → SqL K H a xs)
    (hs : ∀ i x ys H, xs[i]? = some x → ys.length = i → Pv i ys H → te ((capt ix σ).set j (some x)) H (Nxt Pv xs.length i ys))
    (hd : ∀ ys H, ys.length = xs.length → Pv xs.length ys H → ∀ D, H D = none → Q (.ref D) (upd H D (.lst ys))) : CompGo (Itl K a) ix (gName j) tYes te σ H Q := by
  refine ⟨fun i m ys H => m = xs.length - i ∧ i ≤ xs.length ∧ ys.length = i ∧ Pv i ys H, ⟨xs.length, by simp, Nat.zero_le _, rfl, h0⟩, ?_⟩
  rintro i m ys H ⟨rfl, hi, hl, p⟩
  have q := hl' i ys H hi p
  by_cases hlt : i < xs.length
  · refine .inr ⟨⟨xs, xs[i], q, by simp [hlt]⟩, by omega, fun v H' y => ?_⟩
    obtain ⟨e, y⟩ := y
    subst e
    refine ⟨ext_set hj, ?_⟩
    unfold tYes
    dsimp only
    rw [if_pos rfl]
    exact hs i v ys _ (y xs q) hl p
  · have e : i = xs.length := by omega
    subst e
    exact .inl ⟨⟨xs, q, Nat.le_refl _⟩, hd ys H hl p⟩
theorem comp_tup {K : PySem.W.Frag} {a : Addr} {xs : List V} {j : Nat} (Pv : Nat → List V → Hp → Prop) (hj : (capt ix σ)[j]? = some none) (h0 : Pv 0 [] H) (hn : xs.length < sizeLine) (hl' : ∀ i ys H, i ≤ xs.length → Pv i ys H → SqT K H a xs)
    (hs : ∀ i x ys H, xs[i]? = some x → ys.length = i → Pv i ys H → te ((capt ix σ).set j (some x)) H (Nxt Pv xs.length i ys))
    (hd : ∀ ys H, ys.length = xs.length → Pv xs.length ys H → ∀ D, H D = none → Q (.ref D) (upd H D (.lst ys))) : CompGo (Itt K a) ix (gName j) tYes te σ H Q := by
  refine ⟨fun i m ys H => m = xs.length - i ∧ i ≤ xs.length ∧ ys.length = i ∧ Pv i ys H, ⟨xs.length, by simp, Nat.zero_le _, rfl, h0⟩, ?_⟩
  rintro i m ys H ⟨rfl, hi, hl, p⟩
  have q := hl' i ys H hi p
  by_cases hlt : i < xs.length
  · refine .inr ⟨⟨xs, xs[i], q, by simp [hlt]⟩, by omega, fun v H' y => ?_⟩
    obtain ⟨e, y⟩ := y
    subst e
    refine ⟨ext_set hj, ?_⟩
    unfold tYes
    dsimp only
    rw [if_pos rfl]
    exact hs i v ys _ (y xs q) hl p
  · have e : i = xs.length := by omega
    subst e
    exact .inl ⟨⟨xs, q, Nat.le_refl _⟩, hd ys H hl p⟩
end
end L2

end

section
set_option Elab.async false
set_option linter.all false
set_option maxRecDepth 100000
set_option maxHeartbeats 4000000
namespace L2
open PySem PySem.Spec PyProof.Rows

section
variable {X : Cx}
noncomputable def CDivB (i j : Int) : Prop := 0 < j ∧ j < 2 ^ 64
theorem op_fdivB : OpR X (binaryOp .FloorDiv) (rI CDivB fun i j => .int (i / j)) := opI fun i j _ _ _ _ _ hc q => by
  have h1 : (0 : Int) < j := hc.1
  have h2 : j < 2 ^ 64 := hc.2
  refine floordiv_int (by omega) (by rw [Int.fdiv_eq_ediv_of_nonneg i (by omega)]; exact q) (.inl (PyProof.noPylong_of_log2 ?_))
  have h3 : j.natAbs < 2 ^ 64 := by omega
  have h0 : j.natAbs ≠ 0 := by omega
  have h4 : j.natAbs.log2 < 64 := (Nat.log2_lt h0).mpr h3
  omega

theorem strsAre_of {ys : List Str} : ∀ {us : List Value}, Vals (ys.map V.str) us → StrsAre us ys := by
  induction ys with
  | nil => intro us r; rw [List.map_nil] at r; cases r; exact .nil
  | cons n ns ih =>
    intro us r
    rw [List.map_cons] at r
    cases r with
    | cons r1 r2 =>
      obtain ⟨t, e⟩ := r1
      subst e
      exact .cons n t (ih r2)
noncomputable def rJoin (K : PySem.W.Frag) : V → List V → Hp → VK → Prop := fun x vs H Q => ∃ (sep : Str) (p : Addr) (ys : List Str), x = .str sep ∧ vs = [.ref p] ∧ SqL K H p (ys.map V.str) ∧ (ys.map (·.length)).sum + ys.length * sep.length ≤ 16777216 ∧ Q (.str (Txt.join sep ys)) H
theorem mt_join : MtR X "str.join" (rJoin X.K) := by
  intro pins s σ H x vs v us Q I rx rv h
  obtain ⟨sep, p, ys, rfl, rfl, hq, hz, q⟩ := h
  obtain ⟨t, rfl⟩ := rx
  obtain ⟨u, rfl, ru⟩ := rv.one
  cases ru
  obtain ⟨its, r, pl, _⟩ := I.list hq
  exact join_list pl.isList (by simpa using strsAre_of r) hz fun t' k => ⟨.str _, H, I.tok k, ⟨t', rfl⟩, q⟩
noncomputable def rSlS : V → Option Int → Option Int → Hp → VK → Prop := fun x lo hi H Q => ∃ z : Str, x = .str z ∧ z.length ≤ sizeLine ∧ Q (.str (Txt.slice z lo hi)) H
theorem sl_str : SlR X rSlS := by
  intro pins s σ H x v vl vu lo hi sl Q I rx hs pl pu h
  obtain ⟨z, rfl, hz, q⟩ := h
  obtain ⟨t, rfl⟩ := rx
  refine ⟨"str", _, F.slot_str_getitem.lookup, typeIs_str _ _ _, ?_⟩
  have hq : ∀ (o : Str), o = Txt.slice z lo hi → o.length ≤ sizeLine ∧ ∀ t' k, EP X pins σ Q (.str o t') { s with toks := k } := fun o e => by
    subst e
    exact ⟨Nat.le_trans (Txt.slice_le z _ _) hz, fun t' k => ⟨.str _, H, I.tok k, ⟨t', rfl⟩, q⟩⟩
  obtain ⟨os, hos, hcs, hds⟩ := hs
  cases pl with
  | none =>
    cases pu with
    | none => exact wpAny_getItem_str_slice (l := none) (u := none) (st := none) ⟨os, hos, hcs, hds⟩ rfl (post_val_or_str (hq _ rfl))
    | int j uj => exact wpAny_getItem_str_slice (l := none) (u := some (j, uj)) (st := none) ⟨os, hos, hcs, hds⟩ rfl (post_val_or_str (hq _ rfl))
  | int i ui =>
    cases pu with
    | none => exact wpAny_getItem_str_slice (l := some (i, ui)) (u := none) (st := none) ⟨os, hos, hcs, hds⟩ rfl (post_val_or_str (hq _ rfl))
    | int j uj => exact wpAny_getItem_str_slice (l := some (i, ui)) (u := some (j, uj)) (st := none) ⟨os, hos, hcs, hds⟩ rfl (post_val_or_str (hq _ rfl))

end

noncomputable def SameBut (a : Addr) (H H' : Hp) : Prop := ∀ b o, H b = some o → b ≠ a → H' b = some o
theorem SameBut.refl (a : Addr) (H : Hp) : SameBut a H H := fun _ _ h _ => h
theorem SameBut.trans {a : Addr} {H H1 H2 : Hp} (h : SameBut a H H1) (k : SameBut a H1 H2) : SameBut a H H2 := fun b o e n => k b o (h b o e n) n
theorem SameBut.upd (a : Addr) (H : Hp) (o : HO) : SameBut a H (upd H a o) := fun b u e n => by rw [upd_ne n]; exact e
theorem Same.but {a : Addr} {H H' : Hp} (h : Same H H') : SameBut a H H' := fun b o e _ => h b o e
theorem Same.new {H : Hp} {p : Addr} (h : H p = none) (o : HO) : Same H (upd H p o) := fun b u q => by rw [upd_ne (ne_of_none q h)]; exact q
theorem none_of_same {H H' : Hp} {p : Addr} (h : Same H H') (n : H' p = none) : H p = none := by
  cases e : H p with
  | none => rfl
  | some o => rw [h p o e] at n; cases n
end L2

end

section
set_option Elab.async false
set_option linter.all false
set_option maxRecDepth 100000
set_option maxHeartbeats 4000000
namespace L2
open PySem PySem.Spec PyProof.Rows
structure DefTx (K : PySem.W.Frag) (mg : Str → Option Value) (x : Str) (st : Stmt) (ps : List Str) : Prop where
  ex : ∃ (f : Addr) (fd : FuncData), Fun K x x st f fd ∧ mg x = some (.ref f) ∧ ∀ us : List Value, us.length = ps.length → bindArgs fd ⟨us, []⟩ = pure (ps.zip us)
structure DefIs (P : Program) (w : World) (K : PySem.W.Frag) (mg : Str → Option Value) (base : Heap) (n : Nat) (x : Str) (ps : List Str) (sp : Sp) : Prop where
  ex : ∃ (f : Addr) (fd : FuncData), FnOk P w K mg base CX0 n f fd ps sp ∧ Binds K fd ps [] ∧ PySem.W.keepIn K (.ref f) = true ∧ mg x = some (.ref f) ∧ ∃ oc od osl, K.lookup f = some ⟨oc, od, .func fd, osl⟩
theorem fun_at {K : PySem.W.Frag} {x : Str} {st : Stmt} {f : Addr} {fd : FuncData} (F : Fun K x x st f fd) : ∃ oc od osl, K.lookup f = some ⟨oc, od, .func fd, osl⟩ := by
  obtain ⟨oc, od, kV, doc, pm, an, cdv, ct, osl, _, l, _⟩ := F.ex
  exact ⟨oc, od, osl, l⟩
section
variable {P : Program} {w : World} {K : PySem.W.Frag} {mg : Str → Option Value} {base : Heap} {n m : Nat} {x : Str} {ps N : List Str} {sp : Sp} {st : Stmt}
theorem DefIs.mono (D : DefIs P w K mg base n x ps sp) (h : n ≤ m) : DefIs P w K mg base m x ps sp := by
  obtain ⟨f, fd, F, r⟩ := D.ex
  exact ⟨f, fd, F.mono h, r⟩
theorem DefIs.imp {sp' : Sp} (D : DefIs P w K mg base n x ps sp) (h : ∀ vs H Q E, sp' vs H Q E → sp vs H Q E) : DefIs P w K mg base n x ps sp' := by
  obtain ⟨f, fd, F, r⟩ := D.ex
  exact ⟨f, fd, F.imp h, r⟩
theorem DefIs.of (T : DefTx K mg x st ps) (S : FnScope N ps (defScope st)) (len : ∀ vs H Q E, sp vs H Q E → vs.length = ps.length)
    (hbody : ∀ (f : Addr) (cdv : Value) (A : Around) (outer : List Env) (s : Shared) (H : Hp) (vs : List V) (Q : VK) (E : XK), Room n (A.deeper (envOfC x (defScope st) s.heap.objs.size f cdv)) → sp vs H Q E →
      ∃ t, PSs (cxOf CX0 P w K mg base N x (defScope st) f cdv A outer s H E).nox (defBody st) t ∧ t { nx := fun _ H' => Q .non H', rt := Q } (start N vs) H) : DefIs P w K mg base (n + 1) x ps sp := by
  obtain ⟨f, fd, F, m, b⟩ := T.ex
  exact ⟨f, fd, F.ok S len (fun cdv A outer s H vs Q E hr h => hbody f cdv A outer s H vs Q E hr h), Binds.all b, F.kp, m, fun_at F⟩
theorem DefIs.none (T : DefTx K mg x st ps) (no : ∀ vs H Q E, ¬ sp vs H Q E) : DefIs P w K mg base n x ps sp := by
  obtain ⟨f, fd, F, m, b⟩ := T.ex
  exact ⟨f, fd, ⟨fun vs H Q E h => absurd h (no vs H Q E), fun A outer s H args us vs Q E _ _ _ _ h => absurd h (no vs H Q E)⟩, Binds.all b, F.kp, m, fun_at F⟩
end
section
variable {X : Cx} {n : Nat} {x : Str} {ps : List Str} {sp : Sp} {e : Expr} {es : List Expr} {p pos : Pos} {t : TA}
theorem pe_dcall (D : DefIs X.prog X.w X.K X.mg X.base n x ps sp) (hr : Room n X.A) (ha : PA X (e :: es) t) (hg : Gl X x := by rfl) (hdb : (x == ("__debug__" : Str)) = false := by decide)
    (he : starEach (e :: es) X.env = (false, eval e X.env) :: starEach es X.env := by rfl) (hpl : (backTo pos (starEach es X.env)).any (·.1) = false := by rfl) : PE X (.Call (.Name x p) (e :: es) [] pos) (tCall sp [] E0 t) := by
  obtain ⟨f, fd, F, b, k, m, _⟩ := D.ex
  exact pe_call F hr hg m k b .nil pass0 ha hdb he hpl
theorem pe_gint {i : Int} (hm : ∃ t, X.mg x = some (.int i t)) (hg : Gl X x := by rfl) (hd : (x == ("__debug__" : Str)) = false := by decide) : PE X (.Name x pos) (tC (.int i)) := by
  obtain ⟨t, h⟩ := hm
  exact pe_glob hg h ⟨t, rfl⟩ hd
theorem pe_gref {a : Addr} (hm : X.mg x = some (.ref a)) (hg : Gl X x := by rfl) (hd : (x == ("__debug__" : Str)) = false := by decide) : PE X (.Name x pos) (tC (.ref a)) := pe_glob hg hm rfl hd
theorem pe_gty {T : String} (hm : X.mg x = none) (hv : bootBuiltins x = some (.type T)) (hg : Gl X x := by rfl) (hn : x ≠ "__name__" := by decide) (hd : (x == ("__debug__" : Str)) = false := by decide) : PE X (.Name x pos) (tC (.ty T)) := pe_bltn hg hm hv rfl hn hd
end
noncomputable def Fed (a : Addr) (H H' : Hp) : Prop := SameBut a H H' ∧ ∃ p q : Int, H' a = some (.lst [.int p, .int q])
theorem Fed.trans {a : Addr} {H H1 H2 : Hp} (h : Fed a H H1) (k : Fed a H1 H2) : Fed a H H2 := ⟨h.1.trans k.1, k.2⟩
theorem Fed.of {a : Addr} {H : Hp} {p q : Int} : Fed a H (upd H a (.lst [.int p, .int q])) := ⟨SameBut.upd a H _, p, q, upd_same⟩
theorem Fed.refl {a : Addr} {H : Hp} {p q : Int} (h : H a = some (.lst [.int p, .int q])) : Fed a H H := ⟨SameBut.refl a H, p, q, h⟩
theorem Fed.same {a : Addr} {H H' H'' : Hp} (h : Fed a H H') (s : Same H' H'') : Fed a H H'' := by
  obtain ⟨k, p, q, e⟩ := h
  exact ⟨k.trans s.but, p, q, s _ _ e⟩
end L2
namespace L2
open PySem PySem.Spec PyProof.Rows
theorem deftx_mk {K : PySem.W.Frag} {h : Heap} {mg : Str → Option Value} (X : K.In h) (G : h.Ns mainGlobals mg) {x : Str} {st : Stmt} {ps : List Str} {f : Addr} {oc : Value} {od an : Option Addr} {osl : Array (Option Value)} {kV doc pm cdv ct : Value}
    (a : PySem.W.nsIn K mainGlobals x = some (some (.ref f))) (l : K.lookup f = some ⟨oc, od, .func (PySem.W.fnOf x x (defArgs st) (defBody st) (defScope st) .none kV doc pm an cdv ct), osl⟩)
    (c : PySem.W.codeIn K cdv x = true) (k : PySem.W.keepIn K (.ref f) = true)
    (b : ∀ (kV doc pm : Value) (an : Option Addr) (cdv ct : Value) (us : List Value), us.length = ps.length → bindArgs (PySem.W.fnOf x x (defArgs st) (defBody st) (defScope st) .none kV doc pm an cdv ct) ⟨us, []⟩ = pure (ps.zip us)) : DefTx K mg x st ps := by
  have F := fun_mk (st := st) l c k
  exact ⟨f, _, F, PySem.W.mg_of X G a, b kV doc pm an cdv ct⟩
theorem law_top {P : Program} {w : World} {K : PySem.W.Frag} {mg : Str → Option Value} {n : Nat} {x y : Str} {st : Stmt} {sp : Sp} {fa : Addr} (T : DefTx K mg x st [y]) (hmg : mg x = some (.ref fa)) (D : ∀ base, DefIs P w K mg base n x [y] sp) :
    ∃ fd : FuncData, (∀ (s : Shared) (u : Value), BindsTo s fd ⟨[u], []⟩ [(y, u)]) ∧ ∀ base : Heap, K.In base → base.Ns mainGlobals mg → FnOk P w K mg base CX0 n fa fd [y] sp := by
  obtain ⟨f, fd, F, m, b⟩ := T.ex
  rw [hmg] at m
  cases m
  refine ⟨fd, fun s u => .of_eq (b [u] rfl), fun base _ _ => ?_⟩
  obtain ⟨f', fd', G, _, _, m', oc, od, osl, l⟩ := (D base).ex
  rw [hmg] at m'
  cases m'
  obtain ⟨oc2, od2, osl2, l2⟩ := fun_at F
  rw [l] at l2
  cases l2
  exact G
theorem gint_mk {K : PySem.W.Frag} {h : Heap} {mg : Str → Option Value} (X : K.In h) (G : h.Ns mainGlobals mg) {x : Str} {i : Int} {t : Tok} (a : PySem.W.nsIn K mainGlobals x = some (some (.int i t))) : ∃ t, mg x = some (.int i t) := ⟨t, PySem.W.mg_of X G a⟩
end L2

end

section
set_option Elab.async false
set_option linter.all false
set_option maxRecDepth 100000
set_option maxHeartbeats 4000000
namespace Zt
open PySem
section
variable {prog : Program} {w : World} {A : Around} {E : Value → Shared → Prop} {s : Shared}
theorem next_item {it l : Addr} {i : Nat} {items} {x : Value} {Q : Value → Shared → Prop} (hit : s.heap.IsTupleIter it l i)
    (hl : s.heap.IsTuple l items) (hx : items[i]? = some x)
    (hQ : ∀ h', h'.IsTupleIter it l (i + 1) → Heap.SameBut it s.heap h' → Q x { s with heap := h' }) :
    wpAny (model prog w) A (Builtin.SmallTypes.nextOf (.ref it)) Q E s := by
  obtain ⟨o, ho, hc, hd⟩ := id hit
  obtain ⟨ol, hol, _, nl, hdl⟩ := hl
  unfold Builtin.SmallTypes.nextOf
  refine wpAny_bind (wpAny_callSpecial?_slot (name := Str.ofString "__next__") hit.typeIs F.slot_tuple_iterator_next
    (wpAny_call_entry F.slot_tuple_iterator_next hit.typeIs F.entry_tuple_iterator_next ?_ (F.args_tuple_iterator_next_1 _)))
  show wpAny _ _ (field (.ref it) 0 >>= _) _ _ s
  refine wpAny_bind (wpAny_field ho hd (x := .ref l) rfl ?_)
  show wpAny _ _ (if (Value.ref l == Value.none) = true then _ else _) _ _ s
  rw [if_neg (show ¬ ((Value.ref l == Value.none) = true) from Bool.false_ne_true)]
  show wpAny _ _ (field (.ref it) 1 >>= _) _ _ s
  refine wpAny_bind (wpAny_field ho hd (x := .int i 0) rfl ?_)
  show wpAny _ _ (seqItems? (.ref l) >>= _) _ _ s
  refine wpAny_bind (wpAny_seqItems hol hdl ?_)
  simp only [Int.toNat_natCast, hx]
  refine wpAny_bind (wpAny_setField ho hd (by simp) (wpAny_pure ⟨x, rfl, wpAny_pure (hQ _ ?_ (Heap.SameBut.update ..))⟩))
  exact ⟨_, Heap.get?_update_self _ ho (Obj.isFreed_of_fields (Obj.data_mapFields hd _)), (Obj.cls_mapFields ..).trans hc, by
    rw [Obj.data_mapFields hd]; simp [rawInt]⟩
theorem next_end {it l : Addr} {i : Nat} {items} {Q : Value → Shared → Prop} (hh : A.handled = none)
    (hit : s.heap.IsTupleIter it l i) (hl : s.heap.IsTuple l items) (hx : items[i]? = none)
    (hE : ∀ h' e, Heap.ExtBut it s.heap h' → (∃ o, h'.get? e = some o ∧ o.cls = .type "StopIteration") → E (.ref e) { s with heap := h' }) :
    wpAny (model prog w) A (Builtin.SmallTypes.nextOf (.ref it)) Q E s := by
  obtain ⟨o, ho, hc, hd⟩ := id hit
  obtain ⟨ol, hol, _, nl, hdl⟩ := hl
  unfold Builtin.SmallTypes.nextOf
  refine wpAny_bind (wpAny_callSpecial?_slot (name := Str.ofString "__next__") hit.typeIs F.slot_tuple_iterator_next
    (wpAny_call_entry F.slot_tuple_iterator_next hit.typeIs F.entry_tuple_iterator_next ?_ (F.args_tuple_iterator_next_1 _)))
  show wpAny _ _ (field (.ref it) 0 >>= _) _ _ s
  refine wpAny_bind (wpAny_field ho hd (x := .ref l) rfl ?_)
  show wpAny _ _ (if (Value.ref l == Value.none) = true then _ else _) _ _ s
  rw [if_neg (show ¬ ((Value.ref l == Value.none) = true) from Bool.false_ne_true)]
  show wpAny _ _ (field (.ref it) 1 >>= _) _ _ s
  refine wpAny_bind (wpAny_field ho hd (x := .int i 0) rfl ?_)
  show wpAny _ _ (seqItems? (.ref l) >>= _) _ _ s
  refine wpAny_bind (wpAny_seqItems hol hdl ?_)
  simp only [Int.toNat_natCast, hx]
  refine wpAny_bind (wpAny_rule (wpAny_bind (wpAny_setField ho hd (by simp) ?_)))
  show wpAny _ _ (newExc (.type "StopIteration") [] >>= _) _ _ _
  refine wpAny_bind ?_
  simp only [newExc, newTuple]
  refine wpAny_bind (wpAny_newObj_type ?_ (by size_fits))
  refine wpAny_bind (m := firstArgMember _ _) (wpAny_of_eq (a := Value.none) (by first | rfl | (simp only [firstArgMember]; rfl)) ?_)
  refine wpAny_newObj_type ?_ (by size_fits)
  simp only [raiseNew]
  refine wpAny_bind (wpAny_handled ?_)
  first | rw [show A.in1.handled = none from hh] | rw [hh]
  refine wpAny_bind (wpAny_pure (wpAny_throw ?_))
  exact hE _ _ (((Heap.SameBut.update ..).extBut.push _).push _) ⟨_, Heap.get?_push_size _ rfl, rfl⟩
end
section
variable {prog : Program} {w : World} {A : Around} {R : Result → Shared → Prop} {S z TI TO i1 i2 l1 l2 : Addr} {xs ys : Array Value} {n B : Nat}
end
section
variable {prog : Program} {w : World} {A : Around} {R : Result → Shared → Prop} {s : Shared} {S z TI TO i1 i2 l1 l2 : Addr} {xs ys : Array Value} {n B : Nat}
end
section
variable {prog : Program} {w : World} {A : Around} {E : Value → Shared → Prop} {s : Shared} {z TI TO i1 i2 l1 l2 : Addr} {xs ys : Array Value} {n B : Nat}
end
section
variable {prog : Program} {w : World} {A : Around} {E : Value → Shared → Prop} {s : Shared}
end
end Zt

end

section
set_option Elab.async false
set_option linter.all false
set_option maxRecDepth 100000
set_option maxHeartbeats 4000000
namespace L2
open PySem PySem.Spec PyProof.Rows
noncomputable abbrev TJ := St → Hp → Str → VK → Prop
noncomputable def PJ (X : Cx) (es : List Expr) (t : TJ) : Prop :=
  ∀ (pins : List (Addr × Obj)) (s : Shared) (σ : St) (H : Hp) (out : Str) (Q : VK), Inv X pins σ H s → t σ H out Q → wpAny (model X.prog X.w) X.A (joinParts out (evalEach es X.env)) (EP X pins σ Q) X.xe s
noncomputable def jNil : TJ := fun _ H out Q => out.length ≤ sizeLine ∧ Q (.str out) H
noncomputable def jLit (x : Str) (t : TJ) : TJ := fun σ H out Q => (out ++ x).length ≤ sizeLine ∧ t σ H (out ++ x) Q
noncomputable def jStr (te : TE) (t : TJ) : TJ := fun σ H out Q => te σ H fun v H1 => ∃ x, v = .str x ∧ x.length ≤ sizeLine ∧ (out ++ x).length ≤ sizeLine ∧ t σ H1 (out ++ x) Q
noncomputable def jInt (te : TE) (t : TJ) : TJ := fun σ H out Q => te σ H fun v H1 => ∃ i : Int, v = .int i ∧ i.natAbs.log2 < 1920 ∧ (out ++ Str.ofString (toString i)).length ≤ sizeLine ∧ t σ H1 (out ++ Str.ofString (toString i)) Q
section
variable {X : Cx} {e e1 e2 : Expr} {es : List Expr} {te : TE} {t : TJ} {pos : Pos}
theorem pj_nil : PJ X [] jNil := fun _ _ _ H out _ I h => joinParts_nilE (joinParts_nil ⟨.str out, H, I.tok _, ⟨_, rfl⟩, h.2⟩ h.1)
theorem pj_lit {x : Str} {j} (h : PJ X es t) : PJ X (.Constant (.str x) j pos :: es) (jLit x t) := by
  intro pins s σ H out Q I hw
  refine joinParts_consE (joinParts_cons (thn (pe_str (X := X) pins s σ H (fun v H' => v = .str x ∧ H' = H) I ⟨rfl, rfl⟩) fun v s1 ⟨z, H1, I1, r, e1, e2⟩ => ?_))
  subst e1 e2
  obtain ⟨t', rfl⟩ := r
  exact ⟨hw.1, h pins s1 σ _ _ Q I1 hw.2⟩
theorem pj_str (he : PE X e te) (h : PJ X es t) : PJ X (.FormattedValue e (-1) none pos :: es) (jStr te t) := by
  intro pins s σ H out Q I hw
  refine joinParts_consE (joinParts_cons (FormattedValue_plain (thn (he pins s σ H _ I hw) fun v s1 ⟨z, H1, I1, r, x, e, hz, hl, q⟩ => ?_)))
  subst e
  obtain ⟨t', rfl⟩ := r
  exact formatField_str (fun t'' tk => ⟨hl, h pins _ σ H1 _ Q (I1.tok tk) q⟩) hz
theorem pj_int (he : PE X e te) (h : PJ X es t) : PJ X (.FormattedValue e (-1) none pos :: es) (jInt te t) := by
  intro pins s σ H out Q I hw
  refine joinParts_consE (joinParts_cons (FormattedValue_plain (thn (he pins s σ H _ I hw) fun v s1 ⟨z, H1, I1, r, i, e, hz, hl, q⟩ => ?_)))
  subst e
  obtain ⟨t', rfl⟩ := r
  exact formatField_int_small hz ⟨hl, h pins _ σ H1 _ Q (I1.tok _) q⟩
theorem pe_fstr (h : PJ X (e1 :: e2 :: es) t) : PE X (.JoinedStr (e1 :: e2 :: es) pos) (fun σ H Q => t σ H Str.empty Q) := fun pins s σ H Q I hw => JoinedStr_many (h pins s σ H _ Q I hw)
end
section
variable {X : Cx}
noncomputable def rNeE (K : PySem.W.Frag) : R2 := fun x y H Q => ∃ a b xs, x = .ref a ∧ y = .ref b ∧ SqL K H a xs ∧ SqL K H b [] ∧ Q (.bl (!xs.isEmpty)) H
theorem op_neE (hu : X.A.units < cLine) : OpR X (compareOp .NotEq) (rNeE X.K) := by
  intro pins s σ H x y v u Q I rx ry h
  obtain ⟨a, b, xs, rfl, rfl, ha, hb, q⟩ := h
  cases rx
  cases ry
  obtain ⟨its, r1, p1, _⟩ := I.list ha
  obtain ⟨its2, r2, p2, _⟩ := I.list hb
  have l1 := r1.length
  have l2 := r2.length
  cases xs with
  | nil =>
    refine PySem.EqBoolInt.of_rcne (SeqAt.RcNeAt.lists (e := fun _ => true) p1.isList p2.isList (by simp only [List.size_toArray]; omega) hu fun j h1 h2 => ?_) ⟨.bl _, H, I, rfl, ?_⟩
    · simp only [List.size_toArray] at h1
      simp at l1
      omega
    · have : its = [] := List.eq_nil_of_length_eq_zero (by simpa using l1.symm)
      subst this
      exact q
  | cons x xs =>
    refine PySem.EqBoolInt.of_rcne (SeqAt.RcNeAt.lists_lengths p1.isList p2.isList (by simp only [List.size_toArray]; simp at l1 l2 ⊢; omega) hu) ⟨.bl _, H, I, rfl, ?_⟩
    simpa using q
end
section
variable {X : Cx} {a b : Expr} {ta tb : TE} {p1 p2 q1 q2 : Pos}
end
end L2

end

section
set_option Elab.async false
set_option linter.all false
set_option maxRecDepth 100000
set_option maxHeartbeats 4000000
namespace L2
open PySem PySem.Spec PyProof.Rows
section
variable {es : List Expr} {env : Env}
theorem star_const {c k p} : starEach (.Constant c k p :: es) env = (false, eval (.Constant c k p) env) :: starEach es env := rfl
theorem star_name {x p} : starEach (.Name x p :: es) env = (false, eval (.Name x p) env) :: starEach es env := rfl
theorem star_call {a b c d} : starEach (.Call a b c d :: es) env = (false, eval (.Call a b c d) env) :: starEach es env := rfl
theorem star_bin {a b c d} : starEach (.BinOp a b c d :: es) env = (false, eval (.BinOp a b c d) env) :: starEach es env := rfl
theorem star_sub {a b c} : starEach (.Subscript a b c :: es) env = (false, eval (.Subscript a b c) env) :: starEach es env := rfl
theorem star_tup {a b c} : starEach (.Tuple a b c :: es) env = (false, eval (.Tuple a b c) env) :: starEach es env := rfl
theorem star_lst {a b} : starEach (.List a b :: es) env = (false, eval (.List a b) env) :: starEach es env := rfl
theorem star_cmp {a b c d} : starEach (.Compare a b c d :: es) env = (false, eval (.Compare a b c d) env) :: starEach es env := rfl
theorem star_fstr {a b} : starEach (.JoinedStr a b :: es) env = (false, eval (.JoinedStr a b) env) :: starEach es env := rfl
theorem star_comp {a b c d} : starEach (.ListComp a b c d :: es) env = (false, eval (.ListComp a b c d) env) :: starEach es env := rfl
end
end L2
namespace L2
open PySem PySem.Spec PyProof.Rows
end L2

end

section
set_option Elab.async false
set_option linter.all false
set_option maxRecDepth 100000
set_option maxHeartbeats 4000000
namespace M
open PySem
end M

end

section
set_option Elab.async false
set_option linter.all false
set_option maxRecDepth 100000
set_option maxHeartbeats 4000000
namespace M
open PySem
inductive D where
  | int (i : Int)
  | str (x : Str)
  | tup (ds : List D)
noncomputable def S (s : String) : Str := Str.ofString s
noncomputable def isLetter (c : Nat) : Bool := 97 ≤ c && c ≤ 122
noncomputable def nameL (x : List Nat) : Bool := 1 ≤ x.length && x.length ≤ 6 && x.all isLetter && x != [110, 117, 109] && x != [105, 116]
noncomputable def Name (x : Str) : Prop := nameL x.cps.toList = true
theorem Name.le {x : Str} (h : Name x) : x.cps.toList.length ≤ 6 := by
  unfold Name nameL at h
  simp only [Bool.and_eq_true, decide_eq_true_eq] at h
  exact h.1.1.1.2
noncomputable def numS (n : Int) : Str := Str.ofString (toString n)
theorem num_reads (m : Nat) : (numS (m : Int)).cps.toList = (Nat.toDigits 10 m).map Char.toNat := by
  unfold numS
  rw [Str.ofString_eq_toList]
  show (Nat.repr m).toList.map Char.toNat = _
  rw [Nat.toList_repr]
end M

end

section
set_option Elab.async false
set_option linter.all false
set_option maxRecDepth 100000
set_option maxHeartbeats 4000000
namespace M
open PySem
end M

end

section
set_option Elab.async false
set_option linter.all false
set_option maxRecDepth 100000
set_option maxHeartbeats 4000000
namespace M
open PySem
noncomputable def L (x : Str) : List Nat := x.cps.toList
noncomputable def ofL (l : List Nat) : Str := ⟨l.toArray⟩
theorem L_ofL (l : List Nat) : L (ofL l) = l := rfl
theorem ofL_L (x : Str) : ofL (L x) = x := by
  cases x
  rfl
theorem L_inj {x y : Str} (h : L x = L y) : x = y := by
  rw [← ofL_L x, ← ofL_L y, h]
theorem L_append (x y : Str) : L (x ++ y) = L x ++ L y := by
  show (x.cps ++ y.cps).toList = _
  simp [L]
theorem L_length (x : Str) : (L x).length = x.length := by
  simp [L, Str.length]
end M

end

section
set_option Elab.async false
set_option linter.all false
set_option maxRecDepth 100000
set_option maxHeartbeats 4000000
namespace M
open PySem
end M

end

section
set_option Elab.async false
set_option linter.all false
set_option maxRecDepth 100000
set_option maxHeartbeats 4000000
namespace M
open PySem
end M

end

section
set_option Elab.async false
set_option linter.all false
set_option maxRecDepth 100000
set_option maxHeartbeats 4000000
namespace M
open PySem L2
mutual
noncomputable def RelD (H : Hp) : V → D → Prop
  | v, .int i => v = .int i
  | v, .str x => v = .str x
  | v, .tup ds => ∃ a vs, v = .ref a ∧ H a = some (.tup vs) ∧ RelDs H vs ds
noncomputable def RelDs (H : Hp) : List V → List D → Prop
  | vs, [] => vs = []
  | vs, d :: ds => ∃ v r, vs = v :: r ∧ RelD H v d ∧ RelDs H r ds
end
mutual
theorem RelD.same {H H' : Hp} (s : Same H H') : ∀ {v : V} (d : D), RelD H v d → RelD H' v d
  | v, .int i, h => h
  | v, .str x, h => h
  | v, .tup ds, ⟨a, vs, e, ha, h⟩ => ⟨a, vs, e, s _ _ ha, RelDs.same s ds h⟩
theorem RelDs.same {H H' : Hp} (s : Same H H') : ∀ {vs : List V} (ds : List D), RelDs H vs ds → RelDs H' vs ds
  | vs, [], h => h
  | vs, d :: ds, ⟨v, r, e, h1, h2⟩ => ⟨v, r, e, RelD.same s d h1, RelDs.same s ds h2⟩
end
theorem RelDs.length {H : Hp} : ∀ {vs : List V} {ds : List D}, RelDs H vs ds → vs.length = ds.length
  | vs, [], h => by rw [show vs = [] from h]; rfl
  | vs, d :: ds, ⟨v, r, e, _, h2⟩ => by rw [e, List.length_cons, List.length_cons, RelDs.length h2]
theorem RelDs.append {H : Hp} : ∀ {vs us : List V} {ds es : List D}, RelDs H vs ds → RelDs H us es → RelDs H (vs ++ us) (ds ++ es)
  | vs, us, [], es, h, k => by rw [show vs = [] from h]; exact k
  | vs, us, d :: ds, es, ⟨v, r, e, h1, h2⟩, k => by subst e; exact ⟨v, r ++ us, rfl, h1, RelDs.append h2 k⟩
theorem RelDs.get {H : Hp} : ∀ {vs : List V} {ds : List D} {i : Nat} {v : V}, RelDs H vs ds → vs[i]? = some v → ∃ d, ds[i]? = some d ∧ RelD H v d
  | vs, [], i, v, h, e => by rw [show vs = [] from h] at e; simp at e
  | vs, d :: ds, 0, v, ⟨u, r, e0, h1, _⟩, e => by
    subst e0
    simp at e
    subst e
    exact ⟨d, rfl, h1⟩
  | vs, d :: ds, i + 1, v, ⟨u, r, e0, _, h2⟩, e => by
    subst e0
    obtain ⟨x, hx, hr⟩ := RelDs.get (i := i) (v := v) h2 (by simpa using e)
    exact ⟨x, by simpa using hx, hr⟩
end M
namespace M
open PySem L2
theorem iteKF {c A B : Prop} [Decidable c] (h : decide c = false) (b : B) : if decide c = true then A else B := by
  rw [h]
  exact b
theorem iteKT {c A B : Prop} [Decidable c] (h : decide c = true) (a : A) : if decide c = true then A else B := by
  rw [h]
  exact a
theorem iteBF {c : Bool} {A B : Prop} (h : c = false) (b : B) : if c = true then A else B := by
  rw [h]
  exact b
end M

end

section
set_option Elab.async false
set_option linter.all false
set_option maxRecDepth 100000
set_option maxHeartbeats 4000000
namespace M
open PySem L2
end M

end

section
set_option Elab.async false
set_option linter.all false
set_option maxRecDepth 100000
set_option maxHeartbeats 4000000
namespace M
open PySem L2
mutual
theorem RelD.tups {H H' : Hp} (s : ∀ b vs, H b = some (.tup vs) → H' b = some (.tup vs)) : ∀ {v : V} (d : D), RelD H v d → RelD H' v d
  | v, .int i, h => h
  | v, .str x, h => h
  | v, .tup ds, ⟨a, vs, e, ha, h⟩ => ⟨a, vs, e, s _ _ ha, RelDs.tups s ds h⟩
theorem RelDs.tups {H H' : Hp} (s : ∀ b vs, H b = some (.tup vs) → H' b = some (.tup vs)) : ∀ {vs : List V} (ds : List D), RelDs H vs ds → RelDs H' vs ds
  | vs, [], h => h
  | vs, d :: ds, ⟨v, r, e, h1, h2⟩ => ⟨v, r, e, RelD.tups s d h1, RelDs.tups s ds h2⟩
end
theorem fed_tups {a : Addr} {H H' : Hp} (hf : ∃ p q : Int, H a = some (.lst [.int p, .int q])) (f : Fed a H H') : ∀ b vs, H b = some (.tup vs) → H' b = some (.tup vs) := fun b vs e => f.1 b _ e fun z => by
  obtain ⟨p, q, h⟩ := hf
  rw [z, h] at e
  cases e
noncomputable def single (c : Nat) : Str := ⟨#[c]⟩
theorem join_singles : ∀ cs : List Nat, Txt.join (S "") (cs.map single) = ofL cs := by
  have h : ∀ cs : List Nat, L (Str.join (S "") (cs.map single)) = cs := by
    intro cs
    induction cs with
    | nil => rfl
    | cons c r ih =>
      cases r with
      | nil => rfl
      | cons d r =>
        show L (single c ++ S "" ++ Str.join (S "") ((d :: r).map single)) = _
        rw [L_append, L_append, ih]
        have e : L (S "") = [] := by decide +kernel
        rw [e]
        rfl
  intro cs
  apply L_inj
  show L (Builtin.Str.glued (S "") (cs.map single)) = cs
  rw [StrLaws.glued_eq_join, h]
theorem sum_singles (cs : List Nat) : ((cs.map single).map (·.length)).sum = cs.length := by
  induction cs with
  | nil => rfl
  | cons c r ih =>
    show (single c).length + ((r.map single).map (·.length)).sum = r.length + 1
    rw [ih, show (single c).length = 1 from rfl]
    omega
theorem at_codes {α : Type} {cs : List α} {r : Int} (h0 : 0 ≤ r) (h : r < (cs.length : Int)) : ∃ c ∈ cs, atI cs r = some c := by
  have hk : r.toNat < cs.length := by omega
  have ek : r = ((r.toNat : Nat) : Int) := by omega
  refine ⟨cs[r.toNat], List.getElem_mem hk, ?_⟩
  have q : atI cs ((r.toNat : Nat) : Int) = some cs[r.toNat] := atI_nat (List.getElem?_eq_getElem hk)
  rw [← ek] at q
  exact q
end M

end

section
set_option Elab.async false
set_option linter.all false
set_option maxRecDepth 100000
set_option maxHeartbeats 4000000
namespace L2
open PySem PySem.Spec PyProof.Rows

section
variable {κ : Type} [DecidableEq κ]
noncomputable def valV (kvs : List (κ × V)) (k : κ) : Option V := (kvs.find? fun kv => decide (kv.1 = k)).map (·.2)
noncomputable def putK (kvs : List (κ × V)) (k : κ) (v : V) : List (κ × V) :=
  if (kvs.any fun kv => decide (kv.1 = k)) = true then kvs.map (fun kv => if kv.1 = k then (kv.1, v) else kv) else kvs ++ [(k, v)]
theorem valV_pos {p : κ × V} {r : List (κ × V)} {k : κ} (e : p.1 = k) : valV (p :: r) k = some p.2 := by simp [valV, List.find?_cons, e]
theorem valV_neg {p : κ × V} {r : List (κ × V)} {k : κ} (e : ¬ p.1 = k) : valV (p :: r) k = valV r k := by simp [valV, List.find?_cons, e]
theorem valV_any (k : κ) : ∀ kvs : List (κ × V), (kvs.any fun kv => decide (kv.1 = k)) = (valV kvs k).isSome
  | [] => rfl
  | p :: r => by
    rw [List.any_cons]
    by_cases e : p.1 = k
    · simp only [valV_pos e, decide_eq_true e, Bool.true_or, Option.isSome_some]
    · rw [valV_neg e, decide_eq_false e, Bool.false_or]; exact valV_any k r
theorem length_putK (kvs : List (κ × V)) (k : κ) (v : V) : (putK kvs k v).length ≤ kvs.length + 1 := by
  unfold putK
  split
  · rw [List.length_map]; omega
  · rw [List.length_append, List.length_cons, List.length_nil]; omega
theorem putK_new {kvs : List (κ × V)} {k : κ} (v : V) (h : valV kvs k = none) : putK kvs k v = kvs ++ [(k, v)] := by
  unfold putK
  rw [valV_any, h]
  exact if_neg (by decide)

theorem RelO.isSome_eq {o : Option V} {u : Option Value} (r : RelO o u) : o.isSome = u.isSome := by
  cases o with
  | none => cases u with
    | none => rfl
    | some _ => exact (show False from r).elim
  | some _ => cases u with
    | none => exact (show False from r).elim
    | some _ => rfl
theorem KV.val {kvs : List (κ × V)} {vs : List (κ × Value)} (r : KV kvs vs) (k : κ) : RelO (valV kvs k) (valueAt vs k) := by
  unfold KV at r
  induction r with
  | nil => exact True.intro
  | @cons p q ps qs h t ih =>
    obtain ⟨h1, h2⟩ := h
    by_cases e : p.1 = k
    · have e' : q.1 = k := h1.symm.trans e
      have b : valueAt (q :: qs) k = some q.2 := by simp [valueAt, List.find?_cons, e']
      rw [valV_pos e, b]; exact h2
    · have e' : ¬ q.1 = k := fun z => e (h1.trans z)
      have b : valueAt (q :: qs) k = valueAt qs k := by simp [valueAt, List.find?_cons, e']
      rw [valV_neg e, b]; exact ih
theorem KV.any {kvs : List (κ × V)} {vs : List (κ × Value)} (r : KV kvs vs) (k : κ) : (kvs.any fun kv => decide (kv.1 = k)) = vs.any fun kv => decide (kv.1 = k) := by
  unfold KV at r
  induction r with
  | nil => rfl
  | cons h t ih => rw [List.any_cons, List.any_cons, ih, h.1]
theorem KV.repl {kvs : List (κ × V)} {vs : List (κ × Value)} (r : KV kvs vs) (k : κ) {y : V} {u : Value} (ry : RelV y u) :
    KV (kvs.map fun kv => if kv.1 = k then (kv.1, y) else kv) (vs.map fun kv => if kv.1 = k then (kv.1, u) else kv) := by
  unfold KV at r ⊢
  induction r with
  | nil => exact .nil
  | @cons p q ps qs h t ih =>
    rw [List.map_cons, List.map_cons]
    refine .cons ?_ ih
    obtain ⟨h1, h2⟩ := h
    by_cases e : p.1 = k
    · rw [if_pos e, if_pos (h1.symm.trans e)]; exact ⟨h1, ry⟩
    · rw [if_neg e, if_neg (fun z => e (h1.trans z))]; exact ⟨h1, h2⟩
theorem KV.put {kvs : List (κ × V)} {vs : List (κ × Value)} (r : KV kvs vs) (k : κ) {y : V} {u : Value} (ry : RelV y u) : KV (putK kvs k y) (stored vs k u) := by
  unfold putK stored
  rw [r.any k]
  by_cases e : (vs.any fun kv => decide (kv.1 = k)) = true
  · rw [if_pos e, if_pos e]; exact r.repl k ry
  · rw [if_neg e, if_neg e]; exact Paired.snoc r ⟨rfl, ry⟩
theorem KV.length {kvs : List (κ × V)} {vs : List (κ × Value)} (r : KV kvs vs) : kvs.length = vs.length := Paired.length r
end


theorem kV_is {P : Program} {w : World} {k : Key} {u : Value} (r : RelV (kV k) u) : (mixKind P w).is k u = true := by
  cases k with
  | inl i => obtain ⟨t, e⟩ := (show ∃ t, u = Value.int i t from r); subst e; exact mixKind_int P w i t
  | inr x => obtain ⟨t, e⟩ := (show ∃ t, u = Value.str x t from r); subst e; exact mixKind_str P w x t
theorem items_are {P : Program} {w : World} : ∀ {ks : List Key} {us : List Value}, Vals (ks.map kV) us → ItemsAre (mixKind P w) ks us
  | [], _, r => by rw [List.map_nil] at r; cases r; exact .nil
  | k :: ks, _, r => by
    rw [List.map_cons] at r
    cases r with
    | cons h t => exact .cons (kV_is h) (items_are t)

noncomputable abbrev KT (H : Hp) : List (List Key × V) → List (List Key × Addr × Value) → Prop := Paired fun p q => p.1 = q.1 ∧ H q.2.1 = some (.tup (p.1.map kV)) ∧ RelV p.2 q.2.2
theorem KT.val {H : Hp} {kvs : List (List Key × V)} {xs : List (List Key × Addr × Value)} (r : KT H kvs xs) (k : List Key) : RelO (valV kvs k) ((atKey xs k).map (·.2)) := by
  induction r with
  | nil => exact True.intro
  | @cons p q ps qs h t ih =>
    obtain ⟨h1, _, h2⟩ := h
    by_cases e : p.1 = k
    · have e' : q.1 = k := h1.symm.trans e
      have b : atKey (q :: qs) k = some q.2 := by simp [atKey, List.find?_cons, e']
      rw [valV_pos e, b]; exact h2
    · have e' : ¬ q.1 = k := fun z => e (h1.trans z)
      have b : atKey (q :: qs) k = atKey qs k := by simp [atKey, List.find?_cons, e']
      rw [valV_neg e, b]; exact ih
theorem KT.repl {H : Hp} {kvs : List (List Key × V)} {xs : List (List Key × Addr × Value)} (r : KT H kvs xs) (k : List Key) {y : V} {u : Value} (ry : RelV y u) :
    KT H (kvs.map fun kv => if kv.1 = k then (kv.1, y) else kv) (xs.map (putAt k u)) := by
  induction r with
  | nil => exact .nil
  | @cons p q ps qs h t ih =>
    rw [List.map_cons, List.map_cons]
    refine .cons ?_ ih
    obtain ⟨h1, h2, h3⟩ := h
    unfold putAt
    by_cases e : p.1 = k
    · rw [if_pos e, if_pos (h1.symm.trans e)]; exact ⟨h1, h2, ry⟩
    · rw [if_neg e, if_neg (fun z => e (h1.trans z))]; exact ⟨h1, h2, h3⟩
theorem KT.put {H : Hp} {kvs : List (List Key × V)} {xs : List (List Key × Addr × Value)} (r : KT H kvs xs) (k : List Key) {b : Addr} {y : V} {u : Value} (hb : H b = some (.tup (k.map kV))) (ry : RelV y u) :
    KT H (putK kvs k y) (storedH xs k b u) := by
  have e : (kvs.any fun kv => decide (kv.1 = k)) = (atKey xs k).isSome := by
    rw [valV_any, (r.val k).isSome_eq, Option.isSome_map]
  unfold putK storedH
  rw [e]
  by_cases q : (atKey xs k).isSome = true
  · rw [if_pos q, if_pos q]; exact r.repl k ry
  · rw [if_neg q, if_neg q]; exact Paired.snoc r ⟨rfl, hb, ry⟩
theorem KT.keeps {H H' : Hp} {kvs : List (List Key × V)} {xs : List (List Key × Addr × Value)} (r : KT H kvs xs) (ht : ∀ b ys, H b = some (.tup ys) → H' b = some (.tup ys)) : KT H' kvs xs :=
  Paired.mapP r fun _ _ z => ⟨z.1, ht _ _ z.2.1, z.2.2⟩

section
variable {P : Program} {w : World} {H : Hp} {h : Heap} {a : Addr}
theorem rd_of {u : HO} (ok : HOk P w H h) (e : Rd H a u) : ObjOk P w H h a u := e.ok ok
theorem dk_rd {kvs : List (Key × V)} (ok : HOk P w H h) (e : Rd H a (.dK kvs)) : kvs.length ≤ sizeLine ∧ (a == sysModules) = false ∧ ∃ vs, KV kvs vs ∧ h.DictOf (mixKind P w) a vs :=
  show ObjOk P w H h a (.dK kvs) from rd_of ok e
theorem dk_of {kvs : List (Key × V)} (ok : HOk P w H h) (e : H a = some (.dK kvs)) : kvs.length ≤ sizeLine ∧ (a == sysModules) = false ∧ ∃ vs, KV kvs vs ∧ h.DictOf (mixKind P w) a vs := dk_rd ok (.inl e)
theorem key_of {ks : List Key} (ok : HOk P w H h) (e : H a = some (.tup (ks.map kV))) : (tupleKind (mixKind P w)).is h ks a := by
  obtain ⟨_, its, r, o, h1, h2, n, h3⟩ := (show ObjOk P w H h a (.tup (ks.map kV)) from ok a _ e)
  exact ⟨o, its.toArray, n, h1, h2, h3, by simpa using items_are r⟩
theorem dt_rd {kvs : List (List Key × V)} (ok : HOk P w H h) (e : Rd H a (.dT kvs)) : kvs.length ≤ sizeLine ∧ (a == sysModules) = false ∧
    ∃ xs, KT H kvs xs ∧ h.DictOfH (tupleKind (mixKind P w)) a xs := by
  obtain ⟨z, y, xs, r, o, es, ep, h1, h2, h3, h4, h5⟩ := (show ObjOk P w H h a (.dT kvs) from rd_of ok e)
  refine ⟨z, y, xs, r, o, es, ep, h1, h2, h3, h4, fun x hx => ?_, h5⟩
  have all : ∀ {l : List (List Key × V)} {m : List (List Key × Addr × Value)}, KT H l m → ∀ x ∈ m, (tupleKind (mixKind P w)).is h x.1 x.2.1 := by
    intro l m q
    induction q with
    | nil => intro x hx; exact nomatch hx
    | @cons p q ps qs hq t ih =>
      intro x hx
      rcases List.mem_cons.mp hx with e | hx
      · subst e
        exact key_of ok (by rw [← hq.1]; exact hq.2.1)
      · exact ih x hx
  exact all r x hx
theorem dt_of {kvs : List (List Key × V)} (ok : HOk P w H h) (e : H a = some (.dT kvs)) : kvs.length ≤ sizeLine ∧ (a == sysModules) = false ∧
    ∃ xs, KT H kvs xs ∧ h.DictOfH (tupleKind (mixKind P w)) a xs := dt_rd ok (.inl e)
end

noncomputable def DGet (H : Hp) (a : Addr) (y : V) (r : Option V) : Prop :=
  (∃ kvs k, Rd H a (.dK kvs) ∧ y = kV k ∧ r = valV kvs k) ∨ ∃ kvs k b, Rd H a (.dT kvs) ∧ y = .ref b ∧ H b = some (.tup (k.map kV)) ∧ r = valV kvs k
noncomputable def DPut (H : Hp) (a : Addr) (y v : V) (H' : Hp) : Prop :=
  (∃ kvs k, H a = some (.dK kvs) ∧ y = kV k ∧ kvs.length < sizeLine ∧ H' = upd H a (.dK (putK kvs k v))) ∨
  ∃ kvs k b, H a = some (.dT kvs) ∧ y = .ref b ∧ H b = some (.tup (k.map kV)) ∧ kvs.length < sizeLine ∧ H' = upd H a (.dT (putK kvs k v))
theorem DGet.k {H : Hp} {a : Addr} {kvs : List (Key × V)} {k : Key} (e : H a = some (.dK kvs)) : DGet H a (kV k) (valV kvs k) := .inl ⟨kvs, k, .inl e, rfl, rfl⟩
theorem DPut.k {H : Hp} {a : Addr} {kvs : List (Key × V)} {k : Key} {v : V} (e : H a = some (.dK kvs)) (hl : kvs.length < sizeLine) : DPut H a (kV k) v (upd H a (.dK (putK kvs k v))) := .inl ⟨kvs, k, e, rfl, hl, rfl⟩
section
variable {X : Cx} {pins : List (Addr × Obj)} {σ : St} {H : Hp} {s : Shared} {a : Addr} {y v : V} {u r : Value} {o : Option V} {A : Around} {E : Value → Shared → Prop}

theorem Inv.big (I : Inv X pins σ H s) : sysModules < s.heap.objs.size := by
  have h : mainGlobals < s.heap.objs.size := (I.mod.glob.keeps I.bk).lt
  exact Nat.lt_trans (by decide) h

theorem d_getItem {Q : Value → Shared → Prop} (hu : A.units + 1 < cLine) (I : Inv X pins σ H s) (g : DGet H a y (some v)) (ry : RelV y u) (h : ∀ w' s', Inv X pins σ H s' → RelV v w' → Q w' s') :
    wpAny (model X.prog X.w) A (getItem (.ref a) u) Q E s := by
  rcases g with ⟨kvs, k, e, ey, l⟩ | ⟨kvs, k, b, e, ey, eb, l⟩
  · subst ey
    obtain ⟨z, hd, vs, rel, dd⟩ := dk_rd I.hok e
    obtain ⟨w', hw, rw'⟩ := RelO.some_of (v := v) (o := valueAt vs k) (by rw [l]; exact rel.val k)
    exact wpAny_getItem_of (kV_is ry) dd.mapOf hw (h w' _ (I.tok _) rw')
  · subst ey
    cases (show u = Value.ref b from ry)
    obtain ⟨z, hd, xs, rel, dd⟩ := dt_rd I.hok e
    obtain ⟨w', hw, rw'⟩ := RelO.some_of (v := v) (o := (atKey xs k).map (·.2)) (by rw [l]; exact rel.val k)
    obtain ⟨p, hp, hp2⟩ := Option.map_eq_some_iff.mp hw
    refine wpAny_getItem_heap (tupleKind_room_in1 hu) (key_of I.hok eb) dd hp ?_
    rw [hp2]
    exact h w' _ (I.tok _) rw'
theorem d_in {Q : Value → Shared → Prop} (hu : A.units + 1 < cLine) (I : Inv X pins σ H s) (g : DGet H a y o) (ry : RelV y u) (h : ∀ s', Inv X pins σ H s' → Q (.bool o.isSome) s') :
    wpAny (model X.prog X.w) A (compareOp .In u (.ref a)) Q E s := by
  rcases g with ⟨kvs, k, e, ey, l⟩ | ⟨kvs, k, b, e, ey, eb, l⟩
  · subst ey
    obtain ⟨z, hd, vs, rel, dd⟩ := dk_rd I.hok e
    refine wpAny_in_of (kV_is ry) hd dd.mapOf ?_
    rw [← (rel.val k).isSome_eq, ← l]
    exact h _ (I.tok _)
  · subst ey
    cases (show u = Value.ref b from ry)
    obtain ⟨z, hd, xs, rel, dd⟩ := dt_rd I.hok e
    refine wpAny_in_heap (tupleKind_room_in1 hu) (key_of I.hok eb) hd dd ?_
    have q := (rel.val k).isSome_eq
    rw [Option.isSome_map] at q
    rw [← q, ← l]
    exact h _ (I.tok _)
theorem d_notIn {Q : Value → Shared → Prop} (hu : A.units + 1 < cLine) (I : Inv X pins σ H s) (g : DGet H a y o) (ry : RelV y u) (h : ∀ s', Inv X pins σ H s' → Q (.bool (!o.isSome)) s') :
    wpAny (model X.prog X.w) A (compareOp .NotIn u (.ref a)) Q E s := by
  rcases g with ⟨kvs, k, e, ey, l⟩ | ⟨kvs, k, b, e, ey, eb, l⟩
  · subst ey
    obtain ⟨z, hd, vs, rel, dd⟩ := dk_rd I.hok e
    refine wpAny_notIn_of (kV_is ry) hd dd.mapOf ?_
    rw [← (rel.val k).isSome_eq, ← l]
    exact h _ (I.tok _)
  · subst ey
    cases (show u = Value.ref b from ry)
    obtain ⟨z, hd, xs, rel, dd⟩ := dt_rd I.hok e
    refine wpAny_notIn_heap (tupleKind_room_in1 hu) (key_of I.hok eb) hd dd ?_
    have q := (rel.val k).isSome_eq
    rw [Option.isSome_map] at q
    rw [← q, ← l]
    exact h _ (I.tok _)
theorem d_write {h' : Heap} {t' : Nat} {ob : HO} (I : Inv X pins σ H s) (mu : Mut (H a)) (hs : Heap.SameBut a s.heap h') (he : ∃ q, h'.get? a = some q) (new : ObjOk X.prog X.w (upd H a ob) h' a ob) :
    Inv X pins σ (upd H a ob) { s with heap := h', toks := t' } :=
  I.write (x := a) (e := a) mu (.inl rfl) (fun b q hb z => (hs.2 b hb).trans z) he new
theorem dk_new {P : Program} {w : World} {H' : Hp} {h' : Heap} {kvs : List (Key × V)} {vs : List (Key × Value)} (z : kvs.length ≤ sizeLine) (hd : (a == sysModules) = false) (rel : KV kvs vs) (dd : h'.DictOf (mixKind P w) a vs) :
    ObjOk P w H' h' a (.dK kvs) := ⟨z, hd, vs, rel, dd⟩
theorem d_setItem {H' : Hp} {Q : Unit → Shared → Prop} (hu : A.units + 1 < cLine) (I : Inv X pins σ H s) (g : DPut H a y v H') (ry : RelV y u) (rv : RelV v r) (h : ∀ s', Inv X pins σ H' s' → Q () s') :
    wpAny (model X.prog X.w) A (setItem (.ref a) u r) Q E s := by
  rcases g with ⟨kvs, k, e, ey, l, eH⟩ | ⟨kvs, k, b, e, ey, eb, l, eH⟩
  · subst ey eH
    obtain ⟨z, hd, vs, rel, dd⟩ := dk_of I.hok e
    have hz : vs.length ≤ sizeLine := by rw [← rel.length]; exact z
    have hl : (putK kvs k v).length ≤ sizeLine := by have := length_putK kvs k v; omega
    refine wpAny_setItem_pairs (hsz := hz) (kV_is ry) dd fun h' dd' hs => h _ ?_
    have he : ∃ q, h'.get? a = some q := let ⟨q, _, _, hq, _⟩ := dd'; ⟨q, hq⟩
    exact d_write I (by rw [e]; exact True.intro) hs he (dk_new hl hd (rel.put k rv) dd')
  · subst ey eH
    cases (show u = Value.ref b from ry)
    obtain ⟨z, hd, xs, rel, dd⟩ := dt_of I.hok e
    have hz : xs.length ≤ sizeLine := by rw [← Paired.length rel]; exact z
    have hl : (putK kvs k v).length ≤ sizeLine := by have := length_putK kvs k v; omega
    refine wpAny_setItem_heap (hsz := hz) (tupleKind_room_in1 hu) (key_of I.hok eb) dd fun h' dd' hs => h _ ?_
    obtain ⟨q, es, ep, hq, h2, h3, h4, _, h5⟩ := dd'
    refine d_write I (by rw [e]; exact True.intro) hs ⟨q, hq⟩ ⟨hl, hd, _, (rel.put k eb rv).keeps fun c ys ec => ?_, q, es, ep, hq, h2, h3, h4, h5⟩
    rw [upd_ne (ne_of ec e (fun z => nomatch z))]
    exact ec
end

section
variable {X : Cx} {pins : List (Addr × Obj)} {σ : St} {H : Hp} {s : Shared} {a : Addr} {kvs : List (Key × V)} {k : Key} {u : Value} {A : Around} {E : Value → Shared → Prop}
end


noncomputable def NoSl (i : Expr) : Prop := ∀ ov iv, subscripted i false ov iv = operate [ov, iv] (getItem ov iv)
theorem subD_of {prog : Program} {w : World} {A : Around} {E : Value → Shared → Prop} {s : Shared} {env : Env} {value slice : Expr} {pos : Pos} {T id : String} {Q : Value → Shared → Prop}
    (hl : typeLookup (.type T) "__getitem__" = pure (some (.builtin id))) (hs : NoSl slice)
    (h : wpAny (model prog w) A (eval value env) (fun o s₁ => wpAny (model prog w) A (eval slice env) (fun i s₂ => s₂.TypeIs o T ∧ wpAny (model prog w) A (getItem o i) Q E s₂) E s₁) E s) :
    wpAny (model prog w) A (eval (.Subscript value slice pos) env) Q E s := by
  refine Subscript_ (wpAny_mono h (fun o s₁ h₁ => wpAny_mono h₁ (fun i s₂ h₂ => ?_) fun _ _ x => x) fun _ _ x => x)
  obtain ⟨hT, h₂⟩ := h₂
  unfold subscriptTail
  refine wpAny_bind ?_
  rw [getitemInPython_of_ne hT.not_modules]
  refine wpAny_bind (wpAny_specialOf hT hl ?_)
  have fin : wpAny (model prog w) A (subscripted slice false o i) (fun r s₃ => wpAny (model prog w) A (letTemporaryGo value o r >>= fun _ => pure r) Q E s₃) E s₂ := by
    rw [hs o i]
    exact wpAny_operating (wpAny_mono h₂ (fun r s₃ h₃ => wpAny_bind (wpAny_letTemporaryGo (wpAny_pure h₃))) fun _ _ x => x)
  first
    | exact wpAny_pure (wpAny_bind fin)
    | exact wpAny_bind (wpAny_pure (wpAny_bind fin))
    | exact wpAny_bind fin

theorem dict_typeIs {X : Cx} {pins : List (Addr × Obj)} {σ : St} {H : Hp} {s : Shared} {a : Addr} {y : V} {o : Option V} (I : Inv X pins σ H s) (g : DGet H a y o) : s.TypeIs (.ref a) "dict" := by
  rcases g with ⟨kvs, k, e, _, _⟩ | ⟨kvs, k, b, e, _, _, _⟩
  · obtain ⟨_, _, vs, _, dd⟩ := dk_rd I.hok e
    exact dd.typeIs
  · obtain ⟨_, _, xs, _, dd⟩ := dt_rd I.hok e
    exact dd.typeIs
noncomputable def tDGet (td ty : TE) : TE := fun σ H Q => td σ H fun x H1 => ty σ H1 fun y H2 => ∃ a v, x = .ref a ∧ DGet H2 a y (some v) ∧ Q v H2
noncomputable def tDIn (ty td : TE) : TE := fun σ H Q => ty σ H fun y H1 => td σ H1 fun x H2 => ∃ a o, x = .ref a ∧ DGet H2 a y o ∧ Q (.bl o.isSome) H2
noncomputable def tDNotIn (ty td : TE) : TE := fun σ H Q => ty σ H fun y H1 => td σ H1 fun x H2 => ∃ a o, x = .ref a ∧ DGet H2 a y o ∧ Q (.bl (!o.isSome)) H2
noncomputable def sDPut (td ty tv : TE) : TS := fun D σ H => tv σ H fun v H1 => td σ H1 fun x H2 => ty σ H2 fun y H3 => ∃ a H4, x = .ref a ∧ DPut H3 a y v H4 ∧ D.nx σ H4
section
variable {X : Cx} {o i e value : Expr} {pos pos' tpos : Pos} {td ty tv : TE}
theorem pe_dget (hu : X.A.units + 1 < cLine) (ho : PE X o td) (hi : PE X i ty) (hs : NoSl i) : PE X (.Subscript o i pos) (tDGet td ty) := by
  intro pins s σ H Q I h
  refine subD_of PySem.F.slot_dict_getitem.lookup hs (thn (ho pins s σ H _ I h) fun u s1 ⟨x, H1, I1, rx, q1⟩ => thn (hi pins s1 σ H1 _ I1 q1) fun iv s2 ⟨y, H2, I2, ry, a, v, ex, g, q2⟩ => ?_)
  subst ex
  obtain rfl : u = Value.ref a := rx
  exact ⟨dict_typeIs I2 g, d_getItem hu I2 g ry fun w' s3 I3 rw' => ⟨v, H2, I3, rw', q2⟩⟩
theorem pc_din (hu : X.A.units + 1 < cLine) (hi : PE X i ty) (ho : PE X o td) : PC X .In i o (tDIn ty td) := by
  intro pins s σ H Q I h
  refine thn (hi pins s σ H _ I h) fun iv s1 ⟨y, H1, I1, ry, q1⟩ => thn (ho pins s1 σ H1 _ I1 q1) fun u s2 ⟨x, H2, I2, rx, a, ov, ex, g, q2⟩ => ?_
  subst ex
  obtain rfl : u = Value.ref a := rx
  exact d_in hu I2 g ry fun s3 I3 => ⟨.bl ov.isSome, H2, I3, rfl, q2⟩
theorem pc_dnotin (hu : X.A.units + 1 < cLine) (hi : PE X i ty) (ho : PE X o td) : PC X .NotIn i o (tDNotIn ty td) := by
  intro pins s σ H Q I h
  refine thn (hi pins s σ H _ I h) fun iv s1 ⟨y, H1, I1, ry, q1⟩ => thn (ho pins s1 σ H1 _ I1 q1) fun u s2 ⟨x, H2, I2, rx, a, ov, ex, g, q2⟩ => ?_
  subst ex
  obtain rfl : u = Value.ref a := rx
  exact d_notIn hu I2 g ry fun s3 I3 => ⟨.bl (!ov.isSome), H2, I3, rfl, q2⟩
theorem ps_dput (hu : X.A.units + 1 < cLine) (ho : PE X o td) (hi : PE X i ty) (hv : PE X value tv) (hs : swapsWith value (some (.Subscript o i pos')) pos.line X.env = pure false) :
    PS X (.Assign [.Subscript o i pos'] value pos) (sDPut td ty tv) := by
  intro pins s σ H D I h
  refine wpAny_Assign_Subscript (thn (hv pins s σ H _ I h) fun r s1 ⟨v, H1, I1, rv, q1⟩ => thn (ho pins s1 σ H1 _ I1 q1) fun u s2 ⟨x, H2, I2, rx, q2⟩ => thn (hi pins s2 σ H2 _ I2 q2) fun iv s3 ⟨y, H3, I3, ry, a, H4, ex, g, q3⟩ => ?_) hs
  subst ex
  obtain rfl : u = Value.ref a := rx
  exact d_setItem hu I3 g ry rv fun s4 I4 => ⟨σ, H4, I4, q3⟩
end


theorem dk_empty {P : Program} {w : World} {H : Hp} (h : Heap) (hb : sysModules < h.objs.size) : ObjOk P w H (h.push { cls := .type "dict", data := .dict #[] }) h.objs.size (.dK []) :=
  ⟨Nat.zero_le _, beq_eq_false_iff_ne.mpr (Ne.symm (Nat.ne_of_lt hb)), [], .nil, Heap.DictOf.new h⟩
section
variable {X : Cx} {pos : Pos}
end

noncomputable def tPairs : List (TE × TE) → St → Hp → (List (V × V) → Hp → Prop) → Prop
  | [], _, H, Q => Q [] H
  | (tk, tv) :: r, σ, H, Q => tk σ H fun x H1 => tv σ H1 fun y H2 => tPairs r σ H2 fun ps H3 => Q ((x, y) :: ps) H3
noncomputable abbrev VV : List (V × V) → List (Value × Value) → Prop := Paired fun p q => RelV p.1 q.1 ∧ RelV p.2 q.2
noncomputable def PPs (X : Cx) (pos : Pos) (keys : List (Option Expr)) (values : List Expr) (trs : List (TE × TE)) : Prop :=
  ∀ (pins : List (Addr × Obj)) (s : Shared) (σ : St) (H : Hp) (Q : List (V × V) → Hp → Prop), Inv X pins σ H s → tPairs trs σ H Q →
    wpAny (model X.prog X.w) X.A (evalPairs (pairTrees keys values X.env pos)) (fun vs s' => ∃ ps H', Inv X pins σ H' s' ∧ VV ps vs ∧ Q ps H') X.xe s
theorem pps_nil {X : Cx} {pos : Pos} : PPs X pos [] [] [] := fun pins s σ H Q I h => pairTrees_nil_walk ⟨[], H, I, .nil, h⟩
theorem pps_cons {X : Cx} {pos : Pos} {k v : Expr} {ks : List (Option Expr)} {vs : List Expr} {tk tv : TE} {trs : List (TE × TE)} (hk : PE X k tk) (hv : PE X v tv) (hr : PPs X pos ks vs trs) :
    PPs X pos (some k :: ks) (v :: vs) ((tk, tv) :: trs) := fun pins s σ H Q I h =>
  pairTrees_cons_walk (thn (hk pins s σ H _ I h) fun u s1 ⟨x, H1, I1, rx, q1⟩ => thn (hv pins s1 σ H1 _ I1 q1) fun w2 s2 ⟨y, H2, I2, ry, q2⟩ =>
    thn (hr pins s2 σ H2 _ I2 q2) fun ws s3 ⟨ps, H3, I3, rel, q3⟩ => ⟨(x, y) :: ps, H3, I3, .cons ⟨rx, ry⟩ rel, q3⟩)

noncomputable def mergeK (kvs more : List (Key × V)) : List (Key × V) := more.foldl (fun acc kv => putK acc kv.1 kv.2) kvs
theorem KV.merge : ∀ {more : List (Key × V)} {rs : List (Key × Value)} {kvs : List (Key × V)} {vs : List (Key × Value)}, KV more rs → KV kvs vs → KV (mergeK kvs more) (merged vs rs) := by
  intro more rs kvs vs r
  unfold KV at r
  induction r generalizing kvs vs with
  | nil => intro q; exact q
  | @cons p q ps qs h t ih =>
    intro r0
    have e : KV (putK kvs p.1 p.2) (stored vs q.1 q.2) := by
      have := r0.put p.1 h.2
      rw [← h.1]; exact this
    exact ih e
theorem length_mergeK : ∀ (more kvs : List (Key × V)), (mergeK kvs more).length ≤ kvs.length + more.length
  | [], kvs => by show kvs.length ≤ kvs.length + 0; omega
  | p :: r, kvs => by
    have h1 := length_mergeK r (putK kvs p.1 p.2)
    have h2 := length_putK kvs p.1 p.2
    show (mergeK (putK kvs p.1 p.2) r).length ≤ _
    rw [List.length_cons]; omega
theorem carries_of {P : Program} {w : World} : ∀ {kvs : List (Key × V)} {ws : List (Value × Value)}, VV (kvs.map fun kv => (kV kv.1, kv.2)) ws → ∃ rs, Carries (mixKind P w) ws rs ∧ KV kvs rs
  | [], _, r => by rw [List.map_nil] at r; cases r; exact ⟨[], True.intro, .nil⟩
  | p :: kvs, _, r => by
    rw [List.map_cons] at r
    cases r with
    | @cons a b as bs h t =>
      obtain ⟨rs, c, q⟩ := carries_of (P := P) (w := w) t
      obtain ⟨b1, b2⟩ := b
      exact ⟨(p.1, b2) :: rs, ⟨kV_is h.1, rfl, c⟩, .cons ⟨rfl, h.2⟩ q⟩
noncomputable def tDisp (trs : List (TE × TE)) : TE := fun σ H Q => ∀ p, H p = none → tPairs trs σ (upd H p (.dK [])) fun ps H2 => H2 p = some (.dK []) ∧ ∃ kvs : List (Key × V), ps = kvs.map (fun kv => (kV kv.1, kv.2)) ∧ kvs.length ≤ 15 ∧ Q (.ref p) (upd H2 p (.dK (mergeK [] kvs)))
theorem pe_disp {X : Cx} {pos : Pos} {keys : List (Option Expr)} {values : List Expr} {trs : List (TE × TE)} (h : PPs X pos keys values trs) (hall : keys.all (·.isSome) = true) (hl : keys.length = values.length) (h0 : keys ≠ [])
    (h15 : keys.length ≤ 15) : PE X (.Dict keys values pos) (tDisp trs) := by
  intro pins s σ H Q I q
  have hn := I.hok.fresh (Nat.le_refl s.heap.objs.size)
  have I1 := I.laid (a := s.heap.objs.size) (o := .dK []) (h' := s.heap.push { cls := .type "dict", data := .dict #[] }) (t' := s.toks) (fun _ _ q => Heap.get?_push_of_some _ q) (Nat.le_refl _) (dk_empty s.heap I.big)
  refine wpAny_Dict_walk (knd := mixKind X.prog X.w) hall hl h0 h15 (thn (h pins _ σ _ _ I1 (q _ hn)) fun ws s2 ⟨ps, H2, I2, rel, e, kvs, ep, lk, q2⟩ => ?_)
  subst ep
  obtain ⟨rs, c, rk⟩ := carries_of (P := X.prog) (w := X.w) rel
  obtain ⟨z, hd, vs0, r0, dd⟩ := dk_of I2.hok e
  cases r0
  refine ⟨rs, c, dd, fun h' dd' hs => ⟨.ref s.heap.objs.size, _, ?_, rfl, q2⟩⟩
  have hz : (mergeK [] kvs).length ≤ sizeLine := by
    have h1 := length_mergeK kvs []
    rw [List.length_nil] at h1
    rw [sizeLine_eq]; omega
  have he : ∃ q, h'.get? s.heap.objs.size = some q := let ⟨q, _, _, hq, _⟩ := dd'; ⟨q, hq⟩
  exact d_write I2 (by rw [e]; exact True.intro) hs he (dk_new hz hd (rk.merge .nil) dd')


section
variable {X : Cx} {pins : List (Addr × Obj)} {σ : St} {H : Hp} {s : Shared} {a : Addr} {y d : V} {u r : Value} {o : Option V} {A : Around} {E : Value → Shared → Prop}
end

section
variable {X : Cx} {o e f : Expr} {apos cpos : Pos} {td ty tx : TE}
end

section
variable {X : Cx} {pins : List (Addr × Obj)} {σ : St} {H : Hp} {s : Shared} {a : Addr} {kvs : List (Key × V)} {A : Around} {E : Value → Shared → Prop}
end


section
variable {X : Cx} {pins : List (Addr × Obj)} {σ : St} {H : Hp} {s : Shared} {a : Addr} {y : V} {u : Value} {A : Around} {E : Value → Shared → Prop}
end
end L2

namespace L2
open PySem PySem.Spec PyProof.Rows
section
variable {X : Cx}
end
section
variable {κ : Type} [DecidableEq κ]
theorem nd_snoc : ∀ {l : List κ} {k : κ}, l.Nodup → ¬ k ∈ l → (l ++ [k]).Nodup
  | [], k, _, _ => by simp
  | a :: r, k, h, hk => by
    obtain ⟨h1, h2⟩ := List.nodup_cons.mp h
    show (a :: (r ++ [k])).Nodup
    refine List.nodup_cons.mpr ⟨fun m => ?_, nd_snoc h2 fun m => hk (List.mem_cons.mpr (Or.inr m))⟩
    rcases List.mem_append.mp m with q | q
    · exact h1 q
    · exact hk (List.mem_cons.mpr (Or.inl (List.mem_singleton.mp q).symm))
end
end L2

end

section
set_option Elab.async false
set_option linter.all false
set_option maxRecDepth 100000
set_option maxHeartbeats 4000000
namespace L2
open PySem PySem.Spec PyProof.Rows
section
variable {es : List Expr} {env : Env}
end
section
variable {X : Cx}
end
section
variable {ix : Cap} {tt : TT} {te : TE} {g : TG} {σ : St} {H : Hp} {Q : VK}
noncomputable def NxtG (Pv : Nat → List V → Hp → Prop) (n i : Nat) (ys : List V) : VK := fun y H2 => ∃ m', m' < n - i ∧ m' = n - (i + 1) ∧ i + 1 ≤ n ∧ (ys ++ [y]).length ≤ i + 1 ∧ Pv (i + 1) (ys ++ [y]) H2
noncomputable def NxtN (Pv : Nat → List V → Hp → Prop) (n i : Nat) (ys : List V) : Hp → Prop := fun H2 => ∃ m', m' < n - i ∧ m' = n - (i + 1) ∧ i + 1 ≤ n ∧ ys.length ≤ i + 1 ∧ Pv (i + 1) ys H2
theorem nxtG {Pv : Nat → List V → Hp → Prop} {n i : Nat} {ys : List V} {y : V} {H2 : Hp} (hi : i < n) (hl : ys.length ≤ i) (h : Pv (i + 1) (ys ++ [y]) H2) : NxtG Pv n i ys y H2 :=
  ⟨n - (i + 1), by omega, rfl, hi, by rw [List.length_append, List.length_singleton]; omega, h⟩
theorem nxtN {Pv : Nat → List V → Hp → Prop} {n i : Nat} {ys : List V} {H2 : Hp} (hi : i < n) (hl : ys.length ≤ i) (h : Pv (i + 1) ys H2) : NxtN Pv n i ys H2 :=
  ⟨n - (i + 1), by omega, rfl, hi, by omega, h⟩
theorem comp_tupG {K : PySem.W.Frag} {a : Addr} {xs : List V} (Pv : Nat → List V → Hp → Prop) (h0 : Pv 0 [] H) (hn : xs.length < sizeLine) (hl' : ∀ i ys H, i ≤ xs.length → Pv i ys H → SqT K H a xs)
    (hs : ∀ i x ys H, xs[i]? = some x → i < xs.length → ys.length ≤ i → Pv i ys H → g x (capt ix σ) H fun σ2 H2 => Ext (capt ix σ) σ2 ∧ tt σ2 H2 fun b H3 => if b = true then te σ2 H3 (NxtG Pv xs.length i ys) else NxtN Pv xs.length i ys H3)
    (hd : ∀ ys H, ys.length ≤ xs.length → Pv xs.length ys H → ∀ D, H D = none → Q (.ref D) (upd H D (.lst ys))) : CompGo (Itt K a) ix g tt te σ H Q := by
  refine ⟨fun i m ys H => m = xs.length - i ∧ i ≤ xs.length ∧ ys.length ≤ i ∧ Pv i ys H, ⟨xs.length, by simp, Nat.zero_le _, Nat.le_refl _, h0⟩, ?_⟩
  rintro i m ys H ⟨rfl, hi, hl, p⟩
  have q := hl' i ys H hi p
  by_cases hlt : i < xs.length
  · refine .inr ⟨⟨xs, xs[i], q, by simp [hlt]⟩, by omega, fun v H' y => ?_⟩
    obtain ⟨e, y⟩ := y
    subst e
    exact hs i v ys _ (y xs q) hlt hl p
  · have e : i = xs.length := by omega
    subst e
    exact .inl ⟨⟨xs, q, Nat.le_refl _⟩, hd ys H hl p⟩
theorem ext2 {σ : St} {i j : Nat} {v w : Option V} (h : σ[i]? = some none) (k : σ[j]? = some none) : Ext σ ((σ.set i v).set j w) := by
  refine ⟨by simp, fun n w' e => ?_⟩
  have h1 : i ≠ n := fun z => by subst z; rw [h] at e; cases e
  have h2 : j ≠ n := fun z => by subst z; rw [k] at e; cases e
  rw [List.getElem?_set_ne h2, List.getElem?_set_ne h1]
  exact e
end
section
variable {X : Cx}
end
end L2
namespace L2
open PySem PySem.Spec PyProof.Rows
theorem sum_bound : ∀ {ns : List Int}, (∀ n ∈ ns, 0 ≤ n ∧ n ≤ 1000000) → 0 ≤ ns.sum ∧ ns.sum ≤ 1000000 * (ns.length : Int)
  | [], _ => by simp
  | n :: ns, h => by
    have h1 := h n (by simp)
    have h2 := sum_bound (ns := ns) fun m hm => h m (List.mem_cons_of_mem _ hm)
    rw [List.sum_cons, List.length_cons]
    push_cast
    omega
section
variable {X : Cx}
theorem call_sumL (hc : X.calm = true) : CallR X (.builtin "sum") (fun xs H Q => ∃ p, ∃ ns : List Int, xs = [.ref p] ∧ SqL X.K H p (ns.map V.int) ∧ (∀ n ∈ ns, 0 ≤ n ∧ n ≤ 1000000) ∧ ns.length ≤ 1000 ∧ Q (.int ns.sum) H) := by
  intro pins s σ H xs us Q I r h
  obtain ⟨p, ns, rfl, hq, hb, hlen, q⟩ := h
  obtain ⟨u, rfl, ru⟩ := vals1 r
  cases ru
  obtain ⟨its, rv, pl, hz⟩ := I.list hq
  have hi := intsAre_of rv
  obtain ⟨xs, e⟩ := hi.allInts.items
  have hns : ns = xs.toList.map (·.1) := by rw [← hi.numsOf, ← nums_intItems, ← e]
  have hl := pl.isList
  rw [e] at hl
  have hsz : xs.size = ns.length := by rw [hns, List.length_map, Array.length_toList]
  refine sum_intList (I.ok.hd hc) hl (fun j hj => ?_) fun h' tk t' k => ⟨.int ns.sum, H, I.kept k, ?_, q⟩
  · have hm : numAt xs j ∈ ns := by
      rw [hns, numAt_eq]
      exact getD_mem (by rw [List.length_map, Array.length_toList]; exact hj)
    have h1 := hb _ hm
    have h2 := sum_bound (ns := ns.take (j + 1)) fun n hn => hb n (List.mem_of_mem_take hn)
    have h3 : (ns.take (j + 1)).length ≤ 1000 := Nat.le_trans (List.length_take_le _ _) (by omega)
    rw [preSum_eq, ← hns]
    unfold InLong
    omega
  · refine ⟨t', ?_⟩
    rw [preSum_eq, ← hns, List.take_of_length_le (by omega)]
theorem call_maxL (hc : X.calm = true) : CallR X (.builtin "max") (fun xs H Q => ∃ p, ∃ ns : List Int, xs = [.ref p] ∧ SqL X.K H p (ns.map V.int) ∧ ns ≠ [] ∧ ∀ m, m ∈ ns → (∀ n ∈ ns, n ≤ m) → Q (.int m) H) := by
  intro pins s σ H xs us Q I r h
  obtain ⟨p, ns, rfl, hq, hne, q⟩ := h
  obtain ⟨u, rfl, ru⟩ := vals1 r
  cases ru
  obtain ⟨its, rv, pl, hz⟩ := I.list hq
  have hi := intsAre_of rv
  obtain ⟨xs, e⟩ := hi.allInts.items
  have hns : ns = xs.toList.map (·.1) := by rw [← hi.numsOf, ← nums_intItems, ← e]
  have hl := pl.isList
  rw [e] at hl
  have hsz : xs.size = ns.length := by rw [hns, List.length_map, Array.length_toList]
  have hp : 0 < ns.length := List.length_pos_iff.mpr hne
  refine max_intList (I.ok.hd hc) hl (by omega) fun v h' tk hv k => ?_
  obtain ⟨t, rfl⟩ := intItems_at hv
  obtain ⟨h1, h2⟩ := argBest_gt (numAt xs) (xs.size - 1)
  refine ⟨.int _, H, I.kept k, ⟨t, rfl⟩, q _ ?_ fun a ha => ?_⟩
  · rw [hns, numAt_eq]
    exact getD_mem (by rw [List.length_map, Array.length_toList]; omega)
  · rw [hns] at ha
    obtain ⟨j, hj, rfl⟩ := mem_getD ha
    rw [List.length_map, Array.length_toList] at hj
    rw [← numAt_eq]
    exact h2 j (by omega)
end
end L2
namespace L2
open PySem PySem.Spec PyProof.Rows
section
variable {X : Cx} {K : PySem.W.Frag}
theorem ix_tupC (h : X.K = K) : IxR X (rIxT K) := by subst h; exact ix_tup
theorem ix_listC (h : X.K = K) : IxR X (rIxL K) := by subst h; exact ix_list
theorem pg_tupC {es : List Expr} {k : Nat} {t : TGs} {n : Nat} {pos : Pos} (hK : X.K = K) (hc : X.calm = true) (h : PGs X es t)
    (hn : (assignEach es X.env).length = n := by rfl) (hst : (assignEach es X.env).findIdx? (·.1) = none := by rfl) : PG X (.Tuple es k pos) (gTup K n t) := by subst hK; exact pg_tup hc h hn hst
end
end L2

end

section
set_option Elab.async false
set_option linter.all false
set_option maxRecDepth 100000
set_option maxHeartbeats 4000000
namespace Zt
open PySem PySem.Spec PyProof.Rows
section
variable {prog : Program} {w : World} {A : Around} {E : Value → Shared → Prop} {s : Shared}
end
end Zt
namespace L2
open PySem PySem.Spec PyProof.Rows
section
variable {X : Cx} {pins : List (Addr × Obj)} {σ : St} {H : Hp} {s : Shared} {h' : Heap}
end
section
variable {X : Cx}
end
section
variable {ix : Cap} {tt : TT} {te : TE} {g : TG} {σ : St} {H : Hp} {Q : VK}
end
end L2

end

section
set_option Elab.async false
set_option linter.all false
set_option maxRecDepth 100000
set_option maxHeartbeats 4000000
namespace M
open PySem L2
structure Kn where
  name : Str
  rc : Bool
  parts : List (Str × Str)
noncomputable def Kn.sort (k : Kn) : Str := if k.rc = true then S "rec" else S "alt"
noncomputable def dPart (p : Str × Str) : D := .tup [.str p.1, .str p.2]
noncomputable def dParts (ps : List (Str × Str)) : D := .tup (ps.map dPart)
noncomputable def Kn.d (k : Kn) : D := .tup [.str k.name, .str k.sort, dParts k.parts]
noncomputable def dKinds (ks : List Kn) : D := .tup (ks.map Kn.d)
noncomputable def kAt (ks : List Kn) (x : Str) : Option Kn := ks.find? fun k => decide (k.name = x)
noncomputable def partsD : Option Kn → D
  | some k => dParts k.parts
  | none => .tup []
theorem find_step {α : Type} {p : α → Bool} {xs : List α} {i : Nat} {a : α} (h : (xs.take i).find? p = none) (ha : xs[i]? = some a) : (p a = true → xs.find? p = some a) ∧ (p a = false → (xs.take (i + 1)).find? p = none) := by
  have hi : i < xs.length := (List.getElem?_eq_some_iff.mp ha).1
  have e : xs[i] = a := (List.getElem?_eq_some_iff.mp ha).2
  refine ⟨fun hp => ?_, fun hp => ?_⟩
  · have e2 : xs = xs.take i ++ a :: xs.drop (i + 1) := by
      rw [← e, ← List.drop_eq_getElem_cons hi, List.take_append_drop]
    rw [e2, List.find?_append, h]
    simp [hp]
  · rw [List.take_add_one, ha, List.find?_append, h]
    simp [hp]
theorem Same.new2 {H : Hp} {p : Addr} (h : H p = none) (o o' : HO) : Same H (upd (upd H p o) p o') := fun b u q => by
  have hb := ne_of_none q h
  rw [upd_ne hb, upd_ne hb]
  exact q
end M

end

section
set_option Elab.async false
set_option linter.all false
set_option maxRecDepth 100000
set_option maxHeartbeats 4000000
namespace St
open PySem PySem.Spec PyProof.Rows
noncomputable def met (val : Nat → Str) (i : Nat) : List Str := ((List.range i).map val).foldl step_dedup []
theorem met_succ (val : Nat → Str) (i : Nat) : met val (i + 1) = step_dedup (met val i) (val i) := by
  unfold met
  rw [List.range_succ, List.map_append, List.foldl_append]
  rfl
theorem met_len (val : Nat → Str) : ∀ i, (met val i).length ≤ i
  | 0 => Nat.le_refl _
  | i + 1 => by
    have ih := met_len val i
    rw [met_succ]
    unfold step_dedup
    split
    · omega
    · rw [List.length_append, List.length_singleton]
      omega
theorem dd_any (l : List Str) (v k : Str) : (step_dedup l v).any (· == k) = (l.any (· == k) || decide (k = v)) := by
  unfold step_dedup
  split
  · rename_i h
    by_cases e : k = v
    · subst e
      rw [h, Bool.true_or]
    · rw [decide_eq_false e, Bool.or_false]
  · rw [List.any_append]
    congr 1
    rw [Bool.eq_iff_iff]
    simp
    exact eq_comm
theorem dd_len (l : List Str) (v : Str) : (step_dedup l v).length = if l.any (· == v) then l.length else l.length + 1 := by
  unfold step_dedup
  split <;> simp
theorem strs_at : ∀ {vs : List Value} {ns : List Str}, StrsAre vs ns → ∀ (i : Nat) (v : Value), vs[i]? = some v → ∃ t, v = .str (ns.getD i Str.empty) t
  | _, _, .nil, i, v, h => by simp at h
  | _, _, .cons n t r, 0, v, h => by
    simp at h
    exact ⟨t, h.symm⟩
  | _, _, .cons n t r, i + 1, v, h => by
    obtain ⟨t', e⟩ := strs_at r i v (by simpa using h)
    exact ⟨t', by simpa using e⟩
section
variable {prog : Program} {w : World} {A : Around} {R : Result → Shared → Prop} {I : Addr} {fp wr : List Addr} {G : Array GenState → Array GenState → Prop} {n : Nat} {P : Nat → Value → Prop} {St : Nat → Shared → Prop}
theorem upd_loop (W : WalksS prog w A.in1 I fp wr G n P St) (S : Addr) (hSf : S ∉ fp)
    (val : Nat → Str) (hval : ∀ i v, P i v → ∃ t, v = .str (val i) t) (hb : n + 1 < scanBound) :
    ∀ (k i : Nat) (s : Shared), n - i = k → i ≤ n → St i s →
      s.heap.SetOf (PySem.strKind prog w) S (fun k' => (met val i).any (· == k')) (met val i).length →
      (∀ s', Moved (S :: wr) G s s' → s'.heap.SetOf (PySem.strKind prog w) S (fun k' => (met val n).any (· == k')) (met val n).length → R (.ok (.ret .none)) s') →
      codeAny (model prog w) A (.builtin "set.update.loop" ⟨[.ref S, .ref I], []⟩) R s := by
  have hSw : S ∉ wr := fun h => hSf (W.sub _ h)
  have hsub : ∀ b ∈ wr, b ∈ S :: wr := fun b hb => List.mem_cons_of_mem _ hb
  intro k
  induction k with
  | zero =>
    intro i s hk hi hst hS hR
    have hin : i = n := by omega
    subst hin
    refine codeAny_builtin F.entry_set_update_loop ?_
    rw [Around.under_plainId F.plain_set_update_loop _]
    show wpAny _ A.in1 (pyNext (.ref I) >>= _) _ _ s
    refine wpAny_bind (W.done s _ _ hst fun s' hm => ?_)
    show wpAny _ A.in1 (ret Value.none) _ _ s'
    exact wpAny_pure (hR s' (hm.mono hsub) (by
      obtain ⟨o, es, ep, t, ho, rest⟩ := hS
      exact ⟨o, es, ep, t, hm.heap S _ hSw ho, rest⟩))
  | succ k ih =>
    intro i s hk hi hst hS hR
    have hlt : i < n := by omega
    refine codeAny_builtin F.entry_set_update_loop ?_
    rw [Around.under_plainId F.plain_set_update_loop _]
    show wpAny _ A.in1 (pyNext (.ref I) >>= _) _ _ s
    refine wpAny_bind (W.item i s _ _ hlt hst fun v s' hP hst' hm => ?_)
    obtain ⟨t, rfl⟩ := hval i v hP
    have hS' : s'.heap.SetOf (PySem.strKind prog w) S (fun k' => (met val i).any (· == k')) (met val i).length := by
      obtain ⟨o, es, ep, tb, ho, rest⟩ := hS
      exact ⟨o, es, ep, tb, hm.heap S _ hSw ho, rest⟩
    show wpAny _ A.in1 (holding [Value.str (val i) t] (setAdd S (.str (val i) t)) >>= _) _ _ s'
    refine wpAny_bind (wpAny_holding ?_)
    unfold setAdd
    refine wpAny_holding ?_
    refine wpAny_bind ((PySem.strKind prog w).pyHash (k := val i) (PySem.strKind_is _ _ _ _) ?_)
    have hroom : (met val i).length + 1 < scanBound := by have := met_len val i; omega
    refine wpAny_setAddHashed_of (knd := PySem.strKind prog w) (s := { s' with toks := s'.toks + 1 }) (PySem.strKind_is _ _ _ _) rfl hS' hroom fun h' hsb hS2 => ?_

    have hSi : h'.SetOf (PySem.strKind prog w) S (fun k' => (met val (i + 1)).any (· == k')) (met val (i + 1)).length :=
      SetOf_congr hS2 (fun k' => by rw [met_succ, dd_any]) (by rw [met_succ, dd_len])
    refine wpAny_pure ⟨plainId_quiet F.plain_set_update_loop _, ih (i + 1) _ (by omega) hlt (W.frame _ s' _ _ hst' (Nat.le_succ _) fun b hb o e => ?_) hSi fun s'' hm'' hS'' => ?_⟩
    · rw [hsb.2 b (fun h : b = S => hSf (by rw [← h]; exact hb))]; exact e
    · refine hR s'' (Moved.trans W.gtrans ((hm.mono hsub).then_heap (Nat.le_succ _) fun b o hb e => ?_) hm'') hS''
      rw [hsb.2 b (fun h : b = S => hb (by rw [h]; exact List.mem_cons_self))]; exact e
end
section
variable {prog : Program} {w : World} {A : Around} {E : Value → Shared → Prop} {s : Shared}
set_option maxRecDepth 100000 in
set_option maxHeartbeats 3200000 in
theorem call_set_strs {l : Addr} {items : Array Value} {ns : List Str} {Q : Value → Shared → Prop}
    (hh : A.handled = none) (hl : s.heap.IsList l items) (hi : StrsAre items.toList ns) (hb : items.size + 1 < scanBound)
    (h : ∀ (h' : Heap) (tk : Nat), h'.SetOf (PySem.strKind prog w) s.heap.objs.size (fun k' => (met (fun i => ns.getD i Str.empty) items.size).any (· == k')) (met (fun i => ns.getD i Str.empty) items.size).length →
      (∀ b o, b < s.heap.objs.size → s.heap.get? b = some o → h'.get? b = some o) → Q (.ref s.heap.objs.size) { s with heap := h', toks := tk }) :
    wpAny (model prog w) A (call (.type "set") [.ref l]) Q E s := by
  obtain ⟨c, tl, hmro⟩ := F.called_set.mro
  have hmade := F.called_set.made
  have hsub := F.called_set.sub
  refine wpAny_call (codeAny_of_tree ?_)
  show wpAny _ _ (callAny (.type "set") _) _ _ _
  refine wpAny_pure ⟨Code.quiet_builtin _ (by decide +kernel), codeAny_builtin F.entry_type_call ?_⟩
  rw [Around.under_plain (weight_type_call_type "set" [.ref l] []) rfl]
  have h1 := F.called_set.notType
  have h2 := F.called_set.canCreate
  have hct := F.typeCall_set_1 (.ref l)
  repeat (any_goals (first | assumption | wp_step))

  refine codeAny_mono (code_set_new_1 (.ref l) (E := E) (Q₁ := fun obj s₁ => ∃ led : Bool, obj = .ref s.heap.objs.size ∧ s₁ = { s with heap := s.heap.push { cls := .type "set", dict := none, data := .set #[] 0 (.fresh 0 0 led) } }) fun led => ⟨led, rfl, rfl⟩) fun r s₁ hr => ?_
  cases r with
  | error e => exact hr
  | ok fl =>
    cases fl with
    | ret obj =>
      obtain ⟨led, rfl, rfl⟩ := hr
      have hS : (s.heap.push { cls := .type "set", dict := none, data := .set #[] 0 (.fresh 0 0 led) }).get? s.heap.objs.size = some { cls := .type "set", dict := none, data := .set #[] 0 (.fresh 0 0 led) } := Heap.get?_push_size _ rfl
      have hT : Shared.TypeIs { s with heap := s.heap.push { cls := .type "set", dict := none, data := .set #[] 0 (.fresh 0 0 led) } } (.ref s.heap.objs.size) "set" := ⟨_, hS, rfl⟩
      have hli := F.called_set.init.lookup
      have hbi := F.called_set.init.bind (.ref s.heap.objs.size)
      repeat (any_goals (first | assumption | wp_step))

      refine codeAny_mono (codeAny_call_builtin (R := wants (fun r s₂ => r = .none ∧ ∃ h' tk, s₂ = { s with heap := h', toks := tk } ∧
          h'.SetOf (PySem.strKind prog w) s.heap.objs.size (fun k' => (met (fun i => ns.getD i Str.empty) items.size).any (· == k')) (met (fun i => ns.getD i Str.empty) items.size).length ∧
          (∀ b o, b < s.heap.objs.size → s.heap.get? b = some o → h'.get? b = some o)) E) F.called_set.init.plain F.entry_set_init (check_set_init_1 hT ?_)) fun r₂ s₂ hr₂ => ?_
      · obtain ⟨ol, hol, hcl, nl, hdl⟩ := hl
        obtain ⟨ocls, odict, odata, oslots⟩ := ol
        simp only at hcl hdl
        subst hcl; subst hdl
        have hol' : (s.heap.push { cls := .type "set", dict := none, data := .set #[] 0 (.fresh 0 0 led) }).get? l = some { cls := .type "list", dict := odict, data := .seq items nl, slots := oslots } := Heap.get?_push_of_some _ hol
        have hsls := F.sub_list_set
        have hslf := F.sub_list_frozenset
        have hne : (Value.type "list" == Value.type "dict") = false := by decide
        have hl1 : (s.heap.push { cls := .type "set", dict := none, data := .set #[] 0 (.fresh 0 0 led) }).IsList l items := ⟨_, hol', rfl, nl, rfl⟩
        unfold Builtin.«set.__init__» noKeywords Builtin.Frozenset.updateFrom
        generalize hPI : pyIter = PI
        wp_walk
        subst hPI

        refine wpAny_pyIter_list hl1 ?_
        refine wpAny_bind (wpAny_runValue ?_)
        have hlS : l < s.heap.objs.size := Heap.lt_size hol
        have hh3 : A.in1.in1.in1.handled = none := by simp [hh]
        have hneI : l ≠ (s.heap.push { cls := .type "set", dict := none, data := .set #[] 0 (.fresh 0 0 led) }).objs.size := by
          rw [Heap.size_push]; exact Nat.ne_of_lt (Nat.lt_succ_of_lt hlS)
        have hSf : s.heap.objs.size ∉ [(s.heap.push { cls := .type "set", dict := none, data := .set #[] 0 (.fresh 0 0 led) }).objs.size, l] := by
          rw [Heap.size_push]; simp only [List.mem_cons, List.mem_singleton, List.not_mem_nil, or_false, not_or]
          exact ⟨Nat.ne_of_lt (Nat.lt_succ_self _), Nat.ne_of_gt hlS⟩
        have hval : ∀ (i : Nat) (v : Value), items[i]? = some v → ∃ t, v = .str ((fun i => ns.getD i Str.empty) i) t := fun i v hv =>
          strs_at hi i v (by rw [Array.getElem?_toList]; exact hv)
        refine upd_loop ((Walks.list hh3 _ l hneI items).toS) s.heap.objs.size
          hSf (fun i => ns.getD i Str.empty) hval hb (items.size - 0) 0 _ (by omega) (Nat.zero_le _)
          ⟨⟨_, Heap.get?_push_size _ rfl, rfl, rfl⟩, (hl1.push _)⟩ ?hS0 ?hR
        case hS0 =>
          have hget : ((s.heap.push { cls := .type "set", dict := none, data := .set #[] 0 (.fresh 0 0 led) }).push { cls := .type "list_iterator", data := .fields #[.ref l, .int 0 0] }).get? s.heap.objs.size
              = some { cls := .type "set", dict := none, data := .set #[] 0 (.fresh 0 0 led) } := Heap.get?_push_of_some _ hS
          exact SetOf_congr ((setObjOf_fresh (knd := PySem.strKind prog w) led).setOf hget (by unfold scanBound; omega)) (fun _ => rfl) rfl
        case hR =>
          intro s' hm hS'
          obtain ⟨h', g', d', tk', os'⟩ := s'
          have eg : g' = s.gens := hm.gens
          have ed : d' = s.drawn := hm.drawn
          have eo : os' = s.os := hm.os
          subst eg; subst ed; subst eo
          show wpAny _ _ _ _ _ _
          refine wpAny_pure ?_
          show wpAny _ _ (ret Value.none) _ _ _
          refine wpAny_pure ⟨rfl, h', tk', rfl, hS', fun b o hb e => ?_⟩
          have hb1 : b ≠ s.heap.objs.size := Nat.ne_of_lt hb
          have hb2 : b ≠ (s.heap.push { cls := .type "set", dict := none, data := .set #[] 0 (.fresh 0 0 led) }).objs.size := by
            rw [Heap.size_push]; exact Nat.ne_of_lt (Nat.lt_succ_of_lt hb)
          exact hm.heap b o (by simp only [List.mem_cons, List.mem_singleton, List.not_mem_nil, or_false, not_or]; exact ⟨hb1, hb2⟩) (Heap.get?_push_of_some _ (Heap.get?_push_of_some _ e))

      · cases r₂ with
        | error e => exact hr₂
        | ok fl₂ =>
          cases fl₂ with
          | ret r =>
            obtain ⟨rfl, h', tk, rfl, hS', hk'⟩ := hr₂
            repeat (any_goals (first | assumption | wp_step))
            exact h _ _ hS' hk'
          | _ => exact hr₂.elim
    | _ => exact hr.elim
end
end St

end

section
set_option Elab.async false
set_option linter.all false
set_option maxRecDepth 100000
set_option maxHeartbeats 4000000
namespace St
open PySem PySem.Spec PyProof.Rows
section
variable {prog : Program} {w : World} {A : Around} {E : Value → Shared → Prop} {s : Shared} {a : Addr} {ep : Nat} {t : SetTable}
end
end St
namespace L2
open PySem PySem.Spec PyProof.Rows
end L2

end

section
set_option Elab.async false
set_option linter.all false
set_option maxRecDepth 100000
set_option maxHeartbeats 4000000
namespace M
open PySem L2
section
variable {X : Cx} {pins : List (Addr × Obj)} {σ : St} {H : Hp} {s : Shared}
end
end M

end

section
set_option Elab.async false
set_option linter.all false
set_option maxRecDepth 100000
set_option maxHeartbeats 4000000
namespace M
open PySem L2
noncomputable def five : List Nat := [113, 120, 122, 118, 119]
noncomputable def nmA (cs : List Nat) (a : Nat) (b : Int) (k : Nat) : List Nat := cs.take a ++ (97 + ((b + 5 * (k : Int)) % 26).toNat) :: cs.drop a
noncomputable def nmB (cs : List Nat) (a : Nat) (b : Int) (k : Nat) : List Nat := nmA cs a b (k - k % 2) ++ List.replicate (k % 2) 113
noncomputable def NmsOk (nms : List Str) : Prop := nms.length = 26 ∧ nms.Nodup ∧ ∀ z ∈ nms, Name z
theorem nmA_len (cs : List Nat) (a : Nat) (b : Int) (k : Nat) : (nmA cs a b k).length = cs.length + 1 := by
  unfold nmA
  rw [List.length_append, List.length_cons, List.length_take, List.length_drop]
  omega
theorem nmB_len (cs : List Nat) (a : Nat) (b : Int) (k : Nat) : (nmB cs a b k).length = cs.length + 1 + k % 2 := by
  unfold nmB
  rw [List.length_append, nmA_len, List.length_replicate]
theorem nmA_inj {cs : List Nat} {a : Nat} {b : Int} {k j : Nat} (hk : k < 26) (hj : j < 26) (h : nmA cs a b k = nmA cs a b j) : k = j := by
  unfold nmA at h
  have h2 := List.append_cancel_left h
  have h3 := (List.cons.inj h2).1
  omega
theorem nmB_inj {cs : List Nat} {a : Nat} {b : Int} {k j : Nat} (hk : k < 26) (hj : j < 26) (h : nmB cs a b k = nmB cs a b j) : k = j := by
  have hl := congrArg List.length h
  rw [nmB_len, nmB_len] at hl
  have hm : k % 2 = j % 2 := by omega
  unfold nmB at h
  rw [hm] at h
  have h2 := List.append_cancel_right h
  have h3 := nmA_inj (by omega) (by omega) h2
  omega
theorem nodup_map {f : Nat → Str} (h : ∀ k j, k < 26 → j < 26 → f k = f j → k = j) : ((List.range 26).map f).Nodup := by
  refine List.pairwise_map.mpr (List.Pairwise.imp_of_mem (fun hi hj hlt e => ?_) (List.pairwise_lt_range (n := 26)))
  have := h _ _ (List.mem_range.mp hi) (List.mem_range.mp hj) e
  omega
theorem five_letter : ∀ c ∈ five, isLetter c = true := by decide
theorem letter_of (i : Int) : isLetter (97 + (i % 26).toNat) = true := by
  unfold isLetter
  have h1 : 0 ≤ i % 26 := Int.emod_nonneg _ (by decide)
  have h2 : i % 26 < 26 := Int.emod_lt_of_pos _ (by decide)
  rw [Bool.and_eq_true, decide_eq_true_eq, decide_eq_true_eq]
  omega
theorem name_of {l : List Nat} (h1 : 1 ≤ l.length) (h6 : l.length ≤ 6) (hl : ∀ c ∈ l, isLetter c = true) (h5 : l.length = 1 ∨ ∃ c ∈ l, c ∈ five) : Name (ofL l) := by
  show nameL l = true
  unfold nameL
  have ne : ∀ z : List Nat, z.length ≠ 1 → (∀ c ∈ z, c ∉ five) → (l != z) = true := fun z hz hc => by
    rw [bne_iff_ne]
    intro e
    subst e
    rcases h5 with h5 | ⟨c, hm, h5⟩
    · exact hz h5
    · exact hc c hm h5
  rw [ne [110, 117, 109] (by decide) (by decide), ne [105, 116] (by decide) (by decide), decide_eq_true h1, decide_eq_true h6, List.all_eq_true.mpr hl]
  rfl
theorem mem_nmA {cs : List Nat} {a : Nat} {b : Int} {k c : Nat} : c ∈ nmA cs a b k ↔ c ∈ cs ∨ c = 97 + ((b + 5 * (k : Int)) % 26).toNat := by
  unfold nmA
  rw [List.mem_append, List.mem_cons]
  have e : c ∈ cs ↔ c ∈ cs.take a ∨ c ∈ cs.drop a := by
    rw [← List.mem_append, List.take_append_drop]
  rw [e]
  constructor
  · rintro (h | h | h)
    · exact .inl (.inl h)
    · exact .inr h
    · exact .inl (.inr h)
  · rintro ((h | h) | h)
    · exact .inl h
    · exact .inr (.inr h)
    · exact .inr (.inl h)
theorem nmA_name {cs : List Nat} {a : Nat} {b : Int} {k : Nat} (hc : cs.length ≤ 4) (h5 : ∀ c ∈ cs, c ∈ five) : Name (ofL (nmA cs a b k)) := by
  refine name_of (by rw [nmA_len]; omega) (by rw [nmA_len]; omega) (fun c hm => ?_) ?_
  · rcases mem_nmA.mp hm with h | h
    · exact five_letter c (h5 c h)
    · rw [h]; exact letter_of _
  · cases cs with
    | nil => exact .inl (by rw [nmA_len]; rfl)
    | cons c r => exact .inr ⟨c, mem_nmA.mpr (.inl (by simp)), h5 c (by simp)⟩
theorem nmB_name {cs : List Nat} {a : Nat} {b : Int} {k : Nat} (hc : cs.length ≤ 4) (h5 : ∀ c ∈ cs, c ∈ five) : Name (ofL (nmB cs a b k)) := by
  refine name_of (by rw [nmB_len]; omega) (by rw [nmB_len]; omega) (fun c hm => ?_) ?_
  · unfold nmB at hm
    rcases List.mem_append.mp hm with hm | hm
    · rcases mem_nmA.mp hm with h | h
      · exact five_letter c (h5 c h)
      · rw [h]; exact letter_of _
    · rw [(List.mem_replicate.mp hm).2]; decide
  · by_cases hk : k % 2 = 0
    · cases cs with
      | nil => exact .inl (by rw [nmB_len, hk]; rfl)
      | cons c r => exact .inr ⟨c, by unfold nmB; exact List.mem_append_left _ (mem_nmA.mpr (.inl (by simp))), h5 c (by simp)⟩
    · refine .inr ⟨113, ?_, by decide⟩
      unfold nmB
      exact List.mem_append_right _ (List.mem_replicate.mpr ⟨by omega, rfl⟩)
theorem nmsA {cs : List Nat} {a : Nat} {b : Int} (hc : cs.length ≤ 4) (h5 : ∀ c ∈ cs, c ∈ five) : NmsOk ((List.range 26).map fun k => ofL (nmA cs a b k)) := by
  refine ⟨by simp, nodup_map fun k j hk hj e => nmA_inj hk hj (congrArg L e), fun z hz => ?_⟩
  obtain ⟨k, _, rfl⟩ := List.mem_map.mp hz
  exact nmA_name hc h5
theorem nmsB {cs : List Nat} {a : Nat} {b : Int} (hc : cs.length ≤ 4) (h5 : ∀ c ∈ cs, c ∈ five) : NmsOk ((List.range 26).map fun k => ofL (nmB cs a b k)) := by
  refine ⟨by simp, nodup_map fun k j hk hj e => nmB_inj hk hj (congrArg L e), fun z hz => ?_⟩
  obtain ⟨k, _, rfl⟩ := List.mem_map.mp hz
  exact nmB_name hc h5
theorem slice_to (x : Str) {j : Int} (h0 : 0 ≤ j) (h1 : j ≤ x.length) : Txt.slice x none (some j) = ofL ((L x).take j.toNat) := by
  have e : Txt.slice x none (some j) = StrLaws.sliceText x none (some j) := rfl
  rw [e, StrLaws.sliceText_to ⟨h0, by rw [show x.cps.toList.length = x.length by simp [Str.length]]; exact h1⟩]
  show ofL ((((L x).drop 0).take (j - 0).toNat)) = _
  rw [List.drop_zero, Int.sub_zero]
theorem slice_from (x : Str) {j : Int} (h0 : 0 ≤ j) (h1 : j ≤ x.length) : Txt.slice x (some j) none = ofL ((L x).drop j.toNat) := by
  have e : Txt.slice x (some j) none = StrLaws.sliceText x (some j) none := rfl
  rw [e, StrLaws.sliceText_from ⟨h0, by rw [show x.cps.toList.length = x.length by simp [Str.length]]; exact h1⟩]
  apply L_inj
  show ((L x).drop j.toNat).take _ = (L x).drop j.toNat
  refine List.take_of_length_le ?_
  rw [List.length_drop]
  show (L x).length - j.toNat ≤ (((L x).length : Int) - j).toNat
  omega
theorem letter_is {i : Int} (h0 : 0 ≤ i) (h : i < 26) : atI (S "abcdefghijklmnopqrstuvwxyz").cps.toList i = some (97 + i.toNat) := by
  have all : ∀ k, k < 26 → (S "abcdefghijklmnopqrstuvwxyz").cps.toList[k]? = some (97 + k) := by decide +kernel
  have ek : i = ((i.toNat : Nat) : Int) := by omega
  have q := atI_nat (all i.toNat (by omega))
  rw [← ek] at q
  exact q
theorem five_at {i : Int} (h0 : 0 ≤ i) (h : i < 5) : ∃ c ∈ five, atI (S "qxzvw").cps.toList i = some c := by
  have e : (S "qxzvw").cps.toList = five := by decide +kernel
  rw [e]
  exact at_codes h0 h
theorem name_text (cs : List Nat) (a ch : Nat) : ofL (cs.take a) ++ (⟨#[ch]⟩ : Str) ++ ofL (cs.drop a) = ofL (cs.take a ++ ch :: cs.drop a) := by
  apply L_inj
  rw [L_append, L_append, L_ofL, L_ofL, L_ofL]
  show cs.take a ++ [ch] ++ cs.drop a = _
  simp
end M
namespace L2
open PySem PySem.Spec PyProof.Rows
theorem op_mulS {X : Cx} : OpR X (binaryOp .Mult) (fun x y H Q => ∃ i n, x = .str i ∧ y = .int n ∧ (n = 0 ∨ n = 1) ∧ Q (.str (if n = 1 then i else Str.empty)) H) := by
  intro pins s σ H x y v u Q I rx ry h
  obtain ⟨i, n, rfl, rfl, hn, q⟩ := h
  obtain ⟨t, rfl⟩ := rx
  obtain ⟨t', rfl⟩ := ry
  refine SB.mul ?_ fun t' k => ⟨.str _, H, I.tok k, ⟨t', rfl⟩, ?_⟩
  · rcases hn with rfl | rfl
    · exact ⟨by decide, fun h => absurd (by decide) h, fun h => absurd (by decide) h⟩
    · exact ⟨by decide, fun _ h => by simp at h, fun _ h => by simp at h⟩
  · have e : Txt.mul i n = if n = 1 then i else Str.empty := by
      rcases hn with rfl | rfl
      · rfl
      · unfold Txt.mul
        rw [if_neg (by decide), if_pos (by simp), if_pos rfl]
    rw [e]
    exact q
end L2

end

section
set_option Elab.async false
set_option linter.all false
set_option maxRecDepth 100000
set_option maxHeartbeats 4000000
namespace M
open PySem L2
structure KWf (ks : List Kn) : Prop where
  nd : (ks.map Kn.name).Nodup
  nm : ∀ k ∈ ks, Name k.name
  ref : ∀ (i : Nat) (k : Kn), ks[i]? = some k → ∀ p ∈ k.parts, p.2 = S "num" ∨ ∃ j, ∃ k' : Kn, j < i ∧ ks[j]? = some k' ∧ k'.name = p.2
  alt : ∀ k ∈ ks, k.rc = false → k.parts ≠ []
  few : ks.length ≤ 6
  pts : ∀ k ∈ ks, k.parts.length ≤ 5
  pnd : ∀ k : Kn, k ∈ ks → (k.parts.map (fun p : Str × Str => p.1)).Nodup
  pnm : ∀ k : Kn, k ∈ ks → ∀ p ∈ k.parts, Name p.1
theorem name_ne_num {x : Str} (h : Name x) : x ≠ S "num" := fun e => by
  rw [e] at h
  exact absurd (show nameL (S "num").cps.toList = true from h) (by decide +kernel)
theorem KWf.nil : KWf [] := ⟨List.nodup_nil, (fun _ h => nomatch h), (fun i k h => by simp at h), (fun _ h => nomatch h), Nat.zero_le _, (fun _ h => nomatch h), (fun _ h => nomatch h), (fun _ h => nomatch h)⟩
theorem find_nodup {α : Type} {f : α → Str} : ∀ {xs : List α} {i : Nat} {a : α}, (xs.map f).Nodup → xs[i]? = some a → xs.find? (fun z => decide (f z = f a)) = some a
  | x :: xs, 0, a, nd, h => by
    simp at h
    subst h
    rw [List.find?_cons, decide_eq_true rfl]
  | x :: xs, i + 1, a, nd, h => by
    have h' : xs[i]? = some a := by simpa using h
    rw [List.map_cons, List.nodup_cons] at nd
    have hne : f x ≠ f a := fun e => nd.1 (by rw [e]; exact List.mem_map_of_mem (List.mem_of_getElem? h'))
    rw [List.find?_cons, decide_eq_false hne]
    exact find_nodup nd.2 h'
theorem KWf.at {ks : List Kn} (w : KWf ks) {i : Nat} {k : Kn} (h : ks[i]? = some k) : kAt ks k.name = some k := find_nodup (f := Kn.name) w.nd h
theorem KWf.no {ks : List Kn} {x : Str} (h : ∀ k ∈ ks, k.name ≠ x) : kAt ks x = none := by
  unfold kAt
  rw [List.find?_eq_none]
  intro k hk
  simpa using h k hk
theorem KWf.num {ks : List Kn} (w : KWf ks) : kAt ks (S "num") = none := KWf.no fun k hk => name_ne_num (w.nm k hk)
noncomputable def KIn (ks : List Kn) (n : Nat) (x : Str) : Prop := x = S "num" ∨ ∃ j k, j < n ∧ ks[j]? = some k ∧ k.name = x
theorem KIn.mono {ks : List Kn} {n m : Nat} {x : Str} (h : KIn ks n x) (l : n ≤ m) : KIn ks m x := by
  rcases h with h | ⟨j, k, hj, h⟩
  · exact .inl h
  · exact .inr ⟨j, k, by omega, h⟩
theorem KIn.ap {ks more : List Kn} {n : Nat} {x : Str} (h : KIn ks n x) : KIn (ks ++ more) n x := by
  rcases h with h | ⟨j, k, hj, h1, h2⟩
  · exact .inl h
  · exact .inr ⟨j, k, hj, by rw [List.getElem?_append_left (List.getElem?_eq_some_iff.mp h1).1]; exact h1, h2⟩
theorem KIn.of {ks : List Kn} {x : Str} (h : x = S "num" ∨ ∃ k ∈ ks, k.name = x) : KIn ks ks.length x := by
  rcases h with h | ⟨k, hk, h⟩
  · exact .inl h
  · obtain ⟨j, hj, e⟩ := List.mem_iff_getElem.mp hk
    exact .inr ⟨j, k, hj, by rw [← e]; exact List.getElem?_eq_getElem hj, h⟩
theorem KWf.snoc {ks : List Kn} (w : KWf ks) {k : Kn} (h1 : k.name ∉ ks.map Kn.name) (h2 : Name k.name) (h3 : ∀ p ∈ k.parts, KIn ks ks.length p.2) (h4 : k.rc = false → k.parts ≠ []) (h5 : ks.length < 6) (h6 : k.parts.length ≤ 5)
    (h7 : (k.parts.map (·.1)).Nodup) (h8 : ∀ p ∈ k.parts, Name p.1) : KWf (ks ++ [k]) := by
  have mem : ∀ {q : Kn → Prop}, (∀ z ∈ ks, q z) → q k → ∀ z ∈ ks ++ [k], q z := fun a b z hz => by
    rcases List.mem_append.mp hz with hz | hz
    · exact a z hz
    · rw [List.mem_singleton.mp hz]; exact b
  refine ⟨?_, mem w.nm h2, ?_, mem w.alt h4, by rw [List.length_append, List.length_singleton]; omega, mem w.pts h6, mem w.pnd h7, mem w.pnm h8⟩
  · rw [List.map_append]
    exact nd_snoc w.nd h1
  · intro i z hz p hp
    by_cases hi : i < ks.length
    · rw [List.getElem?_append_left hi] at hz
      exact KIn.ap (w.ref i z hz p hp)
    · rw [List.getElem?_append_right (by omega)] at hz
      have hi0 : i - ks.length = 0 := by
        have := (List.getElem?_eq_some_iff.mp hz).1
        simp at this
        omega
      rw [hi0] at hz
      simp at hz
      subst hz
      exact (h3 p hp).ap.mono (by omega)
noncomputable def maxD : List Int → Int
  | [] => 0
  | n :: ns => max n (maxD ns)
theorem maxD_ge : ∀ {ns : List Int} {n : Int}, n ∈ ns → n ≤ maxD ns
  | m :: ns, n, h => by
    show n ≤ max m (maxD ns)
    rcases List.mem_cons.mp h with rfl | h
    · omega
    · have := maxD_ge h
      omega
theorem maxD_mem : ∀ {ns : List Int}, ns ≠ [] → (∀ n ∈ ns, 0 ≤ n) → maxD ns ∈ ns
  | [n], _, h => by
    have h0 := h n (by simp)
    show max n 0 ∈ [n]
    rw [Int.max_eq_left h0]
    simp
  | n :: m :: ns, _, h => by
    have ih := maxD_mem (ns := m :: ns) (by simp) fun x hx => h x (List.mem_cons_of_mem _ hx)
    show max n (maxD (m :: ns)) ∈ n :: m :: ns
    rcases Int.le_total n (maxD (m :: ns)) with e | e
    · rw [Int.max_eq_right e]; exact List.mem_cons_of_mem _ ih
    · rw [Int.max_eq_left e]; simp
theorem maxD_is {ns : List Int} {m : Int} (hn : ns ≠ []) (h0 : ∀ n ∈ ns, 0 ≤ n) (hm : m ∈ ns) (h : ∀ n ∈ ns, n ≤ m) : m = maxD ns := by
  have h1 := maxD_ge hm
  have h2 := h _ (maxD_mem hn h0)
  omega
noncomputable def szF : Nat → List Kn → Str → Int
  | 0, _, _ => 1
  | n + 1, ks, x => match kAt ks x with
    | none => 1
    | some k => 1 + (if k.rc = true then (k.parts.map fun p => szF n ks p.2).sum else maxD (k.parts.map fun p => szF n ks p.2))
theorem szF_bound {ks : List Kn} (hp : ∀ k ∈ ks, k.parts.length ≤ 5) : ∀ (n : Nat) (x : Str), 1 ≤ szF n ks x ∧ szF n ks x ≤ 6 ^ n
  | 0, x => by simp [szF]
  | n + 1, x => by
    unfold szF
    have p1 : (1 : Int) ≤ 6 ^ n := Int.pow_pos (by decide)
    have e6 : (6 : Int) ^ (n + 1) = 6 * 6 ^ n := by rw [Int.pow_succ, Int.mul_comm]
    cases hk : kAt ks x with
    | none => simp only; omega
    | some k =>
      simp only
      have hk5 := hp k (List.mem_of_find?_eq_some hk)
      have all : ∀ m ∈ k.parts.map (fun p => szF n ks p.2), 1 ≤ m ∧ m ≤ 6 ^ n := fun m hm => by
        obtain ⟨p, _, rfl⟩ := List.mem_map.mp hm
        exact szF_bound hp n p.2
      have hl : (k.parts.map (fun p => szF n ks p.2)).length ≤ 5 := by rw [List.length_map]; exact hk5
      generalize k.parts.map (fun p => szF n ks p.2) = ns at all hl ⊢
      have hs : ∀ (l : List Int), (∀ m ∈ l, 1 ≤ m ∧ m ≤ (6 : Int) ^ n) → 0 ≤ l.sum ∧ l.sum ≤ l.length * 6 ^ n := by
        intro l
        induction l with
        | nil => intro _; simp
        | cons a r ih =>
          intro h
          have h1 := h a (by simp)
          have h2 := ih fun m hm => h m (List.mem_cons_of_mem _ hm)
          rw [List.sum_cons, List.length_cons]
          push_cast
          rw [Int.add_mul]
          omega
      have hm : 0 ≤ maxD ns ∧ maxD ns ≤ 6 ^ n := by
        by_cases he : ns = []
        · subst he; simp [maxD]; omega
        · have := all _ (maxD_mem he fun m hm => by have := all m hm; omega)
          omega
      have h1 := hs ns all
      have h2 : (ns.length : Int) * 6 ^ n ≤ 5 * 6 ^ n := Int.mul_le_mul_of_nonneg_right (by omega) (by omega)
      split <;> omega
noncomputable def KsSeq (H : Hp) (v : V) (ks : List Kn) : Prop := ∃ a vs, v = .ref a ∧ (H a = some (.lst vs) ∨ H a = some (.tup vs)) ∧ RelDs H vs (ks.map Kn.d)
theorem KsSeq.same {H H' : Hp} {v : V} {ks : List Kn} (h : KsSeq H v ks) (s : Same H H') : KsSeq H' v ks := by
  obtain ⟨a, vs, e, h1, h2⟩ := h
  exact ⟨a, vs, e, h1.imp (s _ _) (s _ _), h2.same s _⟩
noncomputable def sortS : Option Kn → Str
  | some k => k.sort
  | none => S "num"
end M
namespace L2
open PySem PySem.Spec PyProof.Rows
theorem pi_or {X : Cx} {tg it : Expr} {w1 w2 : TI} (h1 : PI X tg it w1) (h2 : PI X tg it w2) : PI X tg it (fun σ H R => w1 σ H R ∨ w2 σ H R) := fun pins s σ H R I h => by
  rcases h with h | h
  · exact h1 pins s σ H R I h
  · exact h2 pins s σ H R I h
end L2
namespace L2
theorem yes_go {σ : St} {H : Hp} {A B : Hp → Prop} (h : A H) : tYes σ H (fun b H3 => if b = true then A H3 else B H3) := by
  unfold tYes
  show if true = true then A H else B H
  rw [if_pos rfl]
  exact h
end L2
namespace M
open PySem L2
theorem Fed.put {f p : Addr} {H H' : Hp} (h : Fed f H H') (hp : H p = none) (hf : p ≠ f) (o : HO) : Fed f H (upd H' p o) := by
  obtain ⟨s, x, y, e⟩ := h
  refine ⟨fun b u hb nb => ?_, x, y, ?_⟩
  · rw [upd_ne (ne_of_none hb hp)]
    exact s b u hb nb
  · rw [upd_ne (Ne.symm hf)]
    exact e
theorem lst_tups {H : Hp} {p : Addr} {us : List V} (h : H p = some (.lst us)) (o : HO) : ∀ b vs, H b = some (.tup vs) → upd H p o b = some (.tup vs) := fun b vs hb => by
  rw [upd_ne fun e => by rw [e, h] at hb; cases hb]
  exact hb
theorem names_at {ks : List Kn} {r : Int} (h0 : 0 ≤ r) (h : r < 1 + (ks.length : Int)) : ∃ x, atI ([V.str (S "num")] ++ (ks.map Kn.name).map V.str) r = some (.str x) ∧ KIn ks ks.length x := by
  have e : [V.str (S "num")] ++ (ks.map Kn.name).map V.str = (S "num" :: ks.map Kn.name).map V.str := rfl
  obtain ⟨z, hz, hv⟩ := at_codes (cs := (S "num" :: ks.map Kn.name).map V.str) h0 (by rw [List.length_map, List.length_cons, List.length_map]; push_cast; omega)
  obtain ⟨y, hy, rfl⟩ := List.mem_map.mp hz
  refine ⟨y, by rw [e]; exact hv, ?_⟩
  rcases List.mem_cons.mp hy with rfl | hy
  · exact .inl rfl
  · obtain ⟨k, hk, rfl⟩ := List.mem_map.mp hy
    exact KIn.of (.inr ⟨k, hk, rfl⟩)
theorem strs_get {ys : List Str} {i : Nat} (h : i < ys.length) : atI (ys.map V.str) (0 + (i : Int)) = some (.str ys[i]) := by
  rw [Int.zero_add]
  exact atI_nat (by rw [List.getElem?_map, List.getElem?_eq_getElem h]; rfl)
end M
namespace M
open PySem L2
theorem not_ahead {nms : List Str} (h : nms.Nodup) {i : Nat} (hi : i < nms.length) : nms[i] ∉ nms.take i := fun hm => by
  obtain ⟨j, hj, e⟩ := List.mem_iff_getElem.mp hm
  rw [List.length_take] at hj
  rw [List.getElem_take] at e
  have := (List.getElem_inj h).mp e
  omega
end M

end

section
set_option Elab.async false
set_option linter.all false
set_option maxRecDepth 100000
set_option maxHeartbeats 4000000
namespace M
open PySem L2
theorem hu2_of {A : Around} {k : Nat} (hr : Room k A) : A.units + 200 < cLine := by
  have := hr.un
  omega
theorem KIn.look {ks : List Kn} (wf : KWf ks) {m : Nat} {x : Str} (h : KIn ks m x) : (x = S "num" ∧ kAt ks x = none) ∨ ∃ j k, m = j + 1 ∧ kAt ks x = some k ∧ k.name = x ∧ k ∈ ks ∧ ∀ p ∈ k.parts, KIn ks j p.2 := by
  rcases h with rfl | ⟨j, k, hj, hk, rfl⟩
  · exact .inl ⟨rfl, wf.num⟩
  · refine .inr ⟨m - 1, k, by omega, wf.at hk, rfl, List.mem_of_getElem? hk, fun p hp => ?_⟩
    rcases wf.ref j k hk p hp with z | ⟨i, k2, hi, z⟩
    · exact .inl z
    · exact .inr ⟨i, k2, by omega, z⟩
end M

end

section
set_option Elab.async false
set_option linter.all false
set_option maxRecDepth 100000
set_option maxHeartbeats 4000000
namespace M
open PySem L2
theorem names_last (ks : List Kn) : ∃ x, atI ([V.str (S "num")] ++ (ks.map Kn.name).map V.str) (-1) = some (.str x) ∧ KIn ks ks.length x := by
  rcases List.eq_nil_or_concat ks with rfl | ⟨r, k, rfl⟩
  · exact ⟨S "num", rfl, .inl rfl⟩
  · rw [List.concat_eq_append]
    refine ⟨k.name, ?_, KIn.of (.inr ⟨k, by simp, rfl⟩)⟩
    rw [List.map_append, List.map_append, ← List.append_assoc]
    exact atI_last _ _
noncomputable def PNm (nms : List Str) (j : Nat) (ps : List (Str × Str)) : Prop := (ps.map (·.1)).Nodup ∧ ∀ z ∈ ps, ∃ t, t < j ∧ (nms[t]? = some z.1 ∨ nms[8 + t]? = some z.1)
theorem PNm.snoc {nms : List Str} (hok : NmsOk nms) {j : Nat} {ps : List (Str × Str)} (h : PNm nms j ps) (hj : j < 5) {x y : Str} (hx : nms[j]? = some x ∨ nms[8 + j]? = some x) : PNm nms (j + 1) (ps ++ [(x, y)]) := by
  have inj : ∀ {a b : Nat} {z : Str}, nms[a]? = some z → nms[b]? = some z → a = b := fun {a b z} ha hb => by
    obtain ⟨h1, e1⟩ := List.getElem?_eq_some_iff.mp ha
    obtain ⟨h2, e2⟩ := List.getElem?_eq_some_iff.mp hb
    exact (List.getElem_inj hok.2.1).mp (e1.trans e2.symm)
  refine ⟨?_, fun z hz => ?_⟩
  · rw [List.map_append]
    refine nd_snoc h.1 fun hm => ?_
    obtain ⟨z, hz, e⟩ := List.mem_map.mp hm
    obtain ⟨t, ht, h2⟩ := h.2 z hz
    have e' : z.1 = x := e
    rw [e'] at h2
    rcases hx with hx | hx <;> rcases h2 with h2 | h2 <;> have := inj hx h2 <;> omega
  · rcases List.mem_append.mp hz with hz | hz
    · obtain ⟨t, ht, h2⟩ := h.2 z hz
      exact ⟨t, by omega, h2⟩
    · rw [List.mem_singleton.mp hz]
      exact ⟨j, by omega, hx⟩
theorem PNm.mono {nms : List Str} {j j' : Nat} {ps : List (Str × Str)} (h : PNm nms j ps) (l : j ≤ j') : PNm nms j' ps := ⟨h.1, fun z hz => by obtain ⟨t, ht, h2⟩ := h.2 z hz; exact ⟨t, by omega, h2⟩⟩
theorem PNm.names {nms : List Str} (hok : NmsOk nms) {j : Nat} {ps : List (Str × Str)} (h : PNm nms j ps) : ∀ z ∈ ps, Name z.1 := fun z hz => by
  obtain ⟨t, _, h2⟩ := h.2 z hz
  rcases h2 with h2 | h2 <;> exact hok.2.2 _ (List.mem_of_getElem? h2)
end M

end

section
set_option Elab.async false
set_option linter.all false
set_option maxRecDepth 100000
set_option maxHeartbeats 4000000
namespace L2
open PySem PySem.Spec PyProof.Rows
section
variable {X : Cx}
end
end L2

end

section
set_option Elab.async false
set_option linter.all false
set_option maxRecDepth 100000
set_option maxHeartbeats 4000000
namespace Rv
open PySem PySem.Spec PyProof.Rows PySem.W
section
variable {prog : Program} {w : World} {A : Around} {E : Value → Shared → Prop} {s : Shared} {I l S : Addr} {items : Array Value}
end
end Rv
namespace L2
open PySem PySem.Spec PyProof.Rows
end L2

end

section
set_option Elab.async false
set_option linter.all false
set_option maxRecDepth 100000
set_option maxHeartbeats 4000000
namespace St
open PySem PySem.Spec PyProof.Rows
theorem met_nodup {ns : List Str} (nd : ns.Nodup) : ∀ i, i ≤ ns.length → met (fun i => ns.getD i Str.empty) i = ns.take i
  | 0, _ => rfl
  | i + 1, h => by
    rw [met_succ, met_nodup nd i (by omega)]
    have e : ns.getD i Str.empty = ns[i] := by simp [List.getD, List.getElem?_eq_getElem (show i < ns.length by omega)]
    show step_dedup (ns.take i) (ns.getD i Str.empty) = _
    rw [e]
    unfold step_dedup
    rw [if_neg, List.take_add_one, List.getElem?_eq_getElem (show i < ns.length by omega)]
    · rfl
    · intro hc
      obtain ⟨x, hx, he⟩ := List.any_eq_true.mp hc
      have he' : x = ns[i] := by simpa using he
      subst he'
      obtain ⟨j, hj, hje⟩ := List.getElem_of_mem hx
      rw [List.length_take] at hj
      rw [List.getElem_take] at hje
      have := (List.getElem_inj nd).mp hje
      omega
end St
namespace L2
open PySem PySem.Spec PyProof.Rows
theorem strs_are : ∀ {ns : List Str} {us : List Value}, Vals (ns.map V.str) us → StrsAre us ns
  | [], _, h => by cases h; exact .nil
  | x :: r, _, h => by
    cases h with
    | cons a b =>
      obtain ⟨t, rfl⟩ := a
      constructor; exact strs_are b
end L2

end

section
set_option Elab.async false
set_option linter.all false
set_option maxRecDepth 100000
set_option maxHeartbeats 4000000
namespace M
open PySem L2
theorem szF_eq {ks : List Kn} {k : Kn} {x : Str} (h : kAt ks x = some k) (n : Nat) : szF (n + 1) ks x = 1 + (if k.rc = true then (k.parts.map fun p => szF n ks p.2).sum else maxD (k.parts.map fun p => szF n ks p.2)) := by
  conv => lhs; unfold szF
  rw [h]
theorem szF_num {ks : List Kn} {x : Str} (h : kAt ks x = none) : ∀ n, szF n ks x = 1
  | 0 => rfl
  | n + 1 => by conv => lhs; unfold szF
                rw [h]
theorem szF_deep {ks : List Kn} (w : KWf ks) (j : Nat) : ∀ (x : Str), KIn ks j x → ∀ n, j + 1 ≤ n → szF n ks x = szF (j + 1) ks x := by
  induction j with
  | zero =>
    intro x h n hn
    rcases h.look w with ⟨rfl, e⟩ | ⟨i, k, e0, _⟩
    · rw [szF_num e, szF_num e]
    · cases e0
  | succ j ih =>
    intro x h n hn
    rcases h.look w with ⟨rfl, e⟩ | ⟨i, k, e0, e, _, _, hp⟩
    · rw [szF_num e, szF_num e]
    · cases e0
      obtain ⟨m, rfl⟩ : ∃ m, n = m + 1 := ⟨n - 1, by omega⟩
      have this : (k.parts.map fun p => szF m ks p.2) = k.parts.map fun p => szF (j + 1) ks p.2 := List.map_congr_left fun p hp' => ih p.2 (hp p hp') m (by omega)
      rw [szF_eq e, szF_eq e, this]
noncomputable def sz (ks : List Kn) (x : Str) : Int := szF 7 ks x
theorem sz_num {ks : List Kn} (w : KWf ks) : sz ks (S "num") = 1 := szF_num w.num _
theorem sz_ge {ks : List Kn} (w : KWf ks) (x : Str) : 1 ≤ sz ks x := (szF_bound w.pts 7 x).1
theorem sz_le {ks : List Kn} (w : KWf ks) (x : Str) : sz ks x ≤ 279936 := (szF_bound w.pts 7 x).2
noncomputable def inSz (k : Kn) (f : Str → Int) : Int := if k.rc = true then (k.parts.map fun p => f p.2).sum else maxD (k.parts.map fun p => f p.2)
theorem inSz_congr {k : Kn} {f g : Str → Int} (h : ∀ p ∈ k.parts, f p.2 = g p.2) : inSz k f = inSz k g := by
  unfold inSz
  rw [List.map_congr_left (g := fun p => g p.2) h]
theorem sz_at {ks : List Kn} (w : KWf ks) {i : Nat} {k : Kn} (h : ks[i]? = some k) : sz ks k.name = 1 + inSz k (sz ks) := by
  have hf := w.few
  have hi : i < ks.length := (List.getElem?_eq_some_iff.mp h).1
  show szF 7 ks k.name = _
  rw [szF_eq (w.at h)]
  show 1 + inSz k (szF 6 ks) = _
  rw [inSz_congr (g := sz ks)]
  intro p hp
  have hin : KIn ks 5 p.2 := KIn.mono (n := i) (w.ref i k h p hp) (by omega)
  exact (szF_deep w 5 p.2 hin 7 (by omega)).symm
theorem kAt_ap {ks more : List Kn} {x : Str} {k : Kn} (h : kAt ks x = some k) : kAt (ks ++ more) x = some k := by
  unfold kAt at h ⊢
  rw [List.find?_append, h]
  rfl
theorem szF_ap {ks more : List Kn} (w : KWf ks) (w2 : KWf (ks ++ more)) : ∀ (n : Nat) (x : Str), KIn ks ks.length x → szF n (ks ++ more) x = szF n ks x
  | 0, _, _ => rfl
  | n + 1, x, h => by
    rcases h.look w with ⟨rfl, e⟩ | ⟨i, k, e0, e, _, _, hp⟩
    · rw [szF_num e, szF_num w2.num]
    · rw [szF_eq e, szF_eq (kAt_ap e), List.map_congr_left (g := fun p => szF n ks p.2) fun p hp' => szF_ap w w2 n p.2 ((hp p hp').mono (by omega))]
theorem sz_ap {ks more : List Kn} (w : KWf ks) (w2 : KWf (ks ++ more)) {x : Str} (h : KIn ks ks.length x) : sz (ks ++ more) x = sz ks x := szF_ap w w2 7 x h
noncomputable def Fit (ks : List Kn) : Prop := ∀ k ∈ ks, sz ks k.name ≤ 30
theorem Fit.nil : Fit [] := fun _ h => nomatch h
theorem Fit.snoc {ks : List Kn} {k : Kn} (w : KWf ks) (w2 : KWf (ks ++ [k])) (f : Fit ks) (hp : ∀ p ∈ k.parts, KIn ks ks.length p.2) (hb : inSz k (sz ks) ≤ 29) : Fit (ks ++ [k]) := by
  intro z hz
  rcases List.mem_append.mp hz with hz | hz
  · rw [sz_ap w w2 (KIn.of (.inr ⟨z, hz, rfl⟩))]
    exact f z hz
  · rw [List.mem_singleton.mp hz, sz_at w2 (i := ks.length) (by simp), inSz_congr (g := sz ks) fun p hp' => sz_ap w w2 (hp p hp')]
    omega
theorem maxD_le : ∀ {ns : List Int} {b : Int}, 0 ≤ b → (∀ n ∈ ns, n ≤ b) → maxD ns ≤ b
  | [], b, h0, _ => h0
  | n :: ns, b, h0, h => by
    have h1 := h n (by simp)
    have h2 := maxD_le (ns := ns) h0 fun m hm => h m (by simp [hm])
    show max n (maxD ns) ≤ b
    omega
end M

end

section
set_option Elab.async false
set_option linter.all false
set_option maxRecDepth 100000
set_option maxHeartbeats 4000000
namespace M
open PySem L2
noncomputable def szR (ks : List Kn) (k : Kn) : Key × V := (Sum.inr k.name, .int (sz ks k.name))
noncomputable def szK (ks : List Kn) (i : Nat) : List (Key × V) := (Sum.inr (S "num"), .int 1) :: (ks.take i).map (szR ks)
theorem szK_len {ks : List Kn} (w : KWf ks) (i : Nat) : (szK ks i).length ≤ 7 := by
  have := w.few
  show ((ks.take i).map _).length + 1 ≤ 7
  rw [List.length_map, List.length_take]
  omega
theorem valV_szR (ks : List Kn) (x : Str) : ∀ l : List Kn, valV (l.map (szR ks)) (Sum.inr x) = (l.find? fun k => decide (k.name = x)).map fun k => .int (sz ks k.name)
  | [] => rfl
  | k :: l => by
    by_cases h : k.name = x
    · rw [List.map_cons, valV_pos (by show (Sum.inr k.name : Key) = _; rw [h]), List.find?_cons_of_pos (by simpa using h)]
      rfl
    · rw [List.map_cons, valV_neg (by show ¬ (Sum.inr k.name : Key) = _; exact fun e => h (Sum.inr.inj e)), List.find?_cons_of_neg (by simpa using h)]
      exact valV_szR ks x l
theorem szK_get {ks : List Kn} (w : KWf ks) {i : Nat} {x : Str} (h : KIn ks i x) : valV (szK ks i) (Sum.inr x) = some (.int (sz ks x)) := by
  rcases h with rfl | ⟨j, k, hj, hk, rfl⟩
  · unfold szK
    rw [valV_pos rfl, sz_num w]
  · unfold szK
    have hm := List.mem_of_getElem? hk
    rw [valV_neg (fun e => name_ne_num (w.nm k hm) (Sum.inr.inj e).symm), valV_szR]
    have hnd : ((ks.take i).map Kn.name).Nodup := w.nd.sublist ((List.take_sublist i ks).map _)
    rw [find_nodup (f := Kn.name) hnd (i := j) (by rw [List.getElem?_take_of_lt hj]; exact hk)]
    rfl
theorem szK_new {ks : List Kn} (w : KWf ks) {i : Nat} {k : Kn} (h : ks[i]? = some k) : valV (szK ks i) (Sum.inr k.name) = none := by
  have hm := List.mem_of_getElem? h
  unfold szK
  rw [valV_neg (fun e => name_ne_num (w.nm k hm) (Sum.inr.inj e).symm), valV_szR]
  have hi : i < ks.length := (List.getElem?_eq_some_iff.mp h).1
  rw [List.find?_eq_none.mpr]
  · rfl
  · intro z hz e
    have hz' : z.name = k.name := by simpa using e
    have hq := not_ahead w.nd (i := i) (by rw [List.length_map]; exact hi)
    refine hq ?_
    rw [← List.map_take]
    have : (ks.map Kn.name)[i]'(by rw [List.length_map]; exact hi) = k.name := by
      rw [List.getElem_map]
      rw [(List.getElem?_eq_some_iff.mp h).2]
    rw [this, ← hz']
    exact List.mem_map.mpr ⟨z, hz, rfl⟩
theorem szK_put {ks : List Kn} (w : KWf ks) {i : Nat} {k : Kn} (h : ks[i]? = some k) : putK (szK ks i) (Sum.inr k.name) (.int (sz ks k.name)) = szK ks (i + 1) := by
  rw [putK_new _ (szK_new w h)]
  unfold szK
  rw [List.take_add_one, h]
  simp [szR]
theorem kin_all {ks : List Kn} {k : Kn} (h : k ∈ ks) : KIn ks ks.length k.name := KIn.of (.inr ⟨k, h, rfl⟩)
end M

end

section
set_option Elab.async false
set_option linter.all false
set_option maxRecDepth 100000
set_option maxHeartbeats 4000000
namespace M
open PySem L2
end M

end

section
set_option Elab.async false
set_option linter.all false
set_option maxRecDepth 100000
set_option maxHeartbeats 4000000
namespace M
open PySem L2
end M

end

section
set_option Elab.async false
set_option linter.all false
set_option maxRecDepth 100000
set_option maxHeartbeats 4000000
namespace Nt
open PySem
section
variable {prog : Program} {w : World} {A : Around} {E : Value → Shared → Prop} {s : Shared}
theorem item {e it l : Addr} {i : Nat} {items : Array Value} {x old : Value} {Q : Value → Shared → Prop}
    (he : IsEnum s.heap e it i old) (hit : s.heap.IsTupleIter it l i) (hl : s.heap.IsTuple l items) (hx : items[i]? = some x) (hne : e ≠ it)
    (hQ : ∀ h', IsEnumOut h' e it ((i : Int) + 1) x s.heap.objs.size → h'.IsTupleIter it l (i + 1) →
      h'.get? s.heap.objs.size = some { cls := .type "tuple", data := .seq #[.int i s.toks, x] } →
      (∀ b o, b ≠ e → b ≠ it → s.heap.get? b = some o → h'.get? b = some o) → Q (.ref s.heap.objs.size) { s with heap := h', toks := s.toks + 1 }) :
    wpAny (model prog w) A (Builtin.«enumerate.__next__» ⟨[.ref e], []⟩) (fun fin s' => ∃ v, fin = .done (.ret v) ∧ Q v s') E s := by
  obtain ⟨hp, g, d, tk, os⟩ := s
  have hlt : e < hp.objs.size := Heap.lt_size he
  have ni := Ne.symm hne
  show wpAny _ _ (field (.ref e) 2 >>= _) _ _ _
  refine wpAny_bind (wpAny_field he rfl (x := .ref it) rfl (wpAny_bind (Zt.next_item hit hl hx fun h1 t1 b1 => ?_)))
  replace b1 : Heap.SameBut it hp h1 := b1
  have e1 : IsEnum h1 e it i old := (b1.2 e hne).trans he
  show wpAny _ _ (field (.ref e) 3 >>= _) _ _ ⟨h1, g, d, tk, os⟩
  refine wpAny_bind (wpAny_field e1 rfl (x := rawInt i) rfl ?_)
  show wpAny _ _ (field (.ref e) 4 >>= _) _ _ ⟨h1, g, d, tk, os⟩
  refine wpAny_bind (wpAny_field e1 rfl (x := .none) rfl ?_)
  show wpAny _ _ (mkInt i >>= _) _ _ ⟨h1, g, d, tk, os⟩
  refine wpAny_bind (wpAny_mkInt ?_)
  show wpAny _ _ (setField (.ref e) 3 (rawInt ((i : Int) + 1)) >>= _) _ _ ⟨h1, g, d, tk + 1, os⟩
  refine wpAny_bind (wpAny_setField_rec e1 (by simp) fun h2 e2 b2 => ?_)
  replace b2 : Heap.SameBut e h1 h2 := b2
  replace e2 : IsEnum h2 e it ((i : Int) + 1) old := e2
  show wpAny _ _ (setField (.ref e) 4 .none >>= _) _ _ ⟨h2, g, d, tk + 1, os⟩
  refine wpAny_bind (wpAny_setField_rec e2 (by simp) fun h3 e3 b3 => ?_)
  replace b3 : Heap.SameBut e h2 h3 := b3
  replace e3 : IsEnum h3 e it ((i : Int) + 1) old := e3
  show wpAny _ _ (newTuple [.int i tk, x] >>= _) _ _ ⟨h3, g, d, tk + 1, os⟩
  refine wpAny_bind (wpAny_newTuple ?_)
  have z3 : h3.objs.size = hp.objs.size := by rw [b3.1, b2.1, b1.1]
  obtain ⟨h4, q4⟩ : ∃ h4, h4 = h3.push { cls := .type "tuple", data := .seq #[.int i tk, x] } := ⟨_, rfl⟩
  have e4 : IsEnum h4 e it ((i : Int) + 1) old := by rw [q4]; exact Heap.get?_push_of_some _ e3
  have p4 : h4.get? hp.objs.size = some { cls := .type "tuple", data := .seq #[.int i tk, x] } := by rw [q4, ← z3]; exact Heap.get?_push_size _ rfl
  have k4 : ∀ b o, b ≠ e → b ≠ it → hp.get? b = some o → h4.get? b = some o := fun b o n1 n2 hb => by
    rw [q4]; exact Heap.get?_push_of_some _ (b3.extBut b o n1 (b2.extBut b o n1 (b1.extBut b o n2 hb)))
  have t4 : h4.IsTupleIter it l (i + 1) := by
    rw [q4]
    obtain ⟨o, ho, r⟩ := (t1.extBut b2.extBut ni).extBut b3.extBut ni
    exact ⟨o, Heap.get?_push_of_some _ ho, r⟩
  rw [← q4, z3]
  show wpAny _ _ (Builtin.SmallTypes.ownedTupleIsFree (.ref e) >>= _) _ _ ⟨h4, g, d, tk + 1, os⟩
  clear q4 e3 b3 e2 b2 e1 b1 t1 z3 h3 h2 h1
  refine wpAny_bind ?_
  unfold Builtin.SmallTypes.ownedTupleIsFree
  refine wpAny_bind (wpAny_field e4 rfl (x := .none) rfl (wpAny_pure ?_))
  simp only [if_true]
  refine wpAny_bind (wpAny_rule (wpAny_bind (wpAny_field e4 rfl (x := old) rfl ?_)))
  refine wpAny_bind (wpAny_setField_rec e4 (by simp) fun h5 e5 b5 => ?_)
  replace b5 : Heap.SameBut e h4 h5 := b5
  replace e5 : IsEnum h5 e it ((i : Int) + 1) x := e5
  show wpAny _ _ (Builtin.SmallTypes.ownedTupleHandOut (.ref e) (.ref hp.objs.size) >>= _) _ _ ⟨h5, g, d, tk + 1, os⟩
  refine wpAny_bind ?_
  unfold Builtin.SmallTypes.ownedTupleHandOut
  refine wpAny_bind (wpAny_setField_rec e5 (by simp) fun h6 e6 b6 => ?_)
  replace b6 : Heap.SameBut e h5 h6 := b6
  replace e6 : IsEnumOut h6 e it ((i : Int) + 1) x hp.objs.size := e6
  refine wpAny_setField_rec e6 (by simp) fun h7 e7 b7 => ?_
  replace b7 : Heap.SameBut e h6 h7 := b7
  replace e7 : IsEnumOut h7 e it ((i : Int) + 1) x hp.objs.size := e7
  have on : ∀ b o, b ≠ e → h4.get? b = some o → h7.get? b = some o := fun b o n hb => b7.extBut b o n (b6.extBut b o n (b5.extBut b o n hb))
  refine wpAny_bind (wpAny_letGo (wpAny_pure ⟨_, rfl, hQ h7 e7 ?_ (on _ _ (Nat.ne_of_gt hlt) p4) fun b o n1 n2 hb => on b o n1 (k4 b o n1 n2 hb)⟩))
  obtain ⟨o, ho, r⟩ := t4
  exact ⟨o, on _ _ ni ho, r⟩
theorem next_item {e it l : Addr} {i : Nat} {items : Array Value} {x old : Value} {Q : Option Value → Shared → Prop}
    (he : IsEnum s.heap e it i old) (hit : s.heap.IsTupleIter it l i) (hl : s.heap.IsTuple l items) (hx : items[i]? = some x) (hne : e ≠ it)
    (hQ : ∀ h', IsEnumOut h' e it ((i : Int) + 1) x s.heap.objs.size → h'.IsTupleIter it l (i + 1) →
      h'.get? s.heap.objs.size = some { cls := .type "tuple", data := .seq #[.int i s.toks, x] } →
      (∀ b o, b ≠ e → b ≠ it → s.heap.get? b = some o → h'.get? b = some o) → Q (some (.ref s.heap.objs.size)) { s with heap := h', toks := s.toks + 1 }) :
    wpAny (model prog w) A (pyNext (.ref e)) Q E s := by
  have hT : s.TypeIs (.ref e) "enumerate" := ⟨_, he, rfl⟩
  unfold pyNext
  exact wpAny_bind (wpAny_attempt (wpAny_callSpecial?_slot (name := Str.ofString "__next__") hT F.slot_enumerate_next
    (wpAny_call_entry F.slot_enumerate_next hT F.entry_enumerate_next (item he hit hl hx hne fun h' a b c k => wpAny_pure (hQ h' a b c k)) (F.args_enumerate_next_1 _))))
theorem next_end {e it l : Addr} {i : Nat} {items : Array Value} {old : Value} {Q : Option Value → Shared → Prop} (hh : A.handled = none)
    (he : IsEnum s.heap e it i old) (hit : s.heap.IsTupleIter it l i) (hl : s.heap.IsTuple l items) (hx : items[i]? = none)
    (hQ : ∀ h', Heap.ExtBut it s.heap h' → Q none { s with heap := h' }) : wpAny (model prog w) A (pyNext (.ref e)) Q E s := by
  have hT : s.TypeIs (.ref e) "enumerate" := ⟨_, he, rfl⟩
  unfold pyNext
  refine wpAny_bind (wpAny_attempt (wpAny_callSpecial?_slot (name := Str.ofString "__next__") hT F.slot_enumerate_next
    (wpAny_call_entry F.slot_enumerate_next hT F.entry_enumerate_next ?_ (F.args_enumerate_next_1 _))))
  show wpAny _ _ (field (.ref e) 2 >>= _) _ _ _
  refine wpAny_bind (wpAny_field he rfl (x := .ref it) rfl (wpAny_bind (Zt.next_end hh hit hl hx fun h' y k1 k2 => ?_)))
  obtain ⟨o, ho, hc⟩ := k2
  exact wpAny_bind (wpAny_isInstance (T := "StopIteration") (b := true) ⟨o, ho, hc⟩ isSubtype_stop (wpAny_pure (hQ _ k1)))
end
theorem meets_new (l : Addr) (items : Array Value) :
    Meets (Builtin.«enumerate.__new__» ⟨[.type "enumerate", .ref l], []⟩) (fun _ R s => s.heap.IsTuple l items ∧
      R (.ok (.ret (.ref (s.heap.push { cls := .type "tuple_iterator", data := .fields #[.ref l, .int 0 0] }).objs.size)))
        { s with heap := (s.heap.push { cls := .type "tuple_iterator", data := .fields #[.ref l, .int 0 0] }).push { cls := .type "enumerate", data := .fields #[.none, .bool false, .ref s.heap.objs.size, rawInt 0, .none, .none] } }) :=
  .of_wp fun prog w A R s h => by
    obtain ⟨hp, g, d, tk, os⟩ := s; obtain ⟨hl, h⟩ := h
    have hsub := sub_enumerate
    have hL : Heap.IsTuple (Shared.heap ⟨hp, g, d, tk, os⟩) l items := hl
    obtain ⟨ol, hol, hcl, nl, hdl⟩ := id hL
    wp_walk using AutoSeq1.wpAny_loadPart' hol
    refine wpAny_stack_any fun st => wpAny_pure ?_
    split
    · rename_i c _ _ _ _ _
      cases (c == Value.type "enumerate")
      · wp_walk using AutoSeq1.wpAny_loadPart' hol, wpAny_pyIter_tuple hL
        exact ⟨_, rfl, h⟩
      · wp_walk using AutoSeq1.wpAny_loadPart' hol, wpAny_pyIter_tuple hL
        exact ⟨_, rfl, h⟩
    · wp_walk using AutoSeq1.wpAny_loadPart' hol, wpAny_pyIter_tuple hL
      exact ⟨_, rfl, h⟩
section
variable {prog : Program} {w : World} {A : Around} {E : Value → Shared → Prop} {s : Shared}
theorem call {l : Addr} {items : Array Value} {Q : Value → Shared → Prop} (hL : s.heap.IsTuple l items)
    (h : ∀ h', IsEnum h' (s.heap.objs.size + 1) s.heap.objs.size 0 .none → h'.IsTupleIter s.heap.objs.size l 0 →
      (∀ b o, s.heap.get? b = some o → h'.get? b = some o) → Q (.ref (s.heap.objs.size + 1)) { s with heap := h' }) :
    wpAny (model prog w) A (call (.type "enumerate") [.ref l]) Q E s := by
  refine callType_new F.called_enumerate (by decide) (F.typeCall_enumerate_1 _) (F.newCall_enumerate_1 _) (fun obj => F.args_object_init_2 obj _) F.entry_enumerate_new
    (meets_new l items) ⟨hL, ?_⟩
  have hz : (s.heap.push { cls := .type "tuple_iterator", data := .fields #[.ref l, .int 0 0] }).objs.size = s.heap.objs.size + 1 := Heap.size_push ..
  show _ ∧ _
  rw [hz]
  have he : IsEnum ((s.heap.push { cls := .type "tuple_iterator", data := .fields #[.ref l, .int 0 0] }).push
      { cls := .type "enumerate", data := .fields #[.none, .bool false, .ref s.heap.objs.size, rawInt 0, .none, .none] }) (s.heap.objs.size + 1) s.heap.objs.size 0 .none := by
    rw [← hz]
    exact Heap.get?_push_size _ rfl
  exact ⟨⟨_, he, rfl⟩, h _ he ⟨_, Heap.get?_push_of_some _ (Heap.get?_push_size _ rfl), rfl, rfl⟩ fun b o x => Heap.get?_push_of_some _ (Heap.get?_push_of_some _ x)⟩
end
end Nt

end

section
set_option Elab.async false
set_option linter.all false
set_option maxRecDepth 100000
set_option maxHeartbeats 4000000
namespace L2
open PySem PySem.Spec PyProof.Rows
section
variable {X : Cx}
theorem Inv.turnedM2 {pins : List (Addr × Obj)} {σ : St} {H : Hp} {s : Shared} {h' : Heap} {t' : Nat} {fp : List Addr} (I : Inv X pins σ H s) (k : ∀ b o, b ∉ fp → s.heap.get? b = some o → h'.get? b = some o) (hf : ∀ b ∈ fp, FpOk X pins H b) : Inv X pins σ H { s with heap := h', toks := t' } := by
  have nit : ∀ b u, H b = some u → b ∉ fp := fun b u e z => by rw [(hf b z).1] at e; cases e
  refine I.step (g' := s.gens) (d' := s.drawn) (ch := fp) (fun b hb => ?_) (fun b o _ _ hc e _ => k b o hc e) (fun b o _ _ hc e _ => ⟨o.slots, k b o hc e⟩) (fun _ _ _ _ n => n)
    (fun b o hc e => ⟨o, k b o hc e⟩) (fun _ _ e => e) (fun _ _ _ e => e) (fun b ps e => ⟨#[], by rw [e]; simp⟩) (fun m hm => ?_) (fun b u e => ?_) I.bare
  · obtain ⟨f0, f1, f2, f3, f4, f5⟩ := hf b hb
    exact ⟨f3, f1, f4, f5⟩
  · obtain ⟨o, es, ep, ho, r⟩ := hm
    exact ⟨o, es, ep, k _ o (fun z => (hf _ z).2.1 rfl) ho, r⟩
  · refine (I.hok b u e).stay (fun c v hc q => k c v ?_ q) (fun _ q => q) fun _ _ q => q
    rcases hc with z | z
    · rw [z]; exact nit b u e
    · exact nit c _ z
noncomputable def IteT (K : PySem.W.Frag) (a : Addr) : It :=
  ⟨fun i H => ∃ xs x, SqT K H a xs ∧ xs[i]? = some x, fun i H x H' => ∃ p y, x = .ref p ∧ H p = none ∧ H' = upd H p (.tup [.int (i : Nat), y]) ∧ ∀ xs, SqT K H a xs → xs[i]? = some y, fun i H => ∃ xs, SqT K H a xs ∧ xs.length ≤ i⟩
theorem turn_enumT {P : Program} {w : World} {K : PySem.W.Frag} {elts : List Expr} {x1} {pos : Pos} (a e it : Addr) (hne : e ≠ it) : Turn P w K (.Tuple elts x1 pos) (IteT K a) [e, it] e (fun i h => (∃ old, IsEnum h e it (i : Nat) old) ∧ h.IsTupleIter it a i) where
  mem := by simp
  obj := fun i h st b hb => by
    obtain ⟨⟨old, s1⟩, s2⟩ := st
    rcases List.mem_cons.mp hb with z | z
    · subst z
      exact ⟨_, s1, fun v z => by cases z⟩
    · have z' : b = it := by simpa using z
      subst z'
      obtain ⟨o, e, c, d⟩ := s2
      exact ⟨o, e, fun v z => by rw [d] at z; cases z⟩
  keep := fun i h h' st k => by
    obtain ⟨⟨old, s1⟩, s2⟩ := st
    exact ⟨⟨old, k e (by simp) _ s1⟩, s2.at fun o q => k it (by simp) o q⟩
  item := by
    intro X hP hw hK hc i pins s σ H E I hf st hg
    subst hP hw hK
    obtain ⟨xs, x, hq, hx⟩ := hg
    obtain ⟨its, rv, p, hz⟩ := I.tuple hq
    obtain ⟨u, hu, ru⟩ := rv.get hx
    obtain ⟨⟨old, s1⟩, s2⟩ := st
    refine Nt.next_item s1 s2 (show s.heap.IsTuple a its.toArray from p) (x := u) (by simpa using hu) hne fun h1 a1 a2 a3 a5 => ⟨_, rfl, ?_⟩
    refine wpAny_letOwnedTupleGo_enum a1 fun h2 b1 b2 => ?_
    have lt1 : e < s.heap.objs.size := Heap.lt_size s1
    have hp0 : H s.heap.objs.size = none := I.hok.fresh (Nat.le_refl _)
    have g1 : (s.heap.push { cls := .type "tuple", data := .seq #[.int (i : Nat) s.toks, u] }).get? s.heap.objs.size = some { cls := .type "tuple", data := .seq #[.int (i : Nat) s.toks, u] } := Heap.get?_push_size _ rfl
    have I1 : Inv X pins σ (upd H s.heap.objs.size (.tup [.int (i : Nat), x])) { s with heap := s.heap.push { cls := .type "tuple", data := .seq #[.int (i : Nat) s.toks, u] }, toks := s.toks + 1 } :=
      I.laid (fun b o q => Heap.get?_push_of_some _ q) (Nat.le_refl _) ⟨by show 2 ≤ sizeLine; decide, [.int (i : Nat) s.toks, u], .cons ⟨_, rfl⟩ (.cons ru .nil), ⟨_, g1, rfl, _, rfl⟩⟩
    have hf1 : ∀ b ∈ [e, it], FpOk X pins (upd H s.heap.objs.size (.tup [.int (i : Nat), x])) b := fun b hb => by
      refine ⟨?_, (hf b hb).2⟩
      have lb : b ≠ s.heap.objs.size := by
        rcases List.mem_cons.mp hb with z | z
        · subst z; exact Nat.ne_of_lt lt1
        · have z' : b = it := by simpa using z
          subst z'
          obtain ⟨o, q, _⟩ := s2
          exact Nat.ne_of_lt (Heap.lt_size q)
      rw [upd_ne lb]
      exact (hf b hb).1
    have I2 : Inv X pins σ (upd H s.heap.objs.size (.tup [.int (i : Nat), x])) { s with heap := h2, toks := s.toks + 1 } :=
      I1.turnedM2 (t' := s.toks + 1) (fun b o hb q => by
        have nb : b ≠ e ∧ b ≠ it := by simpa using hb
        have q1 : h1.get? b = some o := by
          by_cases z : b = s.heap.objs.size
          · subst z
            have q' : (s.heap.push { cls := .type "tuple", data := .seq #[.int (i : Nat) s.toks, u] }).get? s.heap.objs.size = some o := q
            rw [g1] at q'
            cases q'
            exact a3
          · exact a5 b o nb.1 nb.2 (by have q2 : (s.heap.push { cls := .type "tuple", data := .seq #[.int (i : Nat) s.toks, u] }).get? b = some o := q; rwa [Heap.get?_push_ne _ b _ z] at q2)
        exact (b2.2 b nb.1).trans q1) hf1
    refine ⟨.ref s.heap.objs.size, _, I2, rfl, ⟨_, x, rfl, hp0, rfl, fun ys hy => by rw [I.tuple_inj hy hq]; exact hx⟩, ⟨⟨u, ?_⟩, ?_⟩, fun b hb => (hf1 b hb).1⟩
    · exact b1
    · obtain ⟨o, q, r⟩ := a2
      exact ⟨o, (b2.2 it (Ne.symm hne)).trans q, r⟩
  done := by
    intro X hP hw hK hc i pins s σ H E I hf st hg
    subst hP hw hK
    obtain ⟨xs, hq, hx⟩ := hg
    obtain ⟨its, rv, p, hz⟩ := I.tuple hq
    obtain ⟨⟨old, s1⟩, s2⟩ := st
    have hl := rv.length
    obtain ⟨f0, f1, f2, f3, f4, f5⟩ := hf it (by simp)
    exact Nt.next_end (I.ok.hd hc) s1 s2 (show s.heap.IsTuple a its.toArray from p) (by simp; omega) fun h' eb => ⟨rfl, I.turned (t' := s.toks) (fun b o hb q => eb b o hb q) f0 f1 f3 f4 f5⟩
  self := fun _ _ _ _ _ st h => by
    obtain ⟨⟨old, s1⟩, s2⟩ := st
    exact wpAny_pyIter_enum s1 h
noncomputable def iEnumT (K : PySem.W.Frag) (ta : TA) : TI := fun σ H R => ta σ H fun vs H1 => ∃ a, vs = [.ref a] ∧ (∃ xs, SqT K H1 a xs) ∧ R (IteT K a) H1
theorem pi_enumT {a : Expr} {ta : TA} {p pos : Pos} {elts : List Expr} {x1} {tp : Pos} (hg : Gl X "enumerate") (hm : X.mg "enumerate" = none) (ha : PA X [a] ta) (hs : starEach [a] X.env = [(false, eval a X.env)] := by rfl) : PI X (.Tuple elts x1 tp) (.Call (.Name "enumerate" p) [a] [] pos) (iEnumT X.K ta) := by
  intro pins s σ H R I h
  refine Call_ (ld_blt I hg hm boot_enumerate (PyProof.Rows.callWith_type1 (thn (ha pos pins s σ H _ I h) fun us s1 ⟨vs, H1, I1, r1, q1⟩ => ?_) hs rfl))
  obtain ⟨l, e, ⟨xs, hq⟩, q⟩ := q1
  subst e
  cases r1 with
  | cons r rr =>
    cases rr
    obtain rfl := r
    obtain ⟨its, rv, pl, hz⟩ := I1.tuple hq
    refine Nt.call (show s1.heap.IsTuple l its.toArray from pl) fun h' e1 e2 e4 => wpAny_pyIter_enum e1 ?_
    refine ⟨s1.heap.objs.size + 1, [s1.heap.objs.size + 1, s1.heap.objs.size], _, _, H1, rfl, I1.kept (t' := s1.toks) e4, turn_enumT l _ _ (Nat.succ_ne_self _), ⟨⟨_, e1⟩, e2⟩, fun b hb => ?_, q⟩
    have hb' : b = s1.heap.objs.size + 1 ∨ b = s1.heap.objs.size := by simpa using hb
    rcases hb' with z | z <;> subst z
    · exact I1.fpOk (Nat.le_succ _) (I1.hok.fresh (Nat.le_succ _))
    · exact I1.fpOk (Nat.le_refl _) (I1.hok.fresh (Nat.le_refl _))
theorem for_enumT {K : PySem.W.Frag} {a : Addr} {xs : List V} {g : TG} {tb : TS} {D : Ends} {σ : St} {H : Hp} (Pv : Nat → St → Hp → Prop) (h0 : Pv 0 σ H) (hl : ∀ i σ H, i ≤ xs.length → Pv i σ H → SqT K H a xs)
    (hs : ∀ i x σ H p, xs[i]? = some x → Pv i σ H → H p = none → g (.ref p) σ (upd H p (.tup [.int (i : Nat), x])) fun σ2 H2 => tb { D with nx := Pv (i + 1), ct := Pv (i + 1), bk := D.nx } σ2 H2) (hd : ∀ σ H, Pv xs.length σ H → D.nx σ H) :
    ∃ W : Nat → Nat → St → Hp → Prop, (∃ m, W 0 m σ H) ∧ ∀ i m σ H, W i m σ H →
      ((IteT K a).stop i H ∧ D.nx σ H) ∨ ((IteT K a).go i H ∧ ∃ N : St → Hp → Prop, (∀ σ' H', N σ' H' → ∃ m', m' < m ∧ W (i + 1) m' σ' H') ∧ ∀ x H', (IteT K a).yld i H x H' → g x σ H' fun σ2 H2 => tb { D with nx := N, ct := N, bk := D.nx } σ2 H2) := by
  refine ⟨fun i m σ H => m = xs.length - i ∧ i ≤ xs.length ∧ Pv i σ H, ⟨xs.length, by simp, Nat.zero_le _, h0⟩, ?_⟩
  rintro i m σ H ⟨rfl, hi, p⟩
  have q := hl i σ H hi p
  by_cases hlt : i < xs.length
  · refine .inr ⟨⟨xs, xs[i], q, by simp [hlt]⟩, Pv (i + 1), fun σ' H' p' => ⟨xs.length - (i + 1), by omega, rfl, hlt, p'⟩, fun x H' y => ?_⟩
    obtain ⟨pp, z, rfl, hp, rfl, hy⟩ := y
    exact hs i z σ H pp (hy xs q) p hp
  · have e : i = xs.length := by omega
    subst e
    exact .inl ⟨⟨xs, q, Nat.le_refl _⟩, hd σ H p⟩
end
end L2

end

section
set_option Elab.async false
set_option linter.all false
set_option maxRecDepth 100000
set_option maxHeartbeats 1000000
namespace L2
open PySem PySem.Spec PySem.W PySem.Calls PyProof.Rows
open Builtin Builtin.ObjectAttr

section
variable {prog : Program} {w : World} {A : Around} {E : Value → Shared → Prop} {s : Shared} {K : Frag} {x C : Addr} {ox : Obj} {od : Option Obj} {name : Str}

structure XCls (K : Frag) (C : Addr) : Prop where
  ga : findIn K (.ref C) "__getattribute__" = some (some (.builtin "BaseException.__getattribute__"))
  gk : findIn K (.ref C) "__getattr__" = some none
  mb : mroIn K C (.type "BaseException") = some true
  mo : mroIn K C (.type "object") = some true
  hd : hasDictIn K C = true
  ca : findIn K (.ref C) "__class__" = some (some (.builtin "object.__class__"))
  cn : specialIn K (.builtin "object.__class__") "__get__" = some (some (.builtin "getset_descriptor.__get__"))
  ct : takesIn K (.builtin "object.__class__") = some true

theorem exc_by {tk : Tok} {fill expr : Bool} {Q P : Value → Shared → Prop} (X : K.In s.heap) (I : InstAt s.heap x ox C od) (c : XCls K C)
    (h : ∀ (A' A'' : Around) (R : Result → Shared → Prop), (∀ v s', P v s' → R (.ok (.ret v)) s') → wpAny (model prog w) A' (Builtin.«object.__getattribute__» ⟨[.ref x, .str name tk], []⟩)
      (fun fin s' => match fin with | .done f => R (.ok f) s' | .again c' => c'.quiet = true ∧ codeAny (model prog w) A'' c' R s') (fun e s' => R (.error e) s') s)
    (hP : ∀ v s', P v s' → wpAny (model prog w) A (handedOut v) Q E s') :
    wpAny (model prog w) A (getAttrBy (.ref x) (.str name tk) fill expr) Q E s := by
  obtain ⟨hh, g, d, t, os⟩ := s
  have L0 := I.type (M := model prog w)
  have L1 := looks_findIn (M := model prog w) X c.ga
  have L2 := looks_findIn (M := model prog w) X c.gk
  have L3 := looks_mroIn (M := model prog w) X c.mb
  have hx2 : (Value.builtin "BaseException.__getattribute__" == Value.builtin "object.__getattribute__") = false := by decide +kernel
  have hx1 : (onTheHeap (Value.ref C) && Value.builtin "BaseException.__getattribute__" == Value.builtin "object.__getattribute__") = false := by rw [hx2]; rfl
  have hx0 : (expr && onTheHeap (Value.builtin "BaseException.__getattribute__")) = false := by cases expr <;> rfl
  unfold getAttrBy
  refine wpAny_holding (wpAny_bind (L0.at (wpAny_bind (L1.at ?_))))
  dsimp only
  rw [if_neg (by rw [hx1]; decide)]
  have FB := PySem.F.attrBase_ValueError
  have hk : builtinKind "BaseException.__getattribute__" = some .slot := by decide +kernel
  have hsplit : splitId "BaseException.__getattribute__" = some ("BaseException", "__getattribute__") := by decide +kernel
  unfold getAttrByItsOwn
  refine wpAny_bind ?_
  unfold hookBefore
  rw [if_pos (show onTheHeap (Value.ref C) = true from rfl)]
  refine L2.at ?_
  refine wpAny_bind (wpAny_attempt (wpAny_holding ?_))
  unfold callGetattribute
  rw [if_neg (by rw [hx0]; decide)]
  unfold boundAndCalled
  rw [FB.ga.bind (.ref x)]
  refine wpAny_bind (wpAny_pure ?_)
  refine wpAny_call (codeAny_mono (R := fun r s' => ∃ v, r = .ok (.ret v) ∧ P v s') (codeAny_call_builtin FB.ga.plain PySem.F.entry_bexc_ga ?_) fun r s' ⟨v, e, p⟩ => ?_)
  · show wpAny _ _ (checkBuiltinCall "BaseException.__getattribute__" ⟨[.ref x, .str name tk], []⟩) _ _ _
    have ha : argsOk "BaseException.__getattribute__" ⟨[.ref x, .str name tk], []⟩ := PySem.F.args_bexc_ga (.ref x) (.str name tk)
    have hI : Looks (model prog w) hh (isInstance (.ref x) (.type "BaseException")) true := L0.andThen L3
    refine check_slot (i := "BaseException.__getattribute__") (owner := "BaseException") (n := "__getattribute__") (self := .ref x) (rest := [.str name tk]) (kw := []) hk hsplit hI ha ?_
    exact h _ _ (fun r s' => ∃ v, r = .ok (.ret v) ∧ P v s') fun v s' p => ⟨v, rfl, p⟩
  · subst e
    exact hP v s' p

theorem exc_class {Q : Option Value → Shared → Prop} (X : K.In s.heap) (I : InstAt s.heap x ox C od) (c : XCls K C) (h : Q (some (.ref C)) { s with toks := s.toks + 1 }) :
    wpAny (model prog w) A (getAttr? (.ref x) "__class__") Q E s := by
  have hf : findObj K C od "__class__" = some (.bind (.builtin "getset_descriptor.__get__") (.builtin "object.__class__")) := by
    obtain ⟨cd, hc, _⟩ := any_some c.hd
    unfold findObj
    rw [hc, Option.bind_some, c.ca, Option.bind_some]
    dsimp only
    rw [c.cn, Option.bind_some]
    dsimp only
    rw [c.ct, Option.bind_some]
  unfold getAttr?
  refine wpAny_bind (wpAny_mkText ?_)
  unfold getAttrBy?
  refine wpAny_bind (wpAny_attempt ?_)
  refine exc_by (s := { s with toks := s.toks + 1 }) (P := fun v' s' => v' = .ref C ∧ s' = { s with toks := s.toks + 1 }) X I c (fun A' A'' R hR => ?_) fun v' s' ⟨e1, e2⟩ => ?_
  · obtain ⟨h0, g, d, t, os⟩ := s
    have L0 := I.type (M := model prog w)
    have L1 := looks_find (M := model prog w) X I hf
    unfold Builtin.«object.__getattribute__»
    refine wpAny_bind (wpAny_pure ?_)
    refine wpAny_bind (wpAny_pure (wpAny_bind (L0.at (wpAny_bind (L1.at ?_)))))
    show wpAny _ _ (bindTo (Value.builtin "getset_descriptor.__get__") (Value.builtin "object.__class__") (.ref x) (.ref C)) _ _ _
    unfold bindTo
    dsimp only
    exact wpAny_bind (wpAny_holding (wpAny_call (class_get (s := ⟨h0, g, d, t + 1, os⟩) (ox := ox) (od := od) X I c.mo (wpAny_pure (hR _ _ ⟨rfl, rfl⟩)))))
  · subst e1 e2
    exact wpAny_pure (wpAny_pure h)

theorem kitx_exc (c : XCls K C) : KitX K (.ref x) (.ref C) (fun h => ∃ ox od, InstAt h x ox C od) where
  ty := fun _ _ _ ⟨_, _, I⟩ => I.type
  it := fun _ _ X _ => by
    obtain ⟨cdD, hcD, _⟩ := any_some c.hd
    unfold clsIn at hcD
    split at hcD
    · rename_i c' d' cd' sl' ho
      intro A' Q' E' s' k q
      unfold isType loadHead
      exact wpAny_bind (wpAny_loadPart (k _ _ (X _ _ ho)) (wpAny_pure q))
    · cases hcD
  ne := fun h tp dd its n sl X htp => by
    obtain ⟨cdD, hcD, _⟩ := any_some c.hd
    refine Bool.eq_false_iff.mpr fun q => ?_
    have e : C = tp := Value.ref.inj (beq_iff_eq.mp q)
    subst e
    unfold clsIn at hcD
    split at hcD
    · rename_i c' d' cd' sl' ho
      have z := (X _ _ ho).symm.trans htp
      cases z
    · cases hcD
  ca := fun X ⟨_, _, I⟩ k => exc_class X I c k
end

section
variable {prog : Program} {w : World} {A : Around} {E : Value → Shared → Prop} {h : Heap} {g : Array GenState} {d : Drawn} {t : Nat} {os : OsState}
variable {nm q : Str} {C N : Addr} {bs bm bmB : List Value} {hdct : Bool} {sn : List Str} {sub : List Value} {ab : Bool} {col : Option Bool} {dd : Option Addr} {k0 k1 k2 k3 k5 : Option Value} {B newId initId : String}

noncomputable abbrev newExc (C t : Addr) (dx : Option Addr) : Obj := { cls := .ref C, dict := dx, data := .fields #[.ref t, .none, .none, .none, .bool false, .none] }
noncomputable abbrev newArgs (rest : List Value) : Obj := { cls := .type "tuple", data := .seq rest.toArray }

theorem exc_type_call (F : ExcBaseFacts B newId initId bmB) (T : OwnTail h bmB bm) {rest : List Value} {init : Value} {Q : Fin → Shared → Prop}
    (hC : h.get? C = some (excClassObj nm q C N bs bm hdct sn sub ab col dd k0 k1 k2 k3 k5 newId)) (hi : Looks (model prog w) h (typeLookup (.ref C) "__init__") (some init))
    (hb : ∀ self, Looks (model prog w) h (bindSpecial init self) (init, [self]))
    (hq : wpAny (model prog w) A (call init (.ref (h.objs.size + 1) :: rest)) (fun r s' => r = .none ∧ Q (.done (.ret (.ref (h.objs.size + 1)))) s') E ⟨(h.push (newArgs rest)).push (newExc C h.objs.size none), g, d, t, os⟩) (hrest : rest.length ≤ sizeLine) :
    wpAny (model prog w) A (Builtin.«type.__call__» ⟨.ref C :: rest, []⟩) Q E ⟨h, g, d, t, os⟩ := by
  repeat (first | with_reducible refine wpAny_loadPart_at hC ?_ | with_reducible refine wpAny_madeBy_exc hC ?_ | wp_step)
  refine codeAny_call_builtin_code (Code.quiet_builtin _ F.quiet) (wpAny_check_new_subT F T hC ?_)
  refine codeAny_exc_new_subT F T hC ?_ hrest
  show wpAny _ _ _ _ _ _
  have up : ∀ b o, h.get? b = some o → ((h.push (newArgs rest)).push (newExc C h.objs.size none)).get? b = some o := fun b o e => Heap.get?_push_of_some _ (Heap.get?_push_of_some _ e)
  have hC₁ := up _ _ hC
  have hget : ((h.push (newArgs rest)).push (newExc C h.objs.size none)).get? (h.objs.size + 1) = some (newExc C h.objs.size none) := by heap_get
  have hcC : (Value.ref C :: bm).contains (.ref C) = true := by simp
  unfold isInstance
  repeat (first | with_reducible refine wpAny_loadPart_at hget ?_ | (with_reducible refine wpAny_isSubtype_exc hC₁ ?_; rw [hcC]) | wp_step)
  show wpAny _ _ (typeLookup (.ref C) _) _ _ _
  refine hi _ _ _ _ up ?_
  refine wpAny_holding (wpAny_bind (hb _ _ _ _ _ up ?_))
  refine wpAny_bind (wpAny_mono hq (fun r s' hr => ?_) fun _ _ x => x)
  obtain ⟨rfl, hQ⟩ := hr
  wp_walk
  exact hQ

theorem exc_call (F : ExcBaseFacts B newId initId bmB) (T : OwnTail h bmB bm) {rest : List Value} {init : Value} {Q : Value → Shared → Prop}
    (hC : h.get? C = some (excClassObj nm q C N bs bm hdct sn sub ab col dd k0 k1 k2 k3 k5 newId)) (hi : Looks (model prog w) h (typeLookup (.ref C) "__init__") (some init))
    (hb : ∀ self, Looks (model prog w) h (bindSpecial init self) (init, [self]))
    (hq : wpAny (model prog w) (A.under (.builtin "type.__call__" ⟨.ref C :: rest, []⟩)) (call init (.ref (h.objs.size + 1) :: rest)) (fun r s' => r = .none ∧ Q (.ref (h.objs.size + 1)) s') E
      ⟨(h.push (newArgs rest)).push (newExc C h.objs.size none), g, d, t, os⟩) (hrest : rest.length ≤ sizeLine) :
    wpAny (model prog w) A (call (.ref C) rest) Q E ⟨h, g, d, t, os⟩ := by
  have f1 := tc_lookup
  have f2 := tc_bind (.ref C)
  have hT : (⟨h, g, d, t, os⟩ : Shared).TypeIs (.ref C) "type" := ⟨_, hC, rfl⟩
  refine wpAny_call (codeAny_of_tree ?_)
  show wpAny _ _ (callAny (.ref C) _) _ _ _
  repeat (any_goals (first | assumption | with_reducible refine wpAny_loadPart_at hC ?_ | wp_step))
  refine ⟨rfl, ?_⟩
  refine codeAny_call_builtin_at (Code.quiet_builtin _ (by decide +kernel)) entry_typeCall (wpAny_check_type_call_sub hC (exc_type_call F T hC hi hb ?_ hrest))
  exact wpAny_mono hq (fun r s' z => z) fun _ _ z => z

theorem exc_init (F : ExcBaseFacts B newId initId bmB) (T : OwnTail h bmB bm) {e t0 : Addr} {rest : List Value} {Q : Value → Shared → Prop}
    (hC : h.get? C = some (excClassObj nm q C N bs bm hdct sn sub ab col dd k0 k1 k2 k3 k5 newId)) (he : h.get? e = some (newExc C t0 none))
    (hq : ∀ h', (∀ b o, b ≠ e → h.get? b = some o → h'.get? b = some o) → h'.get? e = some (newExc C h.objs.size none) → Q .none ⟨h', g, d, t, os⟩) (hrest : rest.length ≤ sizeLine) :
    wpAny (model prog w) A (call (.builtin initId) (.ref e :: rest)) Q E ⟨h, g, d, t, os⟩ := by
  refine wpAny_call (codeAny_call_builtin F.init.plain F.initEntry (wpAny_check_init_subT F T hC he rfl ?_))
  wp_walk
  show Q .none _
  refine hq _ (fun b o hb e0 => ?_) ?_
  · rw [Heap.get?_update_other _ _ (Ne.symm hb)]
    exact Heap.get?_push_of_some _ e0
  · exact Heap.get?_update_self _ (Heap.get?_push_of_some _ he) rfl
end
end L2

end

section
set_option Elab.async false
set_option linter.all false
set_option maxRecDepth 100000
set_option maxHeartbeats 1000000
namespace L2
open PySem PySem.Spec PySem.W PySem.Calls PyProof.Rows
open Builtin Builtin.ObjectAttr

noncomputable def xIn (K : Frag) (C : Addr) (bmB : List Value) (newId : String) : Bool := match K.lookup C with
  | some ⟨.type "type", _, .cls cd, sl⟩ => (match cd.mro, sl.toList with
    | .ref C' :: bm, [_, _, _, _, some (.builtin n), _] => C' == C && n == newId && !cd.hasDel && cd.hasDict && tailIn K bmB bm
    | _, _ => false)
  | _ => false
noncomputable def XObj (h : Heap) (C : Addr) (bmB : List Value) (newId : String) : Prop :=
  ∃ nm q N bs bm sn sub ab col dd k0 k1 k2 k3 k5, h.get? C = some (excClassObj nm q C N bs bm true sn sub ab col dd k0 k1 k2 k3 k5 newId) ∧ OwnTail h bmB bm
theorem x_of_in {K : Frag} {h : Heap} {C : Addr} {bmB : List Value} {newId : String} (X : K.In h) (e : xIn K C bmB newId = true) : XObj h C bmB newId := by
  unfold xIn at e
  split at e
  · rename_i dd cd sl ho
    split at e
    · rename_i C' bm k0 k1 k2 k3 n k5 hm hs
      simp only [Bool.and_eq_true, beq_iff_eq, Bool.not_eq_true'] at e
      obtain ⟨⟨⟨⟨rfl, rfl⟩, hdel⟩, hd⟩, ht⟩ := e
      obtain ⟨nm, bs, mro, ns, qn, hdct, sn, sub, ab, col, del⟩ := cd
      dsimp only at hm hdel hd
      subst hm hdel hd
      obtain ⟨sl⟩ := sl
      dsimp only at hs
      subst hs
      exact ⟨nm, qn, ns, bs, bm, sn, sub, ab, col, dd, k0, k1, k2, k3, k5, X _ _ ho, tail_of_in X ht⟩
    · cases e
  · cases e

section
variable {prog : Program} {w : World} {A : Around} {E : Value → Shared → Prop} {h : Heap} {g : Array GenState} {d : Drawn} {t : Nat} {os : OsState} {K : Frag} {x C t0 : Addr} {name : Str} {v : Value} {bmB : List Value} {newId : String} {B sa owner : String}

end
end L2

end

section
set_option Elab.async false
set_option linter.all false
set_option maxRecDepth 100000
set_option maxHeartbeats 1000000
namespace L2
open PySem PySem.Spec PyProof.Rows

noncomputable def excO (e C : Addr) (d : Option Addr) : HO := .ext fun h => ∃ t : Addr, h.get? e = some (newExc C t d)
noncomputable abbrev bmV : List Value := [.type "ValueError", .type "Exception", .type "BaseException", .type "object"]
structure XCl (K : PySem.W.Frag) (C : Addr) : Prop where
  cls : XCls K C
  obj : xIn K C bmV "ValueError.__new__" = true
  kp : PySem.W.keepIn K (.ref C) = true
  sa : PySem.W.findIn K (.ref C) "__setattr__" = some (some (.builtin "object.__setattr__"))

theorem ObjOk.exc {P : Program} {w : World} {H : Hp} {h : Heap} {e C t : Addr} {d : Option Addr} (he : h.get? e = some (newExc C t d)) : ObjOk P w H h e (excO e C d) :=
  ⟨⟨t, he⟩, ⟨_, he⟩, fun h1 h2 ⟨t', a⟩ k => ⟨t', k _ a⟩⟩
theorem HOk.exc {P : Program} {w : World} {H : Hp} {h : Heap} {e C : Addr} {d : Option Addr} (x : HOk P w H h) (q : H e = some (excO e C d)) : ∃ t, h.get? e = some (newExc C t d) :=
  (show ObjOk P w H h e (excO e C d) from x e _ q).1

section
variable {X : Cx} {pins : List (Addr × Obj)} {σ : St} {H : Hp} {s : Shared} {C : Addr} {Q : VK} {us : List Value} {vs : List V} {CX : CXT} {k : Nat} {f : Addr} {fd : FuncData} {ps : List Str} {sp : Sp} {E : XK}

theorem get_new {h : Heap} {rest : List Value} {C : Addr} : ((h.push (newArgs rest)).push (newExc C h.objs.size none)).get? (h.objs.size + 1) = some (newExc C h.objs.size none) := by heap_get
theorem run_exc (M : XCl X.K C) (hi : PySem.W.findIn X.K (.ref C) "__init__" = some (some (.builtin "ValueError.__init__"))) (I : Inv X pins σ H s) (r : Vals vs us) (hl : vs.length ≤ sizeLine)
    (h : ∀ e, H e = none → Q (.ref e) (upd H e (excO e C none))) : wpAny (model X.prog X.w) X.A (call (.ref C) us) (EP X pins σ Q) X.xe s := by
  have hl' : us.length ≤ sizeLine := by rw [← r.length]; exact hl
  have kin := I.kIn
  obtain ⟨nm, qn, N, bs, bm, sn, sub, ab, col, dd, k0, k1, k2, k3, k5, hC, T⟩ := x_of_in kin M.obj
  have hq := h (s.heap.objs.size + 1) (I.hok.fresh (Nat.le_succ _))
  obtain ⟨hh, g, d, t, os⟩ := s
  have up : ∀ b o, hh.get? b = some o → ((hh.push (newArgs us)).push (L2.newExc C hh.objs.size none)).get? b = some o := fun b o e => Heap.get?_push_of_some _ (Heap.get?_push_of_some _ e)
  refine exc_call PySem.F.excBase_ValueError T hC (PySem.W.looks_findIn kin hi) (fun self => PySem.W.Looks.of_pure (PySem.F.excBase_ValueError.init.bind self)) ?_ hl'
  refine exc_init PySem.F.excBase_ValueError (T.keeps up) (up _ _ hC) get_new (fun h' kk e' => ⟨rfl, ?_⟩) hl'
  exact ⟨.ref (hh.objs.size + 1), _, I.laid (t' := t) (fun b u e => kk b u (fun z => by have z1 : b < hh.objs.size := Heap.lt_size e; exact absurd z1 (by rw [show b = hh.objs.size + 1 from z]; exact Nat.not_lt.mpr (Nat.le_succ _))) (up b u e)) (Nat.le_succ _) (ObjOk.exc e'), rfl, hq⟩

variable {x : Str} {p pos : Pos} {e : Expr} {es : List Expr} {t : TA}
noncomputable def tExc (C : Addr) (t : TA) : TE := fun σ H Q => t σ H fun vs H1 => vs.length ≤ sizeLine ∧ ∀ e, H1 e = none → Q (.ref e) (upd H1 e (excO e C none))
theorem pe_exc (M : XCl X.K C) (hi : PySem.W.findIn X.K (.ref C) "__init__" = some (some (.builtin "ValueError.__init__"))) (hg : Gl X x) (hm : X.mg x = some (.ref C)) (ha : PA X (e :: es) t)
    (hdb : (x == ("__debug__" : Str)) = false := by decide) (he : starEach (e :: es) X.env = (false, eval e X.env) :: starEach es X.env := by rfl) (hpl : (backTo pos (starEach es X.env)).any (·.1) = false := by rfl) :
    PE X (.Call (.Name x p) (e :: es) [] pos) (tExc C t) := by
  intro pins s σ H Q I h
  refine wpAny_Call_Name_kw (ld_glob I hg hm ?_ hdb)
  refine PySem.W.callWith_K (h₀ := X.base) I.ok.mod.kin M.kp (thn (ha pos pins s σ H _ I h) fun us s1 ⟨vs, H1, I1, r, q⟩ => ⟨I1.kIn, ?_⟩) he hpl
  exact run_exc M hi I1 r q.1 q.2
structure XSup (K : PySem.W.Frag) (C : Addr) : Prop where
  reads : PySem.W.readsIn K C (.type "type") = true
  ga : PySem.W.specialIn K (.ref C) "__getattribute__" = some (some (.builtin "type.__getattribute__"))
  init : PySem.W.findCls K (.ref C) (.type "type") "__init__" = some (.val (.builtin "ValueError.__init__"))
variable {o value : Expr} {fl : Str} {pos' : Pos} {ta tv : TE}
end
end L2

end

section
set_option Elab.async false
set_option linter.all false
set_option maxRecDepth 100000
set_option maxHeartbeats 1000000
namespace L2
open PySem PySem.Spec PyProof.Rows
section
variable {X : Cx} {pins : List (Addr × Obj)} {σ : St} {H : Hp} {s : Shared} {h' : Heap}
end
end L2

end

section
set_option Elab.async false
set_option linter.all false
set_option maxRecDepth 100000
set_option maxHeartbeats 1000000
namespace L2
open PySem PySem.Spec PyProof.Rows
section
variable {X : Cx}
end

open PySem.W in
noncomputable def ad (K : Frag) (x : Str) : Addr := match nsIn K mainGlobals x with | some (some (.ref C)) => C | _ => 0
theorem ad_of {K : PySem.W.Frag} {x : Str} {C : Addr} (e : PySem.W.nsIn K mainGlobals x = some (some (.ref C))) : ad K x = C := by unfold ad; rw [e]
noncomputable def names11 : List Str := ["BadText", "Twice", "NoName", "NoCount", "WrongKind", "Lacks", "NotOwn", "Falls", "TooBig", "NoFit", "NoCode"]
noncomputable def cAt (K : PySem.W.Frag) (i : Nat) : Addr := ad K (names11.getD i "")
open PySem.W in
noncomputable def xclIn (K : Frag) (C : Addr) : Bool :=
  findIn K (.ref C) "__getattribute__" == some (some (.builtin "BaseException.__getattribute__")) && (findIn K (.ref C) "__getattr__" == some none && (mroIn K C (.type "BaseException") == some true && (mroIn K C (.type "object") == some true &&
  (hasDictIn K C && (findIn K (.ref C) "__class__" == some (some (.builtin "object.__class__")) && (specialIn K (.builtin "object.__class__") "__get__" == some (some (.builtin "getset_descriptor.__get__")) && (takesIn K (.builtin "object.__class__") == some true &&
  (xIn K C bmV "ValueError.__new__" && (keepIn K (.ref C) && findIn K (.ref C) "__setattr__" == some (some (.builtin "object.__setattr__")))))))))))
theorem xcl_of {K : PySem.W.Frag} {C : Addr} (e : xclIn K C = true) : XCl K C := by
  unfold xclIn at e
  simp only [Bool.and_eq_true, beq_iff_eq] at e
  obtain ⟨e1, e2, e3, e4, e5, e6, e7, e8, e9, e10, e11⟩ := e
  exact ⟨⟨e1, e2, e3, e4, e5, e6, e7, e8⟩, e9, e10, e11⟩
open PySem.W in
noncomputable def xTable (K : Frag) : Bool :=
  (List.range 11).all (fun i => xclIn K (cAt K i)) && ((List.range 11).all (fun i => i == 0 || findIn K (.ref (cAt K i)) "__init__" == some (some (.builtin "ValueError.__init__"))) &&
  ((List.range 11).all (fun i => (List.range 11).all fun j => kitOne K (.ref (cAt K i)) (.ref (cAt K j)) == some (decide (i = j))) &&
  ((List.range 11).all (fun i => kitOne K (.ref (cAt K i)) (.ref (ad K "SwapError")) == some true && kitOne K (.ref (cAt K i)) (.type "ValueError") == some true) &&
  (readsIn K (ad K "SwapError") (.type "type") && (specialIn K (.ref (ad K "SwapError")) "__getattribute__" == some (some (.builtin "type.__getattribute__")) &&
  ((match findCls K (.ref (ad K "SwapError")) (.type "type") "__init__" with | some (.val v) => v == .builtin "ValueError.__init__" | _ => false) &&
  (findIn K (.ref (cAt K 0)) "at" == some none)))))))
structure XTab (K : PySem.W.Frag) : Prop where
  cl : ∀ i, i < 11 → XCl K (cAt K i)
  ini : ∀ i, i < 11 → i ≠ 0 → PySem.W.findIn K (.ref (cAt K i)) "__init__" = some (some (.builtin "ValueError.__init__"))
  kit : ∀ i j, i < 11 → j < 11 → PySem.W.kitOne K (.ref (cAt K i)) (.ref (cAt K j)) = some (decide (i = j))
  kS : ∀ i, i < 11 → PySem.W.kitOne K (.ref (cAt K i)) (.ref (ad K "SwapError")) = some true
  kV : ∀ i, i < 11 → PySem.W.kitOne K (.ref (cAt K i)) (.type "ValueError") = some true
  sup : XSup K (ad K "SwapError")
  na : NoAttr K (cAt K 0) "at"
theorem xtab_of {K : PySem.W.Frag} (e : xTable K = true) : XTab K := by
  unfold xTable at e
  simp only [Bool.and_eq_true, List.all_eq_true, List.mem_range, beq_iff_eq, Bool.or_eq_true] at e
  obtain ⟨e1, e2, e3, e4, e5, e6, e7, e9⟩ := e
  refine ⟨fun i h => xcl_of (e1 i h), fun i h n => (e2 i h).resolve_left n, fun i j h h' => e3 i h j h', fun i h => (e4 i h).1, fun i h => (e4 i h).2, ⟨e5, e6, ?_⟩, e9⟩
  split at e7
  · rename_i v q
    rw [q, beq_iff_eq.mp e7]
  · cases e7

noncomputable def clsDef (s : Stmt) (j : Nat) : Stmt := match s with
  | .ClassDef _ _ _ b _ _ _ _ _ _ _ => b.getD j (.Pass ⟨0, 0, 0, 0⟩)
  | _ => .Pass ⟨0, 0, 0, 0⟩
structure InitTx (K : PySem.W.Frag) (q : Str) (C : Addr) (st : Stmt) (ps : List Str) : Prop where
  ex : ∃ (f : Addr) (fd : FuncData), PySem.W.findIn K (.ref C) "__init__" = some (some (.ref f)) ∧ PySem.W.isFn K (.ref f) = true ∧ Fun K "__init__" q st f fd ∧ ∀ us : List Value, us.length = ps.length → bindArgs fd ⟨us, []⟩ = pure (ps.zip us)
theorem init_mk {K : PySem.W.Frag} {x q : Str} {C f : Addr} {st : Stmt} {ps : List Str} {oc : Value} {od an : Option Addr} {osl : Array (Option Value)} {kV doc pm cdv ct : Value} (a : PySem.W.nsIn K mainGlobals x = some (some (.ref C)))
    (i : PySem.W.findIn K (.ref C) "__init__" = some (some (.ref f))) (n : PySem.W.isFn K (.ref f) = true)
    (l : K.lookup f = some ⟨oc, od, .func (PySem.W.fnOf "__init__" q (defArgs st) (defBody st) (defScope st) .none kV doc pm an cdv ct), osl⟩) (c : PySem.W.codeIn K cdv q = true) (k : PySem.W.keepIn K (.ref f) = true)
    (b : ∀ (kV doc pm : Value) (an : Option Addr) (cdv ct : Value) (us : List Value), us.length = ps.length → bindArgs (PySem.W.fnOf "__init__" q (defArgs st) (defBody st) (defScope st) .none kV doc pm an cdv ct) ⟨us, []⟩ = pure (ps.zip us)) : InitTx K q (ad K x) st ps := by
  rw [ad_of a]
  exact ⟨f, _, i, n, fun_mk (st := st) l c k, b kV doc pm an cdv ct⟩
section
variable {X : Cx} {n : Nat} {x : Str} {C : Addr} {ps : List Str} {sp : Sp} {e : Expr} {es : List Expr} {p pos : Pos} {t : TA}
end
end L2

end

section
set_option Elab.async false
set_option linter.all false
set_option maxRecDepth 100000
set_option maxHeartbeats 4000000
namespace L2
open PySem PySem.Spec PyProof.Rows M
section
variable {X : Cx}
noncomputable def rCatT0 (K : PySem.W.Frag) : R2 := fun x y H Q => ∃ a b xs ys, x = .ref a ∧ y = .ref b ∧ SqT K H a xs ∧ SqT K H b ys ∧ xs.length + ys.length ≤ sizeLine ∧
  (xs = [] → Q (.ref b) H) ∧ (xs ≠ [] → ys = [] → Q (.ref a) H) ∧ (xs ≠ [] → ys ≠ [] → ∀ p, H p = none → Q (.ref p) (upd H p (.tup (xs ++ ys))))
theorem op_catT0 : OpR X (binaryOp .Add) (rCatT0 X.K) := by
  intro pins s σ H x y v u Q I rx ry h
  obtain ⟨a, b, xs, ys, rfl, rfl, ha, hb, hz, q0, q1, q2⟩ := h
  by_cases hx : xs = []
  · cases rx
    cases ry
    obtain ⟨its, r1, p1, _⟩ := I.tuple ha
    obtain ⟨its2, r2, p2, _⟩ := I.tuple hb
    obtain ⟨⟨cls, dd, data, sl⟩, ho, hc, n, hd⟩ := id p1
    obtain ⟨⟨cls2, dd2, data2, sl2⟩, ho2, hc2, n2, hd2⟩ := id p2
    simp only at hc hd hc2 hd2
    subst hc hd hc2 hd2
    exact concat_meets ⟨_, ho, rfl⟩ ⟨_, ho2, rfl⟩ noFill_tuple_add seq_tuple_add PySem.F.slot_tuple_add PySem.F.entry_tuple_add (PySem.F.args_tuple_add_2 _ _)
      (tuple_addW0 a b its.toArray its2.toArray n n2 dd dd2 sl sl2 (by rw [r1.nil_iff.mpr hx]; rfl)) ⟨ho, ho2, ⟨.ref b, H, I, rfl, q0 hx⟩⟩
  · exact op_catT pins s σ H _ _ v u Q I rx ry ⟨a, b, xs, ys, rfl, rfl, ha, hb, hx, hz, q1 hx, q2 hx⟩
end
section
variable {ix : Cap} {tt : TT} {te : TE} {g : TG} {σ : St} {H : Hp} {Q : VK}
end
end L2

end

section
set_option Elab.async false
set_option linter.all false
set_option maxRecDepth 100000
set_option maxHeartbeats 4000000
namespace L2
open PySem PySem.Spec PyProof.Rows M
section
variable {X : Cx}
theorem op_isT : OpR X (compareOp .Is) (fun x y H Q => y = .bl true ∧ ∃ b, x = .bl b ∧ Q (.bl b) H) := by
  intro pins s σ H x y v u Q I rx ry h
  obtain ⟨rfl, b, rfl, q⟩ := h
  cases rx
  cases ry
  cases b <;> exact wpAny_pure (fin_bl I q rfl)
end
end L2
namespace HT
open PySem PySem.Spec PyProof.Rows L2
section
variable {prog : Program} {w : World} {A : Around} {E : Value → Shared → Prop} {s : Shared}
theorem getItem_tuple_whole {t sl : Addr} {items : Array Value} {vl vu : Value} {lo hi : Option Int} {Q : Value → Shared → Prop} (ht : IsTup s.heap t items) (hs : s.heap.IsSliceOf sl vl vu .none) (pl : IsPart vl lo) (pu : IsPart vu hi)
    (hw : sIx items.size 0 lo = 0 ∧ sIx items.size items.size hi = items.size)
    (h : Q (.ref t) s) : wpAny (model prog w) A (getItem (.ref t) (.ref sl)) Q E s := by
  obtain ⟨os, hos, hcs, hds⟩ := id hs
  have hTs : s.TypeIs (.ref sl) "slice" := ⟨os, hos, hcs⟩
  unfold getItem
  try with_reducible refine wpAny_holding ?_
  first | refine wpAny_bind (wpAny_pure ?_) | skip
  refine wpAny_bind (wpAny_sequenceKey ht.typeIs (by decide) ?_)
  refine wpAny_bind (wpAny_callSpecial?_slot (name := Str.ofString "__getitem__") ht.typeIs PyProof.Rows.slot_tuple_getitem
    (wpAny_call_entry PyProof.Rows.slot_tuple_getitem ht.typeIs entry_tuple_getitem ?_ (args_tuple_getitem _ _)))
  show wpAny _ _ (Builtin.Tuple.tupleItemsOf (.ref t) >>= _) _ _ s
  refine wpAny_bind (tupleItemsOf_ ht ?_)
  refine wpAny_bind (wpAny_typeOf hTs ?_)
  rw [if_pos (by decide)]
  refine wpAny_bind (sliceApplied_gen hs pl pu ?_)
  have hyes : (((sIx items.size 0 lo : Nat) : Int) == 0 && (1 : Int) == 1 && (sIx items.size items.size hi - sIx items.size 0 lo) == items.size) = true := by
    rw [hw.1, hw.2]
    simp
  show wpAny _ _ (if (((sIx items.size 0 lo : Nat) : Int) == 0 && (1 : Int) == 1 && (sIx items.size items.size hi - sIx items.size 0 lo) == items.size) = true then _ else _) _ _ s
  rw [if_pos hyes]
  unfold Builtin.Tuple.tupleIsExact
  refine wpAny_bind (wpAny_bind (wpAny_typeOf ht.typeIs (wpAny_pure ?_)))
  rw [if_pos (by decide)]
  exact wpAny_bind (wpAny_rule (wpAny_pure ⟨_, rfl, wpAny_pure h⟩))
end
end HT
namespace L2
open PySem PySem.Spec PyProof.Rows M
section
variable {X : Cx}
noncomputable def rSlTW (K : PySem.W.Frag) : V → Option Int → Option Int → Hp → VK → Prop := fun x lo hi H Q => ∃ a xs, x = .ref a ∧ SqT K H a xs ∧
  ((HT.sIx xs.length 0 lo = 0 ∧ HT.sIx xs.length xs.length hi = xs.length) → Q (.ref a) H) ∧
  (¬ (HT.sIx xs.length 0 lo = 0 ∧ HT.sIx xs.length xs.length hi = xs.length) → ∀ p, H p = none → Q (.ref p) (upd H p (.tup (cutV xs lo hi))))
theorem sl_tupW : SlR X (rSlTW X.K) := by
  intro pins s σ H x v vl vu lo hi sl Q I rx hs pl pu h
  obtain ⟨a, xs, rfl, hx, q1, q2⟩ := h
  by_cases hw : HT.sIx xs.length 0 lo = 0 ∧ HT.sIx xs.length xs.length hi = xs.length
  · cases rx
    obtain ⟨its, r, ht, hz⟩ := I.tuple hx
    have hlen : its.toArray.size = xs.length := by rw [List.size_toArray]; exact r.length.symm
    refine ⟨"tuple", _, PyProof.Rows.slot_tuple_getitem.lookup, ht.typeIs, ?_⟩
    exact HT.getItem_tuple_whole ht hs pl pu (by rw [hlen]; exact hw) ⟨.ref a, H, I, rfl, q1 hw⟩
  · exact sl_tup pins s σ H _ v vl vu lo hi sl Q I rx hs pl pu ⟨a, xs, rfl, hx, hw, q2 hw⟩
end
end L2

end

section
set_option Elab.async false
set_option linter.all false
set_option maxRecDepth 100000
set_option maxHeartbeats 4000000
namespace PySem
open Sem (wp)
section
variable {prog : Program} {w : World} {A : Around} {E : Value → Shared → Prop} {s : Shared}
end
end PySem
namespace L2
open PySem PySem.Spec PyProof.Rows
section
variable {prog : Program} {w : World} {A : Around} {K : Type} [DecidableEq K] {knd : KeyKind prog w K}
end
end L2

namespace L2
open PySem PySem.Spec PyProof.Rows
section
variable {prog : Program} {w : World} {A : Around} {E : Value → Shared → Prop} {s : Shared} {K : Type} [DecidableEq K] {knd : KeyKind prog w K}
end
end L2
namespace L2
open PySem PySem.Spec PyProof.Rows
section
variable {X : Cx}
end
end L2

end

section
set_option Elab.async false
set_option linter.all false
set_option maxRecDepth 100000
set_option maxHeartbeats 4000000
namespace L2
open PySem PySem.Spec PySem.W PyProof.Rows M
section
variable {X : Cx} {o : Expr} {td : TE} {p1 q1 q2 apos : Pos}
end
section
variable {X : Cx}
end
end L2

end

section
set_option Elab.async false
set_option linter.all false
set_option maxRecDepth 100000
set_option maxHeartbeats 4000000
namespace M
open PySem L2
end M

end

section
set_option Elab.async false
set_option linter.all false
set_option maxRecDepth 100000
set_option maxHeartbeats 4000000
namespace L2
open PySem PySem.Spec PyProof.Rows M
section
variable {X : Cx}
end
section
variable {X : Cx} {a b : Expr} {ta : TA} {p1 p2 q1 q2 : Pos}
end
end L2

end

section
set_option Elab.async false
set_option linter.all false
set_option maxRecDepth 100000
set_option maxHeartbeats 1000000
namespace L2
open PySem PySem.Spec PyProof.Rows

noncomputable def Trc (h : Heap) (e C : Addr) (d : Option Addr) (c2 : Value) (T : Option Addr) (fl : Value) : Prop :=
  ∃ vs : Array Value, (vs.size = 6 ∧ vs[2]? = some c2) ∧ h.get? e = some { cls := .ref C, dict := d, data := .fields vs } ∧
    match T with
    | none => vs[1]? = some .none
    | some T => vs[1]? = some (.ref T) ∧ T ≠ e ∧ ∃ oT ts, h.get? T = some oT ∧ oT.data = .fields ts ∧ ts[3]? = some fl
structure FlyTo (fs : List Addr) (e : Addr) (T : Option Addr) (h h' : Heap) : Prop where
  keep : ∀ b o, b ∉ fs → b ≠ e → T ≠ some b → h.get? b = some o → h'.get? b = some o
  slot : ∀ b o, b ∈ fs → b ≠ e → T ≠ some b → h.get? b = some o → ∃ sl, h'.get? b = some { o with slots := sl }
  size : h.objs.size ≤ h'.objs.size
theorem FlyTo.refl {fs : List Addr} {e : Addr} {T : Option Addr} {h : Heap} : FlyTo fs e T h h := ⟨fun _ _ _ _ _ q => q, fun _ o _ _ _ q => ⟨o.slots, q⟩, Nat.le_refl _⟩
theorem FlyTo.trans {fs : List Addr} {e T' : Addr} {T : Option Addr} {h h1 h2 : Heap} (a : FlyTo fs e T h h1) (b : FlyTo fs e (some T') h1 h2) (t : T = some T' ∨ h.objs.size ≤ T') : FlyTo fs e T h h2 := by
  have nt : ∀ c o, T ≠ some c → h.get? c = some o → (some T' : Option Addr) ≠ some c := fun c o n q z => by
    have z' : T' = c := Option.some.inj z
    rcases t with t | t
    · exact n (by rw [t, z'])
    · exact absurd (Heap.lt_size q) (Nat.not_lt.mpr (by rw [← z']; exact t))
  refine ⟨fun c o n1 n2 n3 q => b.keep c o n1 n2 (nt c o n3 q) (a.keep c o n1 n2 n3 q), fun c o n1 n2 n3 q => ?_, Nat.le_trans a.size b.size⟩
  obtain ⟨sl, q1⟩ := a.slot c o n1 n2 n3 q
  obtain ⟨sl', q2⟩ := b.slot c _ n1 n2 (nt c o n3 q) q1
  exact ⟨sl', q2⟩
section
variable {M : Model} {A : Around} {E : Value → Shared → Prop} {s : Shared} {c2 : Value}

theorem fly_flight {fs : List Addr} {e C T : Addr} {d fr : Option Addr} {fl : Value} {Q : Unit → Shared → Prop} (t : Trc s.heap e C d c2 (some T) fl)
    (h : ∀ h', FlyTo fs e (some T) s.heap h' → Trc h' e C d c2 (some T) (fr.elim .none fun f => rawInt f) → Q () { s with heap := h' }) : wpAny M A (setFlight (.ref e) fr) Q E s := by
  obtain ⟨vs, hz, he, h1, hTe, oT, ts, hT, hdT, h3⟩ := t
  have h1 : vs[1]? = some (.ref T) := h1
  have other : ∀ b, b ≠ T → (s.heap.update T (Obj.mapFields (·.setIfInBounds 3 (fr.elim Value.none fun f => rawInt f)))).get? b = s.heap.get? b := fun b hb => Heap.get?_update_other _ _ (Ne.symm hb)
  unfold setFlight
  refine wpAny_bind (wpAny_field he rfl h1 ?_)
  rw [if_pos (show (Value.ref T != Value.none) = true from by simp)]
  have h3s : 3 < ts.size := (Array.getElem?_eq_some_iff.mp h3).1
  refine wpAny_setField hT hdT h3s (h _ ⟨fun b o _ _ n q => (other b fun z => n (by rw [z])).trans q, fun b o _ _ n q => ⟨o.slots, (other b fun z => n (by rw [z])).trans q⟩, ?_⟩ ?_)
  · rw [Heap.size_after_update]; exact Nat.le_refl _
  · exact ⟨vs, hz, (other e (Ne.symm hTe)).trans he, h1, hTe, _, _, Heap.get?_update_self _ hT (Obj.isFreed_of_fields (Obj.data_mapFields hdT _)), Obj.data_mapFields hdT _, by simp [h3s]⟩

theorem fly_new {base : Heap} {env : Env} {outer : List Env} {L e C : Addr} {d : Option Addr} {vs : Array Value} {head : Value} {hadNext : Bool} {Q : Unit → Shared → Prop}
    (hfr : A.frames = some (env :: outer)) (hl : s.heap.FunFrames base (env :: outer)) (hf : env.frame = some L)
    (he : s.heap.get? e = some { cls := .ref C, dict := d, data := .fields vs }) (hz : vs.size = 6 ∧ vs[2]? = some c2)
    (h : ∀ h', FlyTo (frs (env :: outer)) e none s.heap h' → Trc h' e C d c2 (some s.heap.objs.size) (rawInt L) → Q () { s with heap := h' }) :
    wpAny M A (do let a ← frameOf env; let pl ← entryPlaceOf L hadNext; let b ← EntryCells.newEntry head a .none (rawInt L) .none pl; setField (.ref e) 1 b) Q E s := by
  have hene : e ∉ frs (env :: outer) := fun hm => by
    obtain ⟨_, o, ho, hnf⟩ := hl.mem hm
    rw [he] at ho; injection ho with ho; subst ho; exact hnf vs rfl
  refine wpAny_bind (wpAny_frameOf_fun hfr hl hf fun h₁ hs₁ => ?_)
  refine wpAny_bind (wpAny_entryPlaceOf fun pl hpl => ?_)
  unfold EntryCells.newEntry newFields
  refine wpAny_bind (wpAny_newObj_type ?_ (hpl.sizeOk5 _ _ _ _ _))
  have he₁ : h₁.get? e = some { cls := .ref C, dict := d, data := .fields vs } := (hs₁.2.1 e hene).trans he
  have hz₁ : h₁.objs.size = s.heap.objs.size := hs₁.1
  have he₂ := Heap.get?_push_of_some (h := h₁) { cls := .type "traceback", dict := none, data := .fields ([head, .ref L, .none, rawInt L, .none] ++ (if pl.isEmpty then List.replicate 6 Value.none else pl)).toArray } he₁
  refine wpAny_setField he₂ rfl (by rw [hz.1]; decide) ?_
  have hTe : h₁.objs.size ≠ e := Nat.ne_of_gt (Heap.lt_size he₁)
  have he₃ := Heap.get?_update_self (Obj.mapFields (·.setIfInBounds 1 (Value.ref h₁.objs.size))) he₂ rfl
  have hT₃ := (Heap.get?_update_other (h₁.push { cls := .type "traceback", dict := none, data := .fields ([head, .ref L, .none, rawInt L, .none] ++ (if pl.isEmpty then List.replicate 6 Value.none else pl)).toArray })
    (Obj.mapFields (·.setIfInBounds 1 (Value.ref h₁.objs.size))) (Ne.symm hTe)).trans (Heap.get?_push_size h₁ rfl)
  have keep : ∀ b o, b ≠ e → h₁.get? b = some o →
      ((h₁.push { cls := .type "traceback", dict := none, data := .fields ([head, .ref L, .none, rawInt L, .none] ++ (if pl.isEmpty then List.replicate 6 Value.none else pl)).toArray }).update e (Obj.mapFields (·.setIfInBounds 1 (Value.ref h₁.objs.size)))).get? b = some o := fun b o hbe hb => by
    rw [Heap.get?_update_other _ _ (Ne.symm hbe)]
    exact Heap.get?_push_of_some _ hb
  refine h _ ⟨fun b o hb n _ q => keep b o n ((hs₁.2.1 b hb).trans q), fun b o hb n _ q => ?_, ?_⟩ ?_
  · obtain ⟨sl, hs⟩ := hs₁.2.2 b o q
    exact ⟨sl, keep b _ n hs⟩
  · rw [Heap.size_after_update, Heap.size_push, hz₁]; exact Nat.le_succ _
  · refine ⟨vs.setIfInBounds 1 (Value.ref h₁.objs.size), ⟨by simpa using hz.1, by rw [Array.getElem?_setIfInBounds_ne (by decide)]; exact hz.2⟩, ?_, ?_, ?_, ?_⟩
    · exact he₃
    · rw [hz₁]; simp [hz.1]
    · rw [← hz₁]; exact hTe
    · refine ⟨{ cls := .type "traceback", dict := none, data := .fields ([head, .ref L, .none, rawInt L, .none] ++ (if pl.isEmpty then List.replicate 6 Value.none else pl)).toArray }, _, by rw [← hz₁]; exact hT₃, rfl, ?_⟩
      first | (simp; done) | (rcases hpl with rfl | ⟨_, _, _, _, _, _, _, rfl⟩ <;> simp)

theorem fly_note {base : Heap} {env : Env} {outer : List Env} {L e C : Addr} {d T : Option Addr} {fl : Value} {Q : Unit → Shared → Prop}
    (hfr : A.frames = some (env :: outer)) (hl : s.heap.FunFrames base (env :: outer)) (hf : env.frame = some L) (t : Trc s.heap e C d c2 T fl)
    (h : ∀ h' T', FlyTo (frs (env :: outer)) e T s.heap h' → (T = some T' ∨ s.heap.objs.size ≤ T') → Trc h' e C d c2 (some T') (rawInt L) → Q () { s with heap := h' }) : wpAny M A (noteFrame (.ref e) env) Q E s := by
  obtain ⟨vs, hz, he, tt⟩ := id t
  unfold noteFrame
  simp only [hf]
  cases T with
  | none =>
    refine wpAny_bind (wpAny_field he rfl tt ?_)
    rw [if_neg (by decide)]
    exact fly_new hfr hl hf he hz fun h' a b => h h' _ a (.inr (Nat.le_refl _)) b
  | some T =>
    obtain ⟨h1, hTe, oT, ts, hT, hdT, h3⟩ := tt
    have h1 : vs[1]? = some (.ref T) := h1
    refine wpAny_bind (wpAny_field he rfl h1 ?_)
    rw [if_pos (show (Value.ref T != Value.none) = true from by simp)]
    refine wpAny_bind (wpAny_field hT hdT h3 ?_)
    by_cases q : (fl == rawInt L) = true
    · rw [if_pos q]
      obtain rfl := beq_iff_eq.mp q
      exact wpAny_pure (h _ T FlyTo.refl (.inl rfl) t)
    · rw [if_neg q]
      have h3s : 3 < ts.size := (Array.getElem?_eq_some_iff.mp h3).1
      refine wpAny_bind (wpAny_setField hT hdT h3s ?_)
      have other : ∀ b, b ≠ T → (s.heap.update T (Obj.mapFields (·.setIfInBounds 3 Value.none))).get? b = s.heap.get? b := fun b hb => Heap.get?_update_other _ _ (Ne.symm hb)
      have noRecord : ∀ b o, s.heap.get? b = some o → (∀ vs, o.data ≠ .fields vs) → b ≠ T := fun b o hb hnf q => by
        rw [q, hT] at hb; injection hb with hb; subst hb; exact hnf ts hdT
      have hsz : (s.heap.update T (Obj.mapFields (·.setIfInBounds 3 Value.none))).objs.size = s.heap.objs.size := Heap.size_after_update ..
      refine fly_new (s := { s with heap := s.heap.update T (Obj.mapFields (·.setIfInBounds 3 Value.none)) }) hfr (hl.of_keeps fun b o hb hnf => ⟨o, (other b (noRecord b o hb hnf)).trans hb, rfl⟩) hf ((other e (Ne.symm hTe)).trans he) hz fun h' a b => ?_
      refine h h' _ ⟨fun c o n1 n2 n3 w => a.keep c o n1 n2 (fun z => nomatch z) ((other c fun z => n3 (by rw [z])).trans w), fun c o n1 n2 n3 w => a.slot c o n1 n2 (fun z => nomatch z) ((other c fun z => n3 (by rw [z])).trans w), ?_⟩ (.inr (Nat.le_refl _)) ?_
      · rw [← hsz]; exact a.size
      · rw [← hsz]; exact b

theorem fly_leave {base : Heap} {env : Env} {outer : List Env} {L e C : Addr} {d T : Option Addr} {fl : Value} {Q : Unit → Shared → Prop}
    (hfr : A.frames = some (env :: outer)) (hl : s.heap.FunFrames base (env :: outer)) (hf : env.frame = some L) (t : Trc s.heap e C d c2 T fl)
    (h : ∀ h' T', FlyTo (frs (env :: outer)) e T s.heap h' → (T = some T' ∨ s.heap.objs.size ≤ T') → Trc h' e C d c2 (some T') .none → Q () { s with heap := h' }) : wpAny M A (leaving env (.ref e)) Q E s := by
  unfold leaving
  refine wpAny_bind (fly_note hfr hl hf t fun h1 T' a w b => ?_)
  exact fly_flight (s := { s with heap := h1 }) (fs := frs (env :: outer)) (fr := none) b fun h2 a2 b2 => h h2 T' (a.trans a2 w) w b2
end
end L2

end

section
set_option Elab.async false
set_option linter.all false
set_option maxRecDepth 100000
set_option maxHeartbeats 1000000
namespace L2
open PySem PySem.Spec PyProof.Rows

noncomputable def excF (e C : Addr) (d : Option Addr) (c2 : Value) : HO := .ext fun h => ∃ vs : Array Value, (vs.size = 6 ∧ vs[2]? = some c2) ∧ h.get? e = some { cls := .ref C, dict := d, data := .fields vs }
theorem ObjOk.excF {P : Program} {w : World} {H : Hp} {h : Heap} {e C : Addr} {d : Option Addr} {c2 : Value} {vs : Array Value} (hz : vs.size = 6 ∧ vs[2]? = some c2) (he : h.get? e = some { cls := .ref C, dict := d, data := .fields vs }) : ObjOk P w H h e (L2.excF e C d c2) :=
  ⟨⟨vs, hz, he⟩, ⟨_, he⟩, fun h1 h2 ⟨v, z, a⟩ k => ⟨v, z, k _ a⟩⟩
theorem HOk.excF {P : Program} {w : World} {H : Hp} {h : Heap} {e C : Addr} {d : Option Addr} {c2 : Value} (x : HOk P w H h) (q : H e = some (L2.excF e C d c2)) : ∃ vs : Array Value, (vs.size = 6 ∧ vs[2]? = some c2) ∧ h.get? e = some { cls := .ref C, dict := d, data := .fields vs } :=
  (show ObjOk P w H h e (L2.excF e C d c2) from x e _ q).1

section
variable {X : Cx} {pins : List (Addr × Obj)} {σ : St} {H : Hp} {s : Shared} {h' : Heap} {x C : Addr} {d T T1 : Option Addr} {fl c2 : Value}
theorem Inv.flight (I : Inv X pins σ H s) (hx : H x = some (excF x C d c2)) (hT : ∀ T', T = some T' → FpOk X pins H T') (a : FlyTo (frs X.stack) x T s.heap h') (t : Trc h' x C d c2 T1 fl) : Inv X pins σ H { s with heap := h' } := by
  obtain ⟨vs, hz, he, _⟩ := t
  have nT : ∀ b u, H b = some u → T ≠ some b := fun b u e z => by rw [(hT b z).1] at e; cases e
  have nF : ∀ b u, H b = some u → b ∉ frs X.stack := fun b u e z => by rw [I.stkFree b z] at e; cases e
  have nx : ∀ b, H b = none → b ≠ x := fun b n z => by rw [z, hx] at n; cases n
  have there : ∀ b o, T ≠ some b → s.heap.get? b = some o → ∃ o', h'.get? b = some o' := fun b o n q => by
    by_cases z : b = x
    · exact ⟨_, by rw [z]; exact he⟩
    · by_cases f : b ∈ frs X.stack
      · obtain ⟨sl, w⟩ := a.slot b o f z n q
        exact ⟨_, w⟩
      · exact ⟨_, a.keep b o f z n q⟩
  have tl : ∀ b, b ∉ T.toList → T ≠ some b := fun b n z => n (by rw [z]; simp)
  refine I.call (g' := s.gens) (t' := s.toks) (d' := s.drawn) (ch := T.toList) ⟨fun b o q n hb hc => a.keep b o hb (nx b n) (tl b hc) q, fun b o q n hb hc => a.slot b o hb (nx b n) (tl b hc) q, fun _ _ _ n _ => n, fun b o q hc => there b o (tl b hc) q, fun _ _ q => q, fun _ _ _ q => q, fun b ps q => ⟨#[], by rw [q]; simp⟩⟩ (fun b u e => ?_) I.bare (fun b hb => ?_)
  · by_cases z : b = x
    · subst z
      rw [hx] at e
      cases e
      exact ObjOk.excF hz he
    · refine (I.hok b u e).stay (fun c v hc q => ?_) (fun _ q => q) fun _ _ q => q
      rcases hc with w | w
      · rw [w]
        rw [w] at q
        exact a.keep b v (nF b u e) z (nT b u e) q
      · have cx : c ≠ x := fun z => by rw [z, hx] at w; cases w
        exact a.keep c v (nF c _ w) cx (nT c _ w) q
  · have hb' : T = some b := by simpa using hb
    obtain ⟨f0, f1, f2, f3, f4, f5⟩ := hT b hb'
    exact ⟨f3, f1, f4, f5⟩

noncomputable abbrev XS := Value → Option Addr → St → Hp → Prop
noncomputable def Thrown (X : Cx) (E : XS) (e : Value) (s : Shared) : Prop :=
  ∃ (x C : Addr) (d T : Option Addr) (c2 fl : Value) (pins : List (Addr × Obj)) (σ : St) (H : Hp), e = .ref x ∧ Inv X pins σ H s ∧ H x = some (excF x C d c2) ∧ (∀ T', T = some T' → FpOk X pins H T') ∧ Trc s.heap x C d c2 T fl ∧ E (.ref x) d σ H
noncomputable abbrev Cx.thr (X : Cx) (E : XS) : Cx := X.wish (Thrown X E)
noncomputable def CX1 (P : Program) (w : World) : CXT := fun outer H s E e s' =>
  ∃ (x C : Addr) (d T : Option Addr) (c2 fl : Value) (H' : Hp), e = .ref x ∧ s'.os = s.os ∧ AllBare s'.gens ∧ Un (frs outer) [] H H' s.heap s'.heap ∧ HOk P w H' s'.heap ∧ H' x = some (excF x C d c2) ∧
    (∀ T', T = some T' → s.heap.objs.size ≤ T' ∧ H' T' = none) ∧ Trc s'.heap x C d c2 T fl ∧ E (.ref x) d H'
theorem pass1 {E : XS} {e : Value} {s' : Shared} (I0 : Inv X pins σ H s) (h : CX1 X.prog X.w X.stack H s (fun v d H' => E v d σ H') e s') : Thrown X E e s' := by
  obtain ⟨x, C, d, T, c2, fl, H', rfl, os, bare, un, hok, hx, hT, t, q⟩ := h
  have I1 : Inv X pins σ H' s' := by
    obtain ⟨hh, g, dr, tk, os'⟩ := s'
    obtain rfl : os' = s.os := os
    exact I0.call (h' := hh) (g' := g) (d' := dr) (t' := tk) (ch := []) un hok bare (fun b z => absurd z (by simp))
  exact ⟨x, C, d, T, c2, fl, pins, σ, H', rfl, I1, hx, fun T' z => I0.fpOk (hT T' z).1 (hT T' z).2, t, q⟩
end

section
variable {P : Program} {w : World} {K : PySem.W.Frag} {mg : Str → Option Value} {base : Heap} {N : List Str} {qual : Str} {scope : Scope} {f : Addr} {cd : Value} {A : Around} {outer : List Env} {s : Shared} {H : Hp} {E : XK}
theorem thr_leave {e : Value} {s' : Shared} (h : Thrown (cxOf (CX1 P w) P w K mg base N qual scope f cd A outer s H E) (fun v d _ H' => E v d H') e s') : (cxOf (CX1 P w) P w K mg base N qual scope f cd A outer s H E).xe e s' := by
  obtain ⟨x, C, d, T, c2, fl, pins, σ, H', rfl, I, hx, hT, t, q⟩ := h
  show wpAny (model P w) (A.deeper (envOfC qual scope s.heap.objs.size f cd)) (leaving (envOfC qual scope s.heap.objs.size f cd) (.ref x)) _ _ s'
  refine fly_leave (base := base) I.ok.frames I.stack rfl t fun h2 T' a w2 t2 => ?_
  have I2 := I.flight hx hT a t2
  refine ⟨x, C, d, some T', c2, .none, H', rfl, I2.os, I2.bare, I2.base, I2.hok, hx, fun T2 z => ?_, t2, q⟩
  cases z
  rcases w2 with z | z
  · obtain ⟨f0, f1, f2, f3, f4, f5⟩ := hT T' z
    refine ⟨?_, f0⟩
    rcases f3 with y | y
    · exact absurd y (by show T' ∉ ([] : List Addr); simp)
    · exact y
  · exact ⟨Nat.le_trans I.sz z, I.hok.fresh z⟩
theorem PSs.thr {E : XS} {X : Cx} {st : List Stmt} {t : TS} (h : PSs (X.thr E) st t) (hx : ∀ e s', Thrown X E e s' → X.xe e s') : PSs X st t := fun pins s σ H D I hw =>
  wpAny_mono (h pins s σ H D (I.wish _) hw) (fun _ _ q => q.unwish) fun e s' z => hx e s' z
end

section
variable {X : Cx} {E : XS}
theorem thr_own (hs : X.stack = X.env :: X.outer) (hf : X.env.frame = some X.env.locals) : PassesOwn (model X.prog X.w) X.A X.env (Thrown X E) := by
  intro e s h
  obtain ⟨x, C, d, T, c2, fl, pins, σ, H, rfl, I, hx, hT, t, q⟩ := h
  have fr : X.A.frames = some (X.env :: X.outer) := by rw [I.ok.frames, hs]
  have fn : s.heap.FunFrames X.base (X.env :: X.outer) := by rw [← hs]; exact I.stack
  refine fly_note (base := X.base) fr fn hf t fun h1 T' a w t1 => ?_
  rw [← hs] at a
  have I1 := I.flight hx hT a t1
  have hT1 : FpOk X pins H T' := by
    rcases w with z | z
    · exact hT T' z
    · exact I.fpOk z (I.hok.fresh z)
  show wpAny _ _ _ _ _ _
  obtain ⟨vs, hz, he, h1', _⟩ := id t1
  have h1' : vs[1]? = some (.ref T') := h1'
  refine wpAny_bind (wpAny_field he rfl h1' ?_)
  rw [if_neg (show ¬ ((Value.ref T' == Value.none) = true) from Bool.false_ne_true)]
  show wpAny _ _ (setFlight (.ref x) X.env.frame) _ _ _
  refine fly_flight (fs := frs X.stack) t1 fun h2 a2 t2 => ?_
  exact ⟨x, C, d, some T', c2, _, pins, σ, H, rfl, I1.flight hx (fun T2 z => by cases z; exact hT1) a2 t2, hx, fun T2 z => by cases z; exact hT1, t2, q⟩
end
end L2

end

section
set_option Elab.async false
set_option linter.all false
set_option maxRecDepth 100000
set_option maxHeartbeats 1000000
namespace L2
open PySem PySem.Spec PyProof.Rows

section
variable {M : Model} {A : Around} {E' : Value → Shared → Prop} {env : Env}
theorem raise_made {s : Shared} {x : Sem Value} {Q : Flow → Shared → Prop} (hh : A.handled = none)
    (h : wpAny M A x (fun v s₁ => ∃ e t C d bmB, v = .ref e ∧ bmB.contains (.type "BaseException") = true ∧ XObj s₁.heap C bmB "ValueError.__new__" ∧ s₁.heap.get? e = some (newExc C t d) ∧ E' (.ref e) s₁) E' s) :
    wpAny M A (raiseStmt env (some x) none) Q E' s := by
  unfold raiseStmt
  refine wpAny_bind (wpAny_mono h (fun v s₁ h₁ => ?_) fun _ _ x => x)
  obtain ⟨e, t, C, d, bmB, rfl, hbase, ⟨nm, qn, N, bs, bm, sn, sub, ab, col, dd, k0, k1, k2, k3, k5, hC, T⟩, he, hE⟩ := h₁
  have hcB : (Value.ref C :: bm).contains (.type "BaseException") = true := by rw [List.contains_cons, T.hasType hbase, Bool.or_true]
  obtain ⟨hp, g, d, tk, os⟩ := s₁
  repeat (first | with_reducible refine wpAny_loadPart_at he ?_ | with_reducible refine wpAny_loadPart_at hC ?_ | (with_reducible refine wpAny_isSubtype_exc hC ?_; rw [hcB]) | wp_step)
  exact wpAny_raiseNew_none hh hE
end

section
variable {X : Cx} {E : XS} {ex : Expr} {te : TE} {pos : Pos}
noncomputable def sRaise (K : PySem.W.Frag) (E : XS) (te : TE) : TS := fun _ σ H => te σ H fun v H1 => ∃ x C d, v = .ref x ∧ H1 x = some (excO x C d) ∧ XCl K C ∧ E (.ref x) d σ (upd H1 x (excF x C d .none))
theorem ps_raise (hc : X.calm = true) (he : PE (X.thr E) ex te) : PS (X.thr E) (.Raise (some ex) none pos) (sRaise X.K E te) := by
  intro pins s σ H D I h
  rw [arm_exec_Raise]
  simp only [evalOpt, Option.map]
  refine wpAny_bind (wpAny_standAt (raise_made (I.ok.hd hc) ?_))
  refine wpAny_bind (wpAny_mono (he pins s σ H _ I h) (fun v s1 h1 => wpAny_bind (wpAny_standAt (wpAny_pure ?_))) fun _ _ z => z)
  obtain ⟨u, H1, I1, r, x, C, d, ex, ea, c, q⟩ := h1
  subst ex
  obtain rfl : v = Value.ref x := r
  obtain ⟨t0, hx⟩ := I1.hok.exc ea
  refine ⟨x, t0, C, d, bmV, rfl, by decide, x_of_in I1.kIn c.obj, hx, ?_⟩
  have I2 : Inv X pins σ (upd H1 x (excF x C d .none)) s1 := by
    have mu : Mut (H1 x) := by rw [ea]; exact True.intro
    exact I1.unwish.write (h' := s1.heap) (t' := s1.toks) (x := x) (e := x) mu (.inl rfl) (fun _ _ _ q => q) ⟨_, hx⟩ (ObjOk.excF (vs := #[.ref t0, .none, .none, .none, .bool false, .none]) ⟨rfl, rfl⟩ hx)
  exact ⟨x, C, d, none, .none, .none, pins, σ, _, rfl, I2, upd_same, fun T' z => (nomatch z), ⟨#[.ref t0, .none, .none, .none, .bool false, .none], ⟨rfl, rfl⟩, hx, rfl⟩, q⟩
end

structure DefXs (P : Program) (w : World) (K : PySem.W.Frag) (mg : Str → Option Value) (base : Heap) (n : Nat) (x : Str) (ps : List Str) (sp : Sp) : Prop where
  ex : ∃ (f : Addr) (fd : FuncData), FnOk P w K mg base (CX1 P w) n f fd ps sp ∧ Binds K fd ps [] ∧ PySem.W.keepIn K (.ref f) = true ∧ mg x = some (.ref f) ∧ ∃ oc od osl, K.lookup f = some ⟨oc, od, .func fd, osl⟩
section
variable {P : Program} {w : World} {K : PySem.W.Frag} {mg : Str → Option Value} {base : Heap} {n m : Nat} {x : Str} {ps N : List Str} {sp : Sp} {st : Stmt}
theorem DefXs.of (T : DefTx K mg x st ps) (S : FnScope N ps (defScope st)) (len : ∀ vs H Q E, sp vs H Q E → vs.length = ps.length)
    (hbody : ∀ (f : Addr) (cdv : Value) (A : Around) (outer : List Env) (s : Shared) (H : Hp) (vs : List V) (Q : VK) (E : XK), Room n (A.deeper (envOfC x (defScope st) s.heap.objs.size f cdv)) → sp vs H Q E →
      ∃ t, PSs ((cxOf (CX1 P w) P w K mg base N x (defScope st) f cdv A outer s H E).thr fun v d _ H' => E v d H') (defBody st) t ∧ t { nx := fun _ H' => Q .non H', rt := Q } (start N vs) H) : DefXs P w K mg base (n + 1) x ps sp := by
  obtain ⟨f, fd, F, m, b⟩ := T.ex
  refine ⟨f, fd, ?_, Binds.all b, F.kp, m, fun_at F⟩
  obtain ⟨oc, od, kV, doc, pm, an, cdv, ct, osl, rfl, lk, hcd⟩ := F.ex
  refine fn_of lk hcd S len fun A outer s H vs Q E hr hsp => ?_
  obtain ⟨t, h, q⟩ := hbody f cdv A outer s H vs Q E hr hsp
  exact ⟨t, h.thr fun e s' z => thr_leave z, q⟩
end
section
variable {X : Cx} {E : XS} {n : Nat} {x : Str} {ps : List Str} {sp : Sp} {e : Expr} {es : List Expr} {p pos : Pos} {t : TA}
noncomputable def tCallX (sp : Sp) (E : XS) (t : TA) : TE := fun σ H Q => t σ H fun vs H1 => sp vs H1 Q fun v d H' => E v d σ H'
theorem pe_xcall (D : DefXs X.prog X.w X.K X.mg X.base n x ps sp) (hr : Room n X.A) (ha : PA (X.thr E) (e :: es) t) (hg : Gl X x := by rfl) (hdb : (x == ("__debug__" : Str)) = false := by decide)
    (he : starEach (e :: es) X.env = (false, eval e X.env) :: starEach es X.env := by rfl) (hpl : (backTo pos (starEach es X.env)).any (·.1) = false := by rfl) : PE (X.thr E) (.Call (.Name x p) (e :: es) [] pos) (tCallX sp E t) := by
  obtain ⟨f, fd, F, b, k, m, _⟩ := D.ex
  intro pins s σ H Q I h
  refine wpAny_Call_Name_kw (ld_glob (X := X.thr E) I hg m ?_ hdb)
  refine PySem.W.callWith_K (h₀ := X.base) I.ok.mod.kin k (thn (ha pos pins s σ H _ I h) fun us s1 ⟨vs, H1, I1, r, q⟩ => ⟨I1.kIn, ?_⟩) he hpl
  have hl : (us ++ []).length = ps.length := by rw [List.append_nil, ← r.length]; exact F.len _ _ _ _ q
  have hb := b s1 us I1.kIn hl
  rw [List.append_nil] at hb
  refine wpAny_call (codeAny_mono (F.run X.A X.stack s1 H1 ⟨us, []⟩ us vs Q _ hr I1.unwish.env0 hb r q) fun r s' hq => ?_)
  cases r with
  | error e => exact pass1 I1.unwish hq
  | ok fl =>
    cases fl with
    | ret u => exact I1.after hq
    | next => exact False.elim hq
    | brk => exact False.elim hq
    | cont => exact False.elim hq
end
end L2

end

section
set_option Elab.async false
set_option linter.all false
set_option maxRecDepth 100000
set_option maxHeartbeats 1000000
namespace L2
open PySem PySem.Spec PyProof.Rows

noncomputable abbrev Cx.mkd (X : Cx) (e : Value) : Cx := { X with A := X.A.mark (some e), calm := false }
noncomputable abbrev Cx.pnd (X : Cx) (pn : List (Addr × Obj)) : Cx := { X with pn := pn }
section
variable {X : Cx} {pins pn : List (Addr × Obj)} {σ : St} {H : Hp} {s : Shared} {e : Value}
theorem Cx.Ok.mkd (ok : X.Ok) (e : Value) : (X.mkd e).Ok :=
  ⟨ok.mod, ok.kind, ok.glob, ok.blt, ok.above, ok.inj, ok.has, ok.cab, fun z => Bool.noConfusion z, ok.frames, ok.stk, ok.exf, ok.bs, ok.bsz, ok.noex, ok.exfs, ok.funs, ok.frf⟩
theorem Cx.Ok.pnd (ok : X.Ok) (pn : List (Addr × Obj)) : (X.pnd pn).Ok :=
  ⟨ok.mod, ok.kind, ok.glob, ok.blt, ok.above, ok.inj, ok.has, ok.cab, ok.hd, ok.frames, ok.stk, ok.exf, ok.bs, ok.bsz, ok.noex, ok.exfs, ok.funs, ok.frf⟩
theorem Inv.mkd (I : Inv X pins σ H s) (e : Value) : Inv (X.mkd e) pins σ H s := ⟨I.ok.mkd e, I.os, I.bare, I.base, I.loc, I.cell, I.free, I.freeC, I.pin, I.hok, I.len⟩
theorem Inv.unmkd (ok : X.Ok) (I : Inv (X.mkd e) pins σ H s) : Inv X pins σ H s := ⟨ok, I.os, I.bare, I.base, I.loc, I.cell, I.free, I.freeC, I.pin, I.hok, I.len⟩
theorem Inv.pnd (I : Inv X pins σ H s) : Inv (X.pnd (X.pn ++ pins)) [] σ H s :=
  ⟨I.ok.pnd _, I.os, I.bare, I.base, I.loc, I.cell, I.free, I.freeC, fun p hp => I.pin p (by simpa using hp), I.hok, I.len⟩
theorem Inv.unpnd {pins' : List (Addr × Obj)} (ok : X.Ok) (I : Inv (X.pnd (X.pn ++ pins)) pins' σ H s) : Inv X pins σ H s :=
  ⟨ok, I.os, I.bare, I.base, I.loc, I.cell, I.free, I.freeC, fun p hp => I.pin p (List.mem_append_left _ hp), I.hok, I.len⟩
theorem FpOk.unpnd {pins' : List (Addr × Obj)} {b : Addr} (h : FpOk (X.pnd (X.pn ++ pins)) pins' H b) : FpOk X pins H b :=
  ⟨h.1, h.2.1, h.2.2.1, h.2.2.2.1, h.2.2.2.2.1, fun p hp => h.2.2.2.2.2 p (List.mem_append_left _ hp)⟩
theorem SP.unpnd {D : Ends} {f : Flow} {s' : Shared} (ok : X.Ok) (h : SP (X.pnd (X.pn ++ pins)) [] D f s') : SP X pins D f s' := by
  cases f with
  | next => obtain ⟨σ', H', I, q⟩ := h; exact ⟨σ', H', I.unpnd ok, q⟩
  | brk => obtain ⟨σ', H', I, q⟩ := h; exact ⟨σ', H', I.unpnd ok, q⟩
  | cont => obtain ⟨σ', H', I, q⟩ := h; exact ⟨σ', H', I.unpnd ok, q⟩
  | ret u => obtain ⟨v, σ', H', I, r, q⟩ := h; exact ⟨v, σ', H', I.unpnd ok, r, q⟩

theorem Inv.forget {h' : Heap} {t' i : Nat} {x : Str} {m : Str → Option Value} {u : Option Value} (I : Inv X pins σ H s) (hN : X.N.Nodup) (hi : X.N[i]? = some x) (hk : X.env.scope.names.lookup x = some .local)
    (hm : ∀ m, s.heap.Ns X.env.locals m → ∃ u, h'.Ns X.env.locals (fun y => if y = x then u else m y)) (hs : ∀ b, b ≠ X.env.locals → h'.get? b = s.heap.get? b) : Inv X pins (σ.set i none) H { s with heap := h', toks := t' } := by
  obtain ⟨m, hn, hl⟩ := id I.loc
  have hiσ : i < σ.length := by rw [I.len]; exact (List.getElem?_eq_some_iff.mp hi).1
  have cne := I.cne
  obtain ⟨u, hn'⟩ := hm m hn
  obtain ⟨oL, _, _, hoL, _⟩ := id hn
  refine ⟨I.ok, I.os, I.bare, ⟨fun b o e n hb hx => ?_, fun b o e n hb hx => ?_, I.base.free, fun b o e hx => ?_, I.base.tups, I.base.frzs, I.base.tbls⟩, ⟨_, hn', fun j y v' e1 e2 e3 => ?_⟩, fun y c e => ?_, I.free, I.freeC, fun p hp => ?_, fun b ob e => ?_, by simpa using I.len⟩
  · exact (hs b (Nat.ne_of_lt (Nat.lt_of_lt_of_le (Heap.lt_size e) I.ok.above))).trans (I.base.keep b o e n hb hx)
  · obtain ⟨sl, e1⟩ := I.base.slot b o e n hb hx
    exact ⟨sl, (hs b (Nat.ne_of_lt (Nat.lt_of_lt_of_le (Heap.lt_size e) I.ok.above))).trans e1⟩
  · obtain ⟨o', e1⟩ := I.base.there b o e hx
    exact ⟨o', (hs b (Nat.ne_of_lt (Nat.lt_of_lt_of_le (Heap.lt_size e) I.ok.above))).trans e1⟩
  · by_cases hj : j = i
    · subst hj
      rw [List.getElem?_set_self hiσ] at e2
      cases e2
    · rw [List.getElem?_set_ne (Ne.symm hj)] at e2
      obtain ⟨u', r', q⟩ := hl j y v' e1 e2 e3
      refine ⟨u', r', ?_⟩
      rcases q with ⟨k, e⟩ | ⟨k, c, e, z⟩
      · refine .inl ⟨k, ?_⟩
        have : y ≠ x := fun e => hj (nodup_ix hN e1 (e ▸ hi))
        simp [this, e]
      · obtain ⟨o, ho, hd⟩ := z
        exact .inr ⟨k, c, e, ⟨o, (hs c (cne y c e)).trans ho, hd⟩⟩
  · obtain ⟨w', o, ho, hd⟩ := I.cell y c e
    exact ⟨w', o, (hs c (cne y c e)).trans ho, hd⟩
  · obtain ⟨e, n, ne, nf, d⟩ := I.pin p hp
    exact ⟨(hs p.1 ne).trans e, n, ne, nf, d⟩
  · refine (I.hok b ob e).stay (fun c w' hc q => (hs c ?_).trans q) (fun _ q => q) fun _ _ q => q
    rintro rfl
    rcases hc with rfl | hc
    · rw [I.free] at e; cases e
    · rw [I.free] at hc; cases hc

theorem exc_match {M : Model} {A : Around} {E' : Value → Shared → Prop} {s : Shared} {K : PySem.W.Frag} {x C C0 : Addr} {d : Option Addr} {vs : Array Value} {Q : Bool → Shared → Prop} (hx : s.heap.get? x = some { cls := .ref C, dict := d, data := .fields vs })
    (O : XObj s.heap C bmV "ValueError.__new__") (O0 : XObj s.heap C0 bmV "ValueError.__new__") (kin : K.In s.heap) (hsub : PySem.W.mroIn K C (.ref C0) = some true) (hq : Q true s) : wpAny M A (excMatches (.ref x) (.ref C0)) Q E' s := by
  obtain ⟨nm, qn, N, bs, bm, sn, sub, ab, col, dd, k0, k1, k2, k3, k5, hC, T⟩ := O
  obtain ⟨nm', qn', N', bs', bm', sn', sub', ab', col', dd', k0', k1', k2', k3', k5', hC0, T'⟩ := O0
  have hcB : (Value.ref C0 :: bm').contains (.type "BaseException") = true := by rw [List.contains_cons, T'.hasType (show bmV.contains (.type "BaseException") = true by decide), Bool.or_true]
  have LS := PySem.W.looks_mroIn (M := M) kin hsub
  have f := tc_notTuple
  obtain ⟨hp, g, dr, tk, os⟩ := s
  unfold excMatches
  repeat (first | with_reducible refine wpAny_loadPart_at hx ?_ | with_reducible refine wpAny_loadPart_at hC0 ?_ | (with_reducible refine wpAny_isSubtype_exc hC0 ?_; rw [hcB]) | with_reducible refine LS.at ?_ | wp_step)
  exact hq
end
end L2

end

section
set_option Elab.async false
set_option linter.all false
set_option maxRecDepth 100000
set_option maxHeartbeats 1000000
namespace L2
open PySem PySem.Spec PyProof.Rows
section
variable {X : Cx} {pins : List (Addr × Obj)} {σ : St} {H : Hp} {s : Shared}
theorem name_goes {M : Model} {A : Around} {E' : Value → Shared → Prop} {Q : Unit → Shared → Prop} {i : Nat} {n : Str} {hpos : Pos} (I : Inv X pins σ H s) (hN : X.N.Nodup) (hi : X.N[i]? = some n) (hk : X.env.scope.names.lookup n = some .local)
    (h : ∀ s', Inv X pins (σ.set i none) H s' → Q () s') : wpAny M A (do bindName X.env n .none; unbindBehindTheSuite X.env n hpos) Q E' s := by
  obtain ⟨m, hn, _⟩ := id I.loc
  have hcls : (X.env.scope.kind == .class || (X.env.scope.kind == .module && X.env.locals != X.env.globals)) = false := by rw [I.ok.kind]; rfl
  refine wpAny_nameGoes_keeps hk hn hcls fun h' v hn' hs => h _ ?_
  refine I.forget (m := m) (u := v) hN hi hk (fun m2 hm2 => ?_) (fun b hb => hs.2 b hb)
  obtain ⟨o, es, ep, ho, hd, hkk, hm⟩ := hn
  obtain ⟨o2, es2, ep2, ho2, hd2, hkk2, hm2⟩ := hm2
  rw [ho] at ho2
  cases ho2
  rw [hd] at hd2
  cases hd2
  have e : m2 = m := funext fun y => by rw [← hm y, ← hm2 y]
  exact ⟨v, by rw [e]; exact hn'⟩

noncomputable def sTryAs (K : PySem.W.Frag) (C0 : Addr) (i : Nat) (tb : XS → TS) (ts : TS) : TS := fun D σ H => ∃ Es : XS, tb Es D σ H ∧ ∀ x C d c2 σ' H', Es (.ref x) d σ' H' → H' x = some (excF x C d c2) →
  XCl K C ∧ PySem.W.mroIn K C (.ref C0) = some true ∧
  ts { nx := fun σ2 H2 => D.nx (σ2.set i none) H2, rt := D.rt, bk := fun σ2 H2 => D.bk (σ2.set i none) H2, ct := fun σ2 H2 => D.ct (σ2.set i none) H2 } (σ'.set i (some (.ref x))) H'
theorem ps_tryAs {body : List Stmt} {b0 : Stmt} {suite : List Stmt} {tb : XS → TS} {ts : TS} {i : Nat} {n y : Str} {C0 : Addr} {np hpos pos : Pos} (hs : X.stack = X.env :: X.outer) (hf : X.env.frame = some X.env.locals) (hN : X.N.Nodup) (hi : X.N[i]? = some n)
    (hk : X.env.scope.names.lookup n = some .local) (hm : X.mg y = some (.ref C0)) (M0 : xIn X.K C0 bmV "ValueError.__new__" = true) (hb : ∀ pn Es, PSs ((X.pnd pn).thr Es) body (tb Es)) (hsu : ∀ e, PSs ((X.mkd e).nox) (b0 :: suite) ts)
    (hg : Gl X y := by rfl) (hdb : (y == ("__debug__" : Str)) = false := by decide) : PS X (.Try body [.ExceptHandler (some (.Name y np)) (some n) (b0 :: suite) hpos] [] [] pos) (sTryAs X.K C0 i tb ts) := by
  intro pins s σ H D I h
  obtain ⟨Es, hb', hh⟩ := h
  refine wpAny_Try_except ?_
  refine wpAny_mono (hb (X.pn ++ pins) Es [] s σ H D (I.pnd.wish _) hb') (fun f s1 q => ?_) (fun e s1 q => ?_)
  · have q' : SP X pins D f s1 := SP.unpnd I.ok q.unwish
    cases f with
    | next => exact wpAny_execs_nil q'
    | brk => exact q'
    | cont => exact q'
    | ret u => exact q'
  · obtain ⟨x, C, d, T, c2, fl, pins', σ', H', rfl, I1, hx, hT, t, qe⟩ := q
    have I1' : Inv X pins σ' H' s1 := I1.unpnd I.ok
    have hT' : ∀ T', T = some T' → FpOk X pins H' T' := fun T' z => (hT T' z).unpnd
    obtain ⟨M, hsub, qs⟩ := hh x C d c2 σ' H' qe hx
    have fr : X.A.frames = some (X.env :: X.outer) := by rw [I.ok.frames, hs]
    have fn : s1.heap.FunFrames X.base (X.env :: X.outer) := by rw [← hs]; exact I1'.stack
    refine fly_note (base := X.base) fr fn hf t fun h1 T' a w t1 => ?_
    rw [← hs] at a
    have I2 := I1'.flight hx hT' a t1
    have hT1 : ∀ T2, some T' = some T2 → FpOk X pins H' T2 := fun T2 z => by
      cases z
      rcases w with z | z
      · exact hT' T' z
      · exact I1'.fpOk z (I1'.hok.fresh z)
    refine fly_flight (s := { s1 with heap := h1 }) (fs := frs X.stack) (fr := none) t1 fun h2 a2 t2 => ?_
    have I3 := I2.flight hx hT1 a2 t2
    refine wpAny_handleBy_cons (codeAny_handlers_test ?_) (by intro q; cases q)
    refine ld_glob (X := X.mkd (.ref x)) (I3.mkd _) hg hm ?_ hdb
    obtain ⟨vs, hz, he, _⟩ := id t2
    refine exc_match he (x_of_in I3.kIn M.obj) (x_of_in I3.kIn M0) I3.kIn hsub ?_
    refine codeAny_handlers_suite_as ?_
    refine fly_flight (s := { s1 with heap := h2 }) (fs := frs X.stack) (fr := none) t2 fun h3 a3 t3 => ?_
    have I4 := I3.flight hx hT1 a3 t3
    refine store_ok (X := X.mkd (.ref x)) (I4.mkd _) hN hi (.inl hk) (v := .ref x) rfl (fun s5 I5 => ?_) (.inr hk)
    refine wpAny_mono (hsu (.ref x) pins s5 _ H' _ (I5.wish _) qs) (fun f s6 q6 => ?_) (fun _ _ z => False.elim z)
    have q7 := q6.unwish
    show wpAny _ _ (do bindName X.env n .none; unbindBehindTheSuite X.env n hpos) (fun _ s3 => SP X pins D f s3) _ s6
    cases f with
    | next => obtain ⟨σ2, H2, I6, q⟩ := q7; exact name_goes (I6.unmkd I.ok) hN hi hk fun s7 I7 => ⟨_, H2, I7, q⟩
    | brk => obtain ⟨σ2, H2, I6, q⟩ := q7; exact name_goes (I6.unmkd I.ok) hN hi hk fun s7 I7 => ⟨_, H2, I7, q⟩
    | cont => obtain ⟨σ2, H2, I6, q⟩ := q7; exact name_goes (I6.unmkd I.ok) hN hi hk fun s7 I7 => ⟨_, H2, I7, q⟩
    | ret u => obtain ⟨v, σ2, H2, I6, r, q⟩ := q7; exact name_goes (I6.unmkd I.ok) hN hi hk fun s7 I7 => ⟨v, _, H2, I7, r, q⟩
end
end L2

end

section
set_option Elab.async false
set_option linter.all false
set_option maxRecDepth 100000
set_option maxHeartbeats 1000000
namespace L2
open PySem PySem.Spec PyProof.Rows
section
variable {X : Cx} {pins : List (Addr × Obj)} {σ : St} {H : Hp} {s : Shared} {C : Addr} {o : Expr} {fl : Str} {pos : Pos} {ta : TE}
theorem excF_inst {a : Addr} {dx : Option Addr} {c2 : Value} (I : Inv X pins σ H s) (ea : H a = some (excF a C dx c2)) (hd : ∀ d, dx = some d → ∃ fs, H d = some (.xd fs)) : ∃ ox od, PySem.W.InstAt s.heap a ox C od := by
  obtain ⟨vs, hz, hx⟩ := I.hok.excF ea
  cases dx with
  | none => exact ⟨_, none, hx, rfl, rfl, True.intro⟩
  | some d =>
    obtain ⟨fs, ed⟩ := hd d rfl
    obtain ⟨mA, hn, hr⟩ := (show ObjOk X.prog X.w H s.heap d (.xd fs) from I.hok d _ ed)
    obtain ⟨od, hod, hl⟩ := lookIn_ns hn
    exact ⟨_, some od, hx, rfl, rfl, hod⟩
theorem call_isinstF : CallR X (.builtin "isinstance") (fun xs H Q => ∃ a C dx c2 y c b, xs = [.ref a, y] ∧ (∀ u, RelV y u → u = c) ∧ H a = some (excF a C dx c2) ∧ (∀ d, dx = some d → ∃ fs, H d = some (.xd fs)) ∧ XCl X.K C ∧
    PySem.W.kitOne X.K (.ref C) c = some b ∧ Q (.bl b) H) := by
  intro pins s σ H xs us Q I r h
  obtain ⟨a, C, dx, c2, y, c, b, rfl, hy, ea, hd, M, e, q⟩ := h
  obtain ⟨u, v, rfl, ru, rv⟩ := r.two
  obtain rfl := hy v rv
  obtain rfl : u = Value.ref a := ru
  exact PySem.W.kia_one (kitx_exc M.cls) I.kIn (excF_inst I ea hd) e (fun z => nomatch z) fun tk => ⟨.bl b, H, I.tok tk, rfl, q⟩
theorem refs_of : ∀ {cs : List Addr} {us : List Value}, Vals (cs.map V.ref) us → us = cs.map Value.ref
  | [], _, .nil => rfl
  | c :: cs, _, .cons r t => by
    rw [List.map_cons, ← refs_of t]
    exact congrArg (· :: _) r
theorem call_isinstFT : CallR X (.builtin "isinstance") (fun xs H Q => ∃ (a C : Addr) (dx : Option Addr) (c2 : Value) (tp : Addr) (cs : List Addr) (b : Bool), xs = [.ref a, .ref tp] ∧ H tp = some (.tup (cs.map V.ref)) ∧ H a = some (excF a C dx c2) ∧ (∀ d, dx = some d → ∃ fs, H d = some (.xd fs)) ∧ XCl X.K C ∧
    PySem.W.kitAny X.K (.ref C) (cs.map Value.ref) = some b ∧ Q (.bl b) H) := by
  intro pins s σ H xs us Q I r h
  obtain ⟨a, C, dx, c2, tp, cs, b, rfl, et, ea, hd, M, e, q⟩ := h
  obtain ⟨u, v, rfl, ru, rv⟩ := r.two
  obtain rfl : u = Value.ref a := ru
  obtain rfl : v = Value.ref tp := rv
  obtain ⟨_, its, rv2, ⟨oc, od, dt, sl⟩, h1, h2, n, h3⟩ := (show ObjOk X.prog X.w H s.heap tp (.tup (cs.map V.ref)) from I.hok tp _ et)
  obtain rfl := refs_of rv2
  dsimp only at h2 h3
  subst h2 h3
  exact PySem.W.kia_tup (kitx_exc M.cls) I.kIn (excF_inst I ea hd) h1 e (fun z => nomatch z) fun tk => ⟨.bl b, H, I.tok tk, rfl, q⟩
end

end L2

end

section
set_option Elab.async false
set_option linter.all false
set_option maxRecDepth 100000
set_option maxHeartbeats 1000000
namespace L2
open PySem PySem.Spec PyProof.Rows
section
variable {X : Cx} {pins : List (Addr × Obj)} {σ : St} {H : Hp} {s : Shared} {C : Addr} {Q : VK} {us : List Value} {vs : List V} {k : Nat} {ps : List Str} {sp : Sp}
variable {x : Str} {p pos : Pos} {e : Expr} {es : List Expr} {t : TA}
end

section
variable {prog : Program} {w : World} {A : Around} {E' : Value → Shared → Prop} {env : Env}
end

section
variable {X : Cx} {E : XS}
theorem thr_ownT (hs : X.stack = X.env :: X.outer) (hf : X.env.frame = some X.env.locals) : PassesOwn (model (X.thr E).prog (X.thr E).w) (X.thr E).A (X.thr E).env (X.thr E).xe := thr_own hs hf
end
end L2

end

section
set_option Elab.async false
set_option linter.all false
set_option maxRecDepth 100000
set_option maxHeartbeats 1000000
namespace L2
open PySem PySem.Spec PyProof.Rows
end L2

end

section
set_option Elab.async false
set_option linter.all false
set_option maxRecDepth 100000
set_option maxHeartbeats 4000000
namespace St
open PySem PySem.Spec PyProof.Rows
theorem met_all {ns : List Str} : ∀ i, i ≤ ns.length → (met (fun i => ns.getD i Str.empty) i).length = i → met (fun i => ns.getD i Str.empty) i = ns.take i ∧ (ns.take i).Nodup
  | 0, _, _ => ⟨rfl, List.nodup_nil⟩
  | i + 1, h, e => by
    have hl := met_len (fun i => ns.getD i Str.empty) i
    have e1 : ns.getD i Str.empty = ns[i] := by simp [List.getD, List.getElem?_eq_getElem (show i < ns.length by omega)]
    rw [met_succ] at e ⊢
    rw [dd_len] at e
    by_cases c : (met (fun i => ns.getD i Str.empty) i).any (· == (fun i => ns.getD i Str.empty) i) = true
    · rw [if_pos c] at e
      omega
    · rw [if_neg c] at e
      have hm0 : (met (fun i => ns.getD i Str.empty) i).length = i := by omega
      obtain ⟨a, b⟩ := met_all i (by omega) hm0
      have c' : ns[i] ∉ ns.take i := fun hm => c (by
        rw [a]
        exact List.any_eq_true.mpr ⟨ns[i], hm, by rw [show (fun i => ns.getD i Str.empty) i = ns[i] from e1]; simp⟩)
      have et : ns.take (i + 1) = ns.take i ++ [ns[i]] := by rw [List.take_add_one, List.getElem?_eq_getElem (show i < ns.length by omega)]; rfl
      refine ⟨?_, ?_⟩
      · unfold step_dedup
        rw [if_neg c, a, et]
        show ns.take i ++ [ns.getD i Str.empty] = _
        rw [e1]
      · rw [et]
        exact List.nodup_append.mpr ⟨b, by simp, fun x hx y hy => by rw [List.mem_singleton.mp hy]; exact fun q => c' (by rw [← q]; exact hx)⟩
theorem met_iff (ns : List Str) : (met (fun i => ns.getD i Str.empty) ns.length).length = ns.length ↔ ns.Nodup := by
  constructor
  · intro h
    have := (met_all ns.length (Nat.le_refl _) h).2
    rwa [List.take_length] at this
  · intro h
    rw [met_nodup h _ (Nat.le_refl _), List.take_length]
end St
namespace L2
open PySem PySem.Spec PyProof.Rows
noncomputable def tLenSetG (te : TE) : TE := fun σ H Q => te σ H fun x H1 => ∃ p, ∃ ns : List Str, x = .ref p ∧ H1 p = some (.lst (ns.map V.str)) ∧ ns.length ≤ 1000 ∧ ∀ m : Nat, m ≤ ns.length → (m = ns.length ↔ ns.Nodup) → Q (.int m) H1
theorem pe_lenSetG {X : Cx} {e : Expr} {te : TE} {p1 p2 q1 q2 : Pos} (hc : X.calm = true) (hg1 : Gl X "len") (hm1 : X.mg "len" = none) (hg2 : Gl X "set") (hm2 : X.mg "set" = none) (he : PE X e te)
    (hs2 : starEach [e] X.env = [(false, eval e X.env)] := by rfl)
    (hs1 : starEach [Expr.Call (.Name "set" p2) [e] [] q2] X.env = [(false, eval (.Call (.Name "set" p2) [e] [] q2) X.env)] := by rfl) :
    PE X (.Call (.Name "len" p1) [.Call (.Name "set" p2) [e] [] q2] [] q1) (tLenSetG te) := by
  intro pins s σ H Q I h
  refine wpAny_Call_Name_kw (ld_blt I hg1 hm1 PySem.boot_len ?_ (by decide) (by decide))
  refine PyProof.Rows.callWith_builtin1 ?_ hs1 rfl
  rw [hs1]
  refine Calls.spliced_cons ?_
  refine wpAny_Call_Name_kw (ld_blt I hg2 hm2 PyProof.Rows.boot_set ?_ (by decide) (by decide))
  refine PyProof.Rows.callWith_type1 (thn ((pa_cons he pa_nil hs2) q2 pins s σ H (fun vs H1 => match vs with
    | [x] => ∃ p, ∃ ns : List Str, x = .ref p ∧ H1 p = some (.lst (ns.map V.str)) ∧ ns.length ≤ 1000 ∧ ∀ m : Nat, m ≤ ns.length → (m = ns.length ↔ ns.Nodup) → Q (.int m) H1
    | _ => False) I h) fun us s1 ⟨vs, H1, I1, r1, q⟩ => ?_) hs2 rfl
  match vs, r1, q with
  | [x], r1, q =>
    obtain ⟨p, ns, rfl, hp, hle, q⟩ := q
    obtain ⟨u, rfl, ru⟩ := vals1 r1
    cases ru
    obtain ⟨its, rv, pl, hz⟩ := I1.list (SqL.of (K := X.K) hp)
    have hlen : ns.length = its.length := by have := rv.length; rw [List.length_map] at this; exact this
    refine St.call_set_strs (ns := ns) (I.ok.hd hc) pl.isList (by simpa using strs_are rv) (by show its.toArray.size + 1 < 4096; rw [List.size_toArray]; omega) fun h2 tk hS hk => Calls.spliced_nil ?_
    obtain ⟨o, es, ep, t, ho, hex, hd, _, _, _, hf, hsz⟩ := hS
    have hsz' : es.size = (St.met (fun i => ns.getD i Str.empty) ns.length).length := by
      rw [hsz]
      have : its.toArray.size = ns.length := by simp [hlen]
      rw [this]
    have hml := St.met_len (fun i => ns.getD i Str.empty) ns.length
    refine call_len_set ho hex hd hf (by rw [hsz']; omega) ⟨.int es.size, H1, ?_, ⟨_, rfl⟩, q es.size (by rw [hsz']; exact hml) (by rw [hsz']; exact St.met_iff ns)⟩
    exact I1.kept fun b u eb => hk b u (Heap.lt_size eb) eb
noncomputable def rEqT0 (K : PySem.W.Frag) : R2 := fun x y H Q => ∃ a b xs, x = .ref a ∧ y = .ref b ∧ SqT K H a xs ∧ SqT K H b [] ∧ Q (.bl xs.isEmpty) H
theorem op_eqT0 {X : Cx} (hu : X.A.units + 200 < cLine) : OpR X (compareOp .Eq) (rEqT0 X.K) := by
  intro pins s σ H x y v u Q I rx ry h
  obtain ⟨a, b, xs, rfl, rfl, ha, hb, q⟩ := h
  obtain rfl : v = .ref a := rx
  obtain rfl : u = .ref b := ry
  obtain ⟨its, r1, p1, _⟩ := I.tuple ha
  obtain ⟨its2, r2, p2, _⟩ := I.tuple hb
  have l1 := r1.length
  have l2 : its2 = [] := List.eq_nil_of_length_eq_zero (by simpa using r2.length.symm)
  subst l2
  refine SeqAt.eq_tupleAt (e := fun _ => true) p1 p2 (by omega) (fun j h1 h2 => ?_) ⟨.bl xs.isEmpty, H, I, ?_, q⟩
  · simp at h2
  · have e : xs.isEmpty = (its.toArray.size == 0) := by
      cases xs with
      | nil => rw [show its = [] from List.eq_nil_of_length_eq_zero (by simpa using l1.symm)]; rfl
      | cons a r =>
        have : its.toArray.size ≠ 0 := by
          rw [List.size_toArray, ← l1]
          simp
        rw [beq_eq_false_iff_ne.mpr this]
        rfl
    rw [e]
    show Value.bool _ = Value.bool _
    simp
theorem kit_none {K : PySem.W.Frag} {t : Value} : ∀ {cs : List Value}, (∀ c ∈ cs, PySem.W.kitOne K t c = some false) → PySem.W.kitAny K t cs = some false
  | [], _ => rfl
  | c :: cs, h => by
    unfold PySem.W.kitAny
    rw [h c (by simp)]
    exact kit_none fun d hd => h d (by simp [hd])
open PySem.W in
noncomputable def xTable2 (K : Frag) : Bool := xIn K (ad K "SwapError") bmV "ValueError.__new__" && (List.range 11).all (fun i => mroIn K (cAt K i) (.ref (ad K "SwapError")) == some true)
structure XTab2 (K : PySem.W.Frag) : Prop where
  obj : xIn K (ad K "SwapError") bmV "ValueError.__new__" = true
  mro : ∀ i, i < 11 → PySem.W.mroIn K (cAt K i) (.ref (ad K "SwapError")) = some true
theorem xtab2_of {K : PySem.W.Frag} (e : xTable2 K = true) : XTab2 K := by
  unfold xTable2 at e
  simp only [Bool.and_eq_true, List.all_eq_true, List.mem_range, beq_iff_eq] at e
  exact ⟨e.1, e.2⟩
end L2
namespace L2
open PySem PySem.Spec PyProof.Rows
theorem excF_inj {e C C' : Addr} {d d' : Option Addr} {c c' : Value} (h : excF e C d c = excF e C' d' c') : C = C' ∧ d = d' := by
  unfold excF at h
  injection h with h
  let o : Obj := { cls := .ref C, dict := d, data := .fields #[.none, .none, c, .none, .none, .none] }
  let hp : Heap := { objs := Array.replicate (e + 1) o }
  have hg : hp.get? e = some o := by
    unfold Heap.get?
    have : hp.objs[e]? = some o := by
      show (Array.replicate (e + 1) o)[e]? = some o
      simp
    rw [this]
  have h1 := congrFun h hp
  have h2 : ∃ vs : Array Value, (vs.size = 6 ∧ vs[2]? = some c) ∧ hp.get? e = some { cls := .ref C, dict := d, data := .fields vs } := ⟨_, ⟨rfl, rfl⟩, hg⟩
  rw [h1] at h2
  obtain ⟨vs, _, h3⟩ := h2
  rw [hg] at h3
  have h4 := Option.some.inj h3
  have h5 : Value.ref C = Value.ref C' := congrArg Obj.cls h4
  have h6 : d = d' := congrArg Obj.dict h4
  exact ⟨by injection h5, h6⟩
end L2

end

section

set_option Elab.async false
set_option linter.all false
set_option maxRecDepth 100000
set_option maxHeartbeats 4000000
namespace K10
open PySem L2 M
seal L2.PE L2.PA L2.PS L2.PSs L2.PT L2.PW L2.PI L2.PG L2.PJ L2.PTs
noncomputable def top (i : Nat) : Stmt := PySem.Challenge.pw_swapstride_k10_kinds_looked_at.main.body.getD i (.Pass ⟨0, 0, 0, 0⟩)
noncomputable abbrev s_look_kinds : Stmt := top 15
theorem sc_look_kinds : FnScope ["kinds", "sizes", "kind"] ["kinds"] (defScope s_look_kinds) := ⟨rfl, rfl, rfl, by decide +kernel, rfl, by decide +kernel, by decide +kernel⟩
noncomputable abbrev s_look_names : Stmt := top 16
theorem sc_look_names : FnScope ["kind", "sizes", "name", "parts", "part", "other"] ["kind", "sizes"] (defScope s_look_names) := ⟨rfl, rfl, rfl, by decide +kernel, rfl, by decide +kernel, by decide +kernel⟩
noncomputable abbrev s_need_once : Stmt := top 17
theorem sc_need_once : FnScope ["names", "things"] ["names", "things"] (defScope s_need_once) := ⟨rfl, rfl, rfl, by decide +kernel, rfl, by decide +kernel, by decide +kernel⟩
noncomputable abbrev s_looked_size : Stmt := top 18
theorem sc_looked_size : FnScope ["kind", "sizes", "size", "name"] ["kind", "sizes"] (defScope s_looked_size) := ⟨rfl, rfl, rfl, by decide +kernel, rfl, by decide +kernel, by decide +kernel⟩
noncomputable abbrev s_size_by : Stmt := top 19
theorem sc_size_by : FnScope ["kind", "sizes", "inner"] ["kind", "sizes"] (defScope s_size_by) := ⟨rfl, rfl, rfl, by decide +kernel, rfl, by decide +kernel, by decide +kernel⟩
noncomputable abbrev s__law_feed : Stmt := top 21
theorem sc__law_feed : FnScope ["_law_script", "_law_k", "_law_cell"] ["_law_script", "_law_k"] (defScope s__law_feed) := ⟨rfl, rfl, rfl, by decide +kernel, rfl, by decide +kernel, by decide +kernel⟩
noncomputable abbrev s__law_take : Stmt := top 22
theorem sc__law_take : FnScope ["_law_feed_here", "_law_many", "_law_digit", "_law_one"] ["_law_feed_here", "_law_many"] (defScope s__law_take) := ⟨rfl, rfl, rfl, by decide +kernel, rfl, by decide +kernel, by decide +kernel⟩
noncomputable abbrev s__law_names : Stmt := top 23
theorem sc__law_names : FnScope ["_law_cell", "_law_many", "_law_letters", "_law_size_here", "_law_at", "_law_common", "_law_found"] ["_law_cell", "_law_many"] (defScope s__law_names) := ⟨rfl, rfl, rfl, by decide +kernel, rfl, by decide +kernel, by decide +kernel⟩
noncomputable abbrev s__law_sort_of : Stmt := top 24
theorem sc__law_sort_of : FnScope ["_law_kinds_here", "_law_kind", "_law_name", "_law_sort", "_law_parts"] ["_law_kinds_here", "_law_kind"] (defScope s__law_sort_of) := ⟨rfl, rfl, rfl, by decide +kernel, rfl, by decide +kernel, by decide +kernel⟩
noncomputable abbrev s__law_size : Stmt := top 25
theorem sc__law_size : FnScope ["_law_kinds_here", "_law_kind", "_law_sort", "_law_parts", "_law_sizes"] ["_law_kinds_here", "_law_kind"] (defScope s__law_size) := ⟨rfl, rfl, rfl, by decide +kernel, rfl, by decide +kernel, by decide +kernel⟩
noncomputable abbrev s__law_kinds : Stmt := top 26
theorem sc__law_kinds : FnScope ["_law_feed_here", "_law_names_here", "_law_kinds_here", "_law_great", "_law_k", "_law_sort", "_law_parts", "_law_left", "_law_j", "_law_some", "_law_kind"] ["_law_feed_here", "_law_names_here"] (defScope s__law_kinds) := ⟨rfl, rfl, rfl, by decide +kernel, rfl, by decide +kernel, by decide +kernel⟩
noncomputable abbrev s__law_any_kinds : Stmt := top 27
theorem sc__law_any_kinds : FnScope ["_law_feed_here", "_law_names_here", "_law_kinds_here", "_law_k", "_law_sort", "_law_parts", "_law_j", "_law_told_here", "_law_kind", "_law_part", "_law_name"] ["_law_feed_here", "_law_names_here"] (defScope s__law_any_kinds) := ⟨rfl, rfl, rfl, by decide +kernel, rfl, by decide +kernel, by decide +kernel⟩
noncomputable abbrev s__law_edged : Stmt := top 28
theorem sc__law_edged : FnScope ["_law_feed_here", "_law_names_here", "_law_wide", "_law_kinds_here", "_law_parts"] ["_law_feed_here", "_law_names_here"] (defScope s__law_edged) := ⟨rfl, rfl, rfl, by decide +kernel, rfl, by decide +kernel, by decide +kernel⟩
noncomputable abbrev s__law_spoilt : Stmt := top 29
theorem sc__law_spoilt : FnScope ["_law_feed_here", "_law_kinds_here", "_law_names_here", "_law_way", "_law_at", "_law_name", "_law_sort", "_law_parts", "_law_last"] ["_law_feed_here", "_law_kinds_here", "_law_names_here"] (defScope s__law_spoilt) := ⟨rfl, rfl, rfl, by decide +kernel, rfl, by decide +kernel, by decide +kernel⟩
noncomputable abbrev s__law_due : Stmt := top 30
theorem sc__law_due : FnScope ["_law_kinds_here", "_law_ahead", "_law_at", "_law_name", "_law_sort", "_law_parts", "_law_due_here", "_law_told_here"] ["_law_kinds_here"] (defScope s__law_due) := ⟨rfl, rfl, rfl, by decide +kernel, rfl, by decide +kernel, by decide +kernel⟩
noncomputable abbrev s__law_told : Stmt := top 31
theorem sc__law_told : FnScope ["_law_kinds_here", "_law_caught", "_law_found", "e", "_law_words"] ["_law_kinds_here"] (defScope s__law_told) := ⟨rfl, rfl, rfl, by decide +kernel, rfl, by decide +kernel, by decide +kernel⟩
noncomputable abbrev s_law : Stmt := top 32
theorem sc_law : FnScope ["_law_script", "_law_feed_here", "_law_names_here", "_law_form", "_law_kinds_here", "_law_at", "_law_due_here", "_law_turn", "_law_found"] ["_law_script"] (defScope s_law) := ⟨rfl, rfl, rfl, by decide +kernel, rfl, by decide +kernel, by decide +kernel⟩
noncomputable abbrev s_init : Stmt := clsDef (top 2) 0
structure Tx (K : PySem.W.Frag) (mg : Str → Option Value) : Prop where
  d_look_kinds : DefTx K mg "look_kinds" s_look_kinds ["kinds"]
  d_look_names : DefTx K mg "look_names" s_look_names ["kind", "sizes"]
  d_need_once : DefTx K mg "need_once" s_need_once ["names", "things"]
  d_looked_size : DefTx K mg "looked_size" s_looked_size ["kind", "sizes"]
  d_size_by : DefTx K mg "size_by" s_size_by ["kind", "sizes"]
  d__law_feed : DefTx K mg "_law_feed" s__law_feed ["_law_script", "_law_k"]
  d__law_take : DefTx K mg "_law_take" s__law_take ["_law_feed_here", "_law_many"]
  d__law_names : DefTx K mg "_law_names" s__law_names ["_law_cell", "_law_many"]
  d__law_sort_of : DefTx K mg "_law_sort_of" s__law_sort_of ["_law_kinds_here", "_law_kind"]
  d__law_size : DefTx K mg "_law_size" s__law_size ["_law_kinds_here", "_law_kind"]
  d__law_kinds : DefTx K mg "_law_kinds" s__law_kinds ["_law_feed_here", "_law_names_here"]
  d__law_any_kinds : DefTx K mg "_law_any_kinds" s__law_any_kinds ["_law_feed_here", "_law_names_here"]
  d__law_edged : DefTx K mg "_law_edged" s__law_edged ["_law_feed_here", "_law_names_here"]
  d__law_spoilt : DefTx K mg "_law_spoilt" s__law_spoilt ["_law_feed_here", "_law_kinds_here", "_law_names_here"]
  d__law_due : DefTx K mg "_law_due" s__law_due ["_law_kinds_here"]
  d__law_told : DefTx K mg "_law_told" s__law_told ["_law_kinds_here"]
  d_law : DefTx K mg "law" s_law ["_law_script"]
  g_GREATEST_SIZE : ∃ t, mg "GREATEST_SIZE" = some (.int 30 t)
  z_ValueError : mg "ValueError" = none
  z_enumerate : mg "enumerate" = none
  z_int : mg "int" = none
  z_isinstance : mg "isinstance" = none
  z_len : mg "len" = none
  z_max : mg "max" = none
  z_min : mg "min" = none
  z_range : mg "range" = none
  z_set : mg "set" = none
  z_sum : mg "sum" = none
  z_tuple : mg "tuple" = none
  c_BadText : mg "BadText" = some (.ref (cAt K 0))
  c_Twice : mg "Twice" = some (.ref (cAt K 1))
  c_NoName : mg "NoName" = some (.ref (cAt K 2))
  c_NoCount : mg "NoCount" = some (.ref (cAt K 3))
  c_WrongKind : mg "WrongKind" = some (.ref (cAt K 4))
  c_Lacks : mg "Lacks" = some (.ref (cAt K 5))
  c_NotOwn : mg "NotOwn" = some (.ref (cAt K 6))
  c_Falls : mg "Falls" = some (.ref (cAt K 7))
  c_TooBig : mg "TooBig" = some (.ref (cAt K 8))
  c_NoFit : mg "NoFit" = some (.ref (cAt K 9))
  c_NoCode : mg "NoCode" = some (.ref (cAt K 10))
  c_SwapError : mg "SwapError" = some (.ref (ad K "SwapError"))
  xt2 : XTab2 K
  xt : XTab K
  it : InitTx K "BadText.__init__" (cAt K 0) s_init ["self", "at"]
theorem fits {n : Nat} (h : n ≤ 4000000) : n ≤ sizeLine := Nat.le_trans h (by decide)
theorem fitsLt {n : Nat} (h : n ≤ 4000000) : n < sizeLine := Nat.lt_of_le_of_lt h (by decide)
theorem boot_VE : bootBuiltins "ValueError" = some (.type "ValueError") := by decide +kernel
end K10

end

section
set_option Elab.async false
set_option linter.all false
set_option maxRecDepth 100000
set_option maxHeartbeats 4000000
local macro_rules | `(tactic| walk_at "rd1") => `(tactic| first
  | refine ⟨_, rfl, ?_⟩
  | refine ⟨_, _, rfl, rfl, ?_⟩
  | refine ⟨_, _, _, _, rfl, rfl, (by assumption), (by first | rfl | assumption), ?_⟩
  | refine ⟨_, _, rfl, .inl (by assumption), ?_⟩
  | refine ⟨(by first | exact .inr ⟨by decide, by decide⟩ | exact .inl ⟨by decide, by decide⟩ | exact ⟨by decide, by decide, by decide⟩ | exact ⟨by decide, by decide⟩ | exact ⟨by assumption, by assumption⟩ | (show (0 : Int) < _; first | decide | assumption)), ?_⟩
  | refine ⟨rfl, ?_⟩)
local macro_rules | `(tactic| walk_at "rd") => `(tactic| repeat walk_at "rd1")
namespace K10
open PySem L2 M
seal L2.PE L2.PA L2.PS L2.PSs L2.PT L2.PW L2.PI L2.PG L2.PJ L2.PTs
noncomputable def spFeed (K : PySem.W.Frag) : Sp := fun vs H Q _ => ∃ (a : Addr) (ns : List Int) (k : Int), vs = [.ref a, .int k] ∧ SqL K H a (ns.map V.int) ∧ ns.length ≤ 63 ∧ 0 ≤ k ∧ ∀ (r : Addr) (p q : Int), H r = none → Q (.ref r) (upd H r (.lst [.int p, .int q]))
noncomputable def spTake : Sp := fun vs H Q _ => ∃ (a : Addr) (p q m : Int), vs = [.ref a, .int m] ∧ H a = some (.lst [.int p, .int q]) ∧ 0 < m ∧ m < 2 ^ 64 ∧ ∀ (r : Int) (H' : Hp), 0 ≤ r → r < m → Fed a H H' → Q (.int r) H'
section
variable {P : Program} {w : World} {K : PySem.W.Frag} {mg : Str → Option Value} {base : Heap} {n : Nat}
theorem at_ints {ns : List Int} {k : Int} (h0 : 0 ≤ k) (h : k < (ns.length : Int)) : ∃ v : Int, atI (ns.map V.int) k = some (.int v) := by
  have hk : k.toNat < ns.length := by omega
  have ek : k = ((k.toNat : Nat) : Int) := by omega
  refine ⟨ns[k.toNat], ?_⟩
  have q : atI (ns.map V.int) ((k.toNat : Nat) : Int) = some (.int ns[k.toNat]) := atI_nat (by rw [List.getElem?_map, List.getElem?_eq_getElem hk] <;> rfl)
  rw [← ek] at q
  exact q
theorem two_fits : 2 ≤ sizeLine := by decide
theorem ok__law_feed (T : Tx K mg) : DefIs P w K mg base (n + 1) "_law_feed" ["_law_script", "_law_k"] (spFeed K) := by
  refine DefIs.of T.d__law_feed sc__law_feed (fun vs H Q E h => ?_) (fun f cdv A outer s H vs Q E hr h => ?_)
  · obtain ⟨a, ns, k, rfl, _⟩ := h
    rfl
  obtain ⟨a, ns, k, rfl, hS, h63, hk, q⟩ := h
  have nd := sc__law_feed.nd
  have hl : (ns.map V.int).length = ns.length := List.length_map _
  refine ⟨_, (pss_cons (ps_set (i := 2) nd rfl (by first | exact Or.inl rfl | exact Or.inr rfl) pe_int)
      (pss_cons (ps_if (pt_cmpR op_lt (pv 1) (pe_callB call_len_seq rfl T.z_len PySem.boot_len (pa_cons (pv 0) pa_nil star_name)) (nomark _)) (pss_one (ps_set (i := 2) nd rfl (by first | exact Or.inl rfl | exact Or.inr rfl) (pe_ix ix_list (pv 0) (pv 1) (fun _ _ => rfl)))) pss_nil)
      (pss_cons (ps_if (PW.pt (pw_and (pt_cmpR op_gt (pe_callB call_len_seq rfl T.z_len PySem.boot_len (pa_cons (pv 0) pa_nil star_name)) pe_int (nomark _)) (pw_and1 (pt_cmpR op_eq (pe_op op_mod (pe_ix ix_list (pv 0) pe_int (fun _ _ => rfl)) pe_int) pe_int (nomark _))))) (pss_one (ps_ret (pe_lst (pa_cons (pv 2) (pa_cons (pe_op op_add (pe_op op_mod (pe_op op_add (pe_op op_mul (pe_op op_mod (pv 2) pe_int) pe_int) (pe_op op_mul pe_int (pv 1))) pe_int) pe_int) pa_nil star_bin) star_name)))) pss_nil)
      (pss_cons (ps_if (PW.pt (pw_and (pt_cmpR op_ge (pv 1) (pe_callB call_len_seq rfl T.z_len PySem.boot_len (pa_cons (pv 0) pa_nil star_name)) (nomark _)) (pw_and1 (pt_cmpR op_gt (pe_callB call_len_seq rfl T.z_len PySem.boot_len (pa_cons (pv 0) pa_nil star_name)) pe_int (nomark _))))) (pss_one (ps_set (i := 2) nd rfl (by first | exact Or.inl rfl | exact Or.inr rfl) (pe_op op_add (pe_ix ix_list (pv 0) (pe_op op_mod (pv 1) (pe_callB call_len_seq rfl T.z_len PySem.boot_len (pa_cons (pv 0) pa_nil star_name))) (fun _ _ => rfl)) (pe_op op_mul pe_int (pv 1))))) pss_nil)
      (pss_one (ps_ret (pe_lst (pa_cons pe_int (pa_cons (pe_op op_add (pe_op op_mod (pe_op op_add (pe_op op_mul (pe_op op_mod (pv 2) pe_int) pe_int) (pe_op op_mul pe_int (pv 1))) pe_int) pe_int) pa_nil star_bin) star_const)))))))), ?_⟩
  -- the first item, where there is one
  have h0 : 0 < ns.length → ∃ v : Int, atI (ns.map V.int) 0 = some (.int v) := fun h => at_ints (Int.le_refl 0) (by omega)
  walk_at "rd"
  refine ite2 (fun c => ?_) (fun c => ?_)
  · have c' := of_decide_eq_true c
    rw [hl] at c'
    obtain ⟨v, hv⟩ := at_ints (ns := ns) hk c'
    obtain ⟨v0, hv0⟩ := h0 (by omega)
    walk_at "rd"
    refine ite2 (fun c2 => ?_) (fun c2 => ?_)
    · walk_at "rd"
      refine ite2 (fun c3 => ?_) (fun c3 => ?_)
      · walk_at "rd"
        exact ⟨two_fits, fun l hl' => q l _ _ hl'⟩
      · walk_at "rd"
        refine ite2 (fun c4 => ?_) (fun c4 => ?_)
        · have c4' := of_decide_eq_true c4
          rw [hl] at c4'
          omega
        · refine iteF ?_
          walk_at "rd"
          exact ⟨two_fits, fun l hl' => q l _ _ hl'⟩
    · have c2' := of_decide_eq_false (Bool.eq_false_iff.mpr c2)
      rw [hl] at c2'
      omega
  · have c' := of_decide_eq_false (Bool.eq_false_iff.mpr c)
    rw [hl] at c'
    walk_at "rd"
    refine ite2 (fun c2 => ?_) (fun c2 => ?_)
    · have c2' := of_decide_eq_true c2
      rw [hl] at c2'
      obtain ⟨v0, hv0⟩ := h0 (by omega)
      walk_at "rd"
      refine ite2 (fun c3 => ?_) (fun c3 => ?_)
      · walk_at "rd"
        exact ⟨two_fits, fun l hl' => q l _ _ hl'⟩
      · walk_at "rd"
        refine ite2 (fun c4 => ?_) (fun c4 => ?_)
        · walk_at "rd"
          refine ite2 (fun c5 => ?_) (fun c5 => ?_)
          · obtain ⟨v, hv⟩ := at_ints (ns := ns) (k := k % (ns.length : Int)) (Int.emod_nonneg _ (by omega)) (Int.emod_lt_of_pos _ (by omega))
            rw [← hl] at hv
            have hp : (0 : Int) < ((ns.map V.int).length : Nat) := by rw [hl]; omega
            walk_at "rd"
            exact ⟨two_fits, fun l hl' => q l _ _ hl'⟩
          · walk_at "rd"
            exact ⟨two_fits, fun l hl' => q l _ _ hl'⟩
        · refine iteF ?_
          walk_at "rd"
          exact ⟨two_fits, fun l hl' => q l _ _ hl'⟩
    · refine iteF ?_
      walk_at "rd"
      refine ite2 (fun c4 => ?_) (fun c4 => ?_)
      · walk_at "rd"
        refine ite2 (fun c5 => ?_) (fun c5 => ?_)
        · have c2' := of_decide_eq_false (Bool.eq_false_iff.mpr c2)
          exact absurd (of_decide_eq_true c5) c2'
        · walk_at "rd"
          exact ⟨two_fits, fun l hl' => q l _ _ hl'⟩
      · refine iteF ?_
        walk_at "rd"
        exact ⟨two_fits, fun l hl' => q l _ _ hl'⟩
theorem ok__law_take (T : Tx K mg) : DefIs P w K mg base (n + 1) "_law_take" ["_law_feed_here", "_law_many"] spTake := by
  refine DefIs.of T.d__law_take sc__law_take (fun vs H Q E h => ?_) (fun f cdv A outer s H vs Q E hr h => ?_)
  · obtain ⟨a, p, q, m, rfl, _⟩ := h
    rfl
  obtain ⟨a, p, q, m, rfl, ha, m0, m1, k⟩ := h
  have nd := sc__law_take.nd
  have hS : SqL K H a [.int p, .int q] := SqL.of ha
  refine ⟨_, (pss_cons (ps_if (pt_cmpR op_gt (pe_ix ix_list (pv 0) pe_int (fun _ _ => rfl)) pe_int (nomark _)) (pss_cons (ps_set (i := 2) nd rfl (by first | exact Or.inl rfl | exact Or.inr rfl) (pe_op op_mod (pe_ix ix_list (pv 0) pe_int (fun _ _ => rfl)) (pv 1)))
      (pss_cons (ps_asg (pe_op op_fdivB (pe_ix ix_list (pv 0) pe_int (fun _ _ => rfl)) (pv 1)) (pg_sub (pv 0) pe_int set_list))
      (pss_one (ps_ret (pv 2))))) pss_nil)
      (pss_cons (ps_set (i := 3) nd rfl (by first | exact Or.inl rfl | exact Or.inr rfl) (pe_op op_mod (pe_op op_mul (pe_ix ix_list (pv 0) pe_int (fun _ _ => rfl)) pe_int) pe_int))
      (pss_cons (ps_asg (pe_op op_add (pe_op op_mod (pe_op op_add (pe_op op_mul (pv 3) pe_int) pe_int) pe_int) pe_int) (pg_sub (pv 0) pe_int set_list))
      (pss_one (ps_ret (pe_op op_mod (pe_op op_fdivB (pe_op op_add (pe_op op_mul (pv 3) pe_int) (pe_ix ix_list (pv 0) pe_int (fun _ _ => rfl))) pe_int) (pv 1))))))), ?_⟩
  walk_at "rd"
  refine ite2 (fun c => ?_) (fun c => ?_)
  · walk_at "rd"
    refine k _ _ (Int.emod_nonneg _ (by omega)) (Int.emod_lt_of_pos _ m0) Fed.of
  · walk_at "rd"
    refine ⟨_, _, _, _, rfl, rfl, SqL.of upd_same, rfl, ?_⟩
    walk_at "rd"
    refine k _ _ (Int.emod_nonneg _ (by omega)) (Int.emod_lt_of_pos _ m0) Fed.of
end
end K10

end

section
set_option Elab.async false
set_option linter.all false
set_option maxRecDepth 100000
set_option maxHeartbeats 4000000
namespace K10
open PySem L2 M
seal L2.PE L2.PA L2.PS L2.PSs L2.PT L2.PW L2.PI L2.PG L2.PJ L2.PTs
noncomputable def spNames : Sp := fun vs H Q _ => ∃ c : Int, vs = [.int c, .int 26] ∧ ∀ (b : Addr) (H' : Hp) (nms : List Str), Same H H' → H b = none → H' b = some (.lst (nms.map V.str)) → NmsOk nms → Q (.ref b) H'
section
variable {P : Program} {w : World} {K : PySem.W.Frag} {mg : Str → Option Value} {base : Heap} {n m : Nat}
theorem ok__law_names (T : Tx K mg) : DefIs P w K mg base (n + 1) "_law_names" ["_law_cell", "_law_many"] spNames := by
  refine DefIs.of T.d__law_names sc__law_names (fun vs H Q E h => ?_) (fun f cdv A outer s H vs Q E hr h => ?_)
  · obtain ⟨_, rfl, _⟩ := h
    rfl
  obtain ⟨c, rfl, k⟩ := h
  have nd := sc__law_names.nd
  refine ⟨_, (pss_cons (ps_set (i := 2) nd rfl (by first | exact Or.inl rfl | exact Or.inr rfl) pe_str)
      (pss_cons (ps_set (i := 3) nd rfl (by first | exact Or.inl rfl | exact Or.inr rfl) (pe_op op_mod (pv 0) pe_int))
      (pss_cons (ps_set (i := 4) nd rfl (by first | exact Or.inl rfl | exact Or.inr rfl) (pe_op op_mod (pe_op op_fdivB (pv 0) pe_int) (pe_op op_add (pv 3) pe_int)))
      (pss_cons (ps_set (i := 5) nd rfl (by first | exact Or.inl rfl | exact Or.inr rfl) (pe_bm PySem.F.plainAttrs_str PySem.F.slot_str_join PySem.F.type_str_join mt_join pe_str (pa_cons (pe_comp ["_law_j", "_law_cell"] [none, some 0] rfl (by kernel_rfl) (pi_range1 rfl T.z_range (pa_cons (pv 3) pa_nil star_name)) (fun _ _ _ _ => (pg_name (i := 0) (by show List.Nodup (["_law_j", "_law_cell"] : List Str); decide +kernel) rfl (Or.inl rfl))) (fun _ _ _ _ => pts_nil) (fun _ _ _ _ => (pe_ix ix_str pe_str (pe_op op_mod (pe_op op_add (pe_op op_fdivB (pv 1) pe_int) (pv 0)) pe_int) (fun _ _ => rfl)))) pa_nil star_comp)))
      (pss_cons (ps_set (i := 6) nd rfl (by first | exact Or.inl rfl | exact Or.inr rfl) (pe_comp ["_law_k", "_law_common", "_law_letters", "_law_at", "_law_cell"] [none, some 5, some 2, some 4, some 0] rfl (by kernel_rfl) (pi_range1 rfl T.z_range (pa_cons (pv 1) pa_nil star_name)) (fun _ _ _ _ => (pg_name (i := 0) (by show List.Nodup (["_law_k", "_law_common", "_law_letters", "_law_at", "_law_cell"] : List Str); decide +kernel) rfl (Or.inl rfl))) (fun _ _ _ _ => pts_nil) (fun _ _ _ _ => (pe_op op_add_str (pe_op op_add_str (pe_slice sl_str (pv 1) po_none (po_some (pv 3))) (pe_ix ix_str (pv 2) (pe_op op_mod (pe_op op_add (pe_op op_fdivB (pv 4) pe_int) (pe_op op_mul pe_int (pv 0))) pe_int) (fun _ _ => rfl))) (pe_slice sl_str (pv 1) (po_some (pv 3)) po_none)))))
      (pss_cons (ps_if (pt_cmpR op_eq (pe_op op_mod (pe_op op_fdivB (pv 0) pe_int) pe_int) pe_int (nomark _)) (pss_one (ps_ret (pv 6))) pss_nil)
      (pss_one (ps_ret (pe_comp ["_law_k", "_law_found"] [none, some 6] rfl (by kernel_rfl) (pi_range1 rfl T.z_range (pa_cons (pv 1) pa_nil star_name)) (fun _ _ _ _ => (pg_name (i := 0) (by show List.Nodup (["_law_k", "_law_found"] : List Str); decide +kernel) rfl (Or.inl rfl))) (fun _ _ _ _ => pts_nil) (fun _ _ _ _ => (pe_op op_add_str (pe_ix (ix_listC (K := K) rfl) (pv 1) (pe_op op_sub (pv 0) (pe_op op_mod (pv 0) pe_int)) (fun _ _ => rfl)) (pe_op op_mulS pe_str (pe_op op_mod (pv 0) pe_int))))))))))))), ?_⟩
  have m0 : 0 ≤ c % 5 := Int.emod_nonneg _ (by decide)
  have m5 : c % 5 < 5 := Int.emod_lt_of_pos _ (by decide)
  refine ⟨_, rfl, _, _, rfl, rfl, (by show (0 : Int) < 5; decide), ?_⟩
  have hp : 0 < (c % 5) + 1 := by omega
  refine ⟨_, rfl, _, _, rfl, rfl, ⟨by decide, by decide⟩, _, rfl, _, _, rfl, rfl, _, _, rfl, rfl, hp, ?_⟩
  have a0 : 0 ≤ c / 5 % ((c % 5) + 1) := Int.emod_nonneg _ (by omega)
  have a1 : c / 5 % ((c % 5) + 1) < (c % 5) + 1 := Int.emod_lt_of_pos _ hp
  refine ⟨rfl, _, rfl, _, rfl, by omega, by omega, ?_⟩
  refine comp_range (j := 0) (fun i ys H' => H' = H ∧ ∃ cs : List Nat, ys = (cs.map single).map V.str ∧ ∀ c ∈ cs, c ∈ five) (by rfl) ⟨rfl, [], rfl, fun _ h => nomatch h⟩ (fitsLt (by omega)) ?_ ?_
  · rintro i ys H' hi hl ⟨rfl, cs, rfl, hcs⟩
    refine ⟨_, rfl, _, _, rfl, rfl, ⟨by decide, by decide⟩, _, rfl, _, _, rfl, rfl, _, _, rfl, rfl, (by show (0 : Int) < 5; decide), ?_⟩
    obtain ⟨ch, hch, hat⟩ := five_at (Int.emod_nonneg (c / 25 + (0 + (i : Int))) (by decide : (5 : Int) ≠ 0)) (Int.emod_lt_of_pos _ (by decide))
    refine ⟨_, _, ch, rfl, rfl, by decide +kernel, hat, ?_⟩
    exact nxt hi hl ⟨rfl, cs ++ [ch], by simp [single], fun x hx => by
      rcases List.mem_append.mp hx with hx | hx
      · exact hcs x hx
      · rw [List.mem_singleton.mp hx]; exact hch⟩
  · rintro ys H' hl ⟨rfl, cs, rfl, hcs⟩ D hD
    rw [List.length_map, List.length_map] at hl
    refine ⟨S "", D, cs.map single, rfl, rfl, SqL.of upd_same, ?_, ?_⟩
    · rw [sum_singles, show (S "").length = 0 by decide +kernel]
      omega
    rw [join_singles]
    have sD := Same.new hD (.lst ((cs.map single).map V.str))
    generalize upd H' D (.lst ((cs.map single).map V.str)) = H1 at sD ⊢
    have hlen : (ofL cs).length = cs.length := by rw [← L_length, L_ofL]
    have c4 : cs.length ≤ 4 := by omega
    -- the names
    refine ⟨_, rfl, _, rfl, by decide, by decide, ?_⟩
    refine comp_range (j := 0) (fun i ys H2 => H2 = H1 ∧ ys = ((List.range i).map fun k => ofL (nmA cs (c / 5 % (c % 5 + 1)).toNat (c / 125) k)).map V.str) (by rfl) ⟨rfl, rfl⟩ (fitsLt (by decide)) ?_ ?_
    · rintro i ys H2 hi hl2 ⟨rfl, rfl⟩
      have e0 : (0 + (i : Int)) = (i : Int) := by omega
      have li0 : 0 ≤ (c / 125 + 5 * (0 + (i : Int))) % 26 := Int.emod_nonneg _ (by decide)
      have li1 : (c / 125 + 5 * (0 + (i : Int))) % 26 < 26 := Int.emod_lt_of_pos _ (by decide)
      refine ⟨_, rfl, _, rfl, _, rfl, _, rfl, fits (by rw [hlen]; omega), ?_⟩
      refine ⟨_, rfl, _, rfl, _, _, rfl, rfl, ⟨by decide, by decide⟩, _, rfl, _, _, rfl, rfl, .inl ⟨by decide, by decide⟩, _, _, rfl, rfl, _, _, rfl, rfl, (by show (0 : Int) < 26; decide), ?_⟩
      refine ⟨_, _, _, rfl, rfl, by decide +kernel, letter_is li0 li1, ?_⟩
      rw [slice_to (ofL cs) a0 (by rw [hlen]; omega)]
      refine ⟨_, _, rfl, rfl, ?_, ?_⟩
      · refine fits ?_
        rw [show (ofL ((L (ofL cs)).take (c / 5 % (c % 5 + 1)).toNat)).length = (cs.take (c / 5 % (c % 5 + 1)).toNat).length by rw [← L_length, L_ofL, L_ofL], List.length_take]
        show _ + 1 ≤ _
        omega
      refine ⟨_, rfl, _, rfl, _, rfl, _, rfl, fits (by rw [hlen]; omega), ?_⟩
      rw [slice_from (ofL cs) a0 (by rw [hlen]; omega), L_ofL]
      refine ⟨_, _, rfl, rfl, ?_, ?_⟩
      · refine fits ?_
        rw [Str.length_append, show (ofL (cs.take (c / 5 % (c % 5 + 1)).toNat)).length = (cs.take (c / 5 % (c % 5 + 1)).toNat).length by rw [← L_length, L_ofL], show (ofL (cs.drop (c / 5 % (c % 5 + 1)).toNat)).length = (cs.drop (c / 5 % (c % 5 + 1)).toNat).length by rw [← L_length, L_ofL], List.length_take, List.length_drop]
        show _ + 1 + _ ≤ _
        omega
      rw [name_text]
      refine nxt hi hl2 ⟨rfl, ?_⟩
      rw [List.range_succ, List.map_append, List.map_append, e0]
      rfl
    · rintro ys H2 hl2 ⟨rfl, rfl⟩ D2 hD2
      have sD2 := Same.new hD2 (.lst (((List.range 26).map fun k => ofL (nmA cs (c / 5 % (c % 5 + 1)).toNat (c / 125) k)).map V.str))
      refine ⟨_, rfl, _, _, rfl, rfl, ⟨by decide, by decide⟩, _, _, rfl, rfl, (by show (0 : Int) < 3; decide), rfl, _, rfl, ite2 (fun cc => ?_) (fun cc => ?_)⟩
      · exact ⟨_, rfl, k D2 _ _ (sD.trans sD2) (none_of_same sD hD2) upd_same (nmsA c4 hcs)⟩
      · refine ⟨_, rfl, _, rfl, by decide, by decide, ?_⟩
        obtain ⟨H3, hH3⟩ : ∃ H3, H3 = upd H2 D2 (.lst (((List.range 26).map fun k => ofL (nmA cs (c / 5 % (c % 5 + 1)).toNat (c / 125) k)).map V.str)) := ⟨_, rfl⟩
        have hb : H3 D2 = some (.lst (((List.range 26).map fun k => ofL (nmA cs (c / 5 % (c % 5 + 1)).toNat (c / 125) k)).map V.str)) := by rw [hH3]; exact upd_same
        rw [← hH3] at sD2
        refine comp_range (j := 0) (fun i ys H4 => H4 = H3 ∧ ys = ((List.range i).map fun k => ofL (nmB cs (c / 5 % (c % 5 + 1)).toNat (c / 125) k)).map V.str) (by rfl) ⟨hH3.symm, rfl⟩ (fitsLt (by decide)) ?_ ?_
        · rintro i ys H4 hi hl3 ⟨rfl, rfl⟩
          have hi' : i < 26 := hi
          have er : (0 + (i : Int)) % 2 = ((i % 2 : Nat) : Int) := by omega
          have es : (0 + (i : Int)) - (0 + (i : Int)) % 2 = ((i - i % 2 : Nat) : Int) := by omega
          refine ⟨_, rfl, _, rfl, _, rfl, _, _, rfl, rfl, (by show (0 : Int) < 2; decide), _, _, rfl, rfl, D2, _, _, .str (ofL (nmA cs (c / 5 % (c % 5 + 1)).toNat (c / 125) (i - i % 2))), rfl, rfl, SqL.of hb, ?_, ?_⟩
          · rw [es]
            refine atI_nat ?_
            rw [List.getElem?_map, List.getElem?_map, List.getElem?_range (by omega)]
            rfl
          refine ⟨_, rfl, _, _, rfl, rfl, (by show (0 : Int) < 2; decide), _, _, rfl, rfl, by omega, ?_⟩
          refine ⟨_, _, rfl, rfl, ?_, ?_⟩
          · refine fits ?_
            rw [show (ofL (nmA cs (c / 5 % (c % 5 + 1)).toNat (c / 125) (i - i % 2))).length = cs.length + 1 by rw [← L_length, L_ofL, nmA_len]]
            have : (if (0 + (i : Int)) % 2 = 1 then S "q" else Str.empty).length ≤ 1 := by split <;> decide +kernel
            show _ + (if (0 + (i : Int)) % 2 = 1 then S "q" else Str.empty).length ≤ _
            omega
          refine nxt hi hl3 ⟨rfl, ?_⟩
          rw [List.range_succ, List.map_append, List.map_append]
          congr 1
          show [V.str _] = [V.str _]
          congr 2
          apply L_inj
          rw [L_append, L_ofL, L_ofL]
          unfold nmB
          congr 1
          rw [er]
          rcases Nat.mod_two_eq_zero_or_one i with e | e
          · rw [e]; decide +kernel
          · rw [e]; decide +kernel
        · rintro ys H4 hl3 ⟨rfl, rfl⟩ D4 hD4
          have sD4 := Same.new hD4 (.lst (((List.range 26).map fun k => ofL (nmB cs (c / 5 % (c % 5 + 1)).toNat (c / 125) k)).map V.str))
          exact k D4 _ _ (sD.trans (sD2.trans sD4)) (none_of_same (sD.trans sD2) hD4) upd_same (nmsB c4 hcs)
end
end K10

end

section
set_option Elab.async false
set_option linter.all false
set_option maxRecDepth 100000
set_option maxHeartbeats 4000000
namespace M
open PySem L2
structure KAny (ks : List Kn) : Prop where
  nm : ∀ k ∈ ks, Name k.name
  alt : ∀ k ∈ ks, k.rc = false → k.parts ≠ []
  few : ks.length ≤ 6
  pts : ∀ k ∈ ks, k.parts.length ≤ 5
  pnm : ∀ k ∈ ks, ∀ p ∈ k.parts, Name p.1
  pkd : ∀ k ∈ ks, ∀ p ∈ k.parts, p.2 = S "num" ∨ Name p.2
theorem KAny.nil : KAny [] := ⟨(fun _ h => nomatch h), (fun _ h => nomatch h), Nat.zero_le _, (fun _ h => nomatch h), (fun _ h => nomatch h), (fun _ h => nomatch h)⟩
structure K1 (k : Kn) : Prop where
  nm : Name k.name
  alt : k.rc = false → k.parts ≠ []
  pts : k.parts.length ≤ 5
  pnm : ∀ p ∈ k.parts, Name p.1
  pkd : ∀ p ∈ k.parts, p.2 = S "num" ∨ Name p.2
theorem KAny.one {ks : List Kn} (h : KAny ks) {k : Kn} (hk : k ∈ ks) : K1 k := ⟨h.nm k hk, h.alt k hk, h.pts k hk, h.pnm k hk, h.pkd k hk⟩
theorem KAny.all {ks : List Kn} (h : ∀ k ∈ ks, K1 k) (l : ks.length ≤ 6) : KAny ks := ⟨fun k hk => (h k hk).nm, fun k hk => (h k hk).alt, l, fun k hk => (h k hk).pts, fun k hk => (h k hk).pnm, fun k hk => (h k hk).pkd⟩
theorem KAny.snoc {ks : List Kn} (h : KAny ks) {k : Kn} (hk : K1 k) (l : ks.length < 6) : KAny (ks ++ [k]) := by
  refine KAny.all (fun z hz => ?_) (by rw [List.length_append, List.length_singleton]; omega)
  rcases List.mem_append.mp hz with hz | hz
  · exact h.one hz
  · rw [List.mem_singleton.mp hz]; exact hk
theorem KAny.sub {ks ls : List Kn} (h : KAny ks) (s : ∀ k ∈ ls, k ∈ ks) (l : ls.length ≤ 6) : KAny ls := KAny.all (fun k hk => h.one (s k hk)) l
theorem KWf.any {ks : List Kn} (w : KWf ks) : KAny ks := by
  refine ⟨w.nm, w.alt, w.few, w.pts, w.pnm, fun k hk p hp => ?_⟩
  obtain ⟨i, hi, e⟩ := List.mem_iff_getElem.mp hk
  rcases w.ref i k (by rw [← e]; exact List.getElem?_eq_getElem hi) p hp with h | ⟨j, k', _, hj, h⟩
  · exact .inl h
  · exact .inr (by rw [← h]; exact w.nm k' (List.mem_of_getElem? hj))
noncomputable def nmIn (as : List Kn) (x : Str) : Bool := decide (x ∈ as.map Kn.name)
noncomputable def dupB (k : Kn) : Bool := !decide ((k.parts.map (fun p : Str × Str => p.1)).Nodup)
noncomputable def twB (as : List Kn) (k : Kn) : Bool := nmIn as k.name || dupB k
noncomputable def nnP (as : List Kn) (p : Str × Str) : Bool := !decide (p.2 = S "num") && !nmIn as p.2
noncomputable def nnB (as : List Kn) (k : Kn) : Bool := k.parts.any (nnP as)
noncomputable def bigB (as : List Kn) (k : Kn) : Bool := decide (30 < 1 + inSz k (sz as))
noncomputable def res1 (as : List Kn) (k : Kn) : Option Nat := if twB as k = true then some 1 else if nnB as k = true then some 2 else if bigB as k = true then some 8 else none
noncomputable def dueB (as : List Kn) (k : Kn) : List Str := if nnB as k = true then [S "NoName"] else if bigB as k = true then [S "TooBig"] else []
noncomputable def due1 (as : List Kn) (k : Kn) : List Str := (if twB as k = true then [S "Twice"] else []) ++ dueB as k
noncomputable def resK : List Kn → List Kn → Option Nat
  | _, [] => none
  | as, k :: ks => match res1 as k with | some c => some c | none => resK (as ++ [k]) ks
noncomputable def dueK : List Kn → List Kn → Nat × List Str
  | as, [] => (as.length, [])
  | as, k :: ks => if due1 as k = [] then dueK (as ++ [k]) ks else (as.length, due1 as k)
noncomputable def wordK (c : Nat) : Str := if c = 1 then S "Twice" else if c = 2 then S "NoName" else S "TooBig"
theorem due1_nil {as : List Kn} {k : Kn} (h : due1 as k = []) : res1 as k = none := by
  unfold due1 dueB at h
  unfold res1
  cases h1 : twB as k <;> cases h2 : nnB as k <;> cases h3 : bigB as k <;> simp_all
theorem due1_some {as : List Kn} {k : Kn} (h : due1 as k ≠ []) : ∃ c, res1 as k = some c ∧ (c = 1 ∨ c = 2 ∨ c = 8) ∧ wordK c ∈ due1 as k := by
  unfold due1 dueB at h ⊢
  unfold res1
  cases h1 : twB as k <;> cases h2 : nnB as k <;> cases h3 : bigB as k <;> simp_all [wordK]
theorem res1_none {as : List Kn} {k : Kn} (h : res1 as k = none) : twB as k = false ∧ nnB as k = false ∧ bigB as k = false := by
  unfold res1 at h
  cases h1 : twB as k <;> cases h2 : nnB as k <;> cases h3 : bigB as k <;> simp_all
theorem due_res : ∀ (ks as : List Kn), ((dueK as ks).2 = [] ∧ resK as ks = none) ∨ ∃ c, resK as ks = some c ∧ (c = 1 ∨ c = 2 ∨ c = 8) ∧ wordK c ∈ (dueK as ks).2
  | [], as => .inl ⟨rfl, rfl⟩
  | k :: ks, as => by
    unfold dueK resK
    by_cases h : due1 as k = []
    · rw [if_pos h, due1_nil h]
      exact due_res ks (as ++ [k])
    · rw [if_neg h]
      obtain ⟨c, h1, h2, h3⟩ := due1_some h
      refine .inr ⟨c, ?_, h2, h3⟩
      rw [h1]
theorem due_len : ∀ (ks as : List Kn), as.length ≤ (dueK as ks).1 ∧ (dueK as ks).1 ≤ as.length + ks.length ∧ (dueK as ks).2.length ≤ 2
  | [], as => by unfold dueK; simp
  | k :: ks, as => by
    unfold dueK
    by_cases h : due1 as k = []
    · rw [if_pos h]
      have := due_len ks (as ++ [k])
      rw [List.length_append, List.length_singleton] at this
      rw [List.length_cons]
      omega
    · rw [if_neg h]
      refine ⟨Nat.le_refl _, Nat.le_add_right _ _, ?_⟩
      show (due1 as k).length ≤ 2
      unfold due1 dueB
      cases h1 : twB as k <;> cases h2 : nnB as k <;> cases h3 : bigB as k <;> simp
theorem due_ahead : ∀ (ks as : List Kn), resK as (ks.take ((dueK as ks).1 - as.length)) = none
  | [], as => by simp [resK]
  | k :: ks, as => by
    by_cases h : due1 as k = []
    · have e : dueK as (k :: ks) = dueK (as ++ [k]) ks := by
        conv => lhs; unfold dueK
        rw [if_pos h]
      rw [e]
      have hl := (due_len ks (as ++ [k])).1
      rw [List.length_append, List.length_singleton] at hl
      obtain ⟨m, hm⟩ : ∃ m, (dueK (as ++ [k]) ks).1 - as.length = m + 1 := ⟨(dueK (as ++ [k]) ks).1 - as.length - 1, by omega⟩
      rw [hm, List.take_succ_cons]
      unfold resK
      rw [due1_nil h]
      have ih := due_ahead ks (as ++ [k])
      rw [List.length_append, List.length_singleton] at ih
      have e2 : (dueK (as ++ [k]) ks).1 - (as.length + 1) = m := by omega
      rw [e2] at ih
      exact ih
    · have e : dueK as (k :: ks) = (as.length, due1 as k) := by
        conv => lhs; unfold dueK
        rw [if_neg h]
      rw [e]
      simp [resK]
theorem nnB_kin {as : List Kn} {k : Kn} (h : nnB as k = false) : ∀ p ∈ k.parts, KIn as as.length p.2 := fun p hp => by
  have h1 : nnP as p = false := by
    unfold nnB at h
    rw [List.any_eq_false] at h
    simpa using h p hp
  refine KIn.of ?_
  by_cases e : p.2 = S "num"
  · exact .inl e
  · unfold nnP at h1
    rw [decide_eq_false e] at h1
    simp only [Bool.not_false, Bool.true_and, Bool.not_eq_false'] at h1
    obtain ⟨z, hz, e2⟩ := List.mem_map.mp (of_decide_eq_true h1)
    exact .inr ⟨z, hz, e2⟩
theorem let_by {as : List Kn} {k : Kn} (w : KWf as) (f : Fit as) (k1 : K1 k) (l : as.length < 6) (h : res1 as k = none) : KWf (as ++ [k]) ∧ Fit (as ++ [k]) := by
  obtain ⟨h1, h2, h3⟩ := res1_none h
  unfold twB at h1
  rw [Bool.or_eq_false_iff] at h1
  have hp := nnB_kin h2
  have w2 : KWf (as ++ [k]) := w.snoc (of_decide_eq_false h1.1) k1.nm hp k1.alt l k1.pts (by have := h1.2; unfold dupB at this; simpa using this) k1.pnm
  refine ⟨w2, Fit.snoc w w2 f hp ?_⟩
  have := of_decide_eq_false h3
  omega
theorem szK_self {as : List Kn} {k : Kn} (w : KWf as) (w2 : KWf (as ++ [k])) : szK (as ++ [k]) as.length = szK as as.length := by
  unfold szK
  rw [List.take_left' rfl, List.take_length]
  congr 1
  refine List.map_congr_left fun z hz => ?_
  unfold szR
  rw [sz_ap w w2 (kin_all hz)]
theorem sz_last {as : List Kn} {k : Kn} (w : KWf as) (w2 : KWf (as ++ [k])) (hp : ∀ p ∈ k.parts, KIn as as.length p.2) : sz (as ++ [k]) k.name = 1 + inSz k (sz as) := by
  rw [sz_at w2 (i := as.length) (by simp), inSz_congr (g := sz as) fun p hp' => sz_ap w w2 (hp p hp')]
theorem szK_snoc {as : List Kn} {k : Kn} (w : KWf as) (w2 : KWf (as ++ [k])) (hp : ∀ p ∈ k.parts, KIn as as.length p.2) : putK (szK as as.length) (Sum.inr k.name) (.int (1 + inSz k (sz as))) = szK (as ++ [k]) (as ++ [k]).length := by
  have := szK_put w2 (i := as.length) (k := k) (by simp)
  rw [szK_self w w2, sz_last w w2 hp] at this
  rw [this, List.length_append, List.length_singleton]
theorem szK_has {as : List Kn} (w : KWf as) (x : Str) : (valV (szK as as.length) (Sum.inr x)).isSome = (decide (x = S "num") || nmIn as x) := by
  by_cases e : x = S "num"
  · subst e
    rw [szK_get w (.inl rfl), decide_eq_true rfl]
    rfl
  · rw [decide_eq_false e, Bool.false_or]
    by_cases h : x ∈ as.map Kn.name
    · obtain ⟨k, hk, rfl⟩ := List.mem_map.mp h
      rw [szK_get w (kin_all hk)]
      unfold nmIn
      rw [decide_eq_true h]
      rfl
    · unfold nmIn szK
      rw [decide_eq_false h, valV_neg (fun q => e (Sum.inr.inj q).symm), valV_szR, List.take_length, List.find?_eq_none.mpr]
      · rfl
      · intro z hz q
        exact h (List.mem_map.mpr ⟨z, hz, by simpa using q⟩)
theorem inSz_bound {as : List Kn} {k : Kn} (w : KWf as) (h5 : k.parts.length ≤ 5) : 0 ≤ inSz k (sz as) ∧ inSz k (sz as) ≤ 1400000 := by
  have all : ∀ m ∈ k.parts.map (fun p => sz as p.2), 1 ≤ m ∧ m ≤ 279936 := fun m hm => by
    obtain ⟨p, _, rfl⟩ := List.mem_map.mp hm
    exact ⟨sz_ge w _, sz_le w _⟩
  have hl : (k.parts.map (fun p => sz as p.2)).length ≤ 5 := by rw [List.length_map]; exact h5
  unfold inSz
  generalize k.parts.map (fun p => sz as p.2) = ns at all hl ⊢
  have hs : ∀ (l : List Int), (∀ m ∈ l, 1 ≤ m ∧ m ≤ (279936 : Int)) → 0 ≤ l.sum ∧ l.sum ≤ l.length * 279936 := by
    intro l
    induction l with
    | nil => intro _; simp
    | cons a r ih =>
      intro h
      have h1 := h a (by simp)
      have h2 := ih fun m hm => h m (List.mem_cons_of_mem _ hm)
      rw [List.sum_cons, List.length_cons]
      push_cast
      omega
  have h1 := hs ns all
  have h2 : maxD ns ≤ 279936 := maxD_le (by decide) fun n hn => (all n hn).2
  have h3 : 0 ≤ maxD ns := by
    cases ns with
    | nil => exact Int.le_refl _
    | cons a r =>
      have := all a (by simp)
      have := maxD_ge (ns := a :: r) (n := a) (by simp)
      omega
  split <;> omega
noncomputable def dotK (k : Kn) : Kn := ⟨S ".", k.rc, k.parts⟩
theorem dot_no {x : Str} (h : Name x) : x ≠ S "." := fun e => by
  rw [e] at h
  exact absurd (show nameL (S ".").cps.toList = true from h) (by decide +kernel)
theorem kAt_dot {as : List Kn} {k : Kn} (w : KWf as) : kAt (as ++ [dotK k]) (S ".") = some (dotK k) := by
  have h0 : kAt as (S ".") = none := KWf.no fun z hz => dot_no (w.nm z hz)
  unfold kAt at h0 ⊢
  rw [List.find?_append, h0]
  rfl
theorem kAt_dot_num {as : List Kn} {k : Kn} (w : KWf as) : kAt (as ++ [dotK k]) (S "num") = none := by
  have h0 : kAt as (S "num") = none := w.num
  unfold kAt at h0 ⊢
  rw [List.find?_append, h0]
  rw [Option.none_or, List.find?_cons, show decide ((dotK k).name = S "num") = false from (by show decide (S "." = S "num") = false; decide +kernel)]
  rfl
noncomputable def Dp : Nat → List Kn → Str → Prop
  | 0, ks, x => kAt ks x = none
  | m + 1, ks, x => ∀ k, kAt ks x = some k → (k.rc = false → k.parts ≠ []) ∧ ∀ p ∈ k.parts, Dp m ks p.2
theorem dp_kin {ks : List Kn} (w : KWf ks) : ∀ (m : Nat) (x : Str), KIn ks m x → Dp m ks x
  | 0, x, h => by
    rcases h with rfl | ⟨j, k, hj, _⟩
    · exact w.num
    · omega
  | m + 1, x, h => fun k e => by
    have hm : k ∈ ks := List.mem_of_find?_eq_some e
    refine ⟨w.alt k hm, fun p hp => ?_⟩
    have hn : k.name = x := by simpa using List.find?_some e
    rcases h with rfl | ⟨j, k', hj, hk', e'⟩
    · exact absurd hn (name_ne_num (w.nm k hm))
    · have e2 : kAt ks k'.name = some k' := w.at hk'
      rw [e', e] at e2
      cases e2
      exact dp_kin w m p.2 (KIn.mono (n := j) (w.ref j k hk' p hp) (by omega))
theorem dp_ap {as : List Kn} {k : Kn} (w : KWf as) : ∀ (m : Nat) (x : Str), (x = S "num" ∨ ∃ z, kAt as x = some z) → Dp m as x → (∀ i z, as[i]? = some z → ∀ p ∈ z.parts, KIn as i p.2) → Dp m (as ++ [dotK k]) x
  | 0, x, h, d, r => by
    rcases h with rfl | ⟨z, hz⟩
    · exact kAt_dot_num w
    · rw [show kAt as x = none from d] at hz; cases hz
  | m + 1, x, h, d, r => fun z e => by
    rcases h with rfl | ⟨y, hy⟩
    · rw [kAt_dot_num w] at e; cases e
    · rw [kAt_ap hy] at e
      obtain rfl := Option.some.inj e
      refine ⟨(d y hy).1, fun p hp => dp_ap w m p.2 ?_ ((d y hy).2 p hp) r⟩
      obtain ⟨i, hi⟩ := List.getElem?_of_mem (List.mem_of_find?_eq_some hy)
      rcases r i y hi p hp with q | ⟨j, k', _, hk', q⟩
      · exact .inl q
      · exact .inr ⟨k', by rw [← q]; exact w.at hk'⟩
theorem kin_look {as : List Kn} (w : KWf as) {n : Nat} {x : Str} (h : KIn as n x) : x = S "num" ∨ ∃ z, kAt as x = some z := by
  rcases h with h | ⟨j, k, _, hk, h⟩
  · exact .inl h
  · exact .inr ⟨k, by rw [← h]; exact w.at hk⟩
theorem dp_dot {as : List Kn} {k : Kn} (w : KWf as) (k1 : K1 k) (hp : ∀ p ∈ k.parts, KIn as as.length p.2) : Dp 7 (as ++ [dotK k]) (S ".") := fun z e => by
  rw [kAt_dot w] at e
  cases e
  refine ⟨k1.alt, fun p hp' => dp_ap w 6 p.2 (kin_look w (hp p hp')) (dp_kin w 6 p.2 ((hp p hp').mono w.few)) fun i z hz q hq => w.ref i z hz q hq⟩
theorem szF_dot {as : List Kn} {k : Kn} (w : KWf as) : ∀ (n : Nat) (x : Str), KIn as as.length x → szF n (as ++ [dotK k]) x = szF n as x
  | 0, _, _ => rfl
  | n + 1, x, h => by
    rcases h.look w with ⟨rfl, e⟩ | ⟨i, z, e0, e, _, _, hp⟩
    · rw [szF_num e, szF_num (kAt_dot_num w)]
    · rw [szF_eq e, szF_eq (kAt_ap e), List.map_congr_left (g := fun p => szF n as p.2) fun p hp' => szF_dot w n p.2 ((hp p hp').mono (by omega))]
theorem sz_dot {as : List Kn} {k : Kn} (w : KWf as) (hp : ∀ p ∈ k.parts, KIn as as.length p.2) : szF 8 (as ++ [dotK k]) (S ".") = 1 + inSz k (sz as) := by
  rw [szF_eq (kAt_dot w)]
  show 1 + inSz k (szF 7 (as ++ [dotK k])) = _
  rw [inSz_congr (g := sz as) fun p hp' => szF_dot w 7 p.2 (hp p hp')]
end M

end

section
set_option Elab.async false
set_option linter.all false
set_option maxRecDepth 100000
set_option maxHeartbeats 4000000
namespace K10
open PySem L2 M
seal L2.PE L2.PA L2.PS L2.PSs L2.PT L2.PW L2.PI L2.PG L2.PJ L2.PTs
noncomputable def spLSort : Sp := fun vs H Q _ => ∃ v ks x, vs = [v, .str x] ∧ KsSeq H v ks ∧ ∀ t pv H', Same H H' → H' t = some (.tup [.str (sortS (kAt ks x)), pv]) → RelD H' pv (partsD (kAt ks x)) → Q (.ref t) H'
noncomputable def spSize (m : Nat) : Sp := fun vs H Q _ => ∃ v ks x, vs = [v, .str x] ∧ KsSeq H v ks ∧ KWf ks ∧ KIn ks m x ∧ ∀ H', Same H H' → Q (.int (szF (m + 1) ks x)) H'
noncomputable def spSizeD (m : Nat) : Sp := fun vs H Q _ => ∃ v ks x, vs = [v, .str x] ∧ KsSeq H v ks ∧ (∀ k ∈ ks, k.parts.length ≤ 5) ∧ Dp m ks x ∧ ∀ H', Same H H' → Q (.int (szF (m + 1) ks x)) H'
section
variable {P : Program} {w : World} {K : PySem.W.Frag} {mg : Str → Option Value} {base : Heap} {n m : Nat}
theorem ok__law_sort_of (T : Tx K mg) : DefIs P w K mg base (n + 1) "_law_sort_of" ["_law_kinds_here", "_law_kind"] spLSort := by
  refine DefIs.of T.d__law_sort_of sc__law_sort_of (fun vs H Q E h => ?_) (fun f cdv A outer s H vs Q E hr h => ?_)
  · obtain ⟨_, _, _, rfl, _⟩ := h
    rfl
  obtain ⟨v, ks, x, rfl, ⟨a, us, rfl, hau, hR⟩, q⟩ := h
  have nd := sc__law_sort_of.nd
  refine ⟨_, (pss_cons (ps_for PassesOwn.never rfl (pi_or (pi_list (pv 0)) (pi_tup (pv 0))) (pg_tup rfl (pgs_cons (pg_name (i := 2) nd rfl (by first | exact Or.inl rfl | exact Or.inr rfl)) (pgs_cons (pg_name (i := 3) nd rfl (by first | exact Or.inl rfl | exact Or.inr rfl)) (pgs_cons (pg_name (i := 4) nd rfl (by first | exact Or.inl rfl | exact Or.inr rfl)) pgs_nil))))
      (pss_one (ps_if (pt_cmpR op_eq (pv 2) (pv 1) (nomark _)) (pss_one (ps_ret (pe_tup (pa_cons (pv 3) (pa_cons (pv 4) pa_nil star_name) star_name)))) pss_nil)))
      (pss_one (ps_ret (pe_tup (pa_cons pe_str (pa_cons (pe_tup pa_nil) pa_nil star_tup) star_const))))), ?_⟩
  have hl := hR.length
  rw [List.length_map] at hl
  have turn : ∀ (i : Nat) (v : V), us[i]? = some v → (ks.take i).find? (fun k => decide (k.name = x)) = none → ∃ k b pv, ks[i]? = some k ∧ v = .ref b ∧ H b = some (.tup [.str k.name, .str k.sort, pv]) ∧ RelD H pv (dParts k.parts) := fun i v hv hn => by
    obtain ⟨d, hd, rd⟩ := hR.get hv
    rw [List.getElem?_map] at hd
    obtain ⟨k, hk', rfl⟩ := Option.map_eq_some_iff.mp hd
    obtain ⟨b, ws, rfl, hb, _, _, rfl, rfl, _, _, rfl, rfl, v3, _, rfl, r3, rfl⟩ := rd
    exact ⟨k, b, v3, hk', rfl, hb, r3⟩
  rcases hau with ha | ha
  case' inl =>
    refine .inl ⟨_, rfl, a, rfl, ⟨_, SqL.of ha⟩, ?_⟩
    refine for_list (xs := us) (fun i σ H' => ∃ o2 o3 o4, σ = [some (.ref a), some (.str x), o2, o3, o4] ∧ H' = H ∧ (ks.take i).find? (fun k => decide (k.name = x)) = none) ⟨none, none, none, rfl, rfl, rfl⟩ (fun i σ H' _ p => by obtain ⟨_, _, _, _, rfl, _⟩ := p; exact SqL.of ha) ?_ ?_
  case' inr =>
    refine .inr ⟨_, rfl, a, rfl, ⟨_, SqT.of ha⟩, ?_⟩
    refine for_tup (xs := us) (fun i σ H' => ∃ o2 o3 o4, σ = [some (.ref a), some (.str x), o2, o3, o4] ∧ H' = H ∧ (ks.take i).find? (fun k => decide (k.name = x)) = none) ⟨none, none, none, rfl, rfl, rfl⟩ (fun i σ H' _ p => by obtain ⟨_, _, _, _, rfl, _⟩ := p; exact SqT.of ha) ?_ ?_
  all_goals first
    | (rintro i v σ H' hv ⟨o2, o3, o4, rfl, rfl, hn⟩
       obtain ⟨k, b, pv, hk', rfl, hb, r3⟩ := turn i v hv hn
       refine ⟨b, _, rfl, SqT.of hb, rfl, _, _, rfl, _, _, rfl, _, _, rfl, rfl, ?_⟩
       refine ⟨_, rfl, _, rfl, rfl, _, rfl, ite2 (fun c => ?_) (fun c => ?_)⟩
       · have e : k.name = x := V.str.inj (of_decide_eq_true c)
         have e2 : kAt ks x = some k := (find_step hn hk').1 (decide_eq_true e)
         refine ⟨_, rfl, _, rfl, (by show 2 ≤ sizeLine; decide), fun t ht => ?_⟩
         have st := Same.new ht (.tup [.str k.sort, pv])
         rw [e2] at q
         exact q t pv _ st upd_same (r3.same st _)
       · have e : ¬ k.name = x := fun z => c (decide_eq_true (congrArg V.str z))
         exact ⟨_, _, _, rfl, rfl, (find_step hn hk').2 (decide_eq_false e)⟩)
    | (rintro σ H' ⟨o2, o3, o4, rfl, rfl, hn⟩
       rw [List.take_of_length_le (by omega)] at hn
       rw [show kAt ks x = none from hn] at q
       refine ⟨(by show 0 ≤ sizeLine; decide), fun e he => ⟨(by show 2 ≤ sizeLine; decide), fun t ht => ?_⟩⟩
       have se := Same.new he (.tup [])
       have st := Same.new ht (.tup [.str (S "num"), .ref e])
       exact q t (.ref e) _ (se.trans st) upd_same ⟨e, [], rfl, st _ _ upd_same, rfl⟩)
theorem ok__law_size (T : Tx K mg) (spc : Sp) (D__law_sort_of : DefIs P w K mg base n "_law_sort_of" ["_law_kinds_here", "_law_kind"] spLSort) (D__law_size : DefIs P w K mg base n "_law_size" ["_law_kinds_here", "_law_kind"] spc) (hspc : ∀ j, m = j + 1 → spc = spSizeD j) (hm : m ≤ 7) :
    DefIs P w K mg base (n + 1) "_law_size" ["_law_kinds_here", "_law_kind"] (spSizeD m) := by
  refine DefIs.of T.d__law_size sc__law_size (fun vs H Q E h => ?_) (fun f cdv A outer s H vs Q E hr h => ?_)
  · obtain ⟨_, _, _, rfl, _⟩ := h
    rfl
  obtain ⟨v, ks, x, rfl, hk, hpts, hin, q⟩ := h
  have nd := sc__law_size.nd
  refine ⟨_, (pss_cons (ps_asg (pe_dcall D__law_sort_of hr (pa_cons (pv 0) (pa_cons (pv 1) pa_nil star_name) star_name)) (pg_tup rfl (pgs_cons (pg_name (i := 2) nd rfl (by first | exact Or.inl rfl | exact Or.inr rfl)) (pgs_cons (pg_name (i := 3) nd rfl (by first | exact Or.inl rfl | exact Or.inr rfl)) pgs_nil))))
      (pss_cons (ps_setComp (i := 4) ["_law_name", "_law_part", "_law_kinds_here"] [none, none, some 0] rfl (by kernel_rfl) nd rfl (by first | exact Or.inl rfl | exact Or.inr rfl) (pi_tup (pv 3)) (fun _ _ _ _ => (pg_tupC (K := K) (n := 2) rfl rfl (pgs_cons (pg_name (i := 0) (by show List.Nodup (["_law_name", "_law_part", "_law_kinds_here"] : List Str); decide +kernel) rfl (Or.inl rfl)) (pgs_cons (pg_name (i := 1) (by show List.Nodup (["_law_name", "_law_part", "_law_kinds_here"] : List Str); decide +kernel) rfl (Or.inl rfl)) pgs_nil)))) (fun _ _ _ _ => pts_nil) (fun _ _ _ _ => (pe_dcall D__law_size hr (pa_cons (pv 2) (pa_cons (pv 1) pa_nil star_name) star_name))))
      (pss_cons (ps_if (pt_cmpR op_eq (pv 2) pe_str (nomark _)) (pss_one (ps_ret (pe_op op_add pe_int (pe_callB (call_maxL rfl) rfl T.z_max PyProof.Rows.boot_max (pa_cons (pv 4) pa_nil star_name))))) pss_nil)
      (pss_one (ps_ret (pe_op op_add pe_int (pe_callB (call_sumL rfl) rfl T.z_sum PyProof.Rows.boot_sum (pa_cons (pv 4) pa_nil star_name)))))))), ?_⟩
  refine ⟨_, rfl, _, rfl, v, ks, x, rfl, hk, fun t pv H1 s1 ht rp => ?_⟩
  refine ⟨t, _, rfl, SqT.of ht, rfl, _, _, rfl, _, _, rfl, rfl, ?_⟩
  -- the parts
  have key : ∃ ps : List (Str × Str), partsD (kAt ks x) = dParts ps ∧ ps.length ≤ 5 ∧ (∀ p ∈ ps, ∃ j, m = j + 1 ∧ Dp j ks p.2) ∧ (sortS (kAt ks x) = S "alt" → ps ≠ [] ∧ szF (m + 1) ks x = 1 + maxD (ps.map fun p => szF m ks p.2)) ∧
      (sortS (kAt ks x) ≠ S "alt" → szF (m + 1) ks x = 1 + (ps.map fun p => szF m ks p.2).sum) := by
    cases hx : kAt ks x with
    | none =>
      refine ⟨[], rfl, by decide, (fun _ h => nomatch h), (fun h => absurd h (by decide +kernel)), fun _ => ?_⟩
      unfold szF
      rw [hx]
      rfl
    | some k =>
      have hmem : k ∈ ks := List.mem_of_find?_eq_some hx
      obtain ⟨j, rfl⟩ : ∃ j, m = j + 1 := by
        cases m with
        | zero => rw [show kAt ks x = none from hin] at hx; cases hx
        | succ j => exact ⟨j, rfl⟩
      obtain ⟨hal, hdp⟩ := hin k hx
      refine ⟨k.parts, rfl, hpts k hmem, fun p hp => ⟨j, rfl, hdp p hp⟩, fun h => ?_, fun h => ?_⟩
      · have hrc : k.rc = false := by
          cases hc : k.rc with
          | false => rfl
          | true =>
            have : k.sort = S "alt" := h
            unfold Kn.sort at this
            rw [hc, if_pos rfl] at this
            exact absurd this (by decide +kernel)
        refine ⟨hal hrc, ?_⟩
        conv => lhs; unfold szF
        rw [hx]
        show 1 + (if k.rc = true then _ else _) = _
        rw [if_neg (by rw [hrc]; decide)]
      · have hrc : k.rc = true := by
          cases hc : k.rc with
          | true => rfl
          | false =>
            refine absurd ?_ h
            show k.sort = S "alt"
            unfold Kn.sort
            rw [hc, if_neg (by decide)]
        conv => lhs; unfold szF
        rw [hx]
        show 1 + (if k.rc = true then _ else _) = _
        rw [if_pos hrc]
  obtain ⟨ps, eps, h5, hpin, halt, hrec⟩ := key
  rw [eps] at rp
  obtain ⟨e, us, rfl, he, hus⟩ := rp
  have hl := hus.length
  rw [List.length_map] at hl
  refine ⟨_, rfl, e, rfl, ⟨_, SqT.of he⟩, ?_⟩
  refine comp_tupG (xs := us) (fun i ys H' => Same H1 H' ∧ ys = ((ps.take i).map fun p => szF m ks p.2).map V.int) ⟨Same.refl _, rfl⟩ (fitsLt (by omega)) (fun i ys H' _ p => SqT.of (p.1 _ _ he)) ?_ ?_
  · rintro i z ys H' hz hi hly ⟨sm, rfl⟩
    obtain ⟨d, hd, rd⟩ := hus.get hz
    rw [List.getElem?_map] at hd
    obtain ⟨p, hp, rfl⟩ := Option.map_eq_some_iff.mp hd
    obtain ⟨b, ws, rfl, hb, _, _, rfl, rfl, _, _, rfl, rfl, rfl⟩ := rd
    obtain ⟨j, rfl, hj⟩ := hpin p (List.mem_of_getElem? hp)
    have D' := hspc j rfl
    subst D'
    refine ⟨b, _, rfl, SqT.of (sm _ _ hb), rfl, _, _, rfl, _, _, rfl, rfl, ext2 rfl rfl, yes_go ?_⟩
    refine ⟨_, rfl, _, rfl, _, ks, p.2, rfl, hk.same (s1.trans sm), hpts, hj, fun H2 s2 => nxtG hi hly ⟨sm.trans s2, ?_⟩⟩
    rw [List.take_add_one, hp]
    simp
  · rintro ys H' hly ⟨sm, rfl⟩ D hD
    rw [List.take_of_length_le (by omega)]
    have sD := Same.new hD (.lst ((ps.map fun p => szF m ks p.2).map V.int))
    have sAll := s1.trans (sm.trans sD)
    have hb : ∀ n ∈ ps.map (fun p => szF m ks p.2), 0 ≤ n ∧ n ≤ 1000000 := fun n hn => by
      obtain ⟨p, _, rfl⟩ := List.mem_map.mp hn
      have h1 := szF_bound hpts m p.2
      have h2 : (6 : Int) ^ m ≤ 6 ^ 7 := by
        rcases (show m = 0 ∨ m = 1 ∨ m = 2 ∨ m = 3 ∨ m = 4 ∨ m = 5 ∨ m = 6 ∨ m = 7 by omega) with h | h | h | h | h | h | h | h <;> subst h <;> decide
      have h3 : (6 : Int) ^ 7 = 279936 := by decide
      omega
    refine ⟨_, rfl, rfl, _, rfl, ite2 (fun c => ?_) (fun c => ?_)⟩
    · obtain ⟨hne, ez⟩ := halt (V.str.inj (of_decide_eq_true c))
      refine ⟨_, rfl, D, _, rfl, SqL.of upd_same, (fun z => hne (List.map_eq_nil_iff.mp z)), fun mx h1 h2 => ⟨_, _, rfl, rfl, ?_⟩⟩
      have := q _ sAll
      rw [ez, ← maxD_is (fun z => hne (List.map_eq_nil_iff.mp z)) (fun n hn => (hb n hn).1) h1 h2] at this
      exact this
    · have ez := hrec (fun z => c (decide_eq_true (congrArg V.str z)))
      refine ⟨_, rfl, D, _, rfl, SqL.of upd_same, hb, by rw [List.length_map]; omega, _, _, rfl, rfl, ?_⟩
      have := q _ sAll
      rw [ez] at this
      exact this
theorem sizeD_is (T : Tx K mg) : ∀ m, m ≤ 7 → DefIs P w K mg base (m + 2) "_law_size" ["_law_kinds_here", "_law_kind"] (spSizeD m)
  | 0, h => ok__law_size (n := 1) T (fun _ _ _ _ => False) (ok__law_sort_of T) (DefIs.none T.d__law_size fun _ _ _ _ h => h) (fun j e => by cases e) h
  | m + 1, h => ok__law_size (n := m + 2) T (spSizeD m) (ok__law_sort_of T) (sizeD_is T m (by omega)) (fun j e => by cases e; rfl) h
theorem size_is (T : Tx K mg) (m : Nat) (h : m ≤ 7) : DefIs P w K mg base (m + 2) "_law_size" ["_law_kinds_here", "_law_kind"] (spSize m) :=
  (sizeD_is T m h).imp fun vs H Q E ⟨v, ks, x, e, hk, wf, hin, q⟩ => ⟨v, ks, x, e, hk, wf.pts, dp_kin wf m x hin, q⟩
end
end K10

end

section
set_option Elab.async false
set_option linter.all false
set_option maxRecDepth 100000
set_option maxHeartbeats 4000000
namespace K10
open PySem L2 M
seal L2.PE L2.PA L2.PS L2.PSs L2.PT L2.PW L2.PI L2.PG L2.PJ L2.PTs
noncomputable def spKinds : Sp := fun vs H Q _ => ∃ (f nb : Addr) (p q : Int) (nms : List Str), vs = [.ref f, .ref nb] ∧ H f = some (.lst [.int p, .int q]) ∧ H nb = some (.lst (nms.map V.str)) ∧ NmsOk nms ∧ nb ≠ f ∧ ∀ v ks (H' : Hp), Fed f H H' → RelD H' v (dKinds ks) → KWf ks → Q v H'
theorem mergeH {G : Hp → Prop} {P : Prop} (R : Hp → Prop) (main : (∀ H, R H → G H) → P) (key : ∀ H, R H → G H) : P := main key
theorem mergeS1 {G : Str → Prop} {P : Prop} (R : Str → Prop) (main : (∀ x, R x → G x) → P) (key : ∀ x, R x → G x) : P := main key
theorem mergeS {G : Str → Hp → Prop} {P : Prop} (R : Str → Hp → Prop) (main : (∀ x H, R x H → G x H) → P) (key : ∀ x H, R x H → G x H) : P := main key
theorem part_ix {nms : List Str} (hlen : nms.length = 26) {j : Nat} (hj : j < 5) (r9 : Int) : ∃ (ix : Int) (z : Str), atI [V.int (8 + (0 + (j : Int))), V.int (0 + (j : Int))] (if decide (V.int r9 = V.int 0) = true then 1 else 0) = some (.int ix) ∧ atI (nms.map V.str) ix = some (.str z) ∧ (nms[j]? = some z ∨ nms[8 + j]? = some z) := by
  have e8 : (8 + (0 + (j : Int))) = ((8 + j : Nat) : Int) := by omega
  have e0 : (0 + (j : Int)) = ((j : Nat) : Int) := by omega
  by_cases h : decide (V.int r9 = V.int 0) = true
  · rw [if_pos h]
    have hjl : j < nms.length := by omega
    refine ⟨_, nms[j], rfl, ?_, .inl (List.getElem?_eq_getElem hjl)⟩
    rw [e0]
    exact atI_nat (by rw [List.getElem?_map, List.getElem?_eq_getElem hjl]; rfl)
  · rw [if_neg h]
    have hjl : 8 + j < nms.length := by omega
    refine ⟨_, nms[8 + j], rfl, ?_, .inr (List.getElem?_eq_getElem hjl)⟩
    rw [e8]
    exact atI_nat (by rw [List.getElem?_map, List.getElem?_eq_getElem hjl]; rfl)
section
variable {P : Program} {w : World} {K : PySem.W.Frag} {mg : Str → Option Value} {base : Heap} {n m : Nat}
theorem ok__law_kinds (T : Tx K mg) (D__law_take : DefIs P w K mg base n "_law_take" ["_law_feed_here", "_law_many"] spTake) (D__law_size : DefIs P w K mg base n "_law_size" ["_law_kinds_here", "_law_kind"] (spSize 6)) : DefIs P w K mg base (n + 1) "_law_kinds" ["_law_feed_here", "_law_names_here"] spKinds := by
  refine DefIs.of T.d__law_kinds sc__law_kinds (fun vs H Q E h => ?_) (fun f cdv A outer s H vs Q E hr h => ?_)
  · obtain ⟨_, _, _, _, _, rfl, _⟩ := h
    rfl
  obtain ⟨f', nb, p, q, nms, rfl, hf, hnb, hok, nf, k⟩ := h
  have nd := sc__law_kinds.nd
  refine ⟨_, (pss_cons (ps_set (i := 2) nd rfl (by first | exact Or.inl rfl | exact Or.inr rfl) (pe_lst pa_nil))
      (pss_cons (ps_set (i := 3) nd rfl (by first | exact Or.inl rfl | exact Or.inr rfl) (pe_cmpR op_eq (pe_dcall D__law_take hr (pa_cons (pv 0) (pa_cons pe_int pa_nil star_const) star_name)) pe_int (nomark _)))
      (pss_cons (ps_for PassesOwn.never rfl (pi_range1 rfl T.z_range (pa_cons (pe_dcall D__law_take hr (pa_cons (pv 0) (pa_cons pe_int pa_nil star_const) star_name)) pa_nil star_call)) (pg_name (i := 4) nd rfl (by first | exact Or.inl rfl | exact Or.inr rfl))
      (pss_cons (ps_set (i := 5) nd rfl (by first | exact Or.inl rfl | exact Or.inr rfl) (pe_ix ix_list (pe_lst (pa_cons pe_str (pa_cons pe_str pa_nil star_const) star_const)) (pe_dcall D__law_take hr (pa_cons (pv 0) (pa_cons pe_int pa_nil star_const) star_name)) (fun _ _ => rfl)))
      (pss_cons (ps_set (i := 6) nd rfl (by first | exact Or.inl rfl | exact Or.inr rfl) (pe_lst pa_nil))
      (pss_cons (ps_set (i := 7) nd rfl (by first | exact Or.inl rfl | exact Or.inr rfl) pe_int)
      (pss_cons (ps_for PassesOwn.never rfl (pi_range1 rfl T.z_range (pa_cons (pe_op op_add (pe_dcall D__law_take hr (pa_cons (pv 0) (pa_cons (pe_op op_add pe_int (pe_callTy call_int1 rfl T.z_int PyProof.Rows.boot_int (pa_cons (pe_cmpR op_eq (pv 5) pe_str (nomark _)) pa_nil star_cmp))) pa_nil star_bin) star_name)) (pe_callTy call_int1 rfl T.z_int PyProof.Rows.boot_int (pa_cons (pe_cmpR op_eq (pv 5) pe_str (nomark _)) pa_nil star_cmp))) pa_nil star_bin)) (pg_name (i := 8) nd rfl (by first | exact Or.inl rfl | exact Or.inr rfl))
      (pss_cons (ps_set (i := 9) nd rfl (by first | exact Or.inl rfl | exact Or.inr rfl) (pe_op op_cat (pe_lst (pa_cons pe_str pa_nil star_const)) (pe_comp ["_law_row"] [none] rfl (by kernel_rfl) (pi_list (pv 2)) (fun _ _ _ _ => (pg_name (i := 0) (by show List.Nodup (["_law_row"] : List Str); decide +kernel) rfl (Or.inl rfl))) (fun _ _ _ _ => pts_nil) (fun _ _ _ _ => (pe_ix (ix_tupC (K := K) rfl) (pv 0) pe_int (fun _ _ => rfl))))))
      (pss_cons (ps_set (i := 10) nd rfl (by first | exact Or.inl rfl | exact Or.inr rfl) (pe_ix ix_list (pv 9) (pe_dcall D__law_take hr (pa_cons (pv 0) (pa_cons (pe_callB call_len_seq rfl T.z_len PySem.boot_len (pa_cons (pv 9) pa_nil star_name)) pa_nil star_call) star_name)) (fun _ _ => rfl)))
      (pss_cons (ps_if (PW.pt (pw_and (pt_val (pv 3)) (pw_and1 (pt_cmpR op_gt (pe_dcall D__law_take hr (pa_cons (pv 0) (pa_cons pe_int pa_nil star_const) star_name)) pe_int (nomark _))))) (pss_one (ps_set (i := 10) nd rfl (by first | exact Or.inl rfl | exact Or.inr rfl) (pe_ix ix_list (pv 9) (pe_un un_neg pe_int) (fun _ _ => rfl)))) pss_nil)
      (pss_cons (ps_if (pt_cmpR op_gt (pe_dcall D__law_size hr (pa_cons (pv 2) (pa_cons (pv 10) pa_nil star_name) star_name)) (pv 7) (nomark _)) (pss_one (ps_set (i := 10) nd rfl (by first | exact Or.inl rfl | exact Or.inr rfl) pe_str)) pss_nil)
      (pss_cons (ps_if (pt_cmpR op_gt (pv 7) pe_int (nomark _)) (pss_one (ps_expr (pe_bm PySem.F.plainAttrs_list PySem.F.slot_list_append PySem.F.type_list_append mt_append (pv 6) (pa_cons (pe_tup (pa_cons (pe_ix ix_list (pv 1) (pe_ix ix_list (pe_lst (pa_cons (pe_op op_add pe_int (pv 8)) (pa_cons (pv 8) pa_nil star_name) star_bin)) (pe_callTy call_int1 rfl T.z_int PyProof.Rows.boot_int (pa_cons (pe_cmpR op_eq (pe_dcall D__law_take hr (pa_cons (pv 0) (pa_cons pe_int pa_nil star_const) star_name)) pe_int (nomark _)) pa_nil star_cmp)) (fun _ _ => rfl)) (fun _ _ => rfl)) (pa_cons (pv 10) pa_nil star_name) star_sub)) pa_nil star_tup)))) pss_nil)
      (pss_one (ps_if (pt_cmpR op_eq (pv 5) pe_str (nomark _)) (pss_one (ps_set (i := 7) nd rfl (by first | exact Or.inl rfl | exact Or.inr rfl) (pe_op op_sub (pv 7) (pe_dcall D__law_size hr (pa_cons (pv 2) (pa_cons (pv 10) pa_nil star_name) star_name))))) pss_nil))))))))
      (pss_one (ps_expr (pe_bm PySem.F.plainAttrs_list PySem.F.slot_list_append PySem.F.type_list_append mt_append (pv 2) (pa_cons (pe_tup (pa_cons (pe_ix ix_list (pv 1) (pv 4) (fun _ _ => rfl)) (pa_cons (pv 5) (pa_cons (pe_callTy call_tuple_of rfl T.z_tuple PyProof.Rows.boot_tuple (pa_cons (pv 6) pa_nil star_name)) pa_nil star_call) star_name) star_sub)) pa_nil star_tup)))))))))
      (pss_one (ps_ret (pe_callTy call_tuple_of rfl T.z_tuple PyProof.Rows.boot_tuple (pa_cons (pv 2) pa_nil star_name))))))), ?_⟩
  refine ⟨(by show 0 ≤ sizeLine; decide), fun l hl => ?_⟩
  have s0 := Same.new hl (.lst [])
  have lf : l ≠ f' := Ne.symm (ne_of_none hf hl)
  have hlen := hok.1
  refine ⟨_, rfl, f', p, q, 2, rfl, s0 _ _ hf, by decide, by decide, fun r0 H0 r00 r01 f0 => ⟨rfl, ?_⟩⟩
  obtain ⟨p0, q0, h0⟩ := f0.2
  generalize decide (V.int r0 = V.int 1) = gr
  refine ⟨_, rfl, f', p0, q0, 7, rfl, h0, by decide, by decide, fun r1 H1 r10 r11 f1 => ⟨_, rfl, by omega, by omega, ?_⟩⟩
  have F1 : Fed f' H H1 := ⟨s0.but.trans (f0.trans f1).1, f1.2⟩
  have hp1 : H1 l = some (.lst []) := f1.1 _ _ (f0.1 _ _ upd_same lf) lf
  refine for_range (fun i σ H' => ∃ us, ∃ ks : List Kn, ∃ o4 o5 o6 o7 o8 o9 o10, σ = [some (.ref f'), some (.ref nb), some (.ref l), some (.bl gr), o4, o5, o6, o7, o8, o9, o10] ∧ Fed f' H H' ∧ H' l = some (.lst us) ∧ RelDs H' us (ks.map Kn.d) ∧ ks.length = i ∧ KWf ks ∧ ks.map Kn.name = nms.take i)
    ⟨[], [], none, none, none, none, none, none, none, rfl, F1, hp1, rfl, rfl, KWf.nil, rfl⟩ ?_ ?_
  · rintro i σ H2 hi ⟨us, ks, o4, o5, o6, o7, o8, o9, o10, rfl, F, hlu, hus, hki, wf, hkn⟩
    have hi6 : i < 6 := by omega
    have hul := hus.length
    rw [List.length_map] at hul
    have hfew := wf.few
    obtain ⟨p2, q2, h2⟩ := F.2
    refine ⟨(by show 2 ≤ sizeLine; decide), fun l1 hl1 => ?_⟩
    have s1 := Same.new hl1 (.lst [.str (S "rec"), .str (S "alt")])
    have l1f : l1 ≠ f' := Ne.symm (ne_of_none h2 hl1)
    refine ⟨_, rfl, f', p2, q2, 2, rfl, s1 _ _ h2, by decide, by decide, fun r H3 r0' r1' f3 => ?_⟩
    have key : ∃ srt : Str, atI [V.str (S "rec"), V.str (S "alt")] r = some (.str srt) ∧ (srt = S "rec" ∨ srt = S "alt") := by
      rcases (show r = 0 ∨ r = 1 by omega) with rfl | rfl
      · exact ⟨S "rec", rfl, .inl rfl⟩
      · exact ⟨S "alt", rfl, .inr rfl⟩
    obtain ⟨srt, hat, hsrt⟩ := key
    refine ⟨l1, _, _, _, rfl, rfl, SqL.of (f3.1 _ _ upd_same l1f), hat, ?_⟩
    have F3 : Fed f' H H3 := (F.same s1).trans f3
    obtain ⟨p3, q3, h3⟩ := f3.2
    have hlu3 := f3.1 _ _ (s1 _ _ hlu) lf
    have hus3 := (hus.same s1 _).tups (fed_tups ⟨p2, q2, s1 _ _ h2⟩ f3) _
    refine ⟨(by show 0 ≤ sizeLine; decide), fun pl hpl => ?_⟩
    have sp := Same.new hpl (.lst [])
    have plf : pl ≠ f' := Ne.symm (ne_of_none h3 hpl)
    have pll : pl ≠ l := Ne.symm (ne_of_none hlu3 hpl)
    have plH : H pl = none := by
      cases e : H pl with
      | none => rfl
      | some o => rw [F3.1 pl o e plf] at hpl; cases hpl
    -- how many parts
    have cnt : ∃ cA cB : Bool, decide (V.str srt = V.str (S "rec")) = cA ∧ decide (V.str srt = V.str (S "alt")) = cB ∧ ((cA = true ∧ cB = false) ∨ (cA = false ∧ cB = true ∧ srt = S "alt")) := by
      rcases hsrt with rfl | rfl
      · exact ⟨true, false, by decide +kernel, by decide +kernel, .inl ⟨rfl, rfl⟩⟩
      · exact ⟨false, true, by decide +kernel, by decide +kernel, .inr ⟨rfl, rfl, rfl⟩⟩
    obtain ⟨cA, cB, eA, eB, hcnt⟩ := cnt
    refine ⟨_, rfl, _, rfl, rfl, .inr ⟨cA, congrArg (fun b => [V.bl b]) eA, 4, (if cA = true then 1 else 0), rfl, rfl, ?_⟩⟩
    refine ⟨f', p3, q3, _, rfl, sp _ _ h3, by split <;> decide, by split <;> decide, fun r4 H4 r40 r41 f4 => ?_⟩
    refine ⟨_, rfl, rfl, .inr ⟨cB, congrArg (fun b => [V.bl b]) eB, r4, (if cB = true then 1 else 0), rfl, rfl, ?_⟩⟩
    have hN : 0 ≤ r4 + (if cB = true then (1 : Int) else 0) ∧ r4 + (if cB = true then (1 : Int) else 0) ≤ 4 ∧ (srt = S "alt" → 1 ≤ r4 + (if cB = true then (1 : Int) else 0)) := by
      rcases hcnt with ⟨rfl, rfl⟩ | ⟨rfl, rfl, _⟩
      · simp at r41 ⊢
        refine ⟨by omega, by omega, fun e => ?_⟩
        rw [e] at eB
        exact absurd eB (by decide +kernel)
      · simp at r41 ⊢
        omega
    obtain ⟨hN0, hN4, hNalt⟩ := hN
    refine ⟨_, rfl, by omega, by omega, ?_⟩
    have F4 : Fed f' H H4 := (F3.same sp).trans f4
    have hlu4 := f4.1 _ _ (sp _ _ hlu3) lf
    have hus4 := (hus3.same sp _).tups (fed_tups ⟨p3, q3, sp _ _ h3⟩ f4) _
    have hpl4 : H4 pl = some (.lst []) := f4.1 _ _ upd_same plf
    refine for_range (fun j σ H' => ∃ ws, ∃ ps : List (Str × Str), ∃ left : Int, ∃ o8 o9 o10, σ = [some (.ref f'), some (.ref nb), some (.ref l), some (.bl gr), some (.int (0 + (i : Int))), some (.str srt), some (.ref pl), some (.int left), o8, o9, o10] ∧ Fed f' H H' ∧ H' l = some (.lst us) ∧ RelDs H' us (ks.map Kn.d) ∧
        H' pl = some (.lst ws) ∧ RelDs H' ws (ps.map dPart) ∧ ps.length ≤ j ∧ PNm nms j ps ∧ (∀ p ∈ ps, KIn ks ks.length p.2) ∧ (srt = S "alt" → left = 29 ∧ ps.length = j))
      ⟨[], [], 29, _, _, _, rfl, F4, hlu4, hus4, hpl4, rfl, Nat.le_refl _, ⟨List.nodup_nil, fun _ h => nomatch h⟩, (fun _ h => nomatch h), fun _ => ⟨rfl, rfl⟩⟩ ?_ ?_
    · rintro j σ H5 hj ⟨ws, ps, left, o8, o9, o10, rfl, F5, hlu5, hus5, hpl5, hws5, hpsj, hpn, hpin, halt⟩
      have hj4 : j < 4 := by omega
      have hwl := hws5.length
      rw [List.length_map] at hwl
      obtain ⟨p5, q5, h5⟩ := F5.2
      refine ⟨(by show 1 ≤ sizeLine; decide), fun l2 hl2 => ?_⟩
      have s2 := Same.new hl2 (.lst [.str (S "num")])
      refine ⟨_, rfl, l, rfl, ⟨_, SqL.of (s2 _ _ hlu5)⟩, ?_⟩
      refine comp_list (j := 0) (xs := us) (fun i ys H' => H' = upd H5 l2 (.lst [.str (S "num")]) ∧ ys = ((ks.take i).map Kn.name).map V.str) (by rfl) ⟨rfl, rfl⟩ (fitsLt (by omega)) (fun i ys H' _ p => by obtain ⟨rfl, _⟩ := p; exact SqL.of (s2 _ _ hlu5)) ?_ ?_
      · rintro i' x ys H' hx hly ⟨rfl, rfl⟩
        obtain ⟨d, hd, rd⟩ := (hus5.same s2 _).get hx
        rw [List.getElem?_map] at hd
        obtain ⟨k', hk', rfl⟩ := Option.map_eq_some_iff.mp hd
        obtain ⟨b, vs', rfl, hb, _, _, rfl, rfl, _, _, rfl, rfl, v3, _, rfl, r3, rfl⟩ := rd
        have hi' : i' < us.length := (List.getElem?_eq_some_iff.mp hx).1
        refine ⟨_, rfl, b, _, _, _, rfl, rfl, SqT.of hb, rfl, nxt hi' hly ⟨rfl, ?_⟩⟩
        rw [List.take_add_one, hk']
        simp
      rintro ys H' hly ⟨rfl, rfl⟩ D2 hD2
      rw [List.take_of_length_le (by omega)]
      have s3 := Same.new hD2 (.lst ((ks.map Kn.name).map V.str))
      refine ⟨l2, D2, _, _, rfl, rfl, s3 _ _ upd_same, upd_same, fits (by rw [List.length_map, List.length_map]; show 1 + _ ≤ _; omega), fun l3 hl3 => ?_⟩
      have s4 := Same.new hl3 (.lst ([.str (S "num")] ++ (ks.map Kn.name).map V.str))
      have s24 := s2.trans (s3.trans s4)
      have l3f : l3 ≠ f' := Ne.symm (ne_of_none (s3 _ _ (s2 _ _ h5)) hl3)
      have slen : ([V.str (S "num")] ++ (ks.map Kn.name).map V.str).length = 1 + ks.length := by rw [List.length_append, List.length_map, List.length_map]; rfl
      apply mergeS (fun kd H7 => KIn ks ks.length kd ∧ Fed f' H5 H7)
      · intro key
        refine ⟨_, rfl, _, rfl, _, rfl, l3, _, rfl, .inl (SqL.of upd_same), f', p5, q5, _, rfl, s24 _ _ h5, by rw [slen]; omega, by rw [slen]; omega, fun r6 H6 r60 r61 f6 => ?_⟩
        rw [slen] at r61
        obtain ⟨x, hx, hxin⟩ := names_at (ks := ks) r60 (by omega)
        have hl36 : H6 l3 = some (.lst ([.str (S "num")] ++ (ks.map Kn.name).map V.str)) := f6.1 _ _ upd_same l3f
        refine ⟨l3, _, _, _, rfl, rfl, SqL.of hl36, hx, ?_⟩
        have F6 : Fed f' H5 H6 := (Fed.refl h5).same s24 |>.trans f6
        -- the greatest, perhaps
        refine ⟨_, rfl, _, rfl, ite2 (fun _ => ?yes1) (fun _ => ?no1)⟩
        case no1 => exact iteF (key x H6 ⟨hxin, F6⟩)
        case yes1 =>
          obtain ⟨p6, q6, h6⟩ := F6.2
          refine ⟨_, rfl, f', p6, q6, 3, rfl, h6, by decide, by decide, fun r7 H7 r70 r71 f7 => ⟨_, _, rfl, rfl, _, rfl, ite2 (fun _ => ?_) (fun _ => ?_)⟩⟩
          · obtain ⟨kd, hy, hkd⟩ := names_last ks
            have hl37 := f7.1 _ _ hl36 l3f
            refine ⟨_, rfl, _, rfl, l3, _, _, _, rfl, rfl, SqL.of hl37, hy, ?_⟩
            exact key kd H7 ⟨hkd, F6.trans f7⟩
          · exact key x H7 ⟨hxin, F6.trans f7⟩
      rintro kd H7 ⟨hkd, F7⟩
      have back7 : Fed f' H H7 := F5.trans F7
      have hlu7 := F7.1 _ _ hlu5 lf
      have hus7 := hus5.tups (fed_tups ⟨p5, q5, h5⟩ F7) _
      have hpl7 := F7.1 _ _ hpl5 plf
      have hws7 := hws5.tups (fed_tups ⟨p5, q5, h5⟩ F7) _
      have seq7 : KsSeq H7 (.ref l) ks := ⟨l, us, rfl, .inl hlu7, hus7⟩
      refine ⟨_, rfl, _, rfl, _, ks, kd, rfl, seq7, wf, hkd.mono hfew, fun H8 s8 => ⟨_, rfl, _, _, rfl, rfl, _, rfl, ?_⟩⟩
      have hlu8 := s8 _ _ hlu7
      have hpl8 := s8 _ _ hpl7
      have hus8 := hus7.same s8 _
      have hws8 := hws7.same s8 _
      have back8 : Fed f' H H8 := back7.same s8
      obtain ⟨p8, q8, h8⟩ := back8.2
      apply mergeS1 (fun kd2 => KIn ks ks.length kd2)
      · intro key
        refine ite2 (fun _ => ?yes2) (fun _ => ?no2)
        case no2 =>
          generalize hz : kd = z
          exact key z (hz ▸ hkd)
        case yes2 => exact key (S "num") (.inl rfl)
      rintro kd2 hkd2
      -- the part, where there is room
      refine ⟨_, rfl, _, _, rfl, rfl, _, rfl, ?_⟩
      apply mergeH (fun H9 => ∃ ws' ps', Fed f' H H9 ∧ H9 l = some (.lst us) ∧ RelDs H9 us (ks.map Kn.d) ∧ H9 pl = some (.lst ws') ∧ RelDs H9 ws' (ps'.map dPart) ∧ ps'.length ≤ j + 1 ∧ PNm nms (j + 1) ps' ∧ (∀ p ∈ ps', KIn ks ks.length p.2) ∧ (srt = S "alt" → left = 29 ∧ ps'.length = j + 1))
      · intro key
        refine ite2 (fun cl => ?yes3) (fun cl => ?no3)
        case yes3 =>
          refine ⟨_, rfl, .inl ⟨rfl, _, SqL.of hpl8⟩, _, rfl, _, rfl, _, _, rfl, rfl, _, rfl, (by show 2 ≤ sizeLine; decide), fun l4 hl4 => ?_⟩
          have s9 := Same.new hl4 (.lst [.int (8 + (0 + (j : Int))), .int (0 + (j : Int))])
          have l4f : l4 ≠ f' := Ne.symm (ne_of_none h8 hl4)
          refine ⟨_, rfl, f', p8, q8, 5, rfl, s9 _ _ h8, by decide, by decide, fun r9 H9 r90 r91 f9 => ⟨rfl, .inr ⟨_, rfl, ?_⟩⟩⟩
          obtain ⟨ix, z, hix, hz, hzn⟩ := part_ix (nms := nms) hlen (j := j) (by omega) r9
          have B9 : Fed f' H H9 := (back8.same s9).trans f9
          have hn9 := B9.1 nb _ hnb nf
          refine ⟨l4, _, _, _, rfl, rfl, SqL.of (f9.1 _ _ upd_same l4f), hix, nb, _, _, _, rfl, rfl, SqL.of hn9, hz, _, rfl, (by show 2 ≤ sizeLine; decide), fun t ht => ?_⟩
          have st := Same.new ht (.tup [.str z, .str kd2])
          have hpl9 := st _ _ (f9.1 _ _ (s9 _ _ hpl8) plf)
          have hlu9 := st _ _ (f9.1 _ _ (s9 _ _ hlu8) lf)
          have hws9 := ((hws8.same s9 _).tups (fed_tups ⟨p8, q8, s9 _ _ h8⟩ f9) _).same st _
          have hus9 := ((hus8.same s9 _).tups (fed_tups ⟨p8, q8, s9 _ _ h8⟩ f9) _).same st _
          have ht' : upd H9 t (.tup [.str z, .str kd2]) t = some (.tup [.str z, .str kd2]) := upd_same
          have C9 := B9.same st
          refine ⟨pl, ws, _, rfl, rfl, hpl9, fitsLt (by omega), ?_⟩
          generalize upd H9 t (.tup [.str z, .str kd2]) = J at hpl9 hlu9 hws9 hus9 ht' C9 ⊢
          have D9 := Fed.put C9 plH plf (.lst (ws ++ [.ref t]))
          have lt := lst_tups hpl9 (.lst (ws ++ [.ref t]))
          have e1 : upd J pl (.lst (ws ++ [.ref t])) pl = some (.lst (ws ++ [.ref t])) := upd_same
          have e2 : upd J pl (.lst (ws ++ [.ref t])) l = some (.lst us) := by rw [upd_ne (Ne.symm pll)]; exact hlu9
          have e3 := hus9.tups lt _
          have e4 := hws9.tups lt _
          have e5 := lt _ _ ht'
          generalize upd J pl (.lst (ws ++ [.ref t])) = J2 at D9 e1 e2 e3 e4 e5 ⊢
          refine key J2 ⟨ws ++ [.ref t], ps ++ [(z, kd2)], D9, e2, e3, e1, ?_, (by rw [List.length_append, List.length_singleton]; omega), hpn.snoc hok (by omega) hzn, (fun z' hz' => ?_), fun e => ?_⟩
          · rw [List.map_append]
            exact RelDs.append e4 ⟨_, [], rfl, ⟨t, _, rfl, e5, _, _, rfl, rfl, _, _, rfl, rfl, rfl⟩, rfl⟩
          · rcases List.mem_append.mp hz' with hz' | hz'
            · exact hpin z' hz'
            · rw [List.mem_singleton.mp hz']; exact hkd2
          · obtain ⟨e1, e2⟩ := halt e
            exact ⟨e1, by rw [List.length_append, List.length_singleton, e2]⟩
        case no3 =>
          generalize hJ : H8 = J
          exact key J (hJ ▸ ⟨ws, ps, back8, hlu8, hus8, hpl8, hws8, by omega, hpn.mono (by omega), hpin, fun e => by
            obtain ⟨e1, e2⟩ := halt e
            exact absurd (decide_eq_true (by rw [e1]; decide : (0 : Int) < left)) cl⟩)
      rintro H10 ⟨ws', ps', b1, b2, b3, b4, b5, b6, b7, b8, b9⟩
      refine ⟨_, rfl, rfl, _, rfl, ite2 (fun cs => ?_) (fun cs => ?_)⟩
      · refine ⟨_, rfl, _, rfl, _, rfl, _, ks, kd2, rfl, ⟨l, us, rfl, .inl b2, b3⟩, wf, hkd2.mono hfew, fun H11 s11 => ⟨_, _, rfl, rfl, ?_⟩⟩
        exact ⟨_, _, _, _, _, _, rfl, b1.same s11, s11 _ _ b2, b3.same s11 _, s11 _ _ b4, b5.same s11 _, b6, b7, b8, fun e => by rw [e] at cs; exact absurd cs (by decide +kernel)⟩
      · exact ⟨_, _, _, _, _, _, rfl, b1, b2, b3, b4, b5, b6, b7, b8, b9⟩
    · rintro σ H5 ⟨ws, ps, left, o8, o9, o10, rfl, F5, hlu5, hus5, hpl5, hws5, hpsj, hpn, hpin, halt⟩
      have hin : i < nms.length := by omega
      have hn5 := F5.1 nb _ hnb nf
      refine ⟨_, rfl, .inl ⟨rfl, _, SqL.of hlu5⟩, _, rfl, _, rfl, nb, _, _, _, rfl, rfl, SqL.of hn5, strs_get hin, _, rfl, _, rfl, pl, ws, rfl, .inl ⟨SqL.of hpl5, fun t2 ht2 => ⟨(by show 3 ≤ sizeLine; decide), fun t ht => ?_⟩⟩⟩
      have s6 := Same.new ht2 (.tup ws)
      have s7 : ∀ o, Same (upd H5 t2 (.tup ws)) (upd (upd H5 t2 (.tup ws)) t o) := fun o => Same.new ht o
      have s57 : ∀ o, Same H5 (upd (upd H5 t2 (.tup ws)) t o) := fun o => s6.trans (s7 o)
      refine ⟨l, us, _, rfl, rfl, s57 _ _ _ hlu5, fitsLt (by omega), ?_⟩
      have hsort : (Kn.mk nms[i] (decide (srt = S "rec")) ps).sort = srt := by
        unfold Kn.sort
        rcases hsrt with rfl | rfl
        · rfl
        · show (if decide (S "alt" = S "rec") = true then _ else _) = _
          rw [if_neg (by decide +kernel)]
      have hst : upd (upd H5 t2 (.tup ws)) t (.tup [.str nms[i], .str srt, .ref t2]) l = some (.lst us) := s57 _ _ _ hlu5
      refine ⟨_, ks ++ [Kn.mk nms[i] (decide (srt = S "rec")) ps], _, _, _, _, _, _, _, rfl, Fed.put (F5.same (s57 _)) hl lf _, upd_same, ?_, by rw [List.length_append, List.length_singleton, hki], ?_, ?_⟩
      · rw [List.map_append]
        refine RelDs.append ((hus5.same (s57 _) _).tups (lst_tups hst _) _) ?_
        refine ⟨_, [], rfl, ⟨t, _, rfl, lst_tups hst _ _ _ upd_same, _, _, rfl, rfl, _, _, rfl, ?_, _, _, rfl, ⟨t2, ws, rfl, lst_tups hst _ _ _ (s7 _ _ _ upd_same), (hws5.same (s57 _) _).tups (lst_tups hst _) _⟩, rfl⟩, rfl⟩
        show V.str srt = V.str _
        rw [hsort]
      · refine wf.snoc ?_ (hok.2.2 _ (List.getElem_mem hin)) hpin ?_ (by omega) (by show ps.length ≤ 5; omega) hpn.1 (hpn.names hok)
        · show nms[i] ∉ ks.map Kn.name
          rw [hkn]
          exact not_ahead hok.2.1 hin
        · intro hrc
          rcases hsrt with e | e
          · exact absurd hrc (by show ¬ decide (srt = S "rec") = false; rw [e]; decide +kernel)
          · intro e2
            have h1 := (halt e).2
            have h2 := hNalt e
            have e3 : ps = [] := e2
            rw [e3] at h1
            simp only [List.length_nil] at h1
            omega
      · rw [List.map_append, hkn, List.take_add_one, List.getElem?_eq_getElem hin]
        rfl
  · rintro σ H2 ⟨us, ks, o4, o5, o6, o7, o8, o9, o10, rfl, F, hlu, hus, hki, wf, hkn⟩
    refine ⟨_, rfl, l, us, rfl, .inl ⟨SqL.of hlu, fun t ht => ?_⟩⟩
    have s1 := Same.new ht (.tup us)
    exact k _ ks _ (F.same s1) ⟨t, us, rfl, upd_same, hus.same s1 _⟩ wf
end
end K10

end

section
set_option Elab.async false
set_option linter.all false
set_option maxRecDepth 100000
set_option maxHeartbeats 4000000
namespace K10
open PySem L2 M
seal L2.PE L2.PA L2.PS L2.PSs L2.PT L2.PW L2.PI L2.PG L2.PJ L2.PTs
noncomputable def spAny : Sp := fun vs H Q _ => ∃ (f nb : Addr) (p q : Int) (nms : List Str), vs = [.ref f, .ref nb] ∧ H f = some (.lst [.int p, .int q]) ∧ H nb = some (.lst (nms.map V.str)) ∧ NmsOk nms ∧ nb ≠ f ∧ ∀ v ks (H' : Hp), Fed f H H' → RelD H' v (dKinds ks) → KAny ks → Q v H'
theorem nm_at {nms : List Str} (hok : NmsOk nms) {ix : Int} (h0 : 0 ≤ ix) (h1 : ix < 26) : ∃ z, atI (nms.map V.str) ix = some (.str z) ∧ Name z := by
  have hl := hok.1
  obtain ⟨z, hz, hv⟩ := at_codes (cs := nms.map V.str) h0 (by rw [List.length_map]; omega)
  obtain ⟨y, hy, rfl⟩ := List.mem_map.mp hz
  exact ⟨y, hv, hok.2.2 y hy⟩
noncomputable def PAny (ps : List (Str × Str)) : Prop := ∀ p ∈ ps, Name p.1 ∧ (p.2 = S "num" ∨ Name p.2)
theorem PAny.nil : PAny [] := fun _ h => nomatch h
theorem PAny.snoc {ps : List (Str × Str)} (h : PAny ps) {x y : Str} (hx : Name x) (hy : y = S "num" ∨ Name y) : PAny (ps ++ [(x, y)]) := fun p hp => by
  rcases List.mem_append.mp hp with hp | hp
  · exact h p hp
  · rw [List.mem_singleton.mp hp]; exact ⟨hx, hy⟩
theorem sort_is {srt x : Str} {ps : List (Str × Str)} (hsrt : srt = S "rec" ∨ srt = S "alt") : (Kn.mk x (decide (srt = S "rec")) ps).sort = srt := by
  unfold Kn.sort
  rcases hsrt with rfl | rfl
  · rfl
  · show (if decide (S "alt" = S "rec") = true then _ else _) = _
    rw [if_neg (by decide +kernel)]
theorem k1_of {srt x : Str} {ps : List (Str × Str)} (hsrt : srt = S "rec" ∨ srt = S "alt") (hx : Name x) (hp : PAny ps) (h5 : ps.length ≤ 5) (ha : srt = S "alt" → ps ≠ []) : K1 (Kn.mk x (decide (srt = S "rec")) ps) := by
  refine ⟨hx, fun hrc => ?_, h5, fun p h => (hp p h).1, fun p h => (hp p h).2⟩
  rcases hsrt with e | e
  · exact absurd hrc (by show ¬ decide (srt = S "rec") = false; rw [e]; decide +kernel)
  · exact ha e
section
variable {P : Program} {w : World} {K : PySem.W.Frag} {mg : Str → Option Value} {base : Heap} {n m : Nat}
theorem ok__law_any_kinds (T : Tx K mg) (D__law_take : DefIs P w K mg base n "_law_take" ["_law_feed_here", "_law_many"] spTake) : DefIs P w K mg base (n + 1) "_law_any_kinds" ["_law_feed_here", "_law_names_here"] spAny := by
  refine DefIs.of T.d__law_any_kinds sc__law_any_kinds (fun vs H Q E h => ?_) (fun f cdv A outer s H vs Q E hr h => ?_)
  · obtain ⟨_, _, _, _, _, rfl, _⟩ := h
    rfl
  obtain ⟨f', nb, p, q, nms, rfl, hf, hnb, hok, nf, k⟩ := h
  have nd := sc__law_any_kinds.nd
  refine ⟨_, (pss_cons (ps_set (i := 2) nd rfl (by first | exact Or.inl rfl | exact Or.inr rfl) (pe_lst pa_nil))
      (pss_cons (ps_for PassesOwn.never rfl (pi_range1 rfl T.z_range (pa_cons (pe_dcall D__law_take hr (pa_cons (pv 0) (pa_cons pe_int pa_nil star_const) star_name)) pa_nil star_call)) (pg_name (i := 3) nd rfl (by first | exact Or.inl rfl | exact Or.inr rfl))
      (pss_cons (ps_set (i := 4) nd rfl (by first | exact Or.inl rfl | exact Or.inr rfl) (pe_ix ix_list (pe_lst (pa_cons pe_str (pa_cons pe_str pa_nil star_const) star_const)) (pe_dcall D__law_take hr (pa_cons (pv 0) (pa_cons pe_int pa_nil star_const) star_name)) (fun _ _ => rfl)))
      (pss_cons (ps_set (i := 5) nd rfl (by first | exact Or.inl rfl | exact Or.inr rfl) (pe_lst pa_nil))
      (pss_cons (ps_for PassesOwn.never rfl (pi_range1 rfl T.z_range (pa_cons (pe_op op_add (pe_dcall D__law_take hr (pa_cons (pv 0) (pa_cons (pe_op op_add pe_int (pe_callTy call_int1 rfl T.z_int PyProof.Rows.boot_int (pa_cons (pe_cmpR op_eq (pv 4) pe_str (nomark _)) pa_nil star_cmp))) pa_nil star_bin) star_name)) (pe_callTy call_int1 rfl T.z_int PyProof.Rows.boot_int (pa_cons (pe_cmpR op_eq (pv 4) pe_str (nomark _)) pa_nil star_cmp))) pa_nil star_bin)) (pg_name (i := 6) nd rfl (by first | exact Or.inl rfl | exact Or.inr rfl))
      (pss_cons (ps_set (i := 7) nd rfl (by first | exact Or.inl rfl | exact Or.inr rfl) (pe_dcall D__law_take hr (pa_cons (pv 0) (pa_cons pe_int pa_nil star_const) star_name)))
      (pss_cons (ps_set (i := 8) nd rfl (by first | exact Or.inl rfl | exact Or.inr rfl) pe_str)
      (pss_cons (ps_if (pt_cmpR op_gt (pv 7) pe_int (nomark _)) (pss_one (ps_set (i := 8) nd rfl (by first | exact Or.inl rfl | exact Or.inr rfl) (pe_ix ix_list (pv 1) (pe_op op_sub (pv 7) pe_int) (fun _ _ => rfl)))) pss_nil)
      (pss_cons (ps_set (i := 9) nd rfl (by first | exact Or.inl rfl | exact Or.inr rfl) (pe_ix ix_list (pe_lst (pa_cons (pe_op op_add pe_int (pe_op op_mod (pe_op op_add (pv 6) (pe_op op_fdivB (pe_dcall D__law_take hr (pa_cons (pv 0) (pa_cons pe_int pa_nil star_const) star_name)) pe_int)) pe_int)) (pa_cons (pv 6) pa_nil star_name) star_bin)) (pe_callTy call_int1 rfl T.z_int PyProof.Rows.boot_int (pa_cons (pe_cmpR op_eq (pe_dcall D__law_take hr (pa_cons (pv 0) (pa_cons pe_int pa_nil star_const) star_name)) pe_int (nomark _)) pa_nil star_cmp)) (fun _ _ => rfl)))
      (pss_one (ps_expr (pe_bm PySem.F.plainAttrs_list PySem.F.slot_list_append PySem.F.type_list_append mt_append (pv 5) (pa_cons (pe_tup (pa_cons (pe_ix ix_list (pv 1) (pv 9) (fun _ _ => rfl)) (pa_cons (pv 8) pa_nil star_name) star_sub)) pa_nil star_tup)))))))))
      (pss_cons (ps_set (i := 10) nd rfl (by first | exact Or.inl rfl | exact Or.inr rfl) (pe_ix ix_list (pv 1) (pv 3) (fun _ _ => rfl)))
      (pss_cons (ps_if (pt_cmpR op_eq (pe_dcall D__law_take hr (pa_cons (pv 0) (pa_cons pe_int pa_nil star_const) star_name)) pe_int (nomark _)) (pss_one (ps_set (i := 10) nd rfl (by first | exact Or.inl rfl | exact Or.inr rfl) (pe_ix ix_list (pv 1) (pe_dcall D__law_take hr (pa_cons (pv 0) (pa_cons pe_int pa_nil star_const) star_name)) (fun _ _ => rfl)))) pss_nil)
      (pss_one (ps_expr (pe_bm PySem.F.plainAttrs_list PySem.F.slot_list_append PySem.F.type_list_append mt_append (pv 2) (pa_cons (pe_tup (pa_cons (pv 10) (pa_cons (pv 4) (pa_cons (pe_callTy call_tuple_of rfl T.z_tuple PyProof.Rows.boot_tuple (pa_cons (pv 5) pa_nil star_name)) pa_nil star_call) star_name) star_name)) pa_nil star_tup))))))))))
      (pss_one (ps_ret (pe_callTy call_tuple_of rfl T.z_tuple PyProof.Rows.boot_tuple (pa_cons (pv 2) pa_nil star_name)))))), ?_⟩
  refine ⟨(by show 0 ≤ sizeLine; decide), fun l hl => ?_⟩
  have s0 := Same.new hl (.lst [])
  have lf : l ≠ f' := Ne.symm (ne_of_none hf hl)
  refine ⟨_, rfl, f', p, q, 7, rfl, s0 _ _ hf, by decide, by decide, fun r1 H1 r10 r11 f1 => ⟨_, rfl, by omega, by omega, ?_⟩⟩
  have F1 : Fed f' H H1 := ⟨s0.but.trans f1.1, f1.2⟩
  have hp1 : H1 l = some (.lst []) := f1.1 _ _ upd_same lf
  refine for_range (fun i σ H' => ∃ us, ∃ ks : List Kn, ∃ o3 o4 o5 o6 o7 o8 o9 o10, σ = [some (.ref f'), some (.ref nb), some (.ref l), o3, o4, o5, o6, o7, o8, o9, o10] ∧ Fed f' H H' ∧ H' l = some (.lst us) ∧ RelDs H' us (ks.map Kn.d) ∧ ks.length = i ∧ KAny ks)
    ⟨[], [], none, none, none, none, none, none, none, none, rfl, F1, hp1, rfl, rfl, KAny.nil⟩ ?_ ?_
  · rintro i σ H2 hi ⟨us, ks, o3, o4, o5, o6, o7, o8, o9, o10, rfl, F, hlu, hus, hki, hany⟩
    have hi6 : i < 6 := by omega
    have hul := hus.length
    rw [List.length_map] at hul
    obtain ⟨p2, q2, h2⟩ := F.2
    refine ⟨(by show 2 ≤ sizeLine; decide), fun l1 hl1 => ?_⟩
    have s1 := Same.new hl1 (.lst [.str (S "rec"), .str (S "alt")])
    have l1f : l1 ≠ f' := Ne.symm (ne_of_none h2 hl1)
    refine ⟨_, rfl, f', p2, q2, 2, rfl, s1 _ _ h2, by decide, by decide, fun r H3 r0' r1' f3 => ?_⟩
    have key : ∃ srt : Str, atI [V.str (S "rec"), V.str (S "alt")] r = some (.str srt) ∧ (srt = S "rec" ∨ srt = S "alt") := by
      rcases (show r = 0 ∨ r = 1 by omega) with rfl | rfl
      · exact ⟨S "rec", rfl, .inl rfl⟩
      · exact ⟨S "alt", rfl, .inr rfl⟩
    obtain ⟨srt, hat, hsrt⟩ := key
    refine ⟨l1, _, _, _, rfl, rfl, SqL.of (f3.1 _ _ upd_same l1f), hat, ?_⟩
    have F3 : Fed f' H H3 := (F.same s1).trans f3
    obtain ⟨p3, q3, h3⟩ := f3.2
    have hlu3 := f3.1 _ _ (s1 _ _ hlu) lf
    have hus3 := (hus.same s1 _).tups (fed_tups ⟨p2, q2, s1 _ _ h2⟩ f3) _
    refine ⟨(by show 0 ≤ sizeLine; decide), fun pl hpl => ?_⟩
    have sp := Same.new hpl (.lst [])
    have plf : pl ≠ f' := Ne.symm (ne_of_none h3 hpl)
    have pll : pl ≠ l := Ne.symm (ne_of_none hlu3 hpl)
    have plH : H pl = none := by
      cases e : H pl with
      | none => rfl
      | some o => rw [F3.1 pl o e plf] at hpl; cases hpl
    have cnt : ∃ cA cB : Bool, decide (V.str srt = V.str (S "rec")) = cA ∧ decide (V.str srt = V.str (S "alt")) = cB ∧ ((cA = true ∧ cB = false) ∨ (cA = false ∧ cB = true ∧ srt = S "alt")) := by
      rcases hsrt with rfl | rfl
      · exact ⟨true, false, by decide +kernel, by decide +kernel, .inl ⟨rfl, rfl⟩⟩
      · exact ⟨false, true, by decide +kernel, by decide +kernel, .inr ⟨rfl, rfl, rfl⟩⟩
    obtain ⟨cA, cB, eA, eB, hcnt⟩ := cnt
    refine ⟨_, rfl, _, rfl, rfl, .inr ⟨cA, congrArg (fun b => [V.bl b]) eA, 4, (if cA = true then 1 else 0), rfl, rfl, ?_⟩⟩
    refine ⟨f', p3, q3, _, rfl, sp _ _ h3, by split <;> decide, by split <;> decide, fun r4 H4 r40 r41 f4 => ?_⟩
    refine ⟨_, rfl, rfl, .inr ⟨cB, congrArg (fun b => [V.bl b]) eB, r4, (if cB = true then 1 else 0), rfl, rfl, ?_⟩⟩
    have hN : 0 ≤ r4 + (if cB = true then (1 : Int) else 0) ∧ r4 + (if cB = true then (1 : Int) else 0) ≤ 4 ∧ (srt = S "alt" → 1 ≤ r4 + (if cB = true then (1 : Int) else 0)) := by
      rcases hcnt with ⟨rfl, rfl⟩ | ⟨rfl, rfl, _⟩
      · simp at r41 ⊢
        refine ⟨by omega, by omega, fun e => ?_⟩
        rw [e] at eB
        exact absurd eB (by decide +kernel)
      · simp at r41 ⊢
        omega
    obtain ⟨hN0, hN4, hNalt⟩ := hN
    refine ⟨_, rfl, by omega, by omega, ?_⟩
    have F4 : Fed f' H H4 := (F3.same sp).trans f4
    have hlu4 := f4.1 _ _ (sp _ _ hlu3) lf
    have hus4 := (hus3.same sp _).tups (fed_tups ⟨p3, q3, sp _ _ h3⟩ f4) _
    have hpl4 : H4 pl = some (.lst []) := f4.1 _ _ upd_same plf
    refine for_range (fun j σ H' => ∃ ws, ∃ ps : List (Str × Str), ∃ o6 o7 o8 o9 o10, σ = [some (.ref f'), some (.ref nb), some (.ref l), some (.int (0 + (i : Int))), some (.str srt), some (.ref pl), o6, o7, o8, o9, o10] ∧ Fed f' H H' ∧ H' l = some (.lst us) ∧ RelDs H' us (ks.map Kn.d) ∧
        H' pl = some (.lst ws) ∧ RelDs H' ws (ps.map dPart) ∧ ps.length = j ∧ PAny ps)
      ⟨[], [], _, _, _, _, _, rfl, F4, hlu4, hus4, hpl4, rfl, rfl, PAny.nil⟩ ?_ ?_
    · rintro j σ H5 hj ⟨ws, ps, o6, o7, o8, o9, o10, rfl, F5, hlu5, hus5, hpl5, hws5, hpsj, hpn⟩
      have hj4 : j < 4 := by omega
      have hwl := hws5.length
      rw [List.length_map] at hwl
      obtain ⟨p5, q5, h5⟩ := F5.2
      refine ⟨_, rfl, f', p5, q5, 12, rfl, h5, by decide, by decide, fun r6 H6 r60 r61 f6 => ?_⟩
      have F6 : Fed f' H H6 := F5.trans f6
      have hn6 := F6.1 nb _ hnb nf
      refine ⟨_, rfl, _, _, rfl, rfl, _, rfl, ?_⟩
      refine ite2 (fun c => ?_) (fun c => ?_)
      case' refine_1 =>
        have hc := of_decide_eq_true c
        obtain ⟨kd, hkd, hkn⟩ := nm_at hok (ix := r6 - 4) (by omega) (by omega)
        have hkd' : kd = S "num" ∨ Name kd := .inr hkn
        refine ⟨_, rfl, _, rfl, _, _, rfl, rfl, nb, _, _, _, rfl, rfl, SqL.of hn6, hkd, ?_⟩
      case' refine_2 =>
        let kd : Str := S "num"
        have hkd' : kd = S "num" ∨ Name kd := .inl rfl
      all_goals
        obtain ⟨p6, q6, h6⟩ := F6.2
        refine ⟨_, rfl, _, rfl, f', p6, q6, 3, rfl, h6, by decide, by decide, fun r7 H7 r70 r71 f7 => ?_⟩
        have F7 : Fed f' H H7 := F6.trans f7
        obtain ⟨p7, q7, h7⟩ := F7.2
        refine ⟨_, _, rfl, rfl, ⟨by decide, by decide⟩, _, _, rfl, rfl, _, _, rfl, rfl, (by show (0 : Int) < 5; decide), _, _, rfl, rfl, _, rfl, (by show 2 ≤ sizeLine; decide), fun l4 hl4 => ?_⟩
        have s9 := Same.new hl4 (.lst [.int (8 + (0 + (j : Int) + r7 / 2) % 5), .int (0 + (j : Int))])
        have l4f : l4 ≠ f' := Ne.symm (ne_of_none h7 hl4)
        refine ⟨_, rfl, f', p7, q7, 5, rfl, s9 _ _ h7, by decide, by decide, fun r9 H9 r90 r91 f9 => ⟨rfl, .inr ⟨_, rfl, ?_⟩⟩⟩
        have hnm : ∃ (ix : Int) (z : Str), atI [V.int (8 + (0 + (j : Int) + r7 / 2) % 5), V.int (0 + (j : Int))] (if decide (V.int r9 = V.int 0) = true then 1 else 0) = some (.int ix) ∧ atI (nms.map V.str) ix = some (.str z) ∧ Name z := by
          by_cases h : decide (V.int r9 = V.int 0) = true
          · rw [if_pos h]
            obtain ⟨z, h1, h2⟩ := nm_at hok (ix := 0 + (j : Int)) (by omega) (by omega)
            exact ⟨_, z, rfl, h1, h2⟩
          · rw [if_neg h]
            have m0 : 0 ≤ (0 + (j : Int) + r7 / 2) % 5 := Int.emod_nonneg _ (by decide)
            have m1 : (0 + (j : Int) + r7 / 2) % 5 < 5 := Int.emod_lt_of_pos _ (by decide)
            obtain ⟨z, h1, h2⟩ := nm_at hok (ix := 8 + (0 + (j : Int) + r7 / 2) % 5) (by omega) (by omega)
            exact ⟨_, z, rfl, h1, h2⟩
        obtain ⟨ix, z, hix, hz, hzn⟩ := hnm
        have B9 : Fed f' H H9 := (F7.same s9).trans f9
        have hn9 := B9.1 nb _ hnb nf
        refine ⟨l4, _, _, _, rfl, rfl, SqL.of (f9.1 _ _ upd_same l4f), hix, ?_⟩
        have F57 : Fed f' H5 H7 := f6.trans f7
        have F59 : Fed f' H5 H9 := (F57.same s9).trans f9
        have hpl9 := F59.1 _ _ hpl5 plf
        have hlu9 := F59.1 _ _ hlu5 lf
        have hws9 := hws5.tups (fed_tups ⟨p5, q5, h5⟩ F59) _
        have hus9 := hus5.tups (fed_tups ⟨p5, q5, h5⟩ F59) _
        refine ⟨_, rfl, .inl ⟨rfl, _, SqL.of hpl9⟩, _, rfl, _, rfl, nb, _, _, _, rfl, rfl, SqL.of hn9, hz, _, rfl, (by show 2 ≤ sizeLine; decide), fun t ht => ?_⟩
        have st : ∀ o, Same H9 (upd H9 t o) := fun o => Same.new ht o
        refine ⟨pl, ws, _, rfl, rfl, st _ _ _ hpl9, fitsLt (by omega), ?_⟩
        have hst : upd H9 t (.tup [.str z, .str kd]) pl = some (.lst ws) := st _ _ _ hpl9
        refine ⟨ws ++ [.ref t], ps ++ [(z, kd)], _, _, _, _, _, rfl, Fed.put (B9.same (st _)) plH plf _, (by rw [upd_ne (Ne.symm pll)]; exact st _ _ _ hlu9), ((hus9.same (st _) _).tups (lst_tups hst _) _), upd_same, ?_, (by rw [List.length_append, List.length_singleton, hpsj]), hpn.snoc hzn hkd'⟩
        rw [List.map_append]
        exact RelDs.append ((hws9.same (st _) _).tups (lst_tups hst _) _) ⟨_, [], rfl, ⟨t, _, rfl, lst_tups hst _ _ _ upd_same, _, _, rfl, rfl, _, _, rfl, rfl, rfl⟩, rfl⟩
    · rintro σ H5 ⟨ws, ps, o6, o7, o8, o9, o10, rfl, F5, hlu5, hus5, hpl5, hws5, hpsj, hpn⟩
      have hn5 := F5.1 nb _ hnb nf
      obtain ⟨z0, hz0, hzn0⟩ := nm_at hok (ix := 0 + (i : Int)) (by omega) (by omega)
      refine ⟨_, rfl, _, rfl, nb, _, _, _, rfl, rfl, SqL.of hn5, hz0, ?_⟩
      obtain ⟨p5, q5, h5⟩ := F5.2
      refine ⟨_, rfl, f', p5, q5, 7, rfl, h5, by decide, by decide, fun r6 H6 r60 r61 f6 => ⟨rfl, _, rfl, ?_⟩⟩
      have F6 : Fed f' H H6 := F5.trans f6
      refine ite2 (fun c => ?_) (fun c => ?_)
      case' refine_1 =>
        obtain ⟨p6, q6, h6⟩ := F6.2
        refine ⟨_, rfl, _, rfl, f', p6, q6, 7, rfl, h6, by decide, by decide, fun r7 H7 r70 r71 f7 => ?_⟩
        have F57 : Fed f' H5 H7 := f6.trans f7
        obtain ⟨z, hz, hzn⟩ := nm_at hok (ix := r7) (by omega) (by omega)
        refine ⟨nb, _, _, _, rfl, rfl, SqL.of ((F5.trans F57).1 nb _ hnb nf), hz, ?_⟩
      case' refine_2 =>
        let z : Str := z0
        have hzn : Name z := hzn0
        let H7 : Hp := H6
        have F57 : Fed f' H5 H7 := f6
      all_goals
        have F7 : Fed f' H H7 := F5.trans F57
        have hlu7 := F57.1 _ _ hlu5 lf
        have hpl7 := F57.1 _ _ hpl5 plf
        have hws7 := hws5.tups (fed_tups ⟨p5, q5, h5⟩ F57) _
        have hus7 := hus5.tups (fed_tups ⟨p5, q5, h5⟩ F57) _
        refine ⟨_, rfl, .inl ⟨rfl, _, SqL.of hlu7⟩, _, rfl, _, rfl, _, rfl, pl, ws, rfl, .inl ⟨SqL.of hpl7, fun t2 ht2 => ⟨(by show 3 ≤ sizeLine; decide), fun t ht => ?_⟩⟩⟩
        have s6 := Same.new ht2 (.tup ws)
        have s7 : ∀ o, Same (upd H7 t2 (.tup ws)) (upd (upd H7 t2 (.tup ws)) t o) := fun o => Same.new ht o
        have s57 : ∀ o, Same H7 (upd (upd H7 t2 (.tup ws)) t o) := fun o => s6.trans (s7 o)
        refine ⟨l, us, _, rfl, rfl, s57 _ _ _ hlu7, fitsLt (by omega), ?_⟩
        have hst : upd (upd H7 t2 (.tup ws)) t (.tup [.str z, .str srt, .ref t2]) l = some (.lst us) := s57 _ _ _ hlu7
        have hk1 : K1 (Kn.mk z (decide (srt = S "rec")) ps) := k1_of hsrt hzn hpn (by omega) fun e e2 => by
          have h1 := hNalt e
          rw [e2] at hpsj
          simp only [List.length_nil] at hpsj
          omega
        refine ⟨_, ks ++ [Kn.mk z (decide (srt = S "rec")) ps], _, _, _, _, _, _, _, _, rfl, Fed.put (F7.same (s57 _)) hl lf _, upd_same, ?_, by rw [List.length_append, List.length_singleton, hki], hany.snoc hk1 (by omega)⟩
        rw [List.map_append]
        refine RelDs.append ((hus7.same (s57 _) _).tups (lst_tups hst _) _) ?_
        refine ⟨_, [], rfl, ⟨t, _, rfl, lst_tups hst _ _ _ upd_same, _, _, rfl, rfl, _, _, rfl, ?_, _, _, rfl, ⟨t2, ws, rfl, lst_tups hst _ _ _ (s7 _ _ _ upd_same), (hws7.same (s57 _) _).tups (lst_tups hst _) _⟩, rfl⟩, rfl⟩
        show V.str srt = V.str _
        rw [sort_is hsrt]
  · rintro σ H2 ⟨us, ks, o3, o4, o5, o6, o7, o8, o9, o10, rfl, F, hlu, hus, hki, hany⟩
    refine ⟨_, rfl, l, us, rfl, .inl ⟨SqL.of hlu, fun t ht => ?_⟩⟩
    have s1 := Same.new ht (.tup us)
    exact k _ ks _ (F.same s1) ⟨t, us, rfl, upd_same, hus.same s1 _⟩ hany
end
end K10

end

section
set_option Elab.async false
set_option linter.all false
set_option maxRecDepth 100000
set_option maxHeartbeats 4000000
namespace K10
open PySem L2 M
seal L2.PE L2.PA L2.PS L2.PSs L2.PT L2.PW L2.PI L2.PG L2.PJ L2.PTs
theorem Same.over {H H' : Hp} {p : Addr} (s : Same H H') (hp : H p = none) (o : HO) : Same H (upd H' p o) := fun b u q => by
  rw [upd_ne (ne_of_none q hp)]
  exact s b u q
noncomputable def Rz (K : PySem.W.Frag) (H : Hp) (v : Value) (d : Option Addr) (c : Nat) : Prop := ∃ x, v = .ref x ∧ d = none ∧ H x = some (excF x (cAt K c) none .none)
theorem raised {H : Hp} {e C : Addr} (he : H e = none) : Same H (upd (upd H e (excO e C none)) e (excF e C none .none)) := fun b u q => by
  rw [upd_ne (ne_of_none q he), upd_ne (ne_of_none q he)]
  exact q
theorem name_le {x : Str} (h : Name x) : x.length ≤ 6 := by
  have hnl := h.le
  rw [Array.length_toList] at hnl
  exact hnl
theorem kd_le {x : Str} (h : x = S "num" ∨ Name x) : x.length ≤ 6 := by
  rcases h with rfl | h
  · decide +kernel
  · exact name_le h
theorem ap_le {a b : Str} {m n : Nat} (h1 : a.length ≤ m) (h2 : b.length ≤ n) : (a ++ b).length ≤ m + n := by
  rw [Str.length_append]
  omega
theorem log_small {i : Int} (h : i.natAbs < 2 ^ 64) : i.natAbs.log2 < 1920 := by
  by_cases h0 : i.natAbs = 0
  · rw [h0]; decide
  · have := (Nat.log2_lt h0).mpr h
    omega
theorem len_num {i : Int} (h0 : 0 ≤ i) (h : i < 10 ^ 18) : (Str.ofString (toString i)).length ≤ 18 := by
  obtain ⟨m, rfl⟩ := Int.eq_ofNat_of_zero_le h0
  have e := congrArg List.length (num_reads m)
  rw [List.length_map] at e
  show (numS (m : Int)).cps.size ≤ 18
  rw [← Array.length_toList, e]
  exact (Nat.length_toDigits_le_iff (b := 10) (k := 18) (by decide) (by decide)).mpr (by omega)
noncomputable def KSz (H : Hp) (kv : V) (p : Addr) (as : List Kn) (k : Kn) : Prop := KWf as ∧ K1 k ∧ RelD H kv k.d ∧ H p = some (.dK (szK as as.length))
noncomputable def Fails (K : PySem.W.Frag) (H : Hp) (E : XK) (c : Nat) : Prop := ∀ v d H', Same H H' → Rz K H' v d c → E v d H'
noncomputable def spSizeBy : Sp := fun vs H Q _ => ∃ kv p as k, vs = [kv, .ref p] ∧ KSz H kv p as k ∧ (∀ q ∈ k.parts, KIn as as.length q.2) ∧ ∀ H', Same H H' → Q (.int (1 + inSz k (sz as))) H'
noncomputable def spLookNames (K : PySem.W.Frag) : Sp := fun vs H Q E => ∃ kv p as k, vs = [kv, .ref p] ∧ KSz H kv p as k ∧ (twB as k = true → Fails K H E 1) ∧ (twB as k = false → nnB as k = true → Fails K H E 2) ∧ (twB as k = false → nnB as k = false → ∀ H', Same H H' → Q .non H')
noncomputable def spLookedSize (K : PySem.W.Frag) : Sp := fun vs H Q E => ∃ kv p as k, vs = [kv, .ref p] ∧ KSz H kv p as k ∧ (∀ q ∈ k.parts, KIn as as.length q.2) ∧ (bigB as k = true → Fails K H E 8) ∧ (bigB as k = false → ∀ H', Same H H' → Q (.int (1 + inSz k (sz as))) H')
noncomputable def spOnce (K : PySem.W.Frag) : Sp := fun vs H Q E => ∃ (p : Addr) (ns : List Str) (t : Str), vs = [.ref p, .str t] ∧ H p = some (.lst (ns.map V.str)) ∧ ns.length ≤ 1000 ∧ t.length ≤ 100 ∧ (ns.Nodup → Q .non H) ∧ (¬ ns.Nodup → Fails K H E 1)
noncomputable def spLookKinds (K : PySem.W.Frag) : Sp := fun vs H Q E => ∃ kv ks, vs = [kv] ∧ RelD H kv (dKinds ks) ∧ KAny ks ∧ (resK [] ks = none → ∀ H', Same H H' → Q (.bl true) H') ∧ (∀ c, resK [] ks = some c → Fails K H E c)
section
variable {P : Program} {w : World} {K : PySem.W.Frag} {mg : Str → Option Value} {base : Heap} {n m : Nat}
theorem get_of {H : Hp} {p : Addr} {as : List Kn} {x : Str} (wf : KWf as) (hp : H p = some (.dK (szK as as.length))) (h : KIn as as.length x) : DGet H p (.str x) (some (.int (sz as x))) := by
  have g : DGet H p (.str x) (valV (szK as as.length) (Sum.inr x)) := DGet.k (k := Sum.inr x) hp
  rw [szK_get wf h] at g
  exact g
theorem ok_size_by (T : Tx K mg) : DefIs P w K mg base (n + 1) "size_by" ["kind", "sizes"] spSizeBy := by
  refine DefIs.of T.d_size_by sc_size_by (fun vs H Q E h => ?_) (fun f cdv A outer s H vs Q E hr h => ?_)
  · obtain ⟨_, _, _, _, rfl, _⟩ := h
    rfl
  obtain ⟨kv, p, as, k, rfl, ⟨wf, k1, hk, hp⟩, hin, q⟩ := h
  have nd := sc_size_by.nd
  have hu := hu_of hr
  refine ⟨_, (pss_cons (ps_setComp (i := 2) ["part", "sizes"] [none, some 1] rfl (by kernel_rfl) nd rfl (by first | exact Or.inl rfl | exact Or.inr rfl) (pi_tup (pe_ix ix_tup (pv 0) pe_int (fun _ _ => rfl))) (fun _ _ _ _ => (pg_name (i := 0) (by show List.Nodup (["part", "sizes"] : List Str); decide +kernel) rfl (Or.inl rfl))) (fun _ _ _ _ => pts_nil) (fun _ _ _ _ => (pe_dget hu (pv 1) (pe_ix (ix_tupC (K := K) rfl) (pv 0) pe_int (fun _ _ => rfl)) (fun _ _ => rfl))))
      (pss_cons (ps_if (pt_cmpR op_eq (pe_ix ix_tup (pv 0) pe_int (fun _ _ => rfl)) pe_str (nomark _)) (pss_one (ps_ret (pe_op op_add pe_int (pe_callB (call_sumL rfl) rfl T.z_sum PyProof.Rows.boot_sum (pa_cons (pv 2) pa_nil star_name))))) pss_nil)
      (pss_one (ps_ret (pe_op op_add pe_int (pe_callB (call_maxL rfl) rfl T.z_max PyProof.Rows.boot_max (pa_cons (pv 2) pa_nil star_name))))))), ?_⟩
  obtain ⟨b, ws, rfl, hb, _, _, rfl, rfl, _, _, rfl, rfl, v3, _, rfl, r3, rfl⟩ := hk
  obtain ⟨a, us, rfl, ha, hus⟩ := r3
  have hl := hus.length
  rw [List.length_map] at hl
  have h5 := k1.pts
  refine ⟨_, rfl, b, _, _, _, rfl, rfl, SqT.of hb, rfl, a, rfl, ⟨_, SqT.of ha⟩, ?_⟩
  refine comp_tup (j := 0) (xs := us) (fun i' ys H' => H' = H ∧ ys = ((k.parts.take i').map fun p => sz as p.2).map V.int) (by rfl) ⟨rfl, rfl⟩ (fitsLt (by omega)) (fun i' ys H' _ p => by obtain ⟨rfl, _⟩ := p; exact SqT.of ha) ?_ ?_
  · rintro i' y ys H' hy hly ⟨rfl, rfl⟩
    obtain ⟨d, hd, rd⟩ := hus.get hy
    rw [List.getElem?_map] at hd
    obtain ⟨pr, hp', rfl⟩ := Option.map_eq_some_iff.mp hd
    obtain ⟨b', ws', rfl, hb', _, _, rfl, rfl, _, _, rfl, rfl, rfl⟩ := rd
    have hi' : i' < us.length := (List.getElem?_eq_some_iff.mp hy).1
    refine ⟨_, rfl, _, rfl, b', _, _, _, rfl, rfl, SqT.of hb', rfl, p, _, rfl, get_of wf hp (hin pr (List.mem_of_getElem? hp')), nxt hi' hly ⟨rfl, ?_⟩⟩
    rw [List.take_add_one, hp']
    simp
  · rintro ys H' hly ⟨rfl, rfl⟩ D hD
    rw [List.take_of_length_le (by omega)]
    have sD := Same.new hD (.lst ((k.parts.map fun p => sz as p.2).map V.int))
    have hbd : ∀ n ∈ k.parts.map (fun p => sz as p.2), 0 ≤ n ∧ n ≤ 1000000 := fun n hn => by
      obtain ⟨p, _, rfl⟩ := List.mem_map.mp hn
      have h1 := sz_ge wf p.2
      have h2 := sz_le wf p.2
      exact ⟨by omega, by omega⟩
    refine ⟨_, rfl, b, _, _, _, rfl, rfl, SqT.of (sD _ _ hb), rfl, rfl, _, rfl, ?_⟩
    cases hc : k.rc with
    | true =>
      refine iteKT (decide_eq_true (by unfold Kn.sort; rw [if_pos hc]; rfl)) ?_
      refine ⟨_, rfl, D, _, rfl, SqL.of upd_same, hbd, by rw [List.length_map]; omega, _, _, rfl, rfl, ?_⟩
      have := q _ sD
      unfold inSz at this
      rw [if_pos hc] at this
      exact this
    | false =>
      refine iteKF (decide_eq_false (by unfold Kn.sort; rw [if_neg (by rw [hc]; decide)]; decide +kernel)) ?_
      have hne := k1.alt hc
      refine ⟨_, rfl, D, _, rfl, SqL.of upd_same, (fun z => hne (List.map_eq_nil_iff.mp z)), fun mx h1 h2 => ⟨_, _, rfl, rfl, ?_⟩⟩
      have := q _ sD
      unfold inSz at this
      rw [if_neg (by rw [hc]; decide), ← maxD_is (fun z => hne (List.map_eq_nil_iff.mp z)) (fun n hn => (hbd n hn).1) h1 h2] at this
      exact this
theorem ok_looked_size (T : Tx K mg) (D_size_by : DefIs P w K mg base n "size_by" ["kind", "sizes"] spSizeBy) : DefXs P w K mg base (n + 1) "looked_size" ["kind", "sizes"] (spLookedSize K) := by
  refine DefXs.of T.d_looked_size sc_looked_size (fun vs H Q E h => ?_) (fun f cdv A outer s H vs Q E hr h => ?_)
  · obtain ⟨_, _, _, _, rfl, _⟩ := h
    rfl
  obtain ⟨kv, p, as, k, rfl, hz, hin, q8, q⟩ := h
  have nd := sc_looked_size.nd
  refine ⟨_, (pss_cons (ps_set (i := 2) nd rfl (by first | exact Or.inl rfl | exact Or.inr rfl) (pe_dcall D_size_by hr (pa_cons (pv 0) (pa_cons (pv 1) pa_nil star_name) star_name)))
      (pss_cons (ps_if (pt_cmpR op_gt (pv 2) (pe_gint T.g_GREATEST_SIZE) (nomark _)) (pss_cons (ps_set (i := 3) nd rfl (by first | exact Or.inl rfl | exact Or.inr rfl) (pe_ix ix_tup (pv 0) pe_int (fun _ _ => rfl)))
      (pss_one (ps_raise rfl (pe_exc (T.xt.cl 8 (by decide)) (T.xt.ini 8 (by decide) (by decide)) rfl T.c_TooBig (pa_cons (pe_fstr (pj_lit (pj_str (pv 3) (pj_lit (pj_int (pv 2) pj_nil))))) pa_nil star_fstr))))) pss_nil)
      (pss_one (ps_ret (pv 2))))), ?_⟩
  refine ⟨_, rfl, _, rfl, _, p, as, k, rfl, hz, hin, fun H1 s1 => ⟨_, rfl, _, _, rfl, rfl, _, rfl, ite2 (fun c => ?_) (fun c => ?_)⟩⟩
  · obtain ⟨wf, k1, hk, hp⟩ := hz
    obtain ⟨b, ws, rfl, hb, _, _, rfl, rfl, _, _, rfl, rfl, v3, _, rfl, r3, rfl⟩ := hk
    refine ⟨_, rfl, b, _, _, _, rfl, rfl, SqT.of (s1 _ _ hb), rfl, ?_⟩
    have hB := inSz_bound (k := k) wf k1.pts
    have hn := name_le k1.nm
    have e9 : (Str.empty ++ Str.ofString "the kind ").length ≤ 9 := by decide +kernel
    have e14 : (Str.ofString " has the size ").length ≤ 14 := by decide +kernel
    have ei := len_num (i := 1 + inSz k (sz as)) (by omega) (by omega)
    have l1 := ap_le e9 hn
    have l2 := ap_le l1 e14
    have l3 := ap_le l2 ei
    refine ⟨fits (Nat.le_trans e9 (by decide)), _, rfl, _, rfl, fits (Nat.le_trans hn (by decide)), fits (Nat.le_trans l1 (by decide)), fits (Nat.le_trans l2 (by decide)), _, rfl, _, rfl, log_small (by omega), fits (Nat.le_trans l3 (by decide)), fits (Nat.le_trans l3 (by decide)), (by show 1 ≤ sizeLine; decide), fun e he => ?_⟩
    exact ⟨e, cAt K 8, none, rfl, upd_same, T.xt.cl 8 (by decide), q8 c _ _ _ (s1.trans (raised he)) ⟨e, rfl, rfl, upd_same⟩⟩
  · exact ⟨_, rfl, q (Bool.eq_false_iff.mpr c) _ s1⟩
theorem ok_need_once (T : Tx K mg) : DefXs P w K mg base (n + 1) "need_once" ["names", "things"] (spOnce K) := by
  refine DefXs.of T.d_need_once sc_need_once (fun vs H Q E h => ?_) (fun f cdv A outer s H vs Q E hr h => ?_)
  · obtain ⟨_, _, _, rfl, _⟩ := h
    rfl
  obtain ⟨p, ns, t, rfl, hp, hle, ht, q, q1⟩ := h
  have nd := sc_need_once.nd
  refine ⟨_, (pss_one (ps_if (pt_cmpR op_lt (pe_lenSetG rfl rfl T.z_len rfl T.z_set (pv 0)) (pe_callB call_len_seq rfl T.z_len PySem.boot_len (pa_cons (pv 0) pa_nil star_name)) (nomark _)) (pss_one (ps_raise rfl (pe_exc (T.xt.cl 1 (by decide)) (T.xt.ini 1 (by decide) (by decide)) rfl T.c_Twice (pa_cons (pe_fstr (pj_lit (pj_str (pv 1) (pj_lit pj_nil)))) pa_nil star_fstr)))) pss_nil)), ?_⟩
  refine ⟨_, rfl, p, ns, rfl, hp, hle, fun m hm hiff => ?_⟩
  refine ⟨_, rfl, p, _, rfl, .inl (SqL.of hp), ?_⟩
  refine ⟨_, _, rfl, rfl, _, rfl, ite2 (fun c => ?_) (fun c => ?_)⟩
  · have hc := of_decide_eq_true c
    rw [List.length_map] at hc
    have e4 : (Str.empty ++ Str.ofString "two ").length ≤ 4 := by decide +kernel
    have e12 : (Str.ofString " of one name").length ≤ 12 := by decide +kernel
    have l1 := ap_le e4 ht
    have l2 := ap_le l1 e12
    refine ⟨fits (Nat.le_trans e4 (by decide)), _, rfl, _, rfl, fits (Nat.le_trans ht (by decide)), fits (Nat.le_trans l1 (by decide)), fits (Nat.le_trans l2 (by decide)), fits (Nat.le_trans l2 (by decide)), (by show 1 ≤ sizeLine; decide), fun e he => ?_⟩
    exact ⟨e, cAt K 1, none, rfl, upd_same, T.xt.cl 1 (by decide), q1 (fun hn => by have := hiff.mpr hn; omega) _ _ _ (raised he) ⟨e, rfl, rfl, upd_same⟩⟩
  · have hc : ¬ ((m : Int) < ((ns.map V.str).length : Nat)) := fun z => c (decide_eq_true z)
    rw [List.length_map] at hc
    exact q (hiff.mp (by omega))
theorem ok_look_names (T : Tx K mg) (D_need_once : DefXs P w K mg base n "need_once" ["names", "things"] (spOnce K)) : DefXs P w K mg base (n + 1) "look_names" ["kind", "sizes"] (spLookNames K) := by
  refine DefXs.of T.d_look_names sc_look_names (fun vs H Q E h => ?_) (fun f cdv A outer s H vs Q E hr h => ?_)
  · obtain ⟨_, _, _, _, rfl, _⟩ := h
    rfl
  obtain ⟨kv, p, as, k, rfl, ⟨wf, k1, hk, hp⟩, qt, qn, q⟩ := h
  have nd := sc_look_names.nd
  have hu := hu_of hr
  refine ⟨_, (pss_cons (ps_set (i := 2) nd rfl (by first | exact Or.inl rfl | exact Or.inr rfl) (pe_ix ix_tup (pv 0) pe_int (fun _ _ => rfl)))
      (pss_cons (ps_set (i := 3) nd rfl (by first | exact Or.inl rfl | exact Or.inr rfl) (pe_ix ix_tup (pv 0) pe_int (fun _ _ => rfl)))
      (pss_cons (ps_if (pt_cmp (pc_din hu (pv 2) (pv 1))) (pss_one (ps_raise rfl (pe_exc (T.xt.cl 1 (by decide)) (T.xt.ini 1 (by decide) (by decide)) rfl T.c_Twice (pa_cons (pe_fstr (pj_lit (pj_str (pv 2) pj_nil))) pa_nil star_fstr)))) pss_nil)
      (pss_cons (ps_expr (pe_xcall D_need_once hr (pa_cons (pe_comp ["part"] [none] rfl (by kernel_rfl) (pi_tup (pv 3)) (fun _ _ _ _ => (pg_name (i := 0) (by show List.Nodup (["part"] : List Str); decide +kernel) rfl (Or.inl rfl))) (fun _ _ _ _ => pts_nil) (fun _ _ _ _ => (pe_ix (ix_tupC (K := K) rfl) (pv 0) pe_int (fun _ _ => rfl)))) (pa_cons (pe_fstr (pj_lit (pj_str (pv 2) pj_nil))) pa_nil star_fstr) star_comp)))
      (pss_one (ps_for (thr_ownT rfl rfl) rfl (pi_tup (pv 3)) (pg_name (i := 4) nd rfl (by first | exact Or.inl rfl | exact Or.inr rfl))
      (pss_cons (ps_set (i := 5) nd rfl (by first | exact Or.inl rfl | exact Or.inr rfl) (pe_ix ix_tup (pv 4) pe_int (fun _ _ => rfl)))
      (pss_one (ps_if (pt_cmp (pc_dnotin hu (pv 5) (pv 1))) (pss_one (ps_raise rfl (pe_exc (T.xt.cl 2 (by decide)) (T.xt.ini 2 (by decide) (by decide)) rfl T.c_NoName (pa_cons (pe_fstr (pj_lit (pj_str (pv 5) (pj_lit (pj_str (pv 2) pj_nil))))) pa_nil star_fstr)))) pss_nil))))))))), ?_⟩
  obtain ⟨b, ws, rfl, hb, _, _, rfl, rfl, _, _, rfl, rfl, v3, _, rfl, r3, rfl⟩ := hk
  obtain ⟨a, us, rfl, ha, hus⟩ := r3
  have hl := hus.length
  rw [List.length_map] at hl
  have h5 := k1.pts
  have hn := name_le k1.nm
  have g0 : ∀ x, DGet H p (.str x) (valV (szK as as.length) (Sum.inr x)) := fun x => DGet.k (k := Sum.inr x) hp
  have hnn := name_ne_num k1.nm
  refine ⟨_, rfl, b, _, _, _, rfl, rfl, SqT.of hb, rfl, ?_⟩
  refine ⟨_, rfl, b, _, _, _, rfl, rfl, SqT.of hb, rfl, ?_⟩
  refine ⟨_, rfl, _, rfl, p, _, rfl, g0 _, _, rfl, ?_⟩
  rw [szK_has wf, decide_eq_false hnn, Bool.false_or]
  refine ite2 (fun c => ?_) (fun c => ?_)
  · have e10 : (Str.empty ++ Str.ofString "two kinds ").length ≤ 10 := by decide +kernel
    have l1 := ap_le e10 hn
    refine ⟨fits (Nat.le_trans e10 (by decide)), _, rfl, _, rfl, fits (Nat.le_trans hn (by decide)), fits (Nat.le_trans l1 (by decide)), fits (Nat.le_trans l1 (by decide)), (by show 1 ≤ sizeLine; decide), fun e he => ?_⟩
    exact ⟨e, cAt K 1, none, rfl, upd_same, T.xt.cl 1 (by decide), qt (by unfold twB; rw [c]; rfl) _ _ _ (raised he) ⟨e, rfl, rfl, upd_same⟩⟩
  have hc0 : nmIn as k.name = false := Bool.eq_false_iff.mpr c
  refine ⟨_, rfl, a, rfl, ⟨_, SqT.of ha⟩, ?_⟩
  refine comp_tup (j := 0) (xs := us) (fun i' ys H' => H' = H ∧ ys = ((k.parts.take i').map fun p => p.1).map V.str) (by rfl) ⟨rfl, rfl⟩ (fitsLt (by omega)) (fun i' ys H' _ p => by obtain ⟨rfl, _⟩ := p; exact SqT.of ha) ?_ ?_
  · rintro i' y ys H' hy hly ⟨rfl, rfl⟩
    obtain ⟨d, hd, rd⟩ := hus.get hy
    rw [List.getElem?_map] at hd
    obtain ⟨pr, hp', rfl⟩ := Option.map_eq_some_iff.mp hd
    obtain ⟨b', ws', rfl, hb', _, _, rfl, rfl, _, _, rfl, rfl, rfl⟩ := rd
    have hi' : i' < us.length := (List.getElem?_eq_some_iff.mp hy).1
    refine ⟨_, rfl, b', _, _, _, rfl, rfl, SqT.of hb', rfl, nxt hi' hly ⟨rfl, ?_⟩⟩
    rw [List.take_add_one, hp']
    simp
  rintro ys H9 hly ⟨rfl, rfl⟩ D hD
  rw [List.take_of_length_le (by omega)]
  have sD := Same.new hD (.lst ((k.parts.map fun p => p.1).map V.str))
  have e18 : (Str.empty ++ Str.ofString "parts of the kind ").length ≤ 18 := by decide +kernel
  have l1 := ap_le e18 hn
  refine ⟨fits (Nat.le_trans e18 (by decide)), _, rfl, _, rfl, fits (Nat.le_trans hn (by decide)), fits (Nat.le_trans l1 (by decide)), fits (Nat.le_trans l1 (by decide)), ?_⟩
  refine ⟨D, k.parts.map fun p => p.1, _, rfl, upd_same, by rw [List.length_map]; omega, Nat.le_trans l1 (by decide), fun hnd => ?_, fun hnd v d H' s' r => qt (by unfold twB dupB; rw [decide_eq_false hnd, hc0]; rfl) v d H' (sD.trans s') r⟩
  have ht0 : twB as k = false := by
    unfold twB dupB
    rw [decide_eq_true hnd, hc0]
    rfl
  refine ⟨_, rfl, a, rfl, ⟨_, SqT.of (sD _ _ ha)⟩, ?_⟩
  refine for_tup (xs := us) (fun i σ H' => ∃ o4 o5, σ = [some (.ref b), some (.ref p), some (.str k.name), some (.ref a), o4, o5] ∧ H' = upd H9 D (.lst ((k.parts.map fun p => p.1).map V.str)) ∧ ∀ pr ∈ k.parts.take i, nnP as pr = false) ⟨none, none, rfl, rfl, fun _ h => nomatch h⟩ (fun i σ H' _ p => ?_) ?_ ?_
  · obtain ⟨_, _, _, rfl, _⟩ := p
    exact SqT.of (sD _ _ ha)
  · rintro j v σ H' hv ⟨o4, o5, rfl, rfl, hall⟩
    obtain ⟨d, hd, rd⟩ := hus.get hv
    rw [List.getElem?_map] at hd
    obtain ⟨pr, hp', rfl⟩ := Option.map_eq_some_iff.mp hd
    obtain ⟨b', ws', rfl, hb', _, _, rfl, rfl, _, _, rfl, rfl, rfl⟩ := rd
    have hmp := List.mem_of_getElem? hp'
    refine ⟨_, rfl, b', _, _, _, rfl, rfl, SqT.of (sD _ _ hb'), rfl, ?_⟩
    refine ⟨_, rfl, _, rfl, p, _, rfl, DGet.k (k := Sum.inr pr.2) (sD _ _ hp), _, rfl, ?_⟩
    rw [szK_has wf, Bool.not_or]
    refine ite2 (fun c2 => ?_) (fun c2 => ?_)
    · have hk2 := kd_le (k1.pkd pr hmp)
      have e8 : (Str.empty ++ Str.ofString "no kind ").length ≤ 8 := by decide +kernel
      have e19 : (Str.ofString " ahead of the kind ").length ≤ 19 := by decide +kernel
      have m1 := ap_le e8 hk2
      have m2 := ap_le m1 e19
      have m3 := ap_le m2 hn
      refine ⟨fits (Nat.le_trans e8 (by decide)), _, rfl, _, rfl, fits (Nat.le_trans hk2 (by decide)), fits (Nat.le_trans m1 (by decide)), fits (Nat.le_trans m2 (by decide)), _, rfl, _, rfl, fits (Nat.le_trans hn (by decide)), fits (Nat.le_trans m3 (by decide)), fits (Nat.le_trans m3 (by decide)), (by show 1 ≤ sizeLine; decide), fun e he => ?_⟩
      exact ⟨e, cAt K 2, none, rfl, upd_same, T.xt.cl 2 (by decide), qn ht0 (List.any_eq_true.mpr ⟨pr, hmp, c2⟩) _ _ _ (sD.trans (raised he)) ⟨e, rfl, rfl, upd_same⟩⟩
    · refine ⟨_, _, rfl, rfl, fun z hz => ?_⟩
      rw [List.take_add_one, hp'] at hz
      rcases List.mem_append.mp hz with hz | hz
      · exact hall z hz
      · rw [List.mem_singleton.mp hz]
        exact Bool.eq_false_iff.mpr c2
  · rintro σ H' ⟨o4, o5, rfl, rfl, hall⟩
    rw [List.take_of_length_le (by omega)] at hall
    exact q ht0 (List.any_eq_false.mpr fun z hz => by rw [hall z hz]; decide) _ sD
theorem resK_one (as : List Kn) (k : Kn) (ks : List Kn) : resK as (k :: ks) = (match res1 as k with | some c => some c | none => resK (as ++ [k]) ks) := rfl
theorem ok_look_kinds (T : Tx K mg) (D_look_names : DefXs P w K mg base n "look_names" ["kind", "sizes"] (spLookNames K)) (D_looked_size : DefXs P w K mg base n "looked_size" ["kind", "sizes"] (spLookedSize K)) : DefXs P w K mg base (n + 1) "look_kinds" ["kinds"] (spLookKinds K) := by
  refine DefXs.of T.d_look_kinds sc_look_kinds (fun vs H Q E h => ?_) (fun f cdv A outer s H vs Q E hr h => ?_)
  · obtain ⟨_, _, rfl, _⟩ := h
    rfl
  obtain ⟨kv, ks, rfl, hk, hany, q, qf⟩ := h
  have nd := sc_look_kinds.nd
  have hu := hu_of hr
  refine ⟨_, (pss_cons (ps_set (i := 1) nd rfl (by first | exact Or.inl rfl | exact Or.inr rfl) (pe_disp (pps_cons pe_str pe_int pps_nil) rfl rfl (fun z => by cases z) (by decide)))
      (pss_cons (ps_for (thr_ownT rfl rfl) rfl (pi_tup (pv 0)) (pg_name (i := 2) nd rfl (by first | exact Or.inl rfl | exact Or.inr rfl))
      (pss_cons (ps_expr (pe_xcall D_look_names hr (pa_cons (pv 2) (pa_cons (pv 1) pa_nil star_name) star_name)))
      (pss_one (ps_dput hu (pv 1) (pe_ix ix_tup (pv 2) pe_int (fun _ _ => rfl)) (pe_xcall D_looked_size hr (pa_cons (pv 2) (pa_cons (pv 1) pa_nil star_name) star_name)) rfl))))
      (pss_one (ps_ret pe_bl)))), ?_⟩
  obtain ⟨a, us, rfl, ha, hus⟩ := hk
  have hl := hus.length
  rw [List.length_map] at hl
  have h6 := hany.few
  intro p hp
  refine ⟨upd_same, [(Sum.inr (S "num"), .int 1)], rfl, by decide, ?_⟩
  have s0 := Same.new2 hp (.dK []) (.dK (mergeK [] [(Sum.inr (S "num"), .int 1)]))
  refine ⟨_, rfl, a, rfl, ⟨_, SqT.of (s0 _ _ ha)⟩, ?_⟩
  refine for_tup (xs := us) (fun i σ H' => ∃ o2, σ = [some (.ref a), some (.ref p), o2] ∧ Same H H' ∧ KWf (ks.take i) ∧ Fit (ks.take i) ∧ resK [] ks = resK (ks.take i) (ks.drop i) ∧ H' p = some (.dK (szK (ks.take i) (ks.take i).length))) ⟨none, rfl, s0, KWf.nil, Fit.nil, rfl, upd_same⟩ (fun i σ H' _ p => ?_) ?_ ?_
  · obtain ⟨_, _, sm, _⟩ := p
    exact SqT.of (sm _ _ ha)
  · rintro i v σ H' hv ⟨o3, rfl, sm, wf, hft, hres, hd'⟩
    obtain ⟨d, hd, rd⟩ := hus.get hv
    rw [List.getElem?_map] at hd
    obtain ⟨k, hk', rfl⟩ := Option.map_eq_some_iff.mp hd
    have hi : i < ks.length := (List.getElem?_eq_some_iff.mp hk').1
    have hli : (ks.take i).length = i := by rw [List.length_take]; omega
    have k1 := hany.one (List.mem_of_getElem? hk')
    have ed : ks.drop i = k :: ks.drop (i + 1) := by
      rw [List.drop_eq_getElem_cons hi]
      congr 1
      exact (List.getElem?_eq_some_iff.mp hk').2
    have et : ks.take (i + 1) = ks.take i ++ [k] := by rw [List.take_add_one, hk']; rfl
    rw [ed, resK_one] at hres
    have bad : ∀ c, res1 (ks.take i) k = some c → resK [] ks = some c := fun c e => by rw [e] at hres; exact hres
    refine ⟨_, rfl, _, rfl, v, p, ks.take i, k, rfl, ⟨wf, k1, rd.same sm _, hd'⟩, fun z v d H1 s1 r => qf 1 (bad 1 (by unfold res1; rw [if_pos z])) v d H1 (sm.trans s1) r,
      fun z1 z2 v d H1 s1 r => qf 2 (bad 2 (by unfold res1; rw [z1, if_neg (by decide), if_pos z2])) v d H1 (sm.trans s1) r, fun z1 z2 H0 s0' => ?_⟩
    have hin := nnB_kin z2
    refine ⟨_, rfl, _, rfl, v, p, ks.take i, k, rfl, ⟨wf, k1, rd.same (sm.trans s0') _, s0' _ _ hd'⟩, hin, fun z v d H1 s1 r => qf 8 (bad 8 (by unfold res1; rw [z1, if_neg (by decide), z2, if_neg (by decide), if_pos z])) v d H1 ((sm.trans s0').trans s1) r, fun z3 H1 s1' => ?_⟩
    have s1 := s0'.trans s1'
    obtain ⟨b, ws, rfl, hb, _, _, rfl, rfl, _, _, rfl, rfl, v3, _, rfl, r3, rfl⟩ := rd
    have hl7 := szK_len wf (ks.take i).length
    have hr1 : res1 (ks.take i) k = none := by
      unfold res1
      rw [z1, if_neg (by decide), z2, if_neg (by decide), z3, if_neg (by decide)]
    obtain ⟨w2, f2⟩ := let_by wf hft k1 (by omega) hr1
    refine ⟨_, rfl, _, rfl, b, _, _, _, rfl, rfl, SqT.of (s1 _ _ (sm _ _ hb)), rfl, p, _, rfl, DPut.k (k := Sum.inr k.name) (s1 _ _ hd') (fitsLt (by omega)), _, rfl, Same.over (sm.trans s1) hp _, ?_, ?_, ?_, ?_⟩
    · rw [et]; exact w2
    · rw [et]; exact f2
    · rw [et, hres, hr1]
    · rw [szK_snoc wf w2 hin, et]
      exact upd_same
  · rintro σ H' ⟨o3, rfl, sm, wf, hft, hres, hd'⟩
    have hul : us.length = ks.length := hl
    rw [hul, List.drop_length] at hres
    exact q hres _ sm
end
end K10

end

section
set_option Elab.async false
set_option linter.all false
set_option maxRecDepth 100000
set_option maxHeartbeats 4000000
namespace K10
open PySem L2 M
seal L2.PE L2.PA L2.PS L2.PSs L2.PT L2.PW L2.PI L2.PG L2.PJ L2.PTs
theorem inV_strs (x : Str) : ∀ ys : List Str, inV (.str x) (ys.map V.str) = decide (x ∈ ys)
  | [] => by simp [inV]
  | y :: ys => by
    have ih := inV_strs x ys
    unfold inV at ih ⊢
    rw [List.map_cons, List.any_cons, ih]
    by_cases h : y = x
    · subst h
      simp [eqV]
    · have h2 : ¬ x = y := fun e => h e.symm
      simp [eqV, h, h2]
theorem flat_strs (ys : List Str) : (ys.map V.str).all flatV = true := by
  rw [List.all_map]
  exact List.all_eq_true.mpr fun _ _ => rfl
theorem op_notIn_seqC {X : Cx} {K : PySem.W.Frag} (hK : X.K = K) : OpR X (compareOp .NotIn) (rIn K true) := by subst hK; exact op_notIn_seq
theorem iteBT {c : Bool} {A B : Prop} (h : c = true) (a : A) : if c = true then A else B := by rw [if_pos h]; exact a
theorem nn_empty (as : List Kn) (k : Kn) : (!(((k.parts.filter (nnP as)).map fun p => p.2).map V.str).isEmpty) = nnB as k := by
  unfold nnB
  generalize k.parts = ps
  induction ps with
  | nil => rfl
  | cons p r ih =>
    rw [List.any_cons]
    by_cases h : nnP as p = true
    · rw [List.filter_cons_of_pos h, h]
      rfl
    · rw [List.filter_cons_of_neg h, ih, Bool.eq_false_iff.mpr h, Bool.false_or]
theorem neT {x y : Str} (h : ¬ x = y) : (!decide (V.str x = V.str y)) = true := by rw [decide_eq_false fun z => h (V.str.inj z)]; rfl
theorem neF {x y : Str} (h : x = y) : (!decide (V.str x = V.str y)) = false := by rw [decide_eq_true (congrArg V.str h)]; rfl
theorem relDs_take {H : Hp} : ∀ {us : List V} {ds : List D} (i : Nat), RelDs H us ds → RelDs H (us.take i) (ds.take i)
  | _, _, 0, _ => by simp [RelDs]
  | us, [], i + 1, h => by
    have : us = [] := h
    subst this
    simp [RelDs]
  | us, d :: ds, i + 1, h => by
    obtain ⟨v, vs, rfl, r, rs⟩ := h
    exact ⟨v, _, rfl, r, relDs_take i rs⟩
theorem catT0_to {K : PySem.W.Frag} {H : Hp} {Q : VK} {a b : Addr} {xs ys : List V} (ha : H a = some (.tup xs)) (hb : H b = some (.tup ys)) (hz : xs.length + ys.length ≤ sizeLine) (hy : ys ≠ []) (q : ∀ c H', Same H H' → H' c = some (.tup (xs ++ ys)) → Q (.ref c) H') : rCatT0 K (.ref a) (.ref b) H Q :=
  ⟨a, b, xs, ys, rfl, rfl, SqT.of ha, SqT.of hb, hz, fun e => q b _ (Same.refl _) (by rw [e]; exact hb), fun _ e => absurd e hy, fun _ _ p hp => q p _ (Same.new hp _) upd_same⟩
theorem slTW_to {K : PySem.W.Frag} {H : Hp} {Q : VK} {a : Addr} {xs : List V} {lo hi : Option Int} (ha : H a = some (.tup xs)) (q : ∀ c H', Same H H' → H' c = some (.tup (cutV xs lo hi)) → Q (.ref c) H') : rSlTW K (.ref a) lo hi H Q :=
  ⟨a, xs, rfl, SqT.of ha, fun e => q a _ (Same.refl _) (by unfold cutV; rw [e.1, e.2, List.drop_zero, Nat.sub_zero, List.take_length]; exact ha), fun _ p hp => q p _ (Same.new hp _) upd_same⟩
theorem cut_to' (us : List V) {i : Nat} (h : i ≤ us.length) : cutV us none (some (i : Int)) = us.take i := by
  unfold cutV
  rw [HT.sIx_none, HT.sIx_nat, Nat.min_eq_left (by omega), List.drop_zero, Nat.sub_zero]
theorem notEmpty {ds : List Str} (h : ds ≠ []) : (!(ds.map V.str).isEmpty) = true := by
  cases ds with
  | nil => exact absurd rfl h
  | cons a r => rfl
noncomputable def spDue : Sp := fun vs H Q _ => ∃ kv ks, vs = [kv] ∧ RelD H kv (dKinds ks) ∧ KAny ks ∧ ∀ t l H', Same H H' → H' t = some (.tup [.int (dueK [] ks).1, .ref l]) → H' l = some (.lst ((dueK [] ks).2.map V.str)) → Q (.ref t) H'
theorem dueK_one (as : List Kn) (k : Kn) (ks : List Kn) : dueK as (k :: ks) = if due1 as k = [] then dueK (as ++ [k]) ks else (as.length, due1 as k) := rfl
section
variable {P : Program} {w : World} {K : PySem.W.Frag} {mg : Str → Option Value} {base : Heap} {n m : Nat}
theorem ok__law_due (T : Tx K mg) (D__law_size : DefIs P w K mg base n "_law_size" ["_law_kinds_here", "_law_kind"] (spSizeD 7)) : DefIs P w K mg base (n + 1) "_law_due" ["_law_kinds_here"] spDue := by
  refine DefIs.of T.d__law_due sc__law_due (fun vs H Q E h => ?_) (fun f cdv A outer s H vs Q E hr h => ?_)
  · obtain ⟨_, _, rfl, _⟩ := h
    rfl
  obtain ⟨kv, ks, rfl, hk, hany, q⟩ := h
  have nd := sc__law_due.nd
  have hu := hu_of hr
  have hu2 := hu2_of hr
  refine ⟨_, (pss_cons (ps_set (i := 1) nd rfl (by first | exact Or.inl rfl | exact Or.inr rfl) (pe_lst pa_nil))
      (pss_cons (ps_for PassesOwn.never rfl (pi_enumT rfl T.z_enumerate (pa_cons (pv 0) pa_nil star_name)) (pg_tup rfl (pgs_cons (pg_name (i := 2) nd rfl (by first | exact Or.inl rfl | exact Or.inr rfl)) (pgs_cons (pg_tup rfl (pgs_cons (pg_name (i := 3) nd rfl (by first | exact Or.inl rfl | exact Or.inr rfl)) (pgs_cons (pg_name (i := 4) nd rfl (by first | exact Or.inl rfl | exact Or.inr rfl)) (pgs_cons (pg_name (i := 5) nd rfl (by first | exact Or.inl rfl | exact Or.inr rfl)) pgs_nil)))) pgs_nil)))
      (pss_cons (ps_set (i := 6) nd rfl (by first | exact Or.inl rfl | exact Or.inr rfl) (pe_lst pa_nil))
      (pss_cons (ps_setComp (i := 7) ["_law_part"] [none] rfl (by kernel_rfl) nd rfl (by first | exact Or.inl rfl | exact Or.inr rfl) (pi_tup (pv 5)) (fun _ _ _ _ => (pg_name (i := 0) (by show List.Nodup (["_law_part"] : List Str); decide +kernel) rfl (Or.inl rfl))) (fun _ _ _ _ => pts_nil) (fun _ _ _ _ => (pe_ix (ix_tupC (K := K) rfl) (pv 0) pe_int (fun _ _ => rfl))))
      (pss_cons (ps_if (PW.pt (pw_or (pt_cmpR op_in_seq (pv 3) (pv 1) (by with_unfolding_all rfl)) (pw_or1 (pt_cmpR op_ne (pe_lenSetG rfl rfl T.z_len rfl T.z_set (pv 7)) (pe_callB call_len_seq rfl T.z_len PySem.boot_len (pa_cons (pv 7) pa_nil star_name)) (nomark _))))) (pss_one (ps_expr (pe_bm PySem.F.plainAttrs_list PySem.F.slot_list_append PySem.F.type_list_append mt_append (pv 6) (pa_cons pe_str pa_nil star_const)))) pss_nil)
      (pss_cons (ps_if (pt_cmpR (op_neE (Nat.lt_of_succ_lt hu)) (pe_comp ["_law_part", "_law_kind", "_law_ahead"] [none, none, some 1] rfl (by kernel_rfl) (pi_tup (pv 5)) (fun _ _ _ _ => (pg_tupC (K := K) (n := 2) rfl rfl (pgs_cons (pg_name (i := 0) (by show List.Nodup (["_law_part", "_law_kind", "_law_ahead"] : List Str); decide +kernel) rfl (Or.inl rfl)) (pgs_cons (pg_name (i := 1) (by show List.Nodup (["_law_part", "_law_kind", "_law_ahead"] : List Str); decide +kernel) rfl (Or.inl rfl)) pgs_nil)))) (fun _ _ _ _ => (pts_one (PW.pt (pw_and (pt_cmpR op_ne (pv 1) pe_str (nomark _)) (pw_and1 (pt_cmpR (op_notIn_seqC (K := K) rfl) (pv 1) (pv 2) (by with_unfolding_all rfl))))))) (fun _ _ _ _ => (pv 1))) (pe_lst pa_nil) (nomark _)) (pss_one (ps_expr (pe_bm PySem.F.plainAttrs_list PySem.F.slot_list_append PySem.F.type_list_append mt_append (pv 6) (pa_cons pe_str pa_nil star_const)))) (pss_one (ps_if (pt_cmpR op_gt (pe_dcall D__law_size hr (pa_cons (pe_op op_catT0 (pe_slice sl_tupW (pv 0) po_none (po_some (pv 2))) (pe_tup (pa_cons (pe_tup (pa_cons pe_str (pa_cons (pv 4) (pa_cons (pv 5) pa_nil star_name) star_name) star_const)) pa_nil star_tup))) (pa_cons pe_str pa_nil star_const) star_bin)) pe_int (nomark _)) (pss_one (ps_expr (pe_bm PySem.F.plainAttrs_list PySem.F.slot_list_append PySem.F.type_list_append mt_append (pv 6) (pa_cons pe_str pa_nil star_const)))) pss_nil)))
      (pss_cons (ps_if (pt_cmpR (op_neE (Nat.lt_of_succ_lt hu)) (pv 6) (pe_lst pa_nil) (nomark _)) (pss_one (ps_ret (pe_tup (pa_cons (pv 2) (pa_cons (pv 6) pa_nil star_name) star_name)))) pss_nil)
      (pss_one (ps_expr (pe_bm PySem.F.plainAttrs_list PySem.F.slot_list_append PySem.F.type_list_append mt_append (pv 1) (pa_cons (pv 3) pa_nil star_name))))))))))
      (pss_one (ps_ret (pe_tup (pa_cons (pe_callB call_len_seq rfl T.z_len PySem.boot_len (pa_cons (pv 0) pa_nil star_name)) (pa_cons (pe_lst pa_nil) pa_nil star_lst) star_call)))))), ?_⟩
  obtain ⟨a, us, rfl, ha, hus⟩ := hk
  have hl := hus.length
  rw [List.length_map] at hl
  have h6 := hany.few
  refine ⟨(by show 0 ≤ sizeLine; decide), fun l hll => ?_⟩
  have s0 := Same.new hll (.lst [])
  refine ⟨_, rfl, a, rfl, ⟨_, SqT.of (s0 _ _ ha)⟩, ?_⟩
  refine for_enumT (xs := us) (fun i σ H' => ∃ o2 o3 o4 o5 o6 o7, σ = [some (.ref a), some (.ref l), o2, o3, o4, o5, o6, o7] ∧ Same H H' ∧ H' l = some (.lst (((ks.take i).map Kn.name).map V.str)) ∧ KWf (ks.take i) ∧ Fit (ks.take i) ∧ dueK [] ks = dueK (ks.take i) (ks.drop i))
    ⟨none, none, none, none, none, none, rfl, s0, upd_same, KWf.nil, Fit.nil, rfl⟩ (fun i σ H' _ p => ?_) ?_ ?_
  · obtain ⟨_, _, _, _, _, _, _, sm, _⟩ := p
    exact SqT.of (sm _ _ ha)
  · rintro i v σ H1 pp hv ⟨o2, o3, o4, o5, o6, o7, rfl, sm, hl1, wf, hft, hdue⟩ hpp
    obtain ⟨d, hd, rd⟩ := hus.get hv
    rw [List.getElem?_map] at hd
    obtain ⟨k, hk', rfl⟩ := Option.map_eq_some_iff.mp hd
    have hi : i < ks.length := (List.getElem?_eq_some_iff.mp hk').1
    have hli : (ks.take i).length = i := by rw [List.length_take]; omega
    have k1 := hany.one (List.mem_of_getElem? hk')
    have ed : ks.drop i = k :: ks.drop (i + 1) := by
      rw [List.drop_eq_getElem_cons hi]
      congr 1
      exact (List.getElem?_eq_some_iff.mp hk').2
    have et : ks.take (i + 1) = ks.take i ++ [k] := by rw [List.take_add_one, hk']; rfl
    rw [ed, dueK_one] at hdue
    obtain ⟨b, ws, rfl, hb, _, _, rfl, rfl, _, _, rfl, rfl, v3, _, rfl, r3, rfl⟩ := rd
    obtain ⟨pa, zs, rfl, hpa, hzs⟩ := r3
    have hzl := hzs.length
    rw [List.length_map] at hzl
    have h5 := k1.pts
    have sp := Same.new hpp (.tup [.int (i : Nat), .ref b])
    have s1 := sm.trans sp
    have hl2 := sp _ _ hl1
    refine ⟨pp, _, rfl, SqT.of upd_same, rfl, _, _, rfl, _, _, rfl, b, _, rfl, SqT.of (s1 _ _ hb), rfl, _, _, rfl, _, _, rfl, _, _, rfl, rfl, rfl, ?_⟩
    generalize upd H1 pp (.tup [.int (i : Nat), .ref b]) = H2 at sp s1 hl2 ⊢
    refine ⟨(by show 0 ≤ sizeLine; decide), fun l1 hl1' => ?_⟩
    have t1 := Same.new hl1' (.lst [])
    have s2 := s1.trans t1
    refine ⟨_, rfl, pa, rfl, ⟨_, SqT.of (s2 _ _ hpa)⟩, ?_⟩
    refine comp_tup (j := 0) (xs := zs) (fun i' ys H' => H' = upd H2 l1 (.lst []) ∧ ys = ((k.parts.take i').map fun p => p.1).map V.str) (by rfl) ⟨rfl, rfl⟩ (fitsLt (by omega)) (fun i' ys H' _ p => by obtain ⟨rfl, _⟩ := p; exact SqT.of (s2 _ _ hpa)) ?_ ?_
    · rintro i' y ys H' hy hly ⟨rfl, rfl⟩
      obtain ⟨d, hd, rd⟩ := hzs.get hy
      rw [List.getElem?_map] at hd
      obtain ⟨pr, hp', rfl⟩ := Option.map_eq_some_iff.mp hd
      obtain ⟨b', ws', rfl, hb', _, _, rfl, rfl, _, _, rfl, rfl, rfl⟩ := rd
      have hi' : i' < zs.length := (List.getElem?_eq_some_iff.mp hy).1
      refine ⟨_, rfl, b', _, _, _, rfl, rfl, SqT.of (s2 _ _ hb'), rfl, nxt hi' hly ⟨rfl, ?_⟩⟩
      rw [List.take_add_one, hp']
      simp
    rintro ys H9 hly ⟨rfl, rfl⟩ D hD
    rw [List.take_of_length_le (by omega)]
    have t2 := Same.new hD (.lst ((k.parts.map fun p => p.1).map V.str))
    have hD' : ∀ o, upd (upd H2 l1 (.lst [])) D o D = some o := fun _ => upd_same
    have hl13 := t2 _ _ (upd_same : upd H2 l1 (.lst []) l1 = some (.lst []))
    have hl3 := t2 _ _ (t1 _ _ hl2)
    have s3 := s2.trans t2
    have hDe := hD' (.lst ((k.parts.map fun p => p.1).map V.str))
    have hne1 : l ≠ l1 := ne_of_none hl2 hl1'
    have hHl1 : H l1 = none := none_of_same s1 hl1'
    generalize upd (upd H2 l1 (.lst [])) D (.lst ((k.parts.map fun p => p.1).map V.str)) = H3 at hl13 hl3 s3 hDe ⊢
    clear hD' hD t2
    have up : ∀ o, Same H (upd H3 l1 o) ∧ upd H3 l1 o l = some (.lst (((ks.take i).map Kn.name).map V.str)) := fun o => ⟨Same.over s3 hHl1 o, by rw [upd_ne hne1]; exact hl3⟩
    have ttT : twB (ks.take i) k = true → [S "Twice"] = (if twB (ks.take i) k = true then [S "Twice"] else []) := fun h => by rw [if_pos h]
    have ttF : twB (ks.take i) k = false → ([] : List Str) = (if twB (ks.take i) k = true then [S "Twice"] else []) := fun h => by rw [h]; rfl
    apply mergeH (fun H4 => Same H H4 ∧ H4 l = some (.lst (((ks.take i).map Kn.name).map V.str)) ∧ H4 l1 = some (.lst ((if twB (ks.take i) k = true then [S "Twice"] else []).map V.str)))
    · intro key
      refine ⟨_, rfl, _, rfl, l, _, rfl, .inl (SqL.of hl3), rfl, flat_strs _, _, rfl, ?_⟩
      rw [if_neg (by decide), inV_strs]
      have lset : ∀ m : Nat, m ≤ (k.parts.map fun p => p.1).length → (m = (k.parts.map fun p => p.1).length ↔ (k.parts.map fun p => p.1).Nodup) → (!decide (V.int (m : Int) = V.int ((((k.parts.map fun p => p.1).map V.str).length : Nat) : Int))) = dupB k := fun m _ hiff => by
        unfold dupB
        congr 1
        rw [List.length_map]
        by_cases h : (k.parts.map fun p => p.1).Nodup
        · rw [decide_eq_true h, decide_eq_true (by rw [hiff.mpr h])]
        · rw [decide_eq_false h, decide_eq_false fun z => h (hiff.mp (by have := V.int.inj z; omega))]
      have put : twB (ks.take i) k = true → Same H (upd H3 l1 (.lst ([] ++ [.str (Str.ofString "Twice")]))) ∧ upd H3 l1 (.lst ([] ++ [.str (Str.ofString "Twice")])) l = some (.lst (((ks.take i).map Kn.name).map V.str)) ∧ upd H3 l1 (.lst ([] ++ [.str (Str.ofString "Twice")])) l1 = some (.lst ((if twB (ks.take i) k = true then [S "Twice"] else []).map V.str)) := fun h => ⟨(up _).1, (up _).2, by rw [← ttT h]; exact upd_same⟩
      rcases (show nmIn (ks.take i) k.name = true ∨ (nmIn (ks.take i) k.name = false ∧ dupB k = true) ∨ (nmIn (ks.take i) k.name = false ∧ dupB k = false) by cases nmIn (ks.take i) k.name <;> cases dupB k <;> simp) with c | ⟨c, c2⟩ | ⟨c, c2⟩
      · rw [show decide (k.name ∈ (ks.take i).map Kn.name) = true from c]
        refine iteT (iteT ⟨_, rfl, .inl ⟨rfl, _, SqL.of hl13⟩, l1, _, _, rfl, rfl, hl13, (by show 0 < sizeLine; decide), ?_⟩)
        have pp := put (by unfold twB; rw [c]; rfl)
        generalize upd H3 l1 (.lst ([] ++ [.str (Str.ofString "Twice")])) = J at pp ⊢
        exact key J pp
      · rw [show decide (k.name ∈ (ks.take i).map Kn.name) = false from c]
        refine iteF ⟨_, rfl, D, _, rfl, hDe, by rw [List.length_map]; omega, fun m hm hiff => ⟨_, rfl, D, _, rfl, .inl (SqL.of hDe), rfl, _, rfl, iteBT ((lset m hm hiff).trans c2) ?_⟩⟩
        refine ⟨_, rfl, .inl ⟨rfl, _, SqL.of hl13⟩, l1, _, _, rfl, rfl, hl13, (by show 0 < sizeLine; decide), ?_⟩
        exact key _ (put (by unfold twB; rw [c, c2]; rfl))
      · rw [show decide (k.name ∈ (ks.take i).map Kn.name) = false from c]
        refine iteF ⟨_, rfl, D, _, rfl, hDe, by rw [List.length_map]; omega, fun m hm hiff => ⟨_, rfl, D, _, rfl, .inl (SqL.of hDe), rfl, _, rfl, iteBF ((lset m hm hiff).trans c2) ?_⟩⟩
        exact key H3 ⟨s3, hl3, by rw [← ttF (by unfold twB; rw [c, c2]; rfl)]; exact hl13⟩
    clear ttT ttF up
    rintro H4 ⟨b1, b2, b3⟩
    refine ⟨_, rfl, pa, rfl, ⟨_, SqT.of (b1 _ _ hpa)⟩, ?_⟩
    refine comp_tupG (xs := zs) (fun i' ys H' => (Same H H' ∧ H' l = some (.lst (((ks.take i).map Kn.name).map V.str)) ∧ H' l1 = some (.lst ((if twB (ks.take i) k = true then [S "Twice"] else []).map V.str))) ∧ ys = (((k.parts.take i').filter (nnP (ks.take i))).map fun p => p.2).map V.str) ⟨⟨b1, b2, b3⟩, rfl⟩ (fitsLt (by omega)) (fun i' ys H' _ p => SqT.of (p.1.1 _ _ hpa)) ?_ ?_
    · rintro i' y ys H' hy hi2 hly ⟨⟨c1, c2, c3⟩, rfl⟩
      obtain ⟨d, hd, rd⟩ := hzs.get hy
      rw [List.getElem?_map] at hd
      obtain ⟨pr, hp', rfl⟩ := Option.map_eq_some_iff.mp hd
      obtain ⟨b', ws', rfl, hb', _, _, rfl, rfl, _, _, rfl, rfl, rfl⟩ := rd
      refine ⟨b', _, rfl, SqT.of (c1 _ _ hb'), rfl, _, _, rfl, _, _, rfl, rfl, ext2 rfl rfl, ?_⟩
      have etk : k.parts.take (i' + 1) = k.parts.take i' ++ [pr] := by rw [List.take_add_one, hp']; rfl
      refine ⟨_, rfl, rfl, _, rfl, ?_⟩
      by_cases hnum : pr.2 = S "num"
      · refine iteBF (neF hnum) (iteF (nxtN hi2 hly ⟨⟨c1, c2, c3⟩, ?_⟩))
        rw [etk, List.filter_append, List.filter_cons_of_neg (by unfold nnP; rw [decide_eq_true hnum]; simp)]
        simp
      · refine iteBT (neT hnum) ?_
        refine ⟨_, rfl, _, rfl, l, _, rfl, .inl (SqL.of c2), rfl, flat_strs _, _, rfl, ?_⟩
        rw [if_pos rfl, inV_strs]
        cases hin : nmIn (ks.take i) pr.2 with
        | true =>
          refine iteBF (by rw [show decide (pr.2 ∈ (ks.take i).map Kn.name) = true from hin]; rfl) (nxtN hi2 hly ⟨⟨c1, c2, c3⟩, ?_⟩)
          rw [etk, List.filter_append, List.filter_cons_of_neg (by unfold nnP; rw [hin]; simp)]
          simp
        | false =>
          refine iteBT (by rw [show decide (pr.2 ∈ (ks.take i).map Kn.name) = false from hin]; rfl) ⟨_, rfl, nxtG hi2 hly ⟨⟨c1, c2, c3⟩, ?_⟩⟩
          rw [etk, List.filter_append, List.filter_cons_of_pos (by unfold nnP; rw [hin, decide_eq_false hnum]; rfl)]
          simp
    rintro ys H5 hly5 ⟨⟨s5, hl5, hl15⟩, rfl⟩ D2 hD2
    rw [show k.parts.take zs.length = k.parts from List.take_of_length_le (by omega)]
    refine ⟨(by show 0 ≤ sizeLine; decide), fun e he => ⟨D2, e, _, rfl, rfl, SqL.of (Same.new he _ _ _ upd_same), SqL.of upd_same, _, rfl, ?_⟩⟩
    have t5 := (Same.new hD2 (.lst (((k.parts.filter (nnP (ks.take i))).map fun p => p.2).map V.str))).trans (Same.new he (.lst []))
    generalize upd (upd H5 D2 (.lst (((k.parts.filter (nnP (ks.take i))).map fun p => p.2).map V.str))) e (.lst []) = H6 at t5 ⊢
    have s6 := s5.trans t5
    have hl6 := t5 _ _ hl5
    have hl16 := t5 _ _ hl15
    rw [nn_empty]
    have hius : i < us.length := by omega
    have mkSeq : ∀ {H8 : Hp} {d1 p2 : Addr}, Same H6 H8 → H8 d1 = some (.tup [.str (S "."), .str k.sort, .ref pa]) → H8 p2 = some (.tup (cutV us none (some (i : Int)) ++ [.ref d1])) → KsSeq H8 (.ref p2) (ks.take i ++ [dotK k]) := by
      intro H8 d1 p2 s8 h1 h2
      rw [cut_to' us (by omega)] at h2
      refine ⟨p2, _, rfl, .inr h2, ?_⟩
      rw [List.map_append, List.map_take]
      exact RelDs.append (relDs_take i (hus.same (s6.trans s8) _)) ⟨_, [], rfl, ⟨d1, _, rfl, h1, _, _, rfl, rfl, _, _, rfl, rfl, _, _, rfl, ⟨pa, zs, rfl, (s6.trans s8) _ _ hpa, hzs.same (s6.trans s8) _⟩, rfl⟩, rfl⟩
    have cutLe : ∀ (us : List V) (i : Nat), us.length ≤ 6 → (cutV us none (some (i : Int))).length + 1 ≤ 4000000 := fun us i h => by
      have := cutV_length us none (some (i : Int))
      omega
    have ptsD : ∀ z ∈ ks.take i ++ [dotK k], z.parts.length ≤ 5 := fun z' hz' => by
      rcases List.mem_append.mp hz' with h | h
      · exact wf.pts z' h
      · rw [List.mem_singleton.mp h]; exact k1.pts
    have eSz : nnB (ks.take i) k = false → szF (7 + 1) (ks.take i ++ [dotK k]) (S ".") = 1 + inSz k (sz (ks.take i)) := fun z => sz_dot wf (nnB_kin z)
    have tw1 : (if twB (ks.take i) k = true then [S "Twice"] else []).length ≤ 1 := by split <;> decide
    apply mergeH (fun H10 => Same H H10 ∧ H10 l = some (.lst (((ks.take i).map Kn.name).map V.str)) ∧ H10 l1 = some (.lst ((due1 (ks.take i) k).map V.str)))
    · intro key
      have up : ∀ {H8 : Hp} (w : Str), Same H6 H8 → dueB (ks.take i) k = [w] → Same H (upd H8 l1 (.lst ((if twB (ks.take i) k = true then [S "Twice"] else []).map V.str ++ [.str w]))) ∧ upd H8 l1 (.lst ((if twB (ks.take i) k = true then [S "Twice"] else []).map V.str ++ [.str w])) l = some (.lst (((ks.take i).map Kn.name).map V.str)) ∧ upd H8 l1 (.lst ((if twB (ks.take i) k = true then [S "Twice"] else []).map V.str ++ [.str w])) l1 = some (.lst ((due1 (ks.take i) k).map V.str)) := fun {H8} w s8 e =>
        ⟨Same.over (s6.trans s8) hHl1 _, by rw [upd_ne hne1]; exact s8 _ _ hl6, by rw [upd_same]; unfold due1; rw [e, List.map_append]; rfl⟩
      refine ite2 (fun z => ?_) (fun z0 => ?_)
      · refine ⟨_, rfl, .inl ⟨rfl, _, SqL.of hl16⟩, l1, _, _, rfl, rfl, hl16, fitsLt (by rw [List.length_map]; omega), ?_⟩
        have pp := up (Str.ofString "NoName") (Same.refl _) (by unfold dueB; rw [if_pos z]; rfl)
        generalize upd H6 l1 (.lst ((if twB (ks.take i) k = true then [S "Twice"] else []).map V.str ++ [.str (Str.ofString "NoName")])) = J at pp ⊢
        exact key J pp
      · have z : nnB (ks.take i) k = false := Bool.eq_false_iff.mpr z0
        refine ⟨_, rfl, _, rfl, _, rfl, slTW_to (s6 _ _ ha) fun p1 H7 s7 hp1 => ⟨_, rfl, _, rfl, (by show 3 ≤ sizeLine; decide), fun d1 hd1 => ⟨(by show 1 ≤ sizeLine; decide), fun d2 hd2 => catT0_to (Same.new hd2 _ _ _ (Same.new hd1 _ _ _ hp1)) upd_same (fits (cutLe us i (by omega))) (by simp) fun p2 H8 s8 hp2 => ?_⟩⟩⟩
        have s78 : Same H6 H8 := s7.trans (((Same.new hd1 _).trans (Same.new hd2 _)).trans s8)
        refine ⟨.ref p2, ks.take i ++ [dotK k], S ".", rfl, mkSeq s78 (s8 _ _ (Same.new hd2 _ _ _ upd_same)) hp2, ptsD, dp_dot wf k1 (nnB_kin z), fun H9 s9 => ?_⟩
        rw [eSz z]
        have s69 := s78.trans s9
        refine ⟨_, _, rfl, rfl, _, rfl, ite2 (fun z2 => ?_) (fun z2 => ?_)⟩
        · refine ⟨_, rfl, .inl ⟨rfl, _, SqL.of (s69 _ _ hl16)⟩, l1, _, _, rfl, rfl, s69 _ _ hl16, fitsLt (by rw [List.length_map]; omega), ?_⟩
          exact key _ (up (Str.ofString "TooBig") s69 (by unfold dueB; rw [z, if_neg (by decide), if_pos (show bigB (ks.take i) k = true from z2)]; rfl))
        · exact key H9 ⟨s6.trans s69, s69 _ _ hl6, by unfold due1; rw [show dueB (ks.take i) k = [] by unfold dueB; rw [z, show bigB (ks.take i) k = false from Bool.eq_false_iff.mpr z2]; rfl, List.append_nil]; exact s69 _ _ hl16⟩
    rintro H10 ⟨b1, b2, b3⟩
    refine ⟨_, rfl, (by show 0 ≤ sizeLine; decide), fun e2 he2 => ⟨l1, e2, _, rfl, rfl, SqL.of (Same.new he2 _ _ _ b3), SqL.of upd_same, _, rfl, ?_⟩⟩
    have t9 := Same.new he2 (.lst [])
    have h1l := t9 _ _ b3
    have h1a := t9 _ _ b2
    have s10 := b1.trans t9
    by_cases hd0 : due1 (ks.take i) k = []
    · refine iteBF (by rw [hd0]; rfl) ?_
      refine ⟨_, rfl, .inl ⟨rfl, _, SqL.of h1a⟩, _, rfl, l, _, _, rfl, rfl, h1a, fitsLt (by rw [List.length_map, List.length_map]; omega), ?_⟩
      obtain ⟨w2, f2⟩ := let_by wf hft k1 (by omega) (due1_nil hd0)
      refine ⟨_, _, _, _, _, _, rfl, Same.over s10 hll _, ?_, by rw [et]; exact w2, by rw [et]; exact f2, by rw [hdue, if_pos hd0, et]⟩
      rw [et, upd_same, List.map_append, List.map_append]
      rfl
    · refine iteBT (by rw [notEmpty hd0]) ?_
      rw [if_neg hd0] at hdue
      refine ⟨_, rfl, _, rfl, (by show 2 ≤ sizeLine; decide), fun t ht => q t l1 _ (s10.trans (Same.new ht _)) ?_ ?_⟩
      · rw [hdue, upd_same, hli]
      · rw [hdue]
        exact Same.new ht _ _ _ h1l
  · rintro σ H1 ⟨o2, o3, o4, o5, o6, o7, rfl, sm, hl1, wf, hft, hdue⟩
    have hul : us.length = ks.length := hl
    rw [hul, List.drop_length, List.take_length] at hdue
    have e1 : (dueK [] ks).1 = ks.length := by rw [hdue]; rfl
    have e2 : (dueK [] ks).2 = [] := by rw [hdue]; rfl
    refine ⟨_, rfl, a, _, rfl, .inr (SqT.of (sm _ _ ha)), (by show 0 ≤ sizeLine; decide), fun l2 hl2 => ⟨(by show 2 ≤ sizeLine; decide), fun t ht => ?_⟩⟩
    have t1 := Same.new hl2 (.lst [])
    refine q t l2 _ (sm.trans (t1.trans (Same.new ht _))) ?_ ?_
    · rw [e1, upd_same, hul]
    · rw [e2]
      exact Same.new ht _ _ _ upd_same
end
end K10

end

section
set_option Elab.async false
set_option linter.all false
set_option maxRecDepth 100000
set_option maxHeartbeats 4000000
namespace K10
open PySem L2 M
seal L2.PE L2.PA L2.PS L2.PSs L2.PT L2.PW L2.PI L2.PG L2.PJ L2.PTs
theorem kd_rec {H : Hp} {t t2 : Addr} {x : Str} {ws : List V} {ps : List (Str × Str)} (h1 : H t = some (.tup [.str x, .str (S "rec"), .ref t2])) (h2 : H t2 = some (.tup ws)) (h3 : RelDs H ws (ps.map dPart)) : RelD H (.ref t) (Kn.mk x true ps).d :=
  ⟨t, _, rfl, h1, _, _, rfl, rfl, _, _, rfl, rfl, _, _, rfl, ⟨t2, ws, rfl, h2, h3⟩, rfl⟩
theorem kd_alt {H : Hp} {t t2 : Addr} {x : Str} {ws : List V} {ps : List (Str × Str)} (h1 : H t = some (.tup [.str x, .str (S "alt"), .ref t2])) (h2 : H t2 = some (.tup ws)) (h3 : RelDs H ws (ps.map dPart)) : RelD H (.ref t) (Kn.mk x false ps).d :=
  ⟨t, _, rfl, h1, _, _, rfl, rfl, _, _, rfl, rfl, _, _, rfl, ⟨t2, ws, rfl, h2, h3⟩, rfl⟩
theorem k1_rec {x : Str} {ps : List (Str × Str)} (hx : Name x) (hp : PAny ps) (h5 : ps.length ≤ 5) : K1 (Kn.mk x true ps) := ⟨hx, (fun h => Bool.noConfusion h), h5, fun p h => (hp p h).1, fun p h => (hp p h).2⟩
theorem pd_mk {H : Hp} {t : Addr} {x y : Str} (h : H t = some (.tup [.str x, .str y])) : RelD H (.ref t) (dPart (x, y)) := ⟨t, _, rfl, h, _, _, rfl, rfl, _, _, rfl, rfl, rfl⟩
theorem rels_snoc {H : Hp} {ws : List V} {ds : List D} {v : V} {d : D} (h : RelDs H ws ds) (r : RelD H v d) : RelDs H (ws ++ [v]) (ds ++ [d]) := RelDs.append h ⟨_, [], rfl, r, rfl⟩
section
variable {P : Program} {w : World} {K : PySem.W.Frag} {mg : Str → Option Value} {base : Heap} {n m : Nat}
theorem ok__law_edged (T : Tx K mg) (D__law_take : DefIs P w K mg base n "_law_take" ["_law_feed_here", "_law_many"] spTake) : DefIs P w K mg base (n + 1) "_law_edged" ["_law_feed_here", "_law_names_here"] spAny := by
  refine DefIs.of T.d__law_edged sc__law_edged (fun vs H Q E h => ?_) (fun f cdv A outer s H vs Q E hr h => ?_)
  · obtain ⟨_, _, _, _, _, rfl, _⟩ := h
    rfl
  obtain ⟨f', nb, p, q, nms, rfl, hf, hnb, hok, nf, k⟩ := h
  have nd := sc__law_edged.nd
  refine ⟨_, (pss_cons (ps_set (i := 2) nd rfl (by first | exact Or.inl rfl | exact Or.inr rfl) (pe_dcall D__law_take hr (pa_cons (pv 0) (pa_cons pe_int pa_nil star_const) star_name)))
      (pss_cons (ps_set (i := 3) nd rfl (by first | exact Or.inl rfl | exact Or.inr rfl) (pe_lst (pa_cons (pe_tup (pa_cons (pe_ix ix_list (pv 1) pe_int (fun _ _ => rfl)) (pa_cons pe_str (pa_cons (pe_callTy call_tuple_of rfl T.z_tuple PyProof.Rows.boot_tuple (pa_cons (pe_comp ["_law_j", "_law_names_here"] [none, some 1] rfl (by kernel_rfl) (pi_range1 rfl T.z_range (pa_cons pe_int pa_nil star_const)) (fun _ _ _ _ => (pg_name (i := 0) (by show List.Nodup (["_law_j", "_law_names_here"] : List Str); decide +kernel) rfl (Or.inl rfl))) (fun _ _ _ _ => pts_nil) (fun _ _ _ _ => (pe_tup (pa_cons (pe_ix (ix_listC (K := K) rfl) (pv 1) (pe_op op_add pe_int (pv 0)) (fun _ _ => rfl)) (pa_cons pe_str pa_nil star_const) star_sub)))) pa_nil star_comp)) pa_nil star_call) star_const) star_sub)) pa_nil star_tup)))
      (pss_cons (ps_expr (pe_bm PySem.F.plainAttrs_list PySem.F.slot_list_append PySem.F.type_list_append mt_append (pv 3) (pa_cons (pe_tup (pa_cons (pe_ix ix_list (pv 1) pe_int (fun _ _ => rfl)) (pa_cons pe_str (pa_cons (pe_callTy call_tuple_of rfl T.z_tuple PyProof.Rows.boot_tuple (pa_cons (pe_comp ["_law_j", "_law_names_here"] [none, some 1] rfl (by kernel_rfl) (pi_range1 rfl T.z_range (pa_cons pe_int pa_nil star_const)) (fun _ _ _ _ => (pg_name (i := 0) (by show List.Nodup (["_law_j", "_law_names_here"] : List Str); decide +kernel) rfl (Or.inl rfl))) (fun _ _ _ _ => pts_nil) (fun _ _ _ _ => (pe_tup (pa_cons (pe_ix (ix_listC (K := K) rfl) (pv 1) (pe_op op_add pe_int (pv 0)) (fun _ _ => rfl)) (pa_cons (pe_ix (ix_listC (K := K) rfl) (pv 1) pe_int (fun _ _ => rfl)) pa_nil star_sub) star_sub)))) pa_nil star_comp)) pa_nil star_call) star_const) star_sub)) pa_nil star_tup)))
      (pss_cons (ps_expr (pe_bm PySem.F.plainAttrs_list PySem.F.slot_list_append PySem.F.type_list_append mt_append (pv 3) (pa_cons (pe_tup (pa_cons (pe_ix ix_list (pv 1) pe_int (fun _ _ => rfl)) (pa_cons pe_str (pa_cons (pe_callTy call_tuple_of rfl T.z_tuple PyProof.Rows.boot_tuple (pa_cons (pe_comp ["_law_j", "_law_names_here"] [none, some 1] rfl (by kernel_rfl) (pi_range1 rfl T.z_range (pa_cons (pv 2) pa_nil star_name)) (fun _ _ _ _ => (pg_name (i := 0) (by show List.Nodup (["_law_j", "_law_names_here"] : List Str); decide +kernel) rfl (Or.inl rfl))) (fun _ _ _ _ => pts_nil) (fun _ _ _ _ => (pe_tup (pa_cons (pe_ix (ix_listC (K := K) rfl) (pv 1) (pe_op op_add pe_int (pv 0)) (fun _ _ => rfl)) (pa_cons pe_str pa_nil star_const) star_sub)))) pa_nil star_comp)) pa_nil star_call) star_const) star_sub)) pa_nil star_tup)))
      (pss_cons (ps_set (i := 4) nd rfl (by first | exact Or.inl rfl | exact Or.inr rfl) (pe_tup (pa_cons (pe_tup (pa_cons (pe_ix ix_list (pv 1) pe_int (fun _ _ => rfl)) (pa_cons (pe_ix ix_list (pv 1) pe_int (fun _ _ => rfl)) pa_nil star_sub) star_sub)) (pa_cons (pe_tup (pa_cons (pe_ix ix_list (pv 1) pe_int (fun _ _ => rfl)) (pa_cons (pe_ix ix_list (pv 1) pe_int (fun _ _ => rfl)) pa_nil star_sub) star_sub)) (pa_cons (pe_tup (pa_cons (pe_ix ix_list (pv 1) pe_int (fun _ _ => rfl)) (pa_cons (pe_ix ix_list (pv 1) pe_int (fun _ _ => rfl)) pa_nil star_sub) star_sub)) pa_nil star_tup) star_tup) star_tup)))
      (pss_cons (ps_if (pt_cmpR op_eq (pe_dcall D__law_take hr (pa_cons (pv 0) (pa_cons pe_int pa_nil star_const) star_name)) pe_int (nomark _)) (pss_one (ps_ret (pe_op op_catT0 (pe_callTy call_tuple_of rfl T.z_tuple PyProof.Rows.boot_tuple (pa_cons (pv 3) pa_nil star_name)) (pe_tup (pa_cons (pe_tup (pa_cons (pe_ix ix_list (pv 1) pe_int (fun _ _ => rfl)) (pa_cons pe_str (pa_cons (pe_op op_catT0 (pv 4) (pe_tup (pa_cons (pe_tup (pa_cons (pe_ix ix_list (pv 1) pe_int (fun _ _ => rfl)) (pa_cons pe_str pa_nil star_const) star_sub)) pa_nil star_tup))) pa_nil star_bin) star_const) star_sub)) pa_nil star_tup))))) pss_nil)
      (pss_cons (ps_expr (pe_bm PySem.F.plainAttrs_list PySem.F.slot_list_append PySem.F.type_list_append mt_append (pv 3) (pa_cons (pe_tup (pa_cons (pe_ix ix_list (pv 1) pe_int (fun _ _ => rfl)) (pa_cons pe_str (pa_cons (pv 4) pa_nil star_name) star_const) star_sub)) pa_nil star_tup)))
      (pss_one (ps_ret (pe_op op_catT0 (pe_callTy call_tuple_of rfl T.z_tuple PyProof.Rows.boot_tuple (pa_cons (pv 3) pa_nil star_name)) (pe_tup (pa_cons (pe_tup (pa_cons (pe_ix ix_list (pv 1) pe_int (fun _ _ => rfl)) (pa_cons pe_str (pa_cons (pe_tup (pa_cons (pe_tup (pa_cons (pe_ix ix_list (pv 1) pe_int (fun _ _ => rfl)) (pa_cons pe_str pa_nil star_const) star_sub)) (pa_cons (pe_tup (pa_cons (pe_ix ix_list (pv 1) pe_int (fun _ _ => rfl)) (pa_cons (pe_ix ix_list (pv 1) pe_int (fun _ _ => rfl)) pa_nil star_sub) star_sub)) pa_nil star_tup) star_tup)) pa_nil star_tup) star_const) star_sub)) pa_nil star_tup)))))))))))), ?_⟩
  refine ⟨_, rfl, f', p, q, 4, rfl, hf, by decide, by decide, fun r1 H1 r10 r11 f1 => ?_⟩
  have hn1 := f1.1 nb _ hnb nf
  obtain ⟨n0, g0, m0⟩ := nm_at hok (ix := 0) (by decide) (by decide)
  obtain ⟨n1, g1, m1⟩ := nm_at hok (ix := 1) (by decide) (by decide)
  obtain ⟨n2, g2, m2⟩ := nm_at hok (ix := 2) (by decide) (by decide)
  obtain ⟨n3, g3, m3⟩ := nm_at hok (ix := 3) (by decide) (by decide)
  obtain ⟨n4, g4, m4⟩ := nm_at hok (ix := 4) (by decide) (by decide)
  obtain ⟨n8, g8, m8⟩ := nm_at hok (ix := 8) (by decide) (by decide)
  obtain ⟨n9, g9, m9⟩ := nm_at hok (ix := 9) (by decide) (by decide)
  obtain ⟨n10, g10, m10⟩ := nm_at hok (ix := 10) (by decide) (by decide)
  -- the first kind
  refine ⟨_, rfl, nb, _, _, _, rfl, rfl, SqL.of hn1, g0, _, rfl, by decide, by decide, ?_⟩
  refine comp_range (j := 0) (fun i ys H' => Same H1 H' ∧ ∃ ps : List (Str × Str), RelDs H' ys (ps.map dPart) ∧ PAny ps ∧ ps.length = i) (by rfl) ⟨Same.refl _, [], rfl, PAny.nil, rfl⟩ (fitsLt (by decide)) ?_ ?_
  · rintro i ys H' hi hly ⟨sm, ps, hps, hpa, hpl⟩
    have hi4 : i < 4 := hi
    obtain ⟨z, hz, hzn⟩ := nm_at hok (ix := 8 + (0 + (i : Int))) (by omega) (by omega)
    refine ⟨_, rfl, _, rfl, _, _, rfl, rfl, nb, _, _, _, rfl, rfl, SqL.of (sm _ _ hn1), hz, (by show 2 ≤ sizeLine; decide), fun t ht => nxt hi hly ⟨sm.trans (Same.new ht _), ps ++ [(z, S "num")], ?_, hpa.snoc hzn (.inl rfl), by rw [List.length_append, List.length_singleton, hpl]⟩⟩
    rw [List.map_append]
    exact rels_snoc (hps.same (Same.new ht _) _) (pd_mk upd_same)
  rintro ys0 H2 hly0 ⟨sm2, ps0, hps0, hpa0, hpl0⟩ D0 hD0
  have t2 := Same.new hD0 (.lst ys0)
  refine ⟨D0, ys0, rfl, .inl ⟨SqL.of upd_same, fun a0 ha0 => ⟨(by show 3 ≤ sizeLine; decide), fun b0 hb0 => ⟨(by show 1 ≤ sizeLine; decide), fun l hl => ?_⟩⟩⟩⟩
  have u3 := (Same.new hD0 (.lst ys0)).trans ((Same.new ha0 (.tup ys0)).trans ((Same.new hb0 (.tup [.str n0, .str (Str.ofString "rec"), .ref a0])).trans (Same.new hl (.lst [.ref b0]))))
  have e3 := Same.new hl (.lst [.ref b0]) _ _ (upd_same : upd (upd (upd H2 D0 (.lst ys0)) a0 (.tup ys0)) b0 (.tup [.str n0, .str (Str.ofString "rec"), .ref a0]) b0 = _)
  have d3 := Same.new hl (.lst [.ref b0]) _ _ (Same.new hb0 (.tup [.str n0, .str (Str.ofString "rec"), .ref a0]) _ _ (upd_same : upd (upd H2 D0 (.lst ys0)) a0 (.tup ys0) a0 = _))
  have hl3 : upd (upd (upd (upd H2 D0 (.lst ys0)) a0 (.tup ys0)) b0 (.tup [.str n0, .str (Str.ofString "rec"), .ref a0])) l (.lst [.ref b0]) l = some (.lst [.ref b0]) := upd_same
  have s13 := sm2.trans u3
  have hp3 := hps0.same u3 _
  have nl : H1 l = none := none_of_same (sm2.trans ((Same.new hD0 (.lst ys0)).trans ((Same.new ha0 (.tup ys0)).trans (Same.new hb0 (.tup [.str n0, .str (Str.ofString "rec"), .ref a0]))))) hl
  generalize upd (upd (upd (upd H2 D0 (.lst ys0)) a0 (.tup ys0)) b0 (.tup [.str n0, .str (Str.ofString "rec"), .ref a0])) l (.lst [.ref b0]) = H3 at s13 e3 d3 hl3 hp3 ⊢
  have R3 : RelDs H3 [.ref b0] ([Kn.mk n0 true ps0].map Kn.d) := ⟨_, [], rfl, kd_rec e3 d3 hp3, rfl⟩
  have hn3 := s13 _ _ hn1
  have nll : H l = none := by
    cases e : H l with
    | none => rfl
    | some o =>
      by_cases z : l = f'
      · obtain ⟨x, y, hxy⟩ := f1.2
        rw [z, hxy] at nl; cases nl
      · rw [f1.1 l o e z] at nl; cases nl
  have lf : l ≠ f' := fun z => by
    obtain ⟨x, y, hxy⟩ := f1.2
    rw [z, hxy] at nl; cases nl
  have F3 : Fed f' H H3 := f1.same s13
  -- the kind 1
  refine ⟨_, rfl, .inl ⟨rfl, _, SqL.of hl3⟩, _, rfl, nb, _, _, _, rfl, rfl, SqL.of hn3, g1, _, rfl, by decide, by decide, ?_⟩
  refine comp_range (j := 0) (fun i ys H' => Same H3 H' ∧ ∃ ps : List (Str × Str), RelDs H' ys (ps.map dPart) ∧ PAny ps ∧ ps.length = i) (by rfl) ⟨Same.refl _, [], rfl, PAny.nil, rfl⟩ (fitsLt (by omega)) ?_ ?_
  · rintro i ys H' hi hly ⟨sm, ps, hps, hpa, hpl⟩
    have hi4 : i < 4 := by omega
    obtain ⟨z, hz, hzn⟩ := nm_at hok (ix := 8 + (0 + (i : Int))) (by omega) (by omega)
    refine ⟨_, rfl, _, rfl, _, _, rfl, rfl, nb, _, _, _, rfl, rfl, SqL.of (sm _ _ hn3), hz, _, rfl, nb, _, _, _, rfl, rfl, SqL.of (sm _ _ hn3), g0, (by show 2 ≤ sizeLine; decide), fun t ht => nxt hi hly ⟨sm.trans (Same.new ht _), ps ++ [(z, n0)], ?_, hpa.snoc hzn (.inr m0), by rw [List.length_append, List.length_singleton, hpl]⟩⟩
    rw [List.map_append]
    exact rels_snoc (hps.same (Same.new ht _) _) (pd_mk upd_same)
  rintro ys1 G4 hly1 ⟨sm4, ps1, hps1, hpa1, hpl1⟩ D1 hD1
  refine ⟨D1, ys1, rfl, .inl ⟨SqL.of upd_same, fun a1 ha1 => ⟨(by show 3 ≤ sizeLine; decide), fun b1 hb1 => ?_⟩⟩⟩
  have u4 := (Same.new hD1 (.lst ys1)).trans ((Same.new ha1 (.tup ys1)).trans (Same.new hb1 (.tup [.str n1, .str (Str.ofString "rec"), .ref a1])))
  have e4 : upd (upd (upd G4 D1 (.lst ys1)) a1 (.tup ys1)) b1 (.tup [.str n1, .str (Str.ofString "rec"), .ref a1]) b1 = some (.tup [.str n1, .str (Str.ofString "rec"), .ref a1]) := upd_same
  have d4 := Same.new hb1 (.tup [.str n1, .str (Str.ofString "rec"), .ref a1]) _ _ (upd_same : upd (upd G4 D1 (.lst ys1)) a1 (.tup ys1) a1 = _)
  have v4 := sm4.trans u4
  have hl3' := v4 _ _ hl3
  refine ⟨l, _, _, rfl, rfl, hl3', (by show 1 < sizeLine; decide), ?_⟩
  have F4 := Fed.put (F3.same v4) nll lf (.lst ([V.ref b0] ++ [.ref b1]))
  have hl4 : upd (upd (upd (upd G4 D1 (.lst ys1)) a1 (.tup ys1)) b1 (.tup [.str n1, .str (Str.ofString "rec"), .ref a1])) l (.lst ([V.ref b0] ++ [.ref b1])) l = some (.lst ([V.ref b0] ++ [.ref b1])) := upd_same
  have R4 : RelDs (upd (upd (upd (upd G4 D1 (.lst ys1)) a1 (.tup ys1)) b1 (.tup [.str n1, .str (Str.ofString "rec"), .ref a1])) l (.lst ([V.ref b0] ++ [.ref b1]))) ([V.ref b0] ++ [.ref b1]) ([Kn.mk n0 true ps0, Kn.mk n1 true ps1].map Kn.d) := rels_snoc ((R3.same v4 _).tups (lst_tups hl3' _) _) (kd_rec (lst_tups hl3' _ _ _ e4) (lst_tups hl3' _ _ _ d4) ((hps1.same u4 _).tups (lst_tups hl3' _) _))
  generalize upd (upd (upd (upd G4 D1 (.lst ys1)) a1 (.tup ys1)) b1 (.tup [.str n1, .str (Str.ofString "rec"), .ref a1])) l (.lst ([V.ref b0] ++ [.ref b1])) = H4 at F4 hl4 R4 ⊢
  have hn4 := F4.1 nb _ hnb nf
  -- the kind 2
  refine ⟨_, rfl, .inl ⟨rfl, _, SqL.of hl4⟩, _, rfl, nb, _, _, _, rfl, rfl, SqL.of hn4, g2, _, rfl, _, rfl, by omega, by omega, ?_⟩
  refine comp_range (j := 0) (fun i ys H' => Same H4 H' ∧ ∃ ps : List (Str × Str), RelDs H' ys (ps.map dPart) ∧ PAny ps ∧ ps.length = i) (by rfl) ⟨Same.refl _, [], rfl, PAny.nil, rfl⟩ (fitsLt (by omega)) ?_ ?_
  · rintro i ys H' hi hly ⟨sm, ps, hps, hpa, hpl⟩
    have hi4 : i < 4 := by omega
    obtain ⟨z, hz, hzn⟩ := nm_at hok (ix := 8 + (0 + (i : Int))) (by omega) (by omega)
    refine ⟨_, rfl, _, rfl, _, _, rfl, rfl, nb, _, _, _, rfl, rfl, SqL.of (sm _ _ hn4), hz, (by show 2 ≤ sizeLine; decide), fun t ht => nxt hi hly ⟨sm.trans (Same.new ht _), ps ++ [(z, S "num")], ?_, hpa.snoc hzn (.inl rfl), by rw [List.length_append, List.length_singleton, hpl]⟩⟩
    rw [List.map_append]
    exact rels_snoc (hps.same (Same.new ht _) _) (pd_mk upd_same)
  rintro ys2 G5 hly2 ⟨sm5, ps2, hps2, hpa2, hpl2⟩ D2 hD2
  refine ⟨D2, ys2, rfl, .inl ⟨SqL.of upd_same, fun a2 ha2 => ⟨(by show 3 ≤ sizeLine; decide), fun b2 hb2 => ?_⟩⟩⟩
  have u5 := (Same.new hD2 (.lst ys2)).trans ((Same.new ha2 (.tup ys2)).trans (Same.new hb2 (.tup [.str n2, .str (Str.ofString "rec"), .ref a2])))
  have e5 : upd (upd (upd G5 D2 (.lst ys2)) a2 (.tup ys2)) b2 (.tup [.str n2, .str (Str.ofString "rec"), .ref a2]) b2 = some (.tup [.str n2, .str (Str.ofString "rec"), .ref a2]) := upd_same
  have d5 := Same.new hb2 (.tup [.str n2, .str (Str.ofString "rec"), .ref a2]) _ _ (upd_same : upd (upd G5 D2 (.lst ys2)) a2 (.tup ys2) a2 = _)
  have v5 := sm5.trans u5
  have hl4' := v5 _ _ hl4
  refine ⟨l, _, _, rfl, rfl, hl4', (by show 2 < sizeLine; decide), ?_⟩
  have F5 := Fed.put (F4.same v5) nll lf (.lst (([V.ref b0] ++ [V.ref b1]) ++ [.ref b2]))
  have hl5 : upd (upd (upd (upd G5 D2 (.lst ys2)) a2 (.tup ys2)) b2 (.tup [.str n2, .str (Str.ofString "rec"), .ref a2])) l (.lst (([V.ref b0] ++ [V.ref b1]) ++ [.ref b2])) l = some (.lst (([V.ref b0] ++ [V.ref b1]) ++ [.ref b2])) := upd_same
  have R5 : RelDs (upd (upd (upd (upd G5 D2 (.lst ys2)) a2 (.tup ys2)) b2 (.tup [.str n2, .str (Str.ofString "rec"), .ref a2])) l (.lst (([V.ref b0] ++ [V.ref b1]) ++ [.ref b2]))) (([V.ref b0] ++ [V.ref b1]) ++ [.ref b2]) ([Kn.mk n0 true ps0, Kn.mk n1 true ps1, Kn.mk n2 true ps2].map Kn.d) := rels_snoc ((R4.same v5 _).tups (lst_tups hl4' _) _) (kd_rec (lst_tups hl4' _ _ _ e5) (lst_tups hl4' _ _ _ d5) ((hps2.same u5 _).tups (lst_tups hl4' _) _))
  generalize upd (upd (upd (upd G5 D2 (.lst ys2)) a2 (.tup ys2)) b2 (.tup [.str n2, .str (Str.ofString "rec"), .ref a2])) l (.lst (([V.ref b0] ++ [V.ref b1]) ++ [.ref b2])) = H5 at F5 hl5 R5 ⊢
  have hn5 := F5.1 nb _ hnb nf
  -- the parts of the fourth
  refine ⟨_, rfl, nb, _, _, _, rfl, rfl, SqL.of hn5, g8, _, rfl, nb, _, _, _, rfl, rfl, SqL.of hn5, g1, (by show 2 ≤ sizeLine; decide), fun c0 hc0 => ?_⟩
  have w1 := Same.new hc0 (.tup [.str n8, .str n1])
  have x1 : upd H5 c0 (.tup [.str n8, .str n1]) c0 = some (.tup [.str n8, .str n1]) := upd_same
  generalize upd H5 c0 (.tup [.str n8, .str n1]) = J1 at w1 x1 ⊢
  refine ⟨_, rfl, nb, _, _, _, rfl, rfl, SqL.of (w1 _ _ hn5), g0, _, rfl, nb, _, _, _, rfl, rfl, SqL.of (w1 _ _ hn5), g0, (by show 2 ≤ sizeLine; decide), fun c1 hc1 => ?_⟩
  have w2 := Same.new hc1 (.tup [.str n0, .str n0])
  have x2 : upd J1 c1 (.tup [.str n0, .str n0]) c1 = some (.tup [.str n0, .str n0]) := upd_same
  have x12 := w2 _ _ x1
  have w12 := w1.trans w2
  generalize upd J1 c1 (.tup [.str n0, .str n0]) = J2 at w12 x2 x12 ⊢
  refine ⟨_, rfl, nb, _, _, _, rfl, rfl, SqL.of (w12 _ _ hn5), g9, _, rfl, nb, _, _, _, rfl, rfl, SqL.of (w12 _ _ hn5), g2, (by show 2 ≤ sizeLine; decide), fun c2 hc2 => ⟨(by show 3 ≤ sizeLine; decide), fun pt hpt => ?_⟩⟩
  have w3 := (Same.new hc2 (.tup [.str n9, .str n2])).trans (Same.new hpt (.tup [.ref c0, .ref c1, .ref c2]))
  have x3 := Same.new hpt (.tup [.ref c0, .ref c1, .ref c2]) _ _ (upd_same : upd J2 c2 (.tup [.str n9, .str n2]) c2 = _)
  have x4 : upd (upd J2 c2 (.tup [.str n9, .str n2])) pt (.tup [.ref c0, .ref c1, .ref c2]) pt = some (.tup [.ref c0, .ref c1, .ref c2]) := upd_same
  have x13 := w3 _ _ x12
  have x23 := w3 _ _ x2
  have w53 := w12.trans w3
  generalize upd (upd J2 c2 (.tup [.str n9, .str n2])) pt (.tup [.ref c0, .ref c1, .ref c2]) = J3 at w53 x3 x4 x13 x23 ⊢
  have P3 : RelDs J3 [.ref c0, .ref c1, .ref c2] ([(n8, n1), (n0, n0), (n9, n2)].map dPart) := ⟨_, _, rfl, pd_mk x13, _, _, rfl, pd_mk x23, _, _, rfl, pd_mk x3, rfl⟩
  have A3 : PAny [(n8, n1), (n0, n0), (n9, n2)] := ((PAny.nil.snoc m8 (.inr m1)).snoc m0 (.inr m0)).snoc m9 (.inr m2)
  have FJ := F5.same w53
  obtain ⟨p5, q5, h5⟩ := FJ.2
  refine ⟨_, rfl, f', p5, q5, 2, rfl, h5, by decide, by decide, fun r6 H6 r60 r61 f6 => ⟨rfl, _, rfl, ?_⟩⟩
  have F6 : Fed f' H H6 := FJ.trans f6
  have hn6 := F6.1 nb _ hnb nf
  have tu := fed_tups ⟨p5, q5, h5⟩ f6
  have hl6 : H6 l = some (.lst ([V.ref b0] ++ [V.ref b1] ++ [V.ref b2])) := f6.1 _ _ (w53 _ _ hl5) lf
  have R6 : RelDs H6 ([V.ref b0] ++ [V.ref b1] ++ [V.ref b2]) ([Kn.mk n0 true ps0, Kn.mk n1 true ps1, Kn.mk n2 true ps2].map Kn.d) := (R5.same w53 _).tups tu _
  have P6 := P3.tups tu _
  have x6 := tu _ _ x4
  have y3 : KAny [Kn.mk n0 true ps0, Kn.mk n1 true ps1, Kn.mk n2 true ps2] := ((KAny.nil.snoc (k1_rec m0 hpa0 (by omega)) (by show 0 < 6; decide)).snoc (k1_rec m1 hpa1 (by omega)) (by show 1 < 6; decide)).snoc (k1_rec m2 hpa2 (by omega)) (by show 2 < 6; decide)
  refine ite2 (fun c => ?_) (fun c => ?_)
  · refine ⟨_, rfl, l, _, rfl, .inl ⟨SqL.of hl6, fun tk htk => ?_⟩⟩
    have z1 := Same.new htk (.tup ([V.ref b0] ++ [V.ref b1] ++ [V.ref b2]))
    have xk : upd H6 tk (.tup ([V.ref b0] ++ [V.ref b1] ++ [V.ref b2])) tk = some (.tup ([V.ref b0] ++ [V.ref b1] ++ [V.ref b2])) := upd_same
    generalize upd H6 tk (.tup ([V.ref b0] ++ [V.ref b1] ++ [V.ref b2])) = J7 at z1 xk ⊢
    refine ⟨_, rfl, nb, _, _, _, rfl, rfl, SqL.of (z1 _ _ hn6), g3, _, rfl, _, rfl, nb, _, _, _, rfl, rfl, SqL.of (z1 _ _ hn6), g10, (by show 2 ≤ sizeLine; decide), fun c3 hc3 => ⟨(by show 1 ≤ sizeLine; decide), fun c4 hc4 => catT0_to (Same.new hc4 _ _ _ (Same.new hc3 _ _ _ (z1 _ _ x6))) upd_same (by show 4 ≤ sizeLine; decide) (by simp) fun c5 H8 s8 hc5 => ⟨(by show 3 ≤ sizeLine; decide), fun c6 hc6 => ⟨(by show 1 ≤ sizeLine; decide), fun c7 hc7 => catT0_to (Same.new hc7 _ _ _ (Same.new hc6 _ _ _ (s8 _ _ (Same.new hc4 _ _ _ (Same.new hc3 _ _ _ xk))))) upd_same (by show 4 ≤ sizeLine; decide) (by simp) fun c8 H9 s9 hc8 => ?_⟩⟩⟩⟩
    have y78 : Same J7 H8 := (Same.new hc3 _).trans ((Same.new hc4 _).trans s8)
    have y89 : Same H8 H9 := (Same.new hc6 _).trans ((Same.new hc7 _).trans s9)
    have y69 := z1.trans (y78.trans y89)
    have P9 : RelDs H9 ([.ref c0, .ref c1, .ref c2] ++ [.ref c3]) ([(n8, n1), (n0, n0), (n9, n2), (n10, S "num")].map dPart) := rels_snoc (P6.same y69 _) (pd_mk (y89 _ _ (s8 _ _ (Same.new hc4 _ _ _ upd_same))))
    have R9 : RelDs H9 (([V.ref b0] ++ [V.ref b1] ++ [V.ref b2]) ++ [.ref c6]) ([Kn.mk n0 true ps0, Kn.mk n1 true ps1, Kn.mk n2 true ps2, Kn.mk n3 true [(n8, n1), (n0, n0), (n9, n2), (n10, S "num")]].map Kn.d) := rels_snoc (R6.same y69 _) (kd_rec (s9 _ _ (Same.new hc7 _ _ _ upd_same)) (y89 _ _ hc5) P9)
    exact k _ _ _ (F6.same y69) ⟨c8, _, rfl, hc8, R9⟩ (y3.snoc (k1_rec m3 (A3.snoc m10 (.inl rfl)) (by show 4 ≤ 5; decide)) (by show 3 < 6; decide))
  · refine ⟨_, rfl, .inl ⟨rfl, _, SqL.of hl6⟩, _, rfl, nb, _, _, _, rfl, rfl, SqL.of hn6, g3, _, rfl, (by show 3 ≤ sizeLine; decide), fun b3 hb3 => ?_⟩
    have v7 := Same.new hb3 (.tup [.str n3, .str (Str.ofString "rec"), .ref pt])
    have hl6' := v7 _ _ hl6
    refine ⟨l, _, _, rfl, rfl, hl6', (by show 3 < sizeLine; decide), ?_⟩
    have F7 := Fed.put (F6.same v7) nll lf (.lst (([V.ref b0] ++ [V.ref b1] ++ [V.ref b2]) ++ [.ref b3]))
    have hl7 : upd (upd H6 b3 (.tup [.str n3, .str (Str.ofString "rec"), .ref pt])) l (.lst (([V.ref b0] ++ [V.ref b1] ++ [V.ref b2]) ++ [.ref b3])) l = some (.lst (([V.ref b0] ++ [V.ref b1] ++ [V.ref b2]) ++ [.ref b3])) := upd_same
    have R7 : RelDs (upd (upd H6 b3 (.tup [.str n3, .str (Str.ofString "rec"), .ref pt])) l (.lst (([V.ref b0] ++ [V.ref b1] ++ [V.ref b2]) ++ [.ref b3]))) (([V.ref b0] ++ [V.ref b1] ++ [V.ref b2]) ++ [.ref b3]) ([Kn.mk n0 true ps0, Kn.mk n1 true ps1, Kn.mk n2 true ps2, Kn.mk n3 true [(n8, n1), (n0, n0), (n9, n2)]].map Kn.d) := rels_snoc ((R6.same v7 _).tups (lst_tups hl6' _) _) (kd_rec (lst_tups hl6' _ _ _ upd_same) (lst_tups hl6' _ _ _ (v7 _ _ x6)) ((P6.same v7 _).tups (lst_tups hl6' _) _))
    generalize upd (upd H6 b3 (.tup [.str n3, .str (Str.ofString "rec"), .ref pt])) l (.lst (([V.ref b0] ++ [V.ref b1] ++ [V.ref b2]) ++ [.ref b3])) = J7 at F7 hl7 R7 ⊢
    have hn7 := F7.1 nb _ hnb nf
    refine ⟨_, rfl, l, _, rfl, .inl ⟨SqL.of hl7, fun tk htk => ?_⟩⟩
    have z1 := Same.new htk (.tup (([V.ref b0] ++ [V.ref b1] ++ [V.ref b2]) ++ [.ref b3]))
    have xk : upd J7 tk (.tup (([V.ref b0] ++ [V.ref b1] ++ [V.ref b2]) ++ [.ref b3])) tk = some (.tup (([V.ref b0] ++ [V.ref b1] ++ [V.ref b2]) ++ [.ref b3])) := upd_same
    generalize upd J7 tk (.tup (([V.ref b0] ++ [V.ref b1] ++ [V.ref b2]) ++ [.ref b3])) = J8 at z1 xk ⊢
    have hn8 := z1 _ _ hn7
    refine ⟨_, rfl, nb, _, _, _, rfl, rfl, SqL.of hn8, g4, _, rfl, nb, _, _, _, rfl, rfl, SqL.of hn8, g8, (by show 2 ≤ sizeLine; decide), fun c3 hc3 => ?_⟩
    have w9 := Same.new hc3 (.tup [.str n8, .str (Str.ofString "num")])
    have x9 : upd J8 c3 (.tup [.str n8, .str (Str.ofString "num")]) c3 = some (.tup [.str n8, .str (Str.ofString "num")]) := upd_same
    have xk9 := w9 _ _ xk
    generalize upd J8 c3 (.tup [.str n8, .str (Str.ofString "num")]) = J9 at w9 x9 xk9 ⊢
    refine ⟨_, rfl, nb, _, _, _, rfl, rfl, SqL.of (w9 _ _ hn8), g9, _, rfl, nb, _, _, _, rfl, rfl, SqL.of (w9 _ _ hn8), g3, (by show 2 ≤ sizeLine; decide), fun c4 hc4 => ⟨(by show 2 ≤ sizeLine; decide), fun c5 hc5 => ⟨(by show 3 ≤ sizeLine; decide), fun c6 hc6 => ⟨(by show 1 ≤ sizeLine; decide), fun c7 hc7 => catT0_to (Same.new hc7 _ _ _ (Same.new hc6 _ _ _ (Same.new hc5 _ _ _ (Same.new hc4 _ _ _ xk9)))) upd_same (by show 5 ≤ sizeLine; decide) (by simp) fun c8 H9 s9 hc8 => ?_⟩⟩⟩⟩
    have y59 := (Same.new hc6 _).trans ((Same.new hc7 _).trans s9)
    have y49 := (Same.new hc5 _).trans y59
    have y99 : Same J9 H9 := (Same.new hc4 _).trans y49
    have y79 := z1.trans (w9.trans y99)
    have P9 : RelDs H9 [.ref c3, .ref c4] ([(n8, S "num"), (n9, n3)].map dPart) := ⟨_, _, rfl, pd_mk (y99 _ _ x9), _, _, rfl, pd_mk (y49 _ _ upd_same), rfl⟩
    have R9 : RelDs H9 (([V.ref b0] ++ [V.ref b1] ++ [V.ref b2]) ++ [.ref b3] ++ [.ref c6]) ([Kn.mk n0 true ps0, Kn.mk n1 true ps1, Kn.mk n2 true ps2, Kn.mk n3 true [(n8, n1), (n0, n0), (n9, n2)], Kn.mk n4 false [(n8, S "num"), (n9, n3)]].map Kn.d) := rels_snoc (R7.same y79 _) (kd_alt (s9 _ _ (Same.new hc7 _ _ _ upd_same)) (y59 _ _ upd_same) P9)
    have A9 : PAny [(n8, S "num"), (n9, n3)] := (PAny.nil.snoc m8 (.inl rfl)).snoc m9 (.inr m3)
    exact k _ _ _ (F7.same y79) ⟨c8, _, rfl, hc8, R9⟩ ((y3.snoc (k1_rec m3 A3 (by show 3 ≤ 5; decide)) (by show 3 < 6; decide)).snoc ⟨m4, (fun _ e => by cases e), (by show 2 ≤ 5; decide), fun p h => (A9 p h).1, fun p h => (A9 p h).2⟩ (by show 4 < 6; decide))
end
end K10

end

section
set_option Elab.async false
set_option linter.all false
set_option maxRecDepth 100000
set_option maxHeartbeats 4000000
namespace K10
open PySem L2 M
seal L2.PE L2.PA L2.PS L2.PSs L2.PT L2.PW L2.PI L2.PG L2.PJ L2.PTs
noncomputable def spSpoilt : Sp := fun vs H Q _ => ∃ (f nb : Addr) (p q : Int) (nms : List Str) (kv : V) (ks : List Kn), vs = [.ref f, kv, .ref nb] ∧ H f = some (.lst [.int p, .int q]) ∧ H nb = some (.lst (nms.map V.str)) ∧ NmsOk nms ∧ nb ≠ f ∧ RelD H kv (dKinds ks) ∧ KAny ks ∧ ∀ v ks' (H' : Hp), Fed f H H' → RelD H' v (dKinds ks') → KAny ks' → Q v H'
theorem catT0_any {K : PySem.W.Frag} {H : Hp} {Q : VK} {a b : Addr} {xs ys : List V} (ha : H a = some (.tup xs)) (hb : H b = some (.tup ys)) (hz : xs.length + ys.length ≤ sizeLine) (q : ∀ c H', Same H H' → H' c = some (.tup (xs ++ ys)) → Q (.ref c) H') : rCatT0 K (.ref a) (.ref b) H Q :=
  ⟨a, b, xs, ys, rfl, rfl, SqT.of ha, SqT.of hb, hz, fun e => q b _ (Same.refl _) (by rw [e]; exact hb), fun _ e => q a _ (Same.refl _) (by rw [e, List.append_nil]; exact ha), fun _ _ p hp => q p _ (Same.new hp _) upd_same⟩
theorem cut_from (us : List V) {i : Nat} (h : i < us.length) : cutV us (some ((i : Int) + 1)) none = us.drop (i + 1) := by
  unfold cutV
  rw [show ((i : Int) + 1) = ((i + 1 : Nat) : Int) by omega, HT.sIx_none, HT.sIx_nat, Nat.min_eq_left (by omega), List.take_of_length_le (by rw [List.length_drop]; omega)]
theorem cut3 (us : List V) : cutV us none (some 3) = us.take 3 := by
  unfold cutV
  rw [HT.sIx_none, show (3 : Int) = ((3 : Nat) : Int) from rfl, HT.sIx_nat, List.drop_zero, Nat.sub_zero, Nat.min_comm]
  by_cases h : us.length ≤ 3
  · rw [Nat.min_eq_left h, List.take_length, List.take_of_length_le h]
  · rw [Nat.min_eq_right (by omega)]
theorem relDs_drop {H : Hp} : ∀ {us : List V} {ds : List D} (i : Nat), RelDs H us ds → RelDs H (us.drop i) (ds.drop i)
  | _, _, 0, h => h
  | us, [], i + 1, h => by
    have : us = [] := h
    subst this
    simp [RelDs]
  | us, d :: ds, i + 1, h => by
    obtain ⟨v, vs, rfl, r, rs⟩ := h
    exact relDs_drop i rs
theorem PAny.take {ps : List (Str × Str)} (h : PAny ps) (i : Nat) : PAny (ps.take i) := fun p hp => h p (List.mem_of_mem_take hp)
theorem PAny.cons {ps : List (Str × Str)} (h : PAny ps) {x y : Str} (hx : Name x) (hy : y = S "num" ∨ Name y) : PAny ((x, y) :: ps) := fun p hp => by
  rcases List.mem_cons.mp hp with rfl | hp
  · exact ⟨hx, hy⟩
  · exact h p hp
theorem kin_nm {ks : List Kn} (h : KAny ks) {n : Nat} {x : Str} (hx : KIn ks n x) : x = S "num" ∨ Name x := by
  rcases hx with h1 | ⟨j, k, _, hk, h1⟩
  · exact .inl h1
  · exact .inr (by rw [← h1]; exact h.nm k (List.mem_of_getElem? hk))
theorem neI {a b : Int} (h : a ≠ b) : decide (V.int a = V.int b) = false := decide_eq_false fun z => h (V.int.inj z)
theorem eqI {a b : Int} (h : a = b) : decide (V.int a = V.int b) = true := decide_eq_true (congrArg V.int h)
theorem mergeR {G : Str → Str → Addr → Hp → Prop} {P : Prop} (R : Str → Str → Addr → Hp → Prop) (main : (∀ n s c H, R n s c H → G n s c H) → P) (key : ∀ n s c H, R n s c H → G n s c H) : P := main key
theorem any_put {ks : List Kn} (h : KAny ks) {i : Nat} (hi : i < ks.length) {k : Kn} (hk : K1 k) : KAny (ks.take i ++ [k] ++ ks.drop (i + 1)) := by
  refine KAny.all (fun z hz => ?_) ?_
  · rcases List.mem_append.mp hz with hz | hz
    · rcases List.mem_append.mp hz with hz | hz
      · exact h.one (List.mem_of_mem_take hz)
      · rw [List.mem_singleton.mp hz]; exact hk
    · exact h.one (List.mem_of_mem_drop hz)
  · have := h.few
    rw [List.length_append, List.length_append, List.length_take, List.length_singleton, List.length_drop]
    omega
section
variable {P : Program} {w : World} {K : PySem.W.Frag} {mg : Str → Option Value} {base : Heap} {n m : Nat}
theorem ok__law_spoilt (T : Tx K mg) (D__law_take : DefIs P w K mg base n "_law_take" ["_law_feed_here", "_law_many"] spTake) : DefIs P w K mg base (n + 1) "_law_spoilt" ["_law_feed_here", "_law_kinds_here", "_law_names_here"] spSpoilt := by
  refine DefIs.of T.d__law_spoilt sc__law_spoilt (fun vs H Q E h => ?_) (fun f cdv A outer s H vs Q E hr h => ?_)
  · obtain ⟨_, _, _, _, _, _, _, rfl, _⟩ := h
    rfl
  obtain ⟨f', nb, p, q, nms, kv, ks, rfl, hf, hnb, hok, nf, hk, hany, k⟩ := h
  have nd := sc__law_spoilt.nd
  have hu := hu_of hr
  have hu2 := hu2_of hr
  refine ⟨_, (pss_cons (ps_set (i := 3) nd rfl (by first | exact Or.inl rfl | exact Or.inr rfl) (pe_dcall D__law_take hr (pa_cons (pv 0) (pa_cons pe_int pa_nil star_const) star_name)))
      (pss_cons (ps_if (pt_cmpR (op_eqT0 hu2) (pv 1) (pe_tup pa_nil) (nomark _)) (pss_one (ps_ret (pe_tup (pa_cons (pe_tup (pa_cons (pe_ix ix_list (pv 2) pe_int (fun _ _ => rfl)) (pa_cons pe_str (pa_cons (pe_tup (pa_cons (pe_tup (pa_cons (pe_ix ix_list (pv 2) pe_int (fun _ _ => rfl)) (pa_cons (pe_ix ix_list (pv 2) pe_int (fun _ _ => rfl)) pa_nil star_sub) star_sub)) pa_nil star_tup)) pa_nil star_tup) star_const) star_sub)) pa_nil star_tup)))) pss_nil)
      (pss_cons (ps_set (i := 4) nd rfl (by first | exact Or.inl rfl | exact Or.inr rfl) (pe_dcall D__law_take hr (pa_cons (pv 0) (pa_cons (pe_callB call_len_seq rfl T.z_len PySem.boot_len (pa_cons (pv 1) pa_nil star_name)) pa_nil star_call) star_name)))
      (pss_cons (ps_asg (pe_ix ix_tup (pv 1) (pv 4) (fun _ _ => rfl)) (pg_tup rfl (pgs_cons (pg_name (i := 5) nd rfl (by first | exact Or.inl rfl | exact Or.inr rfl)) (pgs_cons (pg_name (i := 6) nd rfl (by first | exact Or.inl rfl | exact Or.inr rfl)) (pgs_cons (pg_name (i := 7) nd rfl (by first | exact Or.inl rfl | exact Or.inr rfl)) pgs_nil)))))
      (pss_cons (ps_if (pt_cmpR op_eq (pv 3) pe_int (nomark _)) (pss_one (ps_set (i := 5) nd rfl (by first | exact Or.inl rfl | exact Or.inr rfl) (pe_ix ix_tup (pe_ix ix_tup (pv 1) (pe_dcall D__law_take hr (pa_cons (pv 0) (pa_cons (pe_op op_add (pv 4) pe_int) pa_nil star_bin) star_name)) (fun _ _ => rfl)) pe_int (fun _ _ => rfl)))) pss_nil)
      (pss_cons (ps_if (pt_cmpR op_eq (pv 3) pe_int (nomark _)) (pss_one (ps_set (i := 7) nd rfl (by first | exact Or.inl rfl | exact Or.inr rfl) (pe_op op_catT0 (pe_slice sl_tupW (pv 7) po_none (po_some pe_int)) (pe_tup (pa_cons (pe_tup (pa_cons (pe_ix ix_list (pv 2) pe_int (fun _ _ => rfl)) (pa_cons pe_str pa_nil star_const) star_sub)) pa_nil star_tup))))) pss_nil)
      (pss_cons (ps_if (pt_cmpR op_eq (pv 3) pe_int (nomark _)) (pss_one (ps_set (i := 7) nd rfl (by first | exact Or.inl rfl | exact Or.inr rfl) (pe_op op_catT0 (pe_slice sl_tupW (pv 7) po_none (po_some pe_int)) (pe_tup (pa_cons (pe_tup (pa_cons (pe_ix ix_list (pv 2) pe_int (fun _ _ => rfl)) (pa_cons (pe_ix ix_list (pv 2) pe_int (fun _ _ => rfl)) pa_nil star_sub) star_sub)) pa_nil star_tup))))) pss_nil)
      (pss_cons (ps_if (pt_cmpR op_eq (pv 3) pe_int (nomark _)) (pss_one (ps_set (i := 7) nd rfl (by first | exact Or.inl rfl | exact Or.inr rfl) (pe_op op_catT0 (pe_tup (pa_cons (pe_tup (pa_cons (pe_ix ix_list (pv 2) pe_int (fun _ _ => rfl)) (pa_cons (pe_ix ix_tup (pe_ix ix_tup (pv 1) (pe_dcall D__law_take hr (pa_cons (pv 0) (pa_cons (pe_callB call_len_seq rfl T.z_len PySem.boot_len (pa_cons (pv 1) pa_nil star_name)) pa_nil star_call) star_name)) (fun _ _ => rfl)) pe_int (fun _ _ => rfl)) pa_nil star_sub) star_sub)) pa_nil star_tup)) (pe_slice sl_tupW (pv 7) po_none (po_some pe_int))))) pss_nil)
      (pss_cons (ps_if (pt_cmpR op_gt (pv 3) pe_int (nomark _)) (pss_cons (ps_set (i := 6) nd rfl (by first | exact Or.inl rfl | exact Or.inr rfl) pe_str)
      (pss_cons (ps_set (i := 8) nd rfl (by first | exact Or.inl rfl | exact Or.inr rfl) (pe_ix ix_list (pe_op op_cat (pe_lst (pa_cons pe_str pa_nil star_const)) (pe_comp ["_law_row"] [none] rfl (by kernel_rfl) (pi_tup (pe_slice sl_tupW (pv 1) po_none (po_some (pv 4)))) (fun _ _ _ _ => (pg_name (i := 0) (by show List.Nodup (["_law_row"] : List Str); decide +kernel) rfl (Or.inl rfl))) (fun _ _ _ _ => pts_nil) (fun _ _ _ _ => (pe_ix (ix_tupC (K := K) rfl) (pv 0) pe_int (fun _ _ => rfl))))) (pe_un un_neg pe_int) (fun _ _ => rfl)))
      (pss_one (ps_set (i := 7) nd rfl (by first | exact Or.inl rfl | exact Or.inr rfl) (pe_callTy call_tuple_of rfl T.z_tuple PyProof.Rows.boot_tuple (pa_cons (pe_comp ["_law_j", "_law_last", "_law_names_here"] [none, some 8, some 2] rfl (by kernel_rfl) (pi_range1 rfl T.z_range (pa_cons pe_int pa_nil star_const)) (fun _ _ _ _ => (pg_name (i := 0) (by show List.Nodup (["_law_j", "_law_last", "_law_names_here"] : List Str); decide +kernel) rfl (Or.inl rfl))) (fun _ _ _ _ => pts_nil) (fun _ _ _ _ => (pe_tup (pa_cons (pe_ix (ix_listC (K := K) rfl) (pv 2) (pe_op op_add pe_int (pv 0)) (fun _ _ => rfl)) (pa_cons (pv 1) pa_nil star_name) star_sub)))) pa_nil star_comp)))))) pss_nil)
      (pss_one (ps_ret (pe_op op_catT0 (pe_op op_catT0 (pe_slice sl_tupW (pv 1) po_none (po_some (pv 4))) (pe_tup (pa_cons (pe_tup (pa_cons (pv 5) (pa_cons (pv 6) (pa_cons (pv 7) pa_nil star_name) star_name) star_name)) pa_nil star_tup))) (pe_slice sl_tupW (pv 1) (po_some (pe_op op_add (pv 4) pe_int)) po_none))))))))))))), ?_⟩
  refine ⟨_, rfl, f', p, q, 6, rfl, hf, by decide, by decide, fun r1 H1 r10 r11 f1 => ?_⟩
  have hn1 := f1.1 nb _ hnb nf
  obtain ⟨n0, g0, m0⟩ := nm_at hok (ix := 0) (by decide) (by decide)
  obtain ⟨n1, g1, m1⟩ := nm_at hok (ix := 1) (by decide) (by decide)
  obtain ⟨n7, g7, m7⟩ := nm_at hok (ix := 7) (by decide) (by decide)
  obtain ⟨n8, g8, m8⟩ := nm_at hok (ix := 8) (by decide) (by decide)
  obtain ⟨n13, g13, m13⟩ := nm_at hok (ix := 13) (by decide) (by decide)
  have h6 := hany.few
  obtain ⟨a, us, rfl, ha, hus⟩ := hk.tups (fed_tups ⟨p, q, hf⟩ f1) _
  have hul := hus.length
  rw [List.length_map] at hul
  obtain ⟨p1, q1, h1⟩ := f1.2
  refine ⟨_, rfl, (by show 0 ≤ sizeLine; decide), fun e0 he0 => ?_⟩
  have s2 := Same.new he0 (.tup [])
  have F2 : Fed f' H (upd H1 e0 (.tup [])) := f1.same s2
  refine ⟨a, e0, us, rfl, rfl, SqT.of (s2 _ _ ha), SqT.of upd_same, _, rfl, ?_⟩
  generalize upd H1 e0 (.tup []) = H2 at s2 F2 ⊢
  have ha2 := s2 _ _ ha
  have hus2 := hus.same s2 _
  have hn2 := s2 _ _ hn1
  by_cases hks : ks = []
  · refine iteBT (by rw [List.eq_nil_of_length_eq_zero (l := us) (by rw [hul, hks]; rfl)]; rfl) ?_
    refine ⟨_, rfl, nb, _, _, _, rfl, rfl, SqL.of hn2, g0, _, rfl, nb, _, _, _, rfl, rfl, SqL.of hn2, g8, _, rfl, nb, _, _, _, rfl, rfl, SqL.of hn2, g1, (by show 2 ≤ sizeLine; decide), fun c0 hc0 => ⟨(by show 1 ≤ sizeLine; decide), fun c1 hc1 => ⟨(by show 3 ≤ sizeLine; decide), fun c2 hc2 => ⟨(by show 1 ≤ sizeLine; decide), fun c3 hc3 => ?_⟩⟩⟩⟩
    have t3 := Same.new hc3 (.tup [.ref c2])
    have t2 := (Same.new hc2 (.tup [.str n0, .str (Str.ofString "rec"), .ref c1])).trans t3
    have t1 := (Same.new hc1 (.tup [.ref c0])).trans t2
    have t0 := (Same.new hc0 (.tup [.str n8, .str n1])).trans t1
    refine k _ [Kn.mk n0 true [(n8, n1)]] _ (F2.same t0) ⟨c3, _, rfl, upd_same, _, _, rfl, kd_rec (t3 _ _ upd_same) (t2 _ _ upd_same) ⟨_, _, rfl, pd_mk (t1 _ _ upd_same), rfl⟩, rfl⟩ (KAny.nil.snoc (k1_rec m0 (PAny.nil.snoc m8 (.inr m1)) (by show 1 ≤ 5; decide)) (by show 0 < 6; decide))
  have hpos : 0 < ks.length := List.length_pos_iff.mpr hks
  refine iteBF (by cases us with | nil => simp at hul; omega | cons x r => rfl) ?_
  obtain ⟨p2, q2, h2⟩ := F2.2
  refine ⟨_, rfl, _, rfl, a, _, rfl, .inr (SqT.of ha2), f', p2, q2, _, rfl, h2, by omega, by omega, fun r3 H3 r30 r31 f3 => ?_⟩
  have F3 : Fed f' H H3 := F2.trans f3
  have tu3 := fed_tups ⟨p2, q2, h2⟩ f3
  have ha3 := tu3 _ _ ha2
  have hus3 := hus2.tups tu3 _
  have hn3 := F3.1 nb _ hnb nf
  obtain ⟨i, rfl⟩ := Int.eq_ofNat_of_zero_le r30
  have hi : i < us.length := by omega
  have hik : i < ks.length := by omega
  obtain ⟨d, hd, rd⟩ := hus3.get (List.getElem?_eq_getElem hi)
  rw [List.getElem?_map, List.getElem?_eq_getElem hik] at hd
  obtain rfl : (ks[i]).d = d := Option.some.inj hd
  have k1 := hany.one (List.getElem_mem hik)
  generalize ks[i] = kn at rd k1 hd
  obtain ⟨b, ws, eb, hb, _, _, rfl, rfl, _, _, rfl, rfl, v3, _, rfl, r3, rfl⟩ := rd
  obtain ⟨c, zs, rfl, hc, hzs⟩ := r3
  have g : atI us ((i : Nat) : Int) = some (.ref b) := atI_nat (by rw [List.getElem?_eq_getElem hi, eb])
  refine ⟨_, rfl, _, rfl, a, _, _, _, rfl, rfl, SqT.of ha3, g, b, _, rfl, SqT.of hb, rfl, _, _, rfl, _, _, rfl, _, _, rfl, rfl, ?_⟩
  have hsrt : kn.sort = S "rec" ∨ kn.sort = S "alt" := by
    unfold Kn.sort
    cases kn.rc
    · exact .inr rfl
    · exact .inl rfl
  have hzl := hzs.length
  rw [List.length_map] at hzl
  have h5 := k1.pts
  have hpa : PAny kn.parts := fun p hp => ⟨k1.pnm p hp, k1.pkd p hp⟩
  have halt : kn.sort = S "alt" → kn.parts ≠ [] := fun e => k1.alt (by
    cases hc : kn.rc with
    | false => rfl
    | true => unfold Kn.sort at e; rw [if_pos hc] at e; exact absurd e (by decide +kernel))
  obtain ⟨p3, q3, h3⟩ := F3.2
  have row : ∀ {H5 : Hp} {r : Int}, RelDs H5 us (ks.map Kn.d) → 0 ≤ r → r < (ks.length : Int) → ∃ b v3, ∃ z ∈ ks, atI us r = some (.ref b) ∧ H5 b = some (.tup [.str z.name, .str z.sort, v3]) := fun {H5 r} hR r0 r1 => by
    obtain ⟨j, rfl⟩ := Int.eq_ofNat_of_zero_le r0
    have hj : j < us.length := by omega
    obtain ⟨d, hd, rd⟩ := hR.get (List.getElem?_eq_getElem hj)
    rw [List.getElem?_map, List.getElem?_eq_getElem (show j < ks.length by omega)] at hd
    obtain rfl : (ks[j]).d = d := Option.some.inj hd
    obtain ⟨b, ws, eb, hb, _, _, rfl, rfl, _, _, rfl, rfl, v3, _, rfl, _, rfl⟩ := rd
    exact ⟨b, v3, ks[j], List.getElem_mem _, atI_nat (by rw [List.getElem?_eq_getElem hj, eb]), hb⟩
  let RR : Str → Str → Addr → Hp → Prop := fun nm srt c' H7 => ∃ zs' ps', Fed f' H H7 ∧ H7 a = some (.tup us) ∧ RelDs H7 us (ks.map Kn.d) ∧ H7 c' = some (.tup zs') ∧ RelDs H7 zs' (ps'.map dPart) ∧ Name nm ∧ (srt = S "rec" ∨ srt = S "alt") ∧ PAny ps' ∧ ps'.length ≤ 5 ∧ (srt = S "alt" → ps' ≠ [])
  apply mergeR RR
  · intro key
    rcases (show r1 = 0 ∨ r1 = 1 ∨ r1 = 2 ∨ r1 = 3 ∨ 4 ≤ r1 by omega) with hr1 | hr1 | hr1 | hr1 | hr1
    · refine ⟨_, rfl, rfl, _, rfl, iteBT (eqI hr1) ⟨_, rfl, _, rfl, _, rfl, _, _, rfl, rfl, f', p3, q3, _, rfl, h3, by omega, by omega, fun r4 H7 r40 r41 f4 => ?_⟩⟩
      have tu4 := fed_tups ⟨p3, q3, h3⟩ f4
      have G1 : Fed f' H H7 := F3.trans f4
      have G2 := tu4 _ _ ha3
      have G3 := hus3.tups tu4 _
      obtain ⟨b', v', z, hzk, hat, hb'⟩ := row G3 r40 (by omega)
      refine ⟨a, _, _, _, rfl, rfl, SqT.of G2, hat, b', _, _, _, rfl, rfl, SqT.of hb', rfl, ?_⟩
      refine ⟨_, rfl, rfl, _, rfl, iteBF (neI (by omega)) ⟨_, rfl, rfl, _, rfl, iteBF (neI (by omega)) ⟨_, rfl, rfl, _, rfl, iteBF (neI (by omega)) ⟨_, rfl, _, _, rfl, rfl, _, rfl, iteBF (decide_eq_false (by omega)) ?_⟩⟩⟩⟩
      have pp : RR z.name kn.sort c H7 := ⟨zs, kn.parts, G1, G2, G3, tu4 _ _ hc, hzs.tups tu4 _, hany.nm z hzk, hsrt, hpa, h5, halt⟩
      generalize z.name = nm at pp ⊢
      generalize kn.sort = srt at pp ⊢
      generalize c = c' at pp ⊢
      exact key nm srt c' H7 pp
    · refine ⟨_, rfl, rfl, _, rfl, iteBF (neI (by omega)) ⟨_, rfl, rfl, _, rfl, iteBT (eqI hr1) ⟨_, rfl, _, rfl, slTW_to hc fun c4 H5 s5 hc4 => ⟨_, rfl, nb, _, _, _, rfl, rfl, SqL.of (s5 _ _ hn3), g8, (by show 2 ≤ sizeLine; decide), fun c0 hc0 => ⟨(by show 1 ≤ sizeLine; decide), fun c1 hc1 => catT0_any (Same.new hc1 _ _ _ (Same.new hc0 _ _ _ hc4)) upd_same (fits (by rw [cut3, List.length_take]; show _ + 1 ≤ 4000000; omega)) fun c' H7 s7 G4 => ?_⟩⟩⟩⟩⟩
      rw [cut3] at G4
      have t1 := (Same.new hc1 (.tup [.ref c0])).trans s7
      have t0 := s5.trans ((Same.new hc0 (.tup [.str n8, .str (S "num")])).trans t1)
      refine ⟨_, rfl, rfl, _, rfl, iteBF (neI (by omega)) ⟨_, rfl, rfl, _, rfl, iteBF (neI (by omega)) ⟨_, rfl, _, _, rfl, rfl, _, rfl, iteBF (decide_eq_false (by omega)) ?_⟩⟩⟩
      have G1 : Fed f' H H7 := F3.same t0
      have G2 := t0 _ _ ha3
      have G3 := hus3.same t0 _
      have G5 : RelDs H7 (zs.take 3 ++ [.ref c0]) ((kn.parts.take 3 ++ [(n8, S "num")]).map dPart) := by
        rw [List.map_append, List.map_take]
        exact rels_snoc (relDs_take 3 (hzs.same t0 _)) (pd_mk (t1 _ _ upd_same))
      exact key kn.name kn.sort c' H7 ⟨_, kn.parts.take 3 ++ [(n8, S "num")], G1, G2, G3, G4, G5, k1.nm, hsrt, (hpa.take 3).snoc m8 (.inl rfl), (by rw [List.length_append, List.length_take, List.length_singleton]; omega), (fun _ e => by simp at e)⟩
    · refine ⟨_, rfl, rfl, _, rfl, iteBF (neI (by omega)) ⟨_, rfl, rfl, _, rfl, iteBF (neI (by omega)) ⟨_, rfl, rfl, _, rfl, iteBT (eqI hr1) ⟨_, rfl, _, rfl, slTW_to hc fun c4 H5 s5 hc4 => ⟨_, rfl, nb, _, _, _, rfl, rfl, SqL.of (s5 _ _ hn3), g13, _, rfl, nb, _, _, _, rfl, rfl, SqL.of (s5 _ _ hn3), g7, (by show 2 ≤ sizeLine; decide), fun c0 hc0 => ⟨(by show 1 ≤ sizeLine; decide), fun c1 hc1 => catT0_any (Same.new hc1 _ _ _ (Same.new hc0 _ _ _ hc4)) upd_same (fits (by rw [cut3, List.length_take]; show _ + 1 ≤ 4000000; omega)) fun c' H7 s7 G4 => ?_⟩⟩⟩⟩⟩⟩
      rw [cut3] at G4
      have t1 := (Same.new hc1 (.tup [.ref c0])).trans s7
      have t0 := s5.trans ((Same.new hc0 (.tup [.str n13, .str n7])).trans t1)
      refine ⟨_, rfl, rfl, _, rfl, iteBF (neI (by omega)) ⟨_, rfl, _, _, rfl, rfl, _, rfl, iteBF (decide_eq_false (by omega)) ?_⟩⟩
      have G1 : Fed f' H H7 := F3.same t0
      have G2 := t0 _ _ ha3
      have G3 := hus3.same t0 _
      have G5 : RelDs H7 (zs.take 3 ++ [.ref c0]) ((kn.parts.take 3 ++ [(n13, n7)]).map dPart) := by
        rw [List.map_append, List.map_take]
        exact rels_snoc (relDs_take 3 (hzs.same t0 _)) (pd_mk (t1 _ _ upd_same))
      exact key kn.name kn.sort c' H7 ⟨_, kn.parts.take 3 ++ [(n13, n7)], G1, G2, G3, G4, G5, k1.nm, hsrt, (hpa.take 3).snoc m13 (.inr m7), (by rw [List.length_append, List.length_take, List.length_singleton]; omega), (fun _ e => by simp at e)⟩
    · refine ⟨_, rfl, rfl, _, rfl, iteBF (neI (by omega)) ⟨_, rfl, rfl, _, rfl, iteBF (neI (by omega)) ⟨_, rfl, rfl, _, rfl, iteBF (neI (by omega)) ⟨_, rfl, rfl, _, rfl, iteBT (eqI hr1) ⟨_, rfl, nb, _, _, _, rfl, rfl, SqL.of hn3, g13, _, rfl, _, rfl, _, rfl, a, _, rfl, .inr (SqT.of ha3), f', p3, q3, _, rfl, h3, by omega, by omega, fun r4 H4 r40 r41 f4 => ?_⟩⟩⟩⟩⟩
      have tu4 := fed_tups ⟨p3, q3, h3⟩ f4
      have F4 : Fed f' H H4 := F3.trans f4
      have hus4 := hus3.tups tu4 _
      obtain ⟨b', v', z, hzk, hat, hb'⟩ := row hus4 r40 (by omega)
      refine ⟨a, _, _, _, rfl, rfl, SqT.of (tu4 _ _ ha3), hat, b', _, _, _, rfl, rfl, SqT.of hb', rfl, (by show 2 ≤ sizeLine; decide), fun c0 hc0 => ⟨(by show 1 ≤ sizeLine; decide), fun c1 hc1 => ⟨_, rfl, _, rfl, slTW_to (Same.new hc1 _ _ _ (Same.new hc0 _ _ _ (tu4 _ _ hc))) fun c4 H5 s5 hc4 => catT0_any (s5 _ _ upd_same) hc4 (fits (by rw [cut3, List.length_take]; show 1 + _ ≤ 4000000; omega)) fun c' H7 s7 G4 => ?_⟩⟩⟩
      rw [cut3] at G4
      have t1 := (Same.new hc1 (.tup [.ref c0])).trans (s5.trans s7)
      have t0 := (Same.new hc0 (.tup [.str n13, .str z.name])).trans t1
      refine ⟨_, rfl, _, _, rfl, rfl, _, rfl, iteBF (decide_eq_false (by omega)) ?_⟩
      have G1 : Fed f' H H7 := F4.same t0
      have G2 := t0 _ _ (tu4 _ _ ha3)
      have G3 := hus4.same t0 _
      have G5 : RelDs H7 (V.ref c0 :: zs.take 3) (dPart (n13, z.name) :: (kn.parts.take 3).map dPart) := by
        rw [List.map_take]
        exact ⟨_, _, rfl, pd_mk (t1 _ _ upd_same), relDs_take 3 ((hzs.tups tu4 _).same t0 _)⟩
      exact key kn.name kn.sort c' H7 ⟨_, (n13, z.name) :: kn.parts.take 3, G1, G2, G3, G4, G5, k1.nm, hsrt, (hpa.take 3).cons m13 (.inr (hany.nm z hzk)), (by show (kn.parts.take 3).length + 1 ≤ 5; rw [List.length_take]; omega), fun _ => List.cons_ne_nil _ _⟩
    · refine ⟨_, rfl, rfl, _, rfl, iteBF (neI (by omega)) ⟨_, rfl, rfl, _, rfl, iteBF (neI (by omega)) ⟨_, rfl, rfl, _, rfl, iteBF (neI (by omega)) ⟨_, rfl, rfl, _, rfl, iteBF (neI (by omega)) ⟨_, rfl, _, _, rfl, rfl, _, rfl, iteBT (decide_eq_true (by omega)) ?_⟩⟩⟩⟩⟩
      refine ⟨(by show 1 ≤ sizeLine; decide), fun l2 hl2 => ?_⟩
      have w1 := Same.new hl2 (.lst [.str (S "num")])
      have hl21 : upd H3 l2 (.lst [.str (S "num")]) l2 = some (.lst [.str (S "num")]) := upd_same
      refine ⟨_, rfl, _, rfl, _, rfl, slTW_to (w1 _ _ ha3) fun c4 J2 w2 hc4 => ?_⟩
      rw [cut_to' us (by omega)] at hc4
      refine ⟨c4, rfl, ⟨_, SqT.of hc4⟩, ?_⟩
      have hw2 := w1.trans w2
      have hus2' := relDs_take i (hus3.same hw2 _)
      refine comp_tup (j := 0) (xs := us.take i) (fun i' ys H' => H' = J2 ∧ ys = (((ks.take i).take i').map Kn.name).map V.str) (by rfl) ⟨rfl, rfl⟩ (fitsLt (by rw [List.length_take]; omega)) (fun i ys H' _ p => by obtain ⟨rfl, _⟩ := p; exact SqT.of hc4) ?_ ?_
      · rintro i' x ys H' hx hly ⟨rfl, rfl⟩
        obtain ⟨d, hd, rd⟩ := hus2'.get hx
        rw [← List.map_take, List.getElem?_map] at hd
        obtain ⟨k', hk', rfl⟩ := Option.map_eq_some_iff.mp hd
        obtain ⟨b, vs', rfl, hb, _, _, rfl, rfl, _, _, rfl, rfl, v3, _, rfl, r3, rfl⟩ := rd
        have hi' : i' < (us.take i).length := (List.getElem?_eq_some_iff.mp hx).1
        refine ⟨_, rfl, b, _, _, _, rfl, rfl, SqT.of hb, rfl, nxt hi' hly ⟨rfl, ?_⟩⟩
        rw [List.take_add_one, hk']
        simp
      rintro ys J3 hly ⟨rfl, rfl⟩ D2 hD2
      rw [show (ks.take i).take (us.take i).length = ks.take i from List.take_of_length_le (by rw [List.length_take, List.length_take]; omega)]
      have w3 := Same.new hD2 (.lst (((ks.take i).map Kn.name).map V.str))
      refine ⟨l2, D2, _, _, rfl, rfl, w3 _ _ (w2 _ _ hl21), upd_same, fits (by rw [List.length_map, List.length_map, List.length_take]; show 1 + _ ≤ _; omega), fun l3 hl3 => ?_⟩
      have w4 := Same.new hl3 (.lst ([.str (S "num")] ++ ((ks.take i).map Kn.name).map V.str))
      obtain ⟨lst, hlst, hkin⟩ := names_last (ks.take i)
      refine ⟨_, rfl, l3, _, _, _, rfl, rfl, SqL.of upd_same, hlst, ?_⟩
      have hln : lst = S "num" ∨ Name lst := kin_nm (hany.sub (fun k h => List.mem_of_mem_take h) (by rw [List.length_take]; omega)) hkin
      have w34 := hw2.trans (w3.trans w4)
      refine ⟨_, rfl, by decide, by decide, ?_⟩
      generalize upd (upd J3 D2 (.lst (((ks.take i).map Kn.name).map V.str))) l3 (.lst ([.str (S "num")] ++ ((ks.take i).map Kn.name).map V.str)) = J4 at w34 ⊢
      have hn4 := w34 _ _ hn3
      refine comp_range (j := 0) (fun i ys H' => Same J4 H' ∧ ∃ ps : List (Str × Str), RelDs H' ys (ps.map dPart) ∧ PAny ps ∧ ps.length = i) (by rfl) ⟨Same.refl _, [], rfl, PAny.nil, rfl⟩ (fitsLt (by decide)) ?_ ?_
      · rintro i ys H' hi hly ⟨sm, ps, hps, hpa, hpl⟩
        have hi4 : i < 4 := hi
        obtain ⟨z, hz, hzn⟩ := nm_at hok (ix := 13 + (0 + (i : Int))) (by omega) (by omega)
        refine ⟨_, rfl, _, rfl, _, _, rfl, rfl, nb, _, _, _, rfl, rfl, SqL.of (sm _ _ hn4), hz, _, rfl, (by show 2 ≤ sizeLine; decide), fun t ht => nxt hi hly ⟨sm.trans (Same.new ht _), ps ++ [(z, lst)], ?_, hpa.snoc hzn hln, by rw [List.length_append, List.length_singleton, hpl]⟩⟩
        rw [List.map_append]
        exact rels_snoc (hps.same (Same.new ht _) _) (pd_mk upd_same)
      rintro zs' J5 hly5 ⟨sm5, ps', hps5, G8, hpl5⟩ D5 hD5
      refine ⟨D5, zs', rfl, .inl ⟨SqL.of upd_same, fun c' hc' => ?_⟩⟩
      have w5 := (Same.new hD5 (.lst zs')).trans (Same.new hc' (.tup zs'))
      have t0 := w34.trans (sm5.trans w5)
      exact key kn.name (S "rec") c' _ ⟨zs', ps', F3.same t0, t0 _ _ ha3, hus3.same t0 _, upd_same, hps5.same w5 _, k1.nm, .inl rfl, G8, (by rw [hpl5]; decide), fun e => absurd e (by decide +kernel)⟩
  rintro nm srt c' H7 ⟨zs', ps', G1, G2, G3, G4, G5, G6, G7, G8, G9, G10⟩
  refine ⟨_, rfl, _, rfl, _, rfl, slTW_to G2 fun e1 J7 y7 he1 => ⟨_, rfl, _, rfl, _, rfl, (by show 3 ≤ sizeLine; decide), fun d1 hd1 => ⟨(by show 1 ≤ sizeLine; decide), fun d2 hd2 => catT0_any (Same.new hd2 _ _ _ (Same.new hd1 _ _ _ he1)) upd_same (fits (by have := cutV_length us none (some (i : Int)); show _ + 1 ≤ 4000000; omega)) fun e2 J8 y8 he2 => ?_⟩⟩⟩
  have x8 := (Same.new hd1 (.tup [.str nm, .str srt, .ref c'])).trans ((Same.new hd2 (.tup [.ref d1])).trans y8)
  refine ⟨_, rfl, _, rfl, _, _, rfl, rfl, _, rfl, ?_⟩
  unfold tNoPart
  have l1 := cutV_length us none (some (i : Int))
  have l2 := cutV_length us (some ((i : Int) + 1)) none
  have l6 : us.length ≤ 6 := by omega
  refine slTW_to (x8 _ _ (y7 _ _ G2)) fun e3 J9 y9 he3 => catT0_any (y9 _ _ he2) he3 (fits ?_) fun e4 J10 y10 he4 => ?_
  · rw [List.length_append]
    show _ + 1 + _ ≤ 4000000
    omega
  rw [cut_to' us (by omega), cut_from us hi] at he4
  have x10 := x8.trans (y9.trans y10)
  have z10 := y7.trans x10
  have hk' : RelD J10 (.ref d1) (Kn.mk nm (decide (srt = S "rec")) ps').d := by
    refine ⟨d1, _, rfl, (y9.trans y10) _ _ (y8 _ _ (Same.new hd2 _ _ _ upd_same)), _, _, rfl, rfl, _, _, rfl, ?_, _, _, rfl, ⟨c', zs', rfl, z10 _ _ G4, G5.same z10 _⟩, rfl⟩
    show V.str srt = V.str _
    rw [sort_is G7]
  refine k _ (ks.take i ++ [Kn.mk nm (decide (srt = S "rec")) ps'] ++ ks.drop (i + 1)) _ (G1.same z10) ⟨e4, _, rfl, he4, ?_⟩ (any_put hany hik (k1_of G7 G6 G8 G9 G10))
  rw [List.map_append, List.map_append, List.map_take, List.map_drop]
  exact RelDs.append (rels_snoc (relDs_take i (G3.same z10 _)) hk') (relDs_drop (i + 1) (G3.same z10 _))
end
end K10

end

section
set_option Elab.async false
set_option linter.all false
set_option maxRecDepth 100000
set_option maxHeartbeats 4000000
namespace K10
open PySem L2 M
seal L2.PE L2.PA L2.PS L2.PSs L2.PT L2.PW L2.PI L2.PG L2.PJ L2.PTs
noncomputable def toldW : Option Nat → List Str
  | none => []
  | some c => [wordK c]
theorem resK_c {ks : List Kn} {c : Nat} (h : resK [] ks = some c) : c = 1 ∨ c = 2 ∨ c = 8 := by
  rcases due_res ks [] with ⟨_, e⟩ | ⟨c', e, hc, _⟩
  · rw [h] at e; cases e
  · rw [h] at e; cases e; exact hc
noncomputable def spTold : Sp := fun vs H Q _ => ∃ kv ks, vs = [kv] ∧ RelD H kv (dKinds ks) ∧ KAny ks ∧ ∀ l H', Same H H' → H' l = some (.lst ((toldW (resK [] ks)).map V.str)) → Q (.ref l) H'
theorem only (a : Addr) : ∀ u, RelV (.ref a) u → u = Value.ref a := fun _ h => h
section
variable {P : Program} {w : World} {K : PySem.W.Frag} {mg : Str → Option Value} {base : Heap} {n m : Nat}
theorem kit8 (T : Tx K mg) {c : Nat} (hc : c = 1 ∨ c = 2 ∨ c = 8) : PySem.W.kitAny K (.ref (cAt K c)) ([cAt K 0, cAt K 7, cAt K 5, cAt K 10, cAt K 3, cAt K 9, cAt K 6, cAt K 4].map Value.ref) = some false := by
  refine kit_none fun v hv => ?_
  have hj : ∃ j, j < 11 ∧ v = .ref (cAt K j) ∧ c ≠ j := by
    simp only [List.map_cons, List.map_nil, List.mem_cons, List.not_mem_nil, or_false] at hv
    rcases hv with h | h | h | h | h | h | h | h
    · exact ⟨0, by decide, h, by omega⟩
    · exact ⟨7, by decide, h, by omega⟩
    · exact ⟨5, by decide, h, by omega⟩
    · exact ⟨10, by decide, h, by omega⟩
    · exact ⟨3, by decide, h, by omega⟩
    · exact ⟨9, by decide, h, by omega⟩
    · exact ⟨6, by decide, h, by omega⟩
    · exact ⟨4, by decide, h, by omega⟩
  obtain ⟨j, h1, rfl, h3⟩ := hj
  rw [T.xt.kit c j (by omega) h1, decide_eq_false h3]
theorem b01 (b : Bool) : -(2 ^ 63 : Int) ≤ (if b = true then (1 : Int) else 0) := by cases b <;> decide
theorem b01' (b : Bool) : (if b = true then (1 : Int) else 0) < 2 ^ 63 := by cases b <;> decide
theorem b02 {x : V} (b : Bool) : [x].length * (if b = true then (1 : Int) else 0).toNat ≤ sizeLine := by
  cases b
  · show 0 ≤ sizeLine; decide
  · show 1 ≤ sizeLine; decide
theorem b05 {x : V} (b : Bool) : (List.replicate (if b = true then (1 : Int) else 0).toNat [x]).flatten.length ≤ 1 := by cases b <;> simp
theorem b03 {x y : V} (b c : Bool) : (List.replicate (if b = true then (1 : Int) else 0).toNat [x]).flatten.length + (List.replicate (if c = true then (1 : Int) else 0).toNat [y]).flatten.length ≤ sizeLine := by
  have h1 := b05 (x := x) b
  have h2 := b05 (x := y) c
  exact fits (by omega)
theorem b04 {x y z : V} (a b c : Bool) : ((List.replicate (if a = true then (1 : Int) else 0).toNat [x]).flatten ++ (List.replicate (if b = true then (1 : Int) else 0).toNat [y]).flatten).length + (List.replicate (if c = true then (1 : Int) else 0).toNat [z]).flatten.length ≤ sizeLine := by
  have h1 := b05 (x := x) a
  have h2 := b05 (x := y) b
  have h3 := b05 (x := z) c
  rw [List.length_append]
  exact fits (by omega)
theorem ok__law_told (T : Tx K mg) (D_look_kinds : DefXs P w K mg base n "look_kinds" ["kinds"] (spLookKinds K)) : DefIs P w K mg base (n + 1) "_law_told" ["_law_kinds_here"] spTold := by
  refine DefIs.of T.d__law_told sc__law_told (fun vs H Q E h => ?_) (fun f cdv A outer s H vs Q E hr h => ?_)
  · obtain ⟨_, _, rfl, _⟩ := h
    rfl
  obtain ⟨kv, ks, rfl, hk, hany, q⟩ := h
  have nd := sc__law_told.nd
  have hu := hu_of hr
  refine ⟨_, (pss_cons (ps_set (i := 1) nd rfl (by first | exact Or.inl rfl | exact Or.inr rfl) pe_non)
      (pss_cons (ps_set (i := 2) nd rfl (by first | exact Or.inl rfl | exact Or.inr rfl) pe_non)
      (pss_cons (ps_tryAs (i := 3) rfl rfl nd rfl rfl T.c_SwapError T.xt2.obj (fun pn Es => (pss_one (ps_set (i := 2) nd rfl (by first | exact Or.inl rfl | exact Or.inr rfl) (pe_xcall D_look_kinds hr (pa_cons (pv 0) pa_nil star_name))))) (fun e => (pss_one (ps_set (i := 1) nd rfl (by first | exact Or.inl rfl | exact Or.inr rfl) (pv 3)))))
      (pss_cons (ps_if (pt_cmpR op_isN (pv 1) pe_non (nomark _)) (pss_one (ps_ret (pe_ix ix_list (pe_lst (pa_cons (pe_lst (pa_cons pe_str pa_nil star_const)) (pa_cons (pe_lst pa_nil) pa_nil star_lst) star_lst)) (pe_callTy call_int1 rfl T.z_int PyProof.Rows.boot_int (pa_cons (pe_cmpR op_isT (pv 2) pe_bl (nomark _)) pa_nil star_cmp)) (fun _ _ => rfl)))) pss_nil)
      (pss_cons (ps_if (pt_val (pe_callB call_isinstFT rfl T.z_isinstance PyProof.Rows.boot_isinstance (pa_cons (pv 1) (pa_cons (pe_tup (pa_cons (pe_gref T.c_BadText) (pa_cons (pe_gref T.c_Falls) (pa_cons (pe_gref T.c_Lacks) (pa_cons (pe_gref T.c_NoCode) (pa_cons (pe_gref T.c_NoCount) (pa_cons (pe_gref T.c_NoFit) (pa_cons (pe_gref T.c_NotOwn) (pa_cons (pe_gref T.c_WrongKind) pa_nil star_name) star_name) star_name) star_name) star_name) star_name) star_name) star_name)) pa_nil star_tup) star_name))) (pss_one (ps_ret (pe_lst (pa_cons pe_str pa_nil star_const)))) pss_nil)
      (pss_cons (ps_if (pt_not (pt_val (pe_callB call_isinstF rfl T.z_isinstance PyProof.Rows.boot_isinstance (pa_cons (pv 1) (pa_cons (pe_gty T.z_ValueError boot_VE) pa_nil star_name) star_name)))) (pss_one (ps_ret (pe_lst (pa_cons pe_str pa_nil star_const)))) pss_nil)
      (pss_cons (ps_set (i := 4) nd rfl (by first | exact Or.inl rfl | exact Or.inr rfl) (pe_op op_cat (pe_op op_rep (pe_lst (pa_cons pe_str pa_nil star_const)) (pe_callTy call_int1 rfl T.z_int PyProof.Rows.boot_int (pa_cons (pe_callB call_isinstF rfl T.z_isinstance PyProof.Rows.boot_isinstance (pa_cons (pv 1) (pa_cons (pe_gref T.c_Twice) pa_nil star_name) star_name)) pa_nil star_call))) (pe_op op_rep (pe_lst (pa_cons pe_str pa_nil star_const)) (pe_callTy call_int1 rfl T.z_int PyProof.Rows.boot_int (pa_cons (pe_callB call_isinstF rfl T.z_isinstance PyProof.Rows.boot_isinstance (pa_cons (pv 1) (pa_cons (pe_gref T.c_NoName) pa_nil star_name) star_name)) pa_nil star_call)))))
      (pss_one (ps_ret (pe_op op_cat (pv 4) (pe_op op_rep (pe_lst (pa_cons pe_str pa_nil star_const)) (pe_callTy call_int1 rfl T.z_int PyProof.Rows.boot_int (pa_cons (pe_callB call_isinstF rfl T.z_isinstance PyProof.Rows.boot_isinstance (pa_cons (pv 1) (pa_cons (pe_gref T.c_TooBig) pa_nil star_name) star_name)) pa_nil star_call))))))))))))), ?_⟩
  refine ⟨fun v d σ' H' => σ' = [some kv, some .non, some .non, none, none] ∧ Same H H' ∧ ∃ c, resK [] ks = some c ∧ Rz K H' v d c, ?_, ?_⟩
  · refine ⟨_, rfl, kv, ks, rfl, hk, hany, fun hno H1 s1 => ?_, fun c hc v d H' s' r => ⟨rfl, s', c, hc, r⟩⟩
    refine ⟨_, rfl, rfl, _, rfl, iteT ?_⟩
    refine ⟨(by show 1 ≤ sizeLine; decide), fun l1 hl1 => ⟨(by show 0 ≤ sizeLine; decide), fun l2 hl2 => ⟨(by show 2 ≤ sizeLine; decide), fun l3 hl3 => ?_⟩⟩⟩
    have t1 := Same.new hl1 (.lst [.str (S "bad")])
    have t2 := Same.new hl2 (.lst [])
    have t3 := Same.new hl3 (.lst [.ref l1, .ref l2])
    refine ⟨_, rfl, rfl, true, rfl, .inr ⟨_, rfl, l3, _, _, _, rfl, rfl, SqL.of upd_same, rfl, ?_⟩⟩
    refine q l2 _ (s1.trans (t1.trans (t2.trans t3))) ?_
    rw [hno]
    exact t3 _ _ upd_same
  · rintro x C d c2 σ' H1 ⟨rfl, s1, c, hc, x', ex, rfl, hx⟩ hx2
    cases ex
    have hc3 := resK_c hc
    have hc11 : c < 11 := by omega
    rw [hx] at hx2
    obtain ⟨rfl, -⟩ := excF_inj (Option.some.inj hx2)
    clear hx2
    refine ⟨T.xt.cl c hc11, T.xt2.mro c hc11, ?_⟩
    refine ⟨_, rfl, ?_⟩
    refine ⟨_, rfl, rfl, _, rfl, iteKF (decide_eq_false (by intro z; cases z)) ?_⟩
    have M := T.xt.cl c hc11
    have kt : ∀ j, j < 11 → PySem.W.kitOne K (.ref (cAt K c)) (.ref (cAt K j)) = some (decide (c = j)) := fun j hj => T.xt.kit c j hc11 hj
    refine ⟨_, rfl, (by show 8 ≤ sizeLine; decide), fun tp htp => ?_⟩
    have t1 := Same.new htp (.tup ([cAt K 0, cAt K 7, cAt K 5, cAt K 10, cAt K 3, cAt K 9, cAt K 6, cAt K 4].map V.ref))
    refine ⟨x, cAt K c, none, .none, tp, _, _, rfl, upd_same, t1 _ _ hx, (fun _ z => nomatch z), M, kit8 T hc3, _, rfl, iteF ?_⟩
    have hx1 := t1 _ _ hx
    refine ⟨_, rfl, x, cAt K c, none, .none, _, _, _, rfl, (fun _ h => h), hx1, (fun _ z => nomatch z), M, T.xt.kV c hc11, _, rfl, iteF ?_⟩
    refine ⟨(by show 1 ≤ sizeLine; decide), fun l1 hl1 => ?_⟩
    have t2 := Same.new hl1 (.lst [.str (S "Twice")])
    have hx2 := t2 _ _ hx1
    refine ⟨_, rfl, x, cAt K c, none, .none, _, _, _, rfl, only _, hx2, (fun _ z => nomatch z), M, kt 1 (by decide), .inr ⟨_, rfl, ?_⟩⟩
    refine ⟨l1, _, _, rfl, rfl, upd_same, b01 _, b01' _, b02 _, fun l2 hl2 => ?_⟩
    have t3 := Same.new hl2 (.lst (List.replicate (if decide (c = 1) = true then (1 : Int) else 0).toNat [V.str (S "Twice")]).flatten)
    have hx3 := t3 _ _ hx2
    refine ⟨(by show 1 ≤ sizeLine; decide), fun l3 hl3 => ?_⟩
    have t4 := Same.new hl3 (.lst [.str (S "NoName")])
    have hx4 := t4 _ _ hx3
    refine ⟨_, rfl, x, cAt K c, none, .none, _, _, _, rfl, only _, hx4, (fun _ z => nomatch z), M, kt 2 (by decide), .inr ⟨_, rfl, ?_⟩⟩
    refine ⟨l3, _, _, rfl, rfl, upd_same, b01 _, b01' _, b02 _, fun l4 hl4 => ?_⟩
    have t5 := Same.new hl4 (.lst (List.replicate (if decide (c = 2) = true then (1 : Int) else 0).toNat [V.str (S "NoName")]).flatten)
    have hx5 := t5 _ _ hx4
    refine ⟨l2, l4, _, _, rfl, rfl, t5 _ _ (t4 _ _ upd_same), upd_same, b03 _ _, fun l5 hl5 => ?_⟩
    have t6 := Same.new hl5 (.lst ((List.replicate (if decide (c = 1) = true then (1 : Int) else 0).toNat [V.str (S "Twice")]).flatten ++ (List.replicate (if decide (c = 2) = true then (1 : Int) else 0).toNat [V.str (S "NoName")]).flatten))
    have hx6 := t6 _ _ hx5
    refine ⟨_, rfl, (by show 1 ≤ sizeLine; decide), fun l6 hl6 => ?_⟩
    have t7 := Same.new hl6 (.lst [.str (S "TooBig")])
    have hx7 := t7 _ _ hx6
    refine ⟨_, rfl, x, cAt K c, none, .none, _, _, _, rfl, only _, hx7, (fun _ z => nomatch z), M, kt 8 (by decide), .inr ⟨_, rfl, ?_⟩⟩
    refine ⟨l6, _, _, rfl, rfl, upd_same, b01 _, b01' _, b02 _, fun l7 hl7 => ?_⟩
    have t8 := Same.new hl7 (.lst (List.replicate (if decide (c = 8) = true then (1 : Int) else 0).toNat [V.str (S "TooBig")]).flatten)
    refine ⟨l5, l7, _, _, rfl, rfl, t8 _ _ (t7 _ _ upd_same), upd_same, b04 _ _ _, fun l8 hl8 => ?_⟩
    refine q l8 _ (s1.trans (t1.trans (t2.trans (t3.trans (t4.trans (t5.trans (t6.trans (t7.trans (t8.trans (Same.new hl8 _)))))))))) ?_
    rw [upd_same, hc]
    rcases hc3 with rfl | rfl | rfl <;> rfl
end
end K10

end

set_option Elab.async false
set_option linter.all false
set_option maxRecDepth 100000
set_option maxHeartbeats 4000000
namespace K10
open PySem L2 M
seal L2.PE L2.PA L2.PS L2.PSs L2.PT L2.PW L2.PI L2.PG L2.PJ L2.PTs
noncomputable def spLaw (K : PySem.W.Frag) : Sp := fun vs H Q _ => ∃ (a : Addr) (ns : List Int), vs = [.ref a] ∧ SqL K H a (ns.map V.int) ∧ ns.length ≤ 63 ∧ ∀ H', Q (.bl true) H'
theorem mergeV {G : V → Hp → Prop} {P : Prop} (R : V → Hp → Prop) (main : (∀ v H, R v H → G v H) → P) (key : ∀ v H, R v H → G v H) : P := main key
theorem slTW_eq {K : PySem.W.Frag} {H : Hp} {Q : VK} {x : V} {a : Addr} {xs : List V} {lo hi : Option Int} (hx : x = .ref a) (ha : H a = some (.tup xs)) (q : ∀ c H', Same H H' → H' c = some (.tup (cutV xs lo hi)) → Q (.ref c) H') : rSlTW K x lo hi H Q := by
  subst hx
  exact slTW_to ha q
section
variable {P : Program} {w : World} {K : PySem.W.Frag} {mg : Str → Option Value} {base : Heap} {n m : Nat}
theorem ok_law (T : Tx K mg) (D__law_feed : DefIs P w K mg base n "_law_feed" ["_law_script", "_law_k"] (spFeed K)) (D__law_take : DefIs P w K mg base n "_law_take" ["_law_feed_here", "_law_many"] spTake) (D__law_names : DefIs P w K mg base n "_law_names" ["_law_cell", "_law_many"] spNames) (D__law_kinds : DefIs P w K mg base n "_law_kinds" ["_law_feed_here", "_law_names_here"] spKinds)
    (D__law_any_kinds : DefIs P w K mg base n "_law_any_kinds" ["_law_feed_here", "_law_names_here"] spAny) (D__law_edged : DefIs P w K mg base n "_law_edged" ["_law_feed_here", "_law_names_here"] spAny) (D__law_spoilt : DefIs P w K mg base n "_law_spoilt" ["_law_feed_here", "_law_kinds_here", "_law_names_here"] spSpoilt) (D__law_due : DefIs P w K mg base n "_law_due" ["_law_kinds_here"] spDue) (D__law_told : DefIs P w K mg base n "_law_told" ["_law_kinds_here"] spTold) :
    DefIs P w K mg base (n + 1) "law" ["_law_script"] (spLaw K) := by
  refine DefIs.of T.d_law sc_law (fun vs H Q E h => ?_) (fun f cdv A outer s H vs Q E hr h => ?_)
  · obtain ⟨_, _, rfl, _⟩ := h
    rfl
  obtain ⟨a, ns, rfl, hS, h63, k⟩ := h
  have nd := sc_law.nd
  have hu := hu_of hr
  have hu2 := hu2_of hr
  refine ⟨_, (pss_cons (ps_set (i := 1) nd rfl (by first | exact Or.inl rfl | exact Or.inr rfl) (pe_dcall D__law_feed hr (pa_cons (pv 0) (pa_cons pe_int pa_nil star_const) star_name)))
      (pss_cons (ps_set (i := 2) nd rfl (by first | exact Or.inl rfl | exact Or.inr rfl) (pe_dcall D__law_names hr (pa_cons (pe_dcall D__law_take hr (pa_cons (pv 1) (pa_cons (pe_op op_pow pe_int pe_int) pa_nil star_bin) star_name)) (pa_cons pe_int pa_nil star_const) star_call)))
      (pss_cons (ps_set (i := 3) nd rfl (by first | exact Or.inl rfl | exact Or.inr rfl) (pe_dcall D__law_take hr (pa_cons (pv 1) (pa_cons pe_int pa_nil star_const) star_name)))
      (pss_cons (ps_set (i := 4) nd rfl (by first | exact Or.inl rfl | exact Or.inr rfl) (pe_dcall D__law_any_kinds hr (pa_cons (pv 1) (pa_cons (pv 2) pa_nil star_name) star_name)))
      (pss_cons (ps_if (pt_cmpR op_gt (pv 3) pe_int (nomark _)) (pss_one (ps_set (i := 4) nd rfl (by first | exact Or.inl rfl | exact Or.inr rfl) (pe_dcall D__law_kinds hr (pa_cons (pv 1) (pa_cons (pv 2) pa_nil star_name) star_name)))) pss_nil)
      (pss_cons (ps_if (pt_cmpR op_gt (pv 3) pe_int (nomark _)) (pss_one (ps_set (i := 4) nd rfl (by first | exact Or.inl rfl | exact Or.inr rfl) (pe_dcall D__law_spoilt hr (pa_cons (pv 1) (pa_cons (pv 4) (pa_cons (pv 2) pa_nil star_name) star_name) star_name)))) pss_nil)
      (pss_cons (ps_if (pt_cmpR op_eq (pe_dcall D__law_take hr (pa_cons (pv 1) (pa_cons pe_int pa_nil star_const) star_name)) pe_int (nomark _)) (pss_one (ps_set (i := 4) nd rfl (by first | exact Or.inl rfl | exact Or.inr rfl) (pe_dcall D__law_edged hr (pa_cons (pv 1) (pa_cons (pv 2) pa_nil star_name) star_name)))) pss_nil)
      (pss_cons (ps_asg (pe_dcall D__law_due hr (pa_cons (pv 4) pa_nil star_name)) (pg_tup rfl (pgs_cons (pg_name (i := 5) nd rfl (by first | exact Or.inl rfl | exact Or.inr rfl)) (pgs_cons (pg_name (i := 6) nd rfl (by first | exact Or.inl rfl | exact Or.inr rfl)) pgs_nil))))
      (pss_cons (ps_for PassesOwn.never rfl (pi_range1 rfl T.z_range (pa_cons pe_int pa_nil star_const)) (pg_name (i := 7) nd rfl (by first | exact Or.inl rfl | exact Or.inr rfl))
      (pss_cons (ps_set (i := 8) nd rfl (by first | exact Or.inl rfl | exact Or.inr rfl) (pe_dcall D__law_told hr (pa_cons (pv 4) pa_nil star_name)))
      (pss_cons (ps_if (PW.pt (pw_or (pt_cmpR op_ne (pe_callB call_len_seq rfl T.z_len PySem.boot_len (pa_cons (pv 8) pa_nil star_name)) (pe_callB (call_min2 rfl) rfl T.z_min PyProof.Rows.boot_min (pa_cons pe_int (pa_cons (pe_callB call_len_seq rfl T.z_len PySem.boot_len (pa_cons (pv 6) pa_nil star_name)) pa_nil star_call) star_const)) (nomark _)) (pw_or1 (PW.pt (pw_and (pt_cmpR (op_neE (Nat.lt_of_succ_lt hu)) (pv 8) (pe_lst pa_nil) (nomark _)) (pw_and1 (pt_cmpR op_notIn_seq (pe_ix ix_list (pv 8) pe_int (fun _ _ => rfl)) (pv 6) (by with_unfolding_all rfl)))))))) (pss_one (ps_ret pe_bl)) pss_nil)
      (pss_one (ps_if (pt_cmpR (op_neE (Nat.lt_of_succ_lt hu)) (pe_dcall D__law_told hr (pa_cons (pe_slice sl_tupW (pv 4) po_none (po_some (pv 5))) pa_nil star_sub)) (pe_lst pa_nil) (nomark _)) (pss_one (ps_ret pe_bl)) pss_nil)))))
      (pss_one (ps_ret pe_bl))))))))))), ?_⟩
  refine ⟨_, rfl, a, ns, 1, rfl, hS, h63, by decide, fun r p q nr => ?_⟩
  refine ⟨_, rfl, _, _, rfl, rfl, ⟨by decide, by decide, by decide⟩, r, p, q, _, rfl, upd_same, by decide, by decide, fun c H0 c0 c1 f0 => ?_⟩
  obtain ⟨p0, q0, h0⟩ := f0.2
  refine ⟨_, rfl, fun b H1 nms s1 hb0 hb hok => ?_⟩
  have br : b ≠ r := fun e => by rw [e, h0] at hb0; cases hb0
  refine ⟨_, rfl, r, p0, q0, 4, rfl, s1 _ _ h0, by decide, by decide, fun fm H2 fm0 fm1 f2 => ?_⟩
  have hb2 : H2 b = some (.lst (nms.map V.str)) := f2.1 _ _ hb br
  obtain ⟨p2, q2, h2⟩ := f2.2
  apply mergeV (fun v H5 => ∃ ks5, Fed r H2 H5 ∧ RelD H5 v (dKinds ks5) ∧ KAny ks5)
  · intro key
    refine ⟨_, rfl, _, rfl, r, b, p2, q2, nms, rfl, h2, hb2, hok, br, fun kv ks H3 f3 hk3 ha3 => ?_⟩
    refine ⟨_, rfl, _, _, rfl, rfl, _, rfl, ?_⟩
    -- the form
    rcases (show fm = 0 ∨ fm = 1 ∨ 2 ≤ fm by omega) with hfm | hfm | hfm
    · refine iteBF (decide_eq_false (by omega)) ⟨_, rfl, _, _, rfl, rfl, _, rfl, iteBF (decide_eq_false (by omega)) ?_⟩
      exact key kv H3 ⟨ks, f3, hk3, ha3⟩
    · obtain ⟨p3, q3, h3⟩ := f3.2
      refine iteBT (decide_eq_true (by omega)) ⟨_, rfl, _, rfl, r, b, p3, q3, nms, rfl, h3, f3.1 _ _ hb2 br, hok, br, fun kv5 ks5 H5 f4 hk5 wf5 => ?_⟩
      refine ⟨_, rfl, _, _, rfl, rfl, _, rfl, iteBF (decide_eq_false (by omega)) ?_⟩
      exact key kv5 H5 ⟨ks5, f3.trans f4, hk5, wf5.any⟩
    · obtain ⟨p3, q3, h3⟩ := f3.2
      refine iteBT (decide_eq_true (by omega)) ⟨_, rfl, _, rfl, r, b, p3, q3, nms, rfl, h3, f3.1 _ _ hb2 br, hok, br, fun kv4 ks4 H4 f4 hk4 wf4 => ?_⟩
      have f34 : Fed r H2 H4 := f3.trans f4
      obtain ⟨p4, q4, h4⟩ := f4.2
      refine ⟨_, rfl, _, _, rfl, rfl, _, rfl, iteBT (decide_eq_true (by omega)) ?_⟩
      refine ⟨_, rfl, _, rfl, _, rfl, r, b, p4, q4, nms, kv4, ks4, rfl, h4, f34.1 _ _ hb2 br, hok, br, hk4, wf4.any, fun kv5 ks5 H5 f45 hk5 ha5 => ?_⟩
      exact key kv5 H5 ⟨ks5, f34.trans f45, hk5, ha5⟩
  rintro kv5 H5 ⟨ks5, f5, hk5, ha5⟩
  obtain ⟨p5, q5, h5⟩ := f5.2
  apply mergeV (fun v H7 => ∃ ks7, RelD H7 v (dKinds ks7) ∧ KAny ks7)
  · intro key
    refine ⟨_, rfl, r, p5, q5, 6, rfl, h5, by decide, by decide, fun r6 H6 r60 r61 f6 => ⟨rfl, _, rfl, ?_⟩⟩
    have f56 : Fed r H2 H6 := f5.trans f6
    refine ite2 (fun c => ?yes) (fun c => ?no)
    case no =>
      have hk6 := hk5.tups (fed_tups ⟨p5, q5, h5⟩ f6) _
      generalize kv5 = v at hk6 ⊢
      exact key v H6 ⟨ks5, hk6, ha5⟩
    case yes =>
      obtain ⟨p6, q6, h6⟩ := f6.2
      refine ⟨_, rfl, _, rfl, r, b, p6, q6, nms, rfl, h6, f56.1 _ _ hb2 br, hok, br, fun kv7 ks7 H7 f7 hk7 ha7 => ?_⟩
      exact key kv7 H7 ⟨ks7, hk7, ha7⟩
  rintro kv7 H7 ⟨ks7, hk7, ha7⟩
  refine ⟨_, rfl, kv7, ks7, rfl, hk7, ha7, fun t l H8 s8 ht hl => ?_⟩
  refine ⟨t, _, rfl, SqT.of ht, rfl, _, _, rfl, _, _, rfl, rfl, ?_⟩
  have hk8 := hk7.same s8 _
  have hcmp := due_res ks7 []
  have hlen := due_len ks7 []
  have hah := due_ahead ks7 []
  rw [show (dueK [] ks7).1 - ([] : List Kn).length = (dueK [] ks7).1 from Nat.sub_zero _] at hah
  refine ⟨_, rfl, by decide, by decide, ?_⟩
  refine for_range (fun i σ H' => ∃ o3 o7 o8, σ = [some (.ref a), some (.ref r), some (.ref b), o3, some kv7, some (.int (dueK [] ks7).1), some (.ref l), o7, o8] ∧ Same H8 H') ⟨_, _, _, rfl, Same.refl _⟩ ?_ ?_
  · rintro i σ H9 hi ⟨o3, o7, o8, rfl, s9⟩
    refine ⟨_, rfl, kv7, ks7, rfl, hk8.same s9 _, ha7, fun l1 H10 s10 hl1 => ?_⟩
    have hl10 := s10 _ _ (s9 _ _ hl)
    refine ⟨_, rfl, l1, _, rfl, .inl (SqL.of hl1), _, rfl, l, _, rfl, .inl (SqL.of hl10), _, _, rfl, rfl, _, rfl, ?_⟩
    have key : (!decide (V.int (((toldW (resK [] ks7)).map V.str).length : Nat) = V.int (if ((((dueK [] ks7).2.map V.str).length : Nat) : Int) < 1 then ((((dueK [] ks7).2.map V.str).length : Nat) : Int) else 1))) = false := by
      rw [List.length_map, List.length_map]
      rcases hcmp with ⟨h1, h2⟩ | ⟨c', h1, _, h3⟩
      · rw [h1, h2]; rfl
      · rw [h1, if_neg (by have := List.length_pos_iff.mpr (List.ne_nil_of_mem h3); omega)]; rfl
    refine iteBF key ?_
    clear key
    refine ⟨_, rfl, (by show 0 ≤ sizeLine; decide), fun e he => ⟨l1, e, _, rfl, rfl, SqL.of (Same.new he _ _ _ hl1), SqL.of upd_same, _, rfl, ?_⟩⟩
    have t11 := Same.new he (.lst [])
    have hl11 := t11 _ _ hl10
    have hl111 := t11 _ _ hl1
    have s811 := s9.trans (s10.trans t11)
    obtain ⟨ka, us, hkv, hka, hus⟩ := hk8.same s811 _
    have hul := hus.length
    rw [List.length_map] at hul
    have hat : (dueK [] ks7).1 ≤ us.length := by have := hlen.2.1; rw [List.length_nil] at this; omega
    generalize upd H10 e (.lst []) = H11 at t11 hl11 hl111 s811 hka hus ⊢
    rcases hcmp with ⟨h1, h2⟩ | ⟨c', h1, _, h3⟩
    case' inl => refine iteBF (by rw [h2]; rfl) (iteF ?_)
    case' inr =>
      refine iteBT (by rw [h1]; rfl) ⟨_, rfl, l1, _, _, .str (wordK c'), rfl, rfl, SqL.of hl111, (by rw [h1]; rfl), _, rfl, l, _, rfl, .inl (SqL.of hl11), rfl, flat_strs _, _, rfl, ?_⟩
      rw [if_pos rfl, inV_strs, decide_eq_true h3]
      refine iteF ?_
    all_goals
      refine ⟨_, rfl, _, rfl, _, rfl, slTW_eq hkv hka fun c12 H12 s12 hc12 => ?_⟩
      rw [cut_to' us hat] at hc12
      refine ⟨.ref c12, ks7.take (dueK [] ks7).1, rfl, ⟨c12, _, rfl, hc12, by rw [List.map_take]; exact relDs_take _ (hus.same s12 _)⟩, ha7.sub (fun z hz => List.mem_of_mem_take hz) (by have := ha7.few; rw [List.length_take]; omega), fun l2 H13 s13 hl2 => ⟨(by show 0 ≤ sizeLine; decide), fun e2 he2 => ⟨l2, e2, _, rfl, rfl, SqL.of (Same.new he2 _ _ _ hl2), SqL.of upd_same, _, rfl, iteBF (by rw [hah]; rfl) ?_⟩⟩⟩
      exact ⟨_, _, _, rfl, s811.trans (s12.trans (s13.trans (Same.new he2 _)))⟩
  · rintro σ H9 ⟨o3, o7, o8, rfl, s9⟩
    exact k _
theorem law_is (T : Tx K mg) : DefIs P w K mg base 40 "law" ["_law_script"] (spLaw K) := by
  have take : ∀ k, DefIs P w K mg base (k + 1) "_law_take" ["_law_feed_here", "_law_many"] spTake := fun k => ok__law_take T
  exact ok_law (n := 39) T (ok__law_feed T) (ok__law_take T) (ok__law_names T) ((ok__law_kinds (n := 29) T (take 28) ((size_is T 6 (by omega)).mono (by omega))).mono (by omega)) (ok__law_any_kinds T (take 37)) (ok__law_edged T (take 37)) (ok__law_spoilt T (take 37)) ((ok__law_due (n := 9) T (sizeD_is T 7 (by omega))).mono (by omega)) (ok__law_told (n := 38) T (ok_look_kinds (n := 37) T (ok_look_names (n := 36) T (ok_need_once T)) (ok_looked_size (n := 36) T (ok_size_by T))))
end
end K10
open PySem PySem.W PyProof.Rows
set_option maxRecDepth 100000 in
set_option maxHeartbeats 0 in
theorem PySem.Challenge.cw_swapstride_k10_kinds_looked_at_holds : PySem.Challenge.rw_swapstride_k10_kinds_looked_at.Holds := by
  w_on; o_law; k_head; (case hw => w_witness2)
  k_fill
  refine L2.walk_of (l := PySem.Challenge.rw_swapstride_k10_kinds_looked_at) (n := 63) (k := 40) (x := "_law_script") (CX := fun _ => L2.CX0) (sp := fun _ => K10.spLaw _) rfl (by decide) rfl ⟨rfl, by decide, by decide⟩ (fun w h Y => PySem.W.kIn_of Y) ?F (fun _ _ a ns hl _ hS => ⟨a, ns, rfl, hS, hl, fun _ => rfl⟩) fun _ _ _ _ _ z => z
  case F =>
    intro w mg fa h KX G hmg
    have d_look_kinds : L2.DefTx (L2.KOf KX) mg "look_kinds" K10.s_look_kinds ["kinds"] := by
      dsimp only [L2.KOf]
      refine' L2.deftx_mk KX G ?a ?l ?c ?k ?b
      (case a => k_is); (case l => k_is); (case c => k_is); (case k => k_is)
      (case b => exact fun _ _ _ _ _ _ us hl => match us, hl with | [_], _ => rfl)
    have d_look_names : L2.DefTx (L2.KOf KX) mg "look_names" K10.s_look_names ["kind", "sizes"] := by
      dsimp only [L2.KOf]
      refine' L2.deftx_mk KX G ?a ?l ?c ?k ?b
      (case a => k_is); (case l => k_is); (case c => k_is); (case k => k_is)
      (case b => exact fun _ _ _ _ _ _ us hl => match us, hl with | [_, _], _ => rfl)
    have d_need_once : L2.DefTx (L2.KOf KX) mg "need_once" K10.s_need_once ["names", "things"] := by
      dsimp only [L2.KOf]
      refine' L2.deftx_mk KX G ?a ?l ?c ?k ?b
      (case a => k_is); (case l => k_is); (case c => k_is); (case k => k_is)
      (case b => exact fun _ _ _ _ _ _ us hl => match us, hl with | [_, _], _ => rfl)
    have d_looked_size : L2.DefTx (L2.KOf KX) mg "looked_size" K10.s_looked_size ["kind", "sizes"] := by
      dsimp only [L2.KOf]
      refine' L2.deftx_mk KX G ?a ?l ?c ?k ?b
      (case a => k_is); (case l => k_is); (case c => k_is); (case k => k_is)
      (case b => exact fun _ _ _ _ _ _ us hl => match us, hl with | [_, _], _ => rfl)
    have d_size_by : L2.DefTx (L2.KOf KX) mg "size_by" K10.s_size_by ["kind", "sizes"] := by
      dsimp only [L2.KOf]
      refine' L2.deftx_mk KX G ?a ?l ?c ?k ?b
      (case a => k_is); (case l => k_is); (case c => k_is); (case k => k_is)
      (case b => exact fun _ _ _ _ _ _ us hl => match us, hl with | [_, _], _ => rfl)
    have d__law_feed : L2.DefTx (L2.KOf KX) mg "_law_feed" K10.s__law_feed ["_law_script", "_law_k"] := by
      dsimp only [L2.KOf]
      refine' L2.deftx_mk KX G ?a ?l ?c ?k ?b
      (case a => k_is); (case l => k_is); (case c => k_is); (case k => k_is)
      (case b => exact fun _ _ _ _ _ _ us hl => match us, hl with | [_, _], _ => rfl)
    have d__law_take : L2.DefTx (L2.KOf KX) mg "_law_take" K10.s__law_take ["_law_feed_here", "_law_many"] := by
      dsimp only [L2.KOf]
      refine' L2.deftx_mk KX G ?a ?l ?c ?k ?b
      (case a => k_is); (case l => k_is); (case c => k_is); (case k => k_is)
      (case b => exact fun _ _ _ _ _ _ us hl => match us, hl with | [_, _], _ => rfl)
    have d__law_names : L2.DefTx (L2.KOf KX) mg "_law_names" K10.s__law_names ["_law_cell", "_law_many"] := by
      dsimp only [L2.KOf]
      refine' L2.deftx_mk KX G ?a ?l ?c ?k ?b
      (case a => k_is); (case l => k_is); (case c => k_is); (case k => k_is)
      (case b => exact fun _ _ _ _ _ _ us hl => match us, hl with | [_, _], _ => rfl)
    have d__law_sort_of : L2.DefTx (L2.KOf KX) mg "_law_sort_of" K10.s__law_sort_of ["_law_kinds_here", "_law_kind"] := by
      dsimp only [L2.KOf]
      refine' L2.deftx_mk KX G ?a ?l ?c ?k ?b
      (case a => k_is); (case l => k_is); (case c => k_is); (case k => k_is)
      (case b => exact fun _ _ _ _ _ _ us hl => match us, hl with | [_, _], _ => rfl)
    have d__law_size : L2.DefTx (L2.KOf KX) mg "_law_size" K10.s__law_size ["_law_kinds_here", "_law_kind"] := by
      dsimp only [L2.KOf]
      refine' L2.deftx_mk KX G ?a ?l ?c ?k ?b
      (case a => k_is); (case l => k_is); (case c => k_is); (case k => k_is)
      (case b => exact fun _ _ _ _ _ _ us hl => match us, hl with | [_, _], _ => rfl)
    have d__law_kinds : L2.DefTx (L2.KOf KX) mg "_law_kinds" K10.s__law_kinds ["_law_feed_here", "_law_names_here"] := by
      dsimp only [L2.KOf]
      refine' L2.deftx_mk KX G ?a ?l ?c ?k ?b
      (case a => k_is); (case l => k_is); (case c => k_is); (case k => k_is)
      (case b => exact fun _ _ _ _ _ _ us hl => match us, hl with | [_, _], _ => rfl)
    have d__law_any_kinds : L2.DefTx (L2.KOf KX) mg "_law_any_kinds" K10.s__law_any_kinds ["_law_feed_here", "_law_names_here"] := by
      dsimp only [L2.KOf]
      refine' L2.deftx_mk KX G ?a ?l ?c ?k ?b
      (case a => k_is); (case l => k_is); (case c => k_is); (case k => k_is)
      (case b => exact fun _ _ _ _ _ _ us hl => match us, hl with | [_, _], _ => rfl)
    have d__law_edged : L2.DefTx (L2.KOf KX) mg "_law_edged" K10.s__law_edged ["_law_feed_here", "_law_names_here"] := by
      dsimp only [L2.KOf]
      refine' L2.deftx_mk KX G ?a ?l ?c ?k ?b
      (case a => k_is); (case l => k_is); (case c => k_is); (case k => k_is)
      (case b => exact fun _ _ _ _ _ _ us hl => match us, hl with | [_, _], _ => rfl)
    have d__law_spoilt : L2.DefTx (L2.KOf KX) mg "_law_spoilt" K10.s__law_spoilt ["_law_feed_here", "_law_kinds_here", "_law_names_here"] := by
      dsimp only [L2.KOf]
      refine' L2.deftx_mk KX G ?a ?l ?c ?k ?b
      (case a => k_is); (case l => k_is); (case c => k_is); (case k => k_is)
      (case b => exact fun _ _ _ _ _ _ us hl => match us, hl with | [_, _, _], _ => rfl)
    have d__law_due : L2.DefTx (L2.KOf KX) mg "_law_due" K10.s__law_due ["_law_kinds_here"] := by
      dsimp only [L2.KOf]
      refine' L2.deftx_mk KX G ?a ?l ?c ?k ?b
      (case a => k_is); (case l => k_is); (case c => k_is); (case k => k_is)
      (case b => exact fun _ _ _ _ _ _ us hl => match us, hl with | [_], _ => rfl)
    have d__law_told : L2.DefTx (L2.KOf KX) mg "_law_told" K10.s__law_told ["_law_kinds_here"] := by
      dsimp only [L2.KOf]
      refine' L2.deftx_mk KX G ?a ?l ?c ?k ?b
      (case a => k_is); (case l => k_is); (case c => k_is); (case k => k_is)
      (case b => exact fun _ _ _ _ _ _ us hl => match us, hl with | [_], _ => rfl)
    have d_law : L2.DefTx (L2.KOf KX) mg "law" K10.s_law ["_law_script"] := by
      dsimp only [L2.KOf]
      refine' L2.deftx_mk KX G ?a ?l ?c ?k ?b
      (case a => k_is); (case l => k_is); (case c => k_is); (case k => k_is)
      (case b => exact fun _ _ _ _ _ _ us hl => match us, hl with | [_], _ => rfl)
    have g_GREATEST_SIZE : ∃ t, mg "GREATEST_SIZE" = some (.int 30 t) := by
      refine' L2.gint_mk KX G ?a
      (case a => k_is)
    have z_ValueError : mg "ValueError" = none := by
      refine' PySem.W.mg_none_of KX G ?a
      (case a => k_is)
    have z_enumerate : mg "enumerate" = none := by
      refine' PySem.W.mg_none_of KX G ?a
      (case a => k_is)
    have z_int : mg "int" = none := by
      refine' PySem.W.mg_none_of KX G ?a
      (case a => k_is)
    have z_isinstance : mg "isinstance" = none := by
      refine' PySem.W.mg_none_of KX G ?a
      (case a => k_is)
    have z_len : mg "len" = none := by
      refine' PySem.W.mg_none_of KX G ?a
      (case a => k_is)
    have z_max : mg "max" = none := by
      refine' PySem.W.mg_none_of KX G ?a
      (case a => k_is)
    have z_min : mg "min" = none := by
      refine' PySem.W.mg_none_of KX G ?a
      (case a => k_is)
    have z_range : mg "range" = none := by
      refine' PySem.W.mg_none_of KX G ?a
      (case a => k_is)
    have z_set : mg "set" = none := by
      refine' PySem.W.mg_none_of KX G ?a
      (case a => k_is)
    have z_sum : mg "sum" = none := by
      refine' PySem.W.mg_none_of KX G ?a
      (case a => k_is)
    have z_tuple : mg "tuple" = none := by
      refine' PySem.W.mg_none_of KX G ?a
      (case a => k_is)
    have c_BadText : mg "BadText" = some (.ref (L2.cAt (L2.KOf KX) 0)) := by
      refine' PySem.W.mg_of KX G ?a
      (case a => kernel_rfl)
    have c_Twice : mg "Twice" = some (.ref (L2.cAt (L2.KOf KX) 1)) := by
      refine' PySem.W.mg_of KX G ?a
      (case a => kernel_rfl)
    have c_NoName : mg "NoName" = some (.ref (L2.cAt (L2.KOf KX) 2)) := by
      refine' PySem.W.mg_of KX G ?a
      (case a => kernel_rfl)
    have c_NoCount : mg "NoCount" = some (.ref (L2.cAt (L2.KOf KX) 3)) := by
      refine' PySem.W.mg_of KX G ?a
      (case a => kernel_rfl)
    have c_WrongKind : mg "WrongKind" = some (.ref (L2.cAt (L2.KOf KX) 4)) := by
      refine' PySem.W.mg_of KX G ?a
      (case a => kernel_rfl)
    have c_Lacks : mg "Lacks" = some (.ref (L2.cAt (L2.KOf KX) 5)) := by
      refine' PySem.W.mg_of KX G ?a
      (case a => kernel_rfl)
    have c_NotOwn : mg "NotOwn" = some (.ref (L2.cAt (L2.KOf KX) 6)) := by
      refine' PySem.W.mg_of KX G ?a
      (case a => kernel_rfl)
    have c_Falls : mg "Falls" = some (.ref (L2.cAt (L2.KOf KX) 7)) := by
      refine' PySem.W.mg_of KX G ?a
      (case a => kernel_rfl)
    have c_TooBig : mg "TooBig" = some (.ref (L2.cAt (L2.KOf KX) 8)) := by
      refine' PySem.W.mg_of KX G ?a
      (case a => kernel_rfl)
    have c_NoFit : mg "NoFit" = some (.ref (L2.cAt (L2.KOf KX) 9)) := by
      refine' PySem.W.mg_of KX G ?a
      (case a => kernel_rfl)
    have c_NoCode : mg "NoCode" = some (.ref (L2.cAt (L2.KOf KX) 10)) := by
      refine' PySem.W.mg_of KX G ?a
      (case a => kernel_rfl)
    have c_SwapError : mg "SwapError" = some (.ref (L2.ad (L2.KOf KX) "SwapError")) := by
      refine' PySem.W.mg_of KX G ?a
      (case a => kernel_rfl)
    have xt2 : L2.XTab2 (L2.KOf KX) := by
      refine' L2.xtab2_of ?a
      (case a => kernel_rfl)
    have xt : L2.XTab (L2.KOf KX) := by
      refine' L2.xtab_of ?a
      (case a => kernel_rfl)
    have it : L2.InitTx (L2.KOf KX) "BadText.__init__" (L2.ad (L2.KOf KX) "BadText") K10.s_init ["self", "at"] := by
      dsimp only [L2.KOf]
      refine' L2.init_mk ?a ?i ?n ?l ?c ?k ?b
      (case a => k_is); (case i => k_is); (case n => k_is); (case l => k_is); (case c => k_is); (case k => k_is)
      (case b => exact fun _ _ _ _ _ _ us hl => match us, hl with | [_, _], _ => rfl)
    have T : K10.Tx (L2.KOf KX) mg := ⟨d_look_kinds, d_look_names, d_need_once, d_looked_size, d_size_by, d__law_feed, d__law_take, d__law_names, d__law_sort_of, d__law_size, d__law_kinds, d__law_any_kinds, d__law_edged, d__law_spoilt, d__law_due, d__law_told, d_law, g_GREATEST_SIZE, z_ValueError, z_enumerate, z_int, z_isinstance, z_len, z_max, z_min, z_range, z_set, z_sum, z_tuple, c_BadText, c_Twice, c_NoName, c_NoCount, c_WrongKind, c_Lacks, c_NotOwn, c_Falls, c_TooBig, c_NoFit, c_NoCode, c_SwapError, xt2, xt, it⟩
    exact L2.law_top d_law hmg fun base => K10.law_is T
