import PyProof.Rows.All
import Wide.All
import OpenK.AllK
import Wide.FinOn
import Lean
import PyProof.EqAt
import PyProof.EqKinds
import PyProof.TupleCall
import PyProof.ZipIter
import PyProof.ListNew
import PyProof.TupleIter
import PyProof.WalksMore
import KE.KIntText
import PyProof.Rows.EqBoolInt
import PyProof.Rows.ZipGen
import PySem.Str
import PyProof.StrLawsTight
import PyProof.StrLawsIdx
import PyProof.StrLawsIn
import PyProof.NeKinds
import PyProof.Rows.SetFrom
import KE.KDictSum
import PyProof.Rows.SortWalk
import PyProof.EnumMake
import PyProof.Rows.EnumRows
import PyProof.ExcInit
import PyProof.InstStoreFacts
import PyProof.ExcArgsOwn
import PyProof.ExcAttrAll.ValueError
import PyProof.ExcBaseAll.ValueError
import KE.KDictList
import KE.KRevIter
import PyProof.ConsumeWalk
import PyProof.AttrMissHeap
import KE.KItemsList
import KE.KEqDict
import PyProof.DictWalks
import PyProof.StationsW
import PyProof.RulesAs
import PyProof.NsDelKeeps
import PySem.Challenge.RW_swapstride_k45_same_make_stays
set_option Elab.async false
set_option linter.all false
set_option maxRecDepth 100000
namespace L2
open PySem PySem.Spec PyProof.Rows

/-- a key: an int or a str -/
abbrev Key := Sum Int Str
def keyIs : Key → Value → Bool
  | .inl k, v => Value.isInt k v
  | .inr x, v => Value.isStrOf x v
def keyH (w : World) : Key → Int
  | .inl k => hashInt k
  | .inr x => hashStr w x
theorem keyIs_shape : ∀ {k : Key} {v : Value}, keyIs k v = true → (∃ i t, k = Sum.inl i ∧ v = Value.int i t) ∨ (∃ x t, k = Sum.inr x ∧ v = Value.str x t)
  | .inl i, v, h => by
    obtain ⟨t, e⟩ := Value.isInt_shape (k := i) (v := v) h
    exact .inl ⟨i, t, rfl, e⟩
  | .inr x, v, h => by
    obtain ⟨t, e⟩ := Value.isStrOf_shape (x := x) (v := v) h
    exact .inr ⟨x, t, rfl, e⟩
theorem keyIs_int (i : Int) (t : Tok) : keyIs (.inl i) (.int i t) = true := by simp [keyIs, Value.isInt]
theorem keyIs_str (x : Str) (t : Tok) : keyIs (.inr x) (.str x t) = true := by simp [keyIs, Value.isStrOf]
theorem key_ll (a b : Int) : decide ((Sum.inl a : Key) = Sum.inl b) = (a == b) := by
  by_cases e : a = b
  · subst e; simp
  · have h : ¬ (Sum.inl a : Key) = Sum.inl b := fun q => e (Sum.inl.inj q)
    rw [decide_eq_false h]
    exact (beq_eq_false_iff_ne.mpr e).symm
theorem key_rr (a b : Str) : decide ((Sum.inr a : Key) = Sum.inr b) = decide (a = b) := by
  by_cases e : a = b
  · subst e; simp
  · have h : ¬ (Sum.inr a : Key) = Sum.inr b := fun q => e (Sum.inr.inj q)
    rw [decide_eq_false h, decide_eq_false e]
theorem key_lr (a : Int) (b : Str) : decide ((Sum.inl a : Key) = Sum.inr b) = false := decide_eq_false (fun q => nomatch q)
theorem key_rl (a : Str) (b : Int) : decide ((Sum.inr a : Key) = Sum.inl b) = false := decide_eq_false (fun q => nomatch q)

def mixKind (prog : Program) (w : World) : PySem.KeyKind prog w Key where
  is := keyIs
  hash := keyH w
  inj := fun v a b ha hb => by
    rcases keyIs_shape ha with ⟨i, t, rfl, rfl⟩ | ⟨x, t, rfl, rfl⟩
    · rcases keyIs_shape hb with ⟨j, u, rfl, e⟩ | ⟨y, u, rfl, e⟩
      · injection e with e1 _; rw [e1]
      · exact nomatch e
    · rcases keyIs_shape hb with ⟨j, u, rfl, e⟩ | ⟨y, u, rfl, e⟩
      · exact nomatch e
      · injection e with e1 _; rw [e1]
  byValue := fun k v h => by
    rcases keyIs_shape h with ⟨i, t, rfl, rfl⟩ | ⟨x, t, rfl, rfl⟩ <;> rfl
  pyHash := fun hv h => by
    rcases keyIs_shape hv with ⟨i, t, rfl, rfl⟩ | ⟨x, t, rfl, rfl⟩
    · exact wpAny_pyHash_int h
    · exact wpAny_pyHash_str h
  eqBool := fun hu hv h => by
    rcases keyIs_shape hu with ⟨i, t, rfl, rfl⟩ | ⟨x, t, rfl, rfl⟩
    · rcases keyIs_shape hv with ⟨j, u, rfl, rfl⟩ | ⟨y, u, rfl, rfl⟩
      · rw [key_ll] at h; exact wpAny_eqBool_int h
      · rw [key_lr] at h; exact SeqAt.EqAt.int_str i t y u _ _ _ _ h
    · rcases keyIs_shape hv with ⟨j, u, rfl, rfl⟩ | ⟨y, u, rfl, rfl⟩
      · rw [key_rl] at h; exact SeqAt.EqAt.str_int x t j u _ _ _ _ h
      · rw [key_rr] at h; exact wpAny_eqBool_str h
  «strs» := fun k x t v h => by
    rcases keyIs_shape h with ⟨i, u, rfl, e⟩ | ⟨y, u, rfl, e⟩
    · exact nomatch e
    · injection e with e1 _
      subst e1
      cases v <;> rfl

theorem mixKind_int (prog : Program) (w : World) (i : Int) (t : Tok) : (mixKind prog w).is (.inl i) (.int i t) = true := keyIs_int i t
theorem mixKind_str (prog : Program) (w : World) (x : Str) (t : Tok) : (mixKind prog w).is (.inr x) (.str x t) = true := keyIs_str x t
end L2

namespace L2
open PySem PySem.Spec PyProof.Rows

/-- a value, without the heap -/
inductive V where
  | non | bl (b : Bool) | int (i : Int) | str (x : Str) | byt (b : Array UInt8) | flt (b : UInt64) | ref (a : Addr) | ty (n : String)
  deriving DecidableEq

def RelV : V → Value → Prop
  | .non, u => u = Value.none
  | .bl b, u => u = Value.bool b
  | .int i, u => ∃ t, u = Value.int i t
  | .str x, u => ∃ t, u = Value.str x t
  | .byt b, u => ∃ t, u = Value.bytes b t
  | .flt b, u => ∃ t, u = Value.float b t
  | .ref a, u => u = Value.ref a
  | .ty n, u => u = Value.type n

abbrev Vals : List V → List Value → Prop := Paired RelV
theorem Vals.length {xs : List V} {us : List Value} (r : Vals xs us) : xs.length = us.length := Paired.length r
theorem Vals.get : ∀ {xs : List V} {us : List Value} {i : Nat} {x : V}, Vals xs us → xs[i]? = some x → ∃ u, us[i]? = some u ∧ RelV x u
  | _, _, _, _, .nil, e => by simp at e
  | _, _, 0, _, .cons r _, e => by simp at e; subst e; exact ⟨_, rfl, r⟩
  | _, _, i + 1, x, .cons _ t, e => by
    obtain ⟨u, h1, h2⟩ := Vals.get (i := i) (x := x) t (by simpa using e)
    exact ⟨u, by simpa using h1, h2⟩
theorem Vals.set {x : V} {u : Value} (r : RelV x u) : ∀ {xs : List V} {us : List Value} (i : Nat), Vals xs us → Vals (xs.set i x) (us.set i u)
  | _, _, _, .nil => .nil
  | _, _, 0, .cons _ t => .cons r t
  | _, _, i + 1, .cons q t => .cons q (Vals.set r i t)
theorem Vals.append : ∀ {xs ys : List V} {us ws : List Value}, Vals xs us → Vals ys ws → Vals (xs ++ ys) (us ++ ws)
  | _, _, _, _, .nil, s => s
  | _, _, _, _, .cons r t, s => .cons r (Vals.append t s)
theorem Vals.take : ∀ {xs : List V} {us : List Value} (n : Nat), Vals xs us → Vals (xs.take n) (us.take n)
  | _, _, 0, _ => .nil
  | _, _, _ + 1, .nil => .nil
  | _, _, n + 1, .cons r t => .cons r (Vals.take n t)
theorem Vals.drop : ∀ {xs : List V} {us : List Value} (n : Nat), Vals xs us → Vals (xs.drop n) (us.drop n)
  | _, _, 0, r => r
  | _, _, _ + 1, .nil => .nil
  | _, _, n + 1, .cons _ t => Vals.drop n t
def RelO : Option V → Option Value → Prop
  | some v, some u => RelV v u
  | none, none => True
  | _, _ => False
def KV {κ : Type} : List (κ × V) → List (κ × Value) → Prop := Paired fun (p : κ × V) (q : κ × Value) => p.1 = q.1 ∧ RelV p.2 q.2

/-- a key of a dict (00_mix): an int or a text -/
def kV : Key → V
  | .inl i => .int i
  | .inr x => .str x

/-- what stands at a tracked address -/
inductive HO where
  /-- a list -/
  | lst (xs : List V)
  /-- a tuple (never changes) -/
  | tup (xs : List V)
  /-- a dict whose keys are ints and texts; one whose keys are tuples of ints and texts (the empty one is both) -/
  | dK (kvs : List (Key × V)) | dT (kvs : List (List Key × V))
  /-- a set of ints: its members, its size -/
  | set (S : Int → Bool) (n : Nat)
  /-- an instance of the class at C, its dict at dx, its attributes -/
  | ins (C dx : Addr) (fs : List (Str × V))
  /-- the dict of the instance at x -/
  | own (x : Addr)
  /-- the dict of an exception -/
  | xd (fs : List (Str × V))
  /-- a bound method, f of x -/
  | met (f x : Addr)
  /-- a range object lo, lo + 1, .. below hi -/
  | rng (lo hi : Int)
  /-- a thing that is known to the object (the script; a dict while a loop walks it): read, never written while it is so -/
  | frz (o : Obj) (u : HO)
  /-- a code object's table -/
  | tbl (ps : Array Value)
  /-- any other thing, by what is true of its one object (a def of one's own: SetO a S n := HO.ext fun h => ..) -/
  | ext (φ : Heap → Prop)

abbrev Hp := Addr → Option HO
def upd (H : Hp) (a : Addr) (o : HO) : Hp := fun b => if b = a then some o else H b
theorem upd_same {H : Hp} {a : Addr} {o : HO} : upd H a o a = some o := by unfold upd; rw [if_pos rfl]
theorem upd_ne {H : Hp} {a b : Addr} {o : HO} (h : b ≠ a) : upd H a o b = H b := by unfold upd; rw [if_neg h]
theorem upd_upd {H : Hp} {a : Addr} {o u : HO} : upd (upd H a o) a u = upd H a u := by
  funext b; unfold upd; split <;> rfl
/-- two objects of different content stand apart -/
theorem ne_of {H : Hp} {a b : Addr} {o u : HO} (h : H a = some o) (h' : H b = some u) (d : o ≠ u) : a ≠ b := by
  intro e; subst e; rw [h] at h'; exact d (Option.some.inj h')
theorem ne_of_none {H : Hp} {a b : Addr} {o : HO} (h : H a = some o) (h' : H b = none) : a ≠ b := by
  intro e; subst e; rw [h] at h'; cases h'

section
variable (P : Program) (w : World)
def ObjOk (H : Hp) (h : Heap) (a : Addr) : HO → Prop
  | .lst xs => xs.length ≤ sizeLine ∧ ∃ (its : List Value) (n : Nat), Vals xs its ∧ h.get? a = some { cls := .type "list", data := .seq its.toArray n }
  | .tup xs => xs.length ≤ sizeLine ∧ ∃ its : List Value, Vals xs its ∧ ∃ o, h.get? a = some o ∧ o.cls = .type "tuple" ∧ ∃ n, o.data = .seq its.toArray n ∧ o.dict = none
  | .dK kvs => kvs.length ≤ sizeLine ∧ (a == sysModules) = false ∧ ∃ vs, KV kvs vs ∧ h.DictOf (mixKind P w) a vs
  | .dT kvs => kvs.length ≤ sizeLine ∧ (a == sysModules) = false ∧ ∃ xs : List (List Key × Addr × Value),
      Paired (fun (p : List Key × V) (q : List Key × Addr × Value) => p.1 = q.1 ∧ H q.2.1 = some (.tup (p.1.map kV)) ∧ RelV p.2 q.2.2) kvs xs ∧
      ∃ o es ep, h.get? a = some o ∧ o.ExactDict ∧ o.data = .dict es ep ∧ es.toList = xs.map (entryOfKey (tupleKind (mixKind P w))) ∧ (xs.map (·.1)).Nodup
  | .set S n => h.SetOf (intKind P w) a S n
  | .ins C dx fs => H dx = some (.own a) ∧ fs.length ≤ 1000 ∧ dx ≠ a ∧ h.get? a = some (PySem.W.instObj C dx) ∧
      ∃ mA, h.Ns1 dx mA ∧ (∀ f, RelO (fs.lookup f) (mA f)) ∧ PySem.Within mA (fs.map (·.1))
  | .own _ => ∃ o, h.get? a = some o
  | .xd fs => ∃ mA, h.Ns1 a mA ∧ ∀ f, RelO (fs.lookup f) (mA f)
  | .rng lo hi => ∃ t u v, h.get? a = some { cls := .type "range", data := .fields #[.int lo t, .int hi u, .int 1 v] }
  | .frz o u => h.get? a = some o ∧ ObjOk H h a u
  | .tbl ps => h.get? a = some { cls := .none, data := .fields ps }
  | .met f x => h.get? a = some (PySem.W.methodObj (.ref f) (.ref x))
  | .ext φ => φ h ∧ (∃ o, h.get? a = some o) ∧ ∀ h1 h2 : Heap, φ h1 → (∀ o, h1.get? a = some o → h2.get? a = some o) → φ h2
/-- the abstract heap is held -/
def HOk (H : Hp) (h : Heap) : Prop := ∀ a o, H a = some o → ObjOk P w H h a o
end

section
variable {P : Program} {w : World} {H H' : Hp} {h h' : Heap} {a : Addr} {o : HO}
theorem ObjOk.lt (x : ObjOk P w H h a o) : a < h.objs.size := by
  cases o with
  | lst xs => obtain ⟨_, _, _, _, e⟩ := x; exact Heap.lt_size e
  | tup xs => obtain ⟨_, _, _, _, e, _⟩ := x; exact Heap.lt_size e
  | dK kvs => obtain ⟨_, _, _, _, o, _, _, e, _⟩ := x; exact Heap.lt_size e
  | dT kvs => obtain ⟨_, _, _, _, o, _, _, e, _⟩ := x; exact Heap.lt_size e
  | set S n => obtain ⟨o, _, _, _, e, _⟩ := x; exact Heap.lt_size e
  | ins C dx fs => obtain ⟨_, _, _, e, _⟩ := x; exact Heap.lt_size e
  | own y => obtain ⟨_, e⟩ := x; exact Heap.lt_size e
  | xd fs => obtain ⟨_, ⟨_, _, _, e, _⟩, _⟩ := x; exact Heap.lt_size e
  | rng lo hi => obtain ⟨_, _, _, e⟩ := x; exact Heap.lt_size e
  | frz ob u => obtain ⟨e, _⟩ := x; exact Heap.lt_size e
  | tbl ps => exact Heap.lt_size (show h.get? a = some _ from x)
  | met f y => exact Heap.lt_size (show h.get? a = some _ from x)
  | ext φ => obtain ⟨_, ⟨_, e⟩, _⟩ := x; exact Heap.lt_size e
theorem Paired.mapP {α β : Type} {F G : α → β → Prop} : ∀ {l₁ : List α} {l₂ : List β}, Paired F l₁ l₂ → (∀ a b, F a b → G a b) → Paired G l₁ l₂
  | _, _, .nil, _ => .nil
  | _, _, .cons r t, f => .cons (f _ _ r) (Paired.mapP t f)
/-- what an object's description leans on: its own object, its own dict, the tuples -/
theorem ObjOk.stay (x : ObjOk P w H h a o) (k : ∀ b u, (b = a ∨ H b = some (.own a)) → h.get? b = some u → h'.get? b = some u)
    (ho : ∀ b, H b = some (.own a) → H' b = some (.own a)) (ht : ∀ b xs, H b = some (.tup xs) → H' b = some (.tup xs)) : ObjOk P w H' h' a o := by
  induction o with
  | lst xs => obtain ⟨z, its, n, r, e⟩ := x; exact ⟨z, its, n, r, k _ _ (.inl rfl) e⟩
  | tup xs => obtain ⟨z, its, r, ob, e, c⟩ := x; exact ⟨z, its, r, ob, k _ _ (.inl rfl) e, c⟩
  | dK kvs => obtain ⟨z, y, vs, r, ob, es, ep, e, c⟩ := x; exact ⟨z, y, vs, r, ob, es, ep, k _ _ (.inl rfl) e, c⟩
  | dT kvs =>
    obtain ⟨z, y, xs, r, ob, es, ep, e, c⟩ := x
    exact ⟨z, y, xs, Paired.mapP r fun p q z => ⟨z.1, ht _ _ z.2.1, z.2.2⟩, ob, es, ep, k _ _ (.inl rfl) e, c⟩
  | set S n => obtain ⟨ob, es, ep, t, e, c⟩ := x; exact ⟨ob, es, ep, t, k _ _ (.inl rfl) e, c⟩
  | ins C dx fs =>
    obtain ⟨d, z, ne, e, mA, ⟨od, es, ep, e2, c⟩, r⟩ := x
    exact ⟨ho _ d, z, ne, k _ _ (.inl rfl) e, mA, ⟨od, es, ep, k _ _ (.inr d) e2, c⟩, r⟩
  | own y => obtain ⟨ob, e⟩ := x; exact ⟨ob, k _ _ (.inl rfl) e⟩
  | xd fs => obtain ⟨mA, ⟨od, es, ep, e, c⟩, r⟩ := x; exact ⟨mA, ⟨od, es, ep, k _ _ (.inl rfl) e, c⟩, r⟩
  | rng lo hi => obtain ⟨t, u, v, e⟩ := x; exact ⟨t, u, v, k _ _ (.inl rfl) e⟩
  | frz ob u ih => obtain ⟨e, q⟩ := x; exact ⟨k _ _ (.inl rfl) e, ih q⟩
  | tbl ps =>
    have e : h.get? a = some { cls := .none, data := .fields ps } := x
    show h'.get? a = some { cls := .none, data := .fields ps }
    exact k a _ (.inl rfl) e
  | met f y =>
    have e : h.get? a = some (PySem.W.methodObj (.ref f) (.ref y)) := x
    show h'.get? a = some (PySem.W.methodObj (.ref f) (.ref y))
    exact k a _ (.inl rfl) e
  | ext φ => obtain ⟨p, ⟨o, e⟩, st⟩ := x; exact ⟨st _ _ p fun o q => k _ _ (.inl rfl) q, ⟨o, k _ _ (.inl rfl) e⟩, st⟩
theorem HOk.lt (x : HOk P w H h) (e : H a = some o) : a < h.objs.size := (x a o e).lt
theorem HOk.fresh (x : HOk P w H h) (e : h.objs.size ≤ a) : H a = none := by
  cases q : H a with
  | none => rfl
  | some u => exact absurd (Nat.lt_of_lt_of_le (x.lt q) e) (Nat.lt_irrefl _)
/-- every object of the heap is kept -/
theorem HOk.kept (x : HOk P w H h) (k : ∀ b u, h.get? b = some u → h'.get? b = some u) : HOk P w H h' := fun a o e =>
  (x a o e).stay (fun b u _ q => k b u q) (fun _ q => q) fun _ _ q => q
/-- a new object is laid and tracked -/
theorem HOk.laid (x : HOk P w H h) (k : ∀ b u, h.get? b = some u → h'.get? b = some u) (hp : h.objs.size ≤ a) (new : ObjOk P w (upd H a o) h' a o) : HOk P w (upd H a o) h' := fun b u e => by
  have hn := x.fresh hp
  by_cases hb : b = a
  · subst hb; rw [upd_same] at e; cases e; exact new
  · rw [upd_ne hb] at e
    exact (x b u e).stay (fun c v _ q => k c v q) (fun c q => by rw [upd_ne (ne_of_none q hn)]; exact q) fun c xs q => by rw [upd_ne (ne_of_none q hn)]; exact q
end

/-- what may be read as u: it is u, or a known u -/
def Rd (H : Hp) (a : Addr) (u : HO) : Prop := H a = some u ∨ ∃ o, H a = some (.frz o u)
theorem Rd.ok {P : Program} {w : World} {H : Hp} {h : Heap} {a : Addr} {u : HO} (r : Rd H a u) (x : HOk P w H h) : ObjOk P w H h a u := by
  rcases r with r | ⟨o, r⟩
  · exact x a u r
  · obtain ⟨_, q⟩ := x a _ r
    exact q
/-- what may be written -/
def Mut : Option HO → Prop
  | some (.lst _) => True
  | some (.dK _) => True
  | some (.dT _) => True
  | some (.set _ _) => True
  | some (.ins _ _ _) => True
  | some (.ext _) => True
  | _ => False
section
variable {P : Program} {w : World} {H : Hp} {h h' : Heap} {x e : Addr} {o' : HO}
/-- the object at e is changed: x itself, or the dict of the instance x -/
theorem HOk.write (ok : HOk P w H h) (mu : Mut (H x)) (he : e = x ∨ H e = some (.own x)) (k : ∀ b u, b ≠ e → h.get? b = some u → h'.get? b = some u) (heo : ∃ u, h'.get? e = some u)
    (new : ObjOk P w (upd H x o') h' x o') : HOk P w (upd H x o') h' := fun b u q => by
  have nown : ∀ c y, H c = some (.own y) → c ≠ x := fun c y r z => by subst z; rw [r] at mu; exact mu
  have ntup : ∀ c xs, H c = some (.tup xs) → c ≠ x := fun c xs r z => by subst z; rw [r] at mu; exact mu
  by_cases hb : b = x
  · subst hb; rw [upd_same] at q; cases q; exact new
  · rw [upd_ne hb] at q
    by_cases hbe : b = e
    · have q' : H b = some (.own x) := by
        rcases he with z | z
        · exact absurd (hbe.trans z) hb
        · rw [hbe]; exact z
      rw [q] at q'; cases q'
      obtain ⟨v, hv⟩ := heo
      exact ⟨v, by rw [hbe]; exact hv⟩
    · refine (ok b u q).stay (fun c v hc r => k c v ?_ r) (fun c r => by rw [upd_ne (nown c b r)]; exact r) fun c xs r => by rw [upd_ne (ntup c xs r)]; exact r
      rcases hc with rfl | hc
      · exact hbe
      · rintro rfl
        rcases he with z | z
        · exact nown c b hc z
        · rw [hc] at z; cases z; exact hb rfl
end

structure Un (fs ex : List Addr) (H H' : Hp) (h h' : Heap) : Prop where
  keep : ∀ b o, h.get? b = some o → H b = none → b ∉ fs → b ∉ ex → h'.get? b = some o
  slot : ∀ b o, h.get? b = some o → H b = none → b ∈ fs → b ∉ ex → ∃ sl, h'.get? b = some { o with slots := sl }
  free : ∀ b o, h.get? b = some o → H b = none → b ∉ ex → H' b = none
  there : ∀ b o, h.get? b = some o → b ∉ ex → ∃ o', h'.get? b = some o'
  tups : ∀ b xs, H b = some (.tup xs) → H' b = some (.tup xs)
  frzs : ∀ b o u, H b = some (.frz o u) → H' b = some (.frz o u)
  tbls : ∀ b ps, H b = some (.tbl ps) → ∃ more, H' b = some (.tbl (ps ++ more))
section
variable {fs fs' ex ex' : List Addr} {H H1 H2 : Hp} {h h1 h2 h' : Heap} {a x e : Addr} {o : HO}
theorem Un.any (u : Un fs ex H H1 h h1) {b : Addr} {ob : Obj} (q : h.get? b = some ob) (n : H b = none) (hx : b ∉ ex) : ∃ sl, h1.get? b = some { ob with slots := sl } := by
  by_cases hb : b ∈ fs
  · exact u.slot b ob q n hb hx
  · exact ⟨ob.slots, u.keep b ob q n hb hx⟩
theorem Un.kept (k : ∀ b u, h.get? b = some u → h'.get? b = some u) : Un fs ex H H h h' :=
  ⟨fun b ob q _ _ _ => k b ob q, fun b ob q _ _ _ => ⟨ob.slots, k b ob q⟩, fun _ _ _ n _ => n, fun b ob q _ => ⟨ob, k b ob q⟩, fun _ _ q => q, fun _ _ _ q => q, fun _ ps q => ⟨#[], by rw [q]; simp⟩⟩
theorem Un.refl : Un fs ex H H h h := Un.kept fun _ _ q => q
theorem Un.laid (k : ∀ b u, h.get? b = some u → h'.get? b = some u) (hp : h.objs.size ≤ a) (hn : H a = none) : Un fs ex H (upd H a o) h h' where
  keep := fun b u q _ _ _ => k b u q
  slot := fun b u q _ _ _ => ⟨u.slots, k b u q⟩
  free := fun b u q n _ => by rw [upd_ne (Nat.ne_of_lt (Nat.lt_of_lt_of_le (Heap.lt_size q) hp))]; exact n
  there := fun b u q _ => ⟨u, k b u q⟩
  tups := fun b xs q => by rw [upd_ne (ne_of_none q hn)]; exact q
  frzs := fun b u xs q => by rw [upd_ne (ne_of_none q hn)]; exact q
  tbls := fun b ps q => ⟨#[], by rw [upd_ne (ne_of_none q hn), q]; simp⟩
theorem Un.write (mu : Mut (H x)) (he : e = x ∨ H e = some (.own x)) (k : ∀ b u, b ≠ e → h.get? b = some u → h'.get? b = some u) (heo : ∃ u, h'.get? e = some u) : Un fs ex H (upd H x o) h h' := by
  have hx : ∀ b, H b = none → b ≠ x := fun b n z => by subst z; rw [n] at mu; exact mu
  have hb : ∀ b, H b = none → b ≠ e := fun b n z => by
    subst z
    rcases he with r | r
    · exact hx b n r
    · rw [n] at r; cases r
  have hm : ∀ b u, H b = some u → ¬ Mut (some u) → b ≠ x := fun b u q nm z => by subst z; rw [q] at mu; exact nm mu
  refine ⟨fun b u q n _ _ => k b u (hb b n) q, fun b u q n _ _ => ⟨u.slots, k b u (hb b n) q⟩, fun b u q n _ => by rw [upd_ne (hx b n)]; exact n, fun b u q _ => ?_,
    fun b xs q => by rw [upd_ne (hm b _ q fun z => z)]; exact q, fun b u xs q => by rw [upd_ne (hm b _ q fun z => z)]; exact q, fun b ps q => ⟨#[], by rw [upd_ne (hm b _ q fun z => z), q]; simp⟩⟩
  by_cases hbe : b = e
  · subst hbe; exact heo
  · exact ⟨u, k b u hbe q⟩
end

def trk (h : Heap) (H : Hp) : List Addr := (List.range h.objs.size).filter fun a => (H a).isSome
def hidT (h : Heap) (H : Hp) : Heap := PySem.W.hideAll h (trk h H)
theorem hidT_size (h : Heap) (H : Hp) : (hidT h H).objs.size = h.objs.size := PySem.W.hideAll_size _ _
theorem hidT_get {h : Heap} {H : Hp} {b : Addr} {o : Obj} (e : h.get? b = some o) (n : H b = none) : (hidT h H).get? b = some o :=
  PySem.W.hideAll_get _ e fun hm => by
    have q : (H b).isSome = true := (List.mem_filter.mp hm).2
    rw [n] at q; simp at q
theorem of_hidT {h : Heap} {H : Hp} {b : Addr} {o : Obj} (e : (hidT h H).get? b = some o) : h.get? b = some o ∧ H b = none := by
  have e' : h.get? b = some o := PySem.W.of_hideAll (trk h H) e
  refine ⟨e', ?_⟩
  cases q : H b with
  | none => rfl
  | some x =>
    have hm : b ∈ trk h H := List.mem_filter.mpr ⟨List.mem_range.mpr (Heap.lt_size e'), by simp [q]⟩
    have z : (hidT h H).get? b = none := PySem.W.hideAll_none (trk h H) hm
    rw [z] at e; cases e

end L2

namespace L2
open PySem PySem.Spec PyProof.Rows

/-- the module's facts, over the base: the heap at the law's entry without what is tracked there -/
structure Mod (K : PySem.W.Frag) (mg : Str → Option Value) (base : Heap) : Prop where
  kin : K.In base
  glob : base.Ns mainGlobals mg
  blt : ∃ mb, base.Ns builtinsNs mb ∧ ∀ x : Str, x ≠ "__name__" → mb x = bootBuiltins x
  nolimit : base.NoLimit

/-- the context: a def's body (or a comprehension's block) running. base: fixed through the whole law; s₀, H₀: the entry; outer: the frames whose slots others may change (a def's callers); stack: all frames that run;
   ex: iterators that were made ahead of the entry and are walked here (a comprehension's); fn: the names whose cells were made at the entry (a def: all; a comprehension's block: its own); calm: not within an except suite; pn: pins that every state bears; xe: what is wanted of an exception that leaves the code -/
structure Cx where
  prog : Program
  w : World
  K : PySem.W.Frag
  mg : Str → Option Value
  base : Heap
  A : Around
  N : List Str
  s₀ : Shared
  H₀ : Hp
  env : Env
  outer : List Env
  stack : List Env
  ex : List Addr
  fn : Str → Bool
  calm : Bool
  pn : List (Addr × Obj)
  xe : Value → Shared → Prop
/-- the callers' frames -/
def frs (l : List Env) : List Addr := l.filterMap (·.frame)
abbrev Cx.fs (X : Cx) : List Addr := frs X.outer

def Vis (sc : Scope) (x : Str) : Prop := sc.names.lookup x = some .local ∨ sc.names.lookup x = some .cell ∨ sc.names.lookup x = some .free
def Loc (sc : Scope) (x : Str) : Prop := sc.names.lookup x = some .local ∨ sc.names.lookup x = some .cell
def Look (env : Env) (h : Heap) (m : Str → Option Value) (x : Str) (u : Value) : Prop :=
  (env.kindOf x = some .local ∧ m x = some u) ∨ ((env.kindOf x = some .cell ∨ env.kindOf x = some .free) ∧ ∃ c, env.cells.lookup x = some c ∧ h.IsCell c (some u))

structure Cx.Ok (X : Cx) : Prop where
  mod : Mod X.K X.mg X.base
  kind : X.env.scope.kind = .function
  glob : X.env.globals = mainGlobals
  blt : X.env.builtins = builtinsNs
  above : X.s₀.heap.objs.size ≤ X.env.locals
  inj : ∀ x y c, X.env.cells.lookup x = some c → X.env.cells.lookup y = some c → x = y
  has : ∀ x, (X.env.kindOf x = some .cell ∨ X.env.kindOf x = some .free) → ∃ c, X.env.cells.lookup x = some c
  cab : ∀ x c, X.fn x = true → X.env.cells.lookup x = some c → X.s₀.heap.objs.size ≤ c
  hd : X.calm = true → X.A.handled = none
  frames : X.A.frames = some X.stack
  stk : X.stack = X.outer ∨ (X.stack = X.env :: X.outer ∧ X.env.frame = some X.env.locals)
  exf : ∀ b ∈ X.ex, b ≠ X.env.locals ∧ ∀ x c, X.env.cells.lookup x = some c → c ≠ b
  bs : ∀ b o, X.base.get? b = some o → X.s₀.heap.get? b = some o ∧ X.H₀ b = none
  bsz : X.base.objs.size ≤ X.s₀.heap.objs.size
  noex : ∀ b o, X.base.get? b = some o → b ∉ X.ex
  exfs : ∀ b ∈ X.ex, b ∉ X.fs
  funs : X.s₀.heap.FunFrames X.base X.outer
  frf : ∀ b ∈ X.fs, X.H₀ b = none

structure Inv (X : Cx) (pins : List (Addr × Obj)) (σ : List (Option V)) (H : Hp) (s : Shared) : Prop where
  ok : X.Ok
  os : s.os = X.s₀.os
  bare : AllBare s.gens
  base : Un X.fs X.ex X.H₀ H X.s₀.heap s.heap
  loc : ∃ m, s.heap.Ns X.env.locals m ∧ ∀ (i : Nat) (x : Str) (v : V), X.N[i]? = some x → σ[i]? = some (some v) → Vis X.env.scope x → ∃ u, RelV v u ∧ Look X.env s.heap m x u
  cell : ∀ x c, X.env.cells.lookup x = some c → ∃ v, s.heap.IsCell c v
  free : H X.env.locals = none
  freeC : ∀ x c, X.env.cells.lookup x = some c → H c = none
  pin : ∀ p ∈ X.pn ++ pins, s.heap.get? p.1 = some p.2 ∧ H p.1 = none ∧ p.1 ≠ X.env.locals ∧ p.1 ∉ X.fs ∧ ∀ v, p.2.data ≠ .cell v
  hok : HOk X.prog X.w H s.heap
  len : σ.length = X.N.length

section
variable {X : Cx} {pins : List (Addr × Obj)} {σ : List (Option V)} {H H' : Hp} {s : Shared} {h' : Heap}

theorem Cx.Ok.nofr (ok : X.Ok) {b : Addr} {o : Obj} (e : X.base.get? b = some o) : b ∉ X.fs := fun hb => by
  have := (ok.funs.mem hb).1
  rw [e] at this; cases this
theorem Inv.bs (I : Inv X pins σ H s) : ∀ b o, X.base.get? b = some o → s.heap.get? b = some o ∧ H b = none := fun b o e =>
  ⟨I.base.keep b o (I.ok.bs b o e).1 (I.ok.bs b o e).2 (I.ok.nofr e) (I.ok.noex b o e), I.base.free b o (I.ok.bs b o e).1 (I.ok.bs b o e).2 (I.ok.noex b o e)⟩
theorem Inv.bk (I : Inv X pins σ H s) : ∀ b o, X.base.get? b = some o → s.heap.get? b = some o := fun b o e => (I.bs b o e).1
theorem Inv.mod (I : Inv X pins σ H s) : Mod X.K X.mg X.base := I.ok.mod
theorem Inv.kIn (I : Inv X pins σ H s) : X.K.In s.heap := I.ok.mod.kin.keeps I.bk
theorem Inv.lt (I : Inv X pins σ H s) : X.env.locals < s.heap.objs.size := let ⟨_, hn, _⟩ := I.loc; hn.lt
theorem Inv.sz (I : Inv X pins σ H s) : X.s₀.heap.objs.size ≤ s.heap.objs.size := Nat.le_trans I.ok.above (Nat.le_of_lt I.lt)
theorem Inv.nofs (I : Inv X pins σ H s) {a : Addr} (h : s.heap.objs.size ≤ a) : a ∉ X.fs := fun hb => by
  obtain ⟨_, o, ho, _⟩ := I.ok.funs.mem hb
  exact absurd (Nat.lt_of_lt_of_le (Heap.lt_size ho) (Nat.le_trans I.sz h)) (Nat.lt_irrefl _)
theorem Inv.cne (I : Inv X pins σ H s) : ∀ x c, X.env.cells.lookup x = some c → c ≠ X.env.locals := fun x c e z => by
  obtain ⟨v, o, ho, hd⟩ := I.cell x c e
  obtain ⟨m, ⟨o', es, ep, ho', hd', _⟩, _⟩ := I.loc
  rw [z, ho'] at ho; cases ho; rw [hd'] at hd; cases hd
theorem Inv.funs (I : Inv X pins σ H s) : s.heap.FunFrames X.base X.outer := by
  have all : ∀ (l : List Env), (∀ b ∈ frs l, b ∈ X.fs) → X.s₀.heap.FunFrames X.base l → s.heap.FunFrames X.base l := by
    intro l
    induction l with
    | nil => intro _ _; trivial
    | cons env r ih =>
      intro hs hl
      obtain ⟨hk, ⟨L, o, hf, hn, ho, hd⟩, hr⟩ := hl
      have hL : L ∈ X.fs := hs L (by unfold frs; rw [List.filterMap_cons, hf]; exact List.mem_cons_self)
      obtain ⟨sl, e⟩ := I.base.slot L o ho (I.ok.frf L hL) hL fun z => I.ok.exfs L z hL
      exact ⟨hk, ⟨L, _, hf, hn, e, hd⟩, ih (fun b hb => hs b (by unfold frs; rw [List.filterMap_cons, hf]; exact List.mem_cons_of_mem _ hb)) hr⟩
  exact all X.outer (fun _ hb => hb) I.ok.funs

/-- the frames that run, for a call -/
theorem Inv.stack (I : Inv X pins σ H s) : s.heap.FunFrames X.base X.stack := by
  rcases I.ok.stk with e | ⟨e, hf⟩
  · rw [e]; exact I.funs
  · rw [e]
    obtain ⟨m, hn, _⟩ := I.loc
    refine .cons (by rw [I.ok.kind]; decide) hf hn ?_ I.funs
    exact Heap.get?_none_of_le (Nat.le_trans I.ok.bsz I.ok.above)
theorem Inv.stkSub (I : Inv X pins σ H s) : ∀ b ∈ frs X.stack, b ∈ X.env.locals :: X.fs := fun b hb => by
  rcases I.ok.stk with e | ⟨e, hf⟩
  · rw [e] at hb; exact List.mem_cons_of_mem _ hb
  · rw [e] at hb
    unfold frs at hb
    rw [List.filterMap_cons, hf] at hb
    exact hb
theorem Inv.stkFree (I : Inv X pins σ H s) : ∀ b ∈ frs X.stack, H b = none := fun b hb => by
  rcases List.mem_cons.mp (I.stkSub b hb) with e | hb
  · rw [e]; exact I.free
  · obtain ⟨_, o, ho, _⟩ := I.ok.funs.mem hb
    exact I.base.free b o ho (I.ok.frf b hb) fun z => I.ok.exfs b z hb

/-- THE STEP: the untracked objects but the frame and the records at ch are kept (the callers' frames up to slots), the frame's map is kept, the new abstract heap is held -/
theorem Inv.step {g' : Array GenState} {t' : Nat} {d' : Drawn} {ch : List Addr} (I : Inv X pins σ H s)
    (hch : ∀ b ∈ ch, (b ∈ X.ex ∨ X.s₀.heap.objs.size ≤ b) ∧ b ≠ X.env.locals ∧ (∀ x c, X.env.cells.lookup x = some c → c ≠ b) ∧ ∀ p ∈ X.pn ++ pins, p.1 ≠ b)
    (keep : ∀ b o, b ≠ X.env.locals → b ∉ X.fs → b ∉ ch → s.heap.get? b = some o → H b = none → h'.get? b = some o)
    (slot : ∀ b o, b ≠ X.env.locals → b ∈ X.fs → b ∉ ch → s.heap.get? b = some o → H b = none → ∃ sl, h'.get? b = some { o with slots := sl }) (free : ∀ b o, b ∉ ch → s.heap.get? b = some o → H b = none → H' b = none)
    (there : ∀ b o, b ∉ ch → s.heap.get? b = some o → ∃ o', h'.get? b = some o')
    (tups : ∀ b xs, H b = some (.tup xs) → H' b = some (.tup xs)) (frzs : ∀ b o u, H b = some (.frz o u) → H' b = some (.frz o u)) (tbls : ∀ b ps, H b = some (.tbl ps) → ∃ more, H' b = some (.tbl (ps ++ more)))
    (ns : ∀ m, s.heap.Ns X.env.locals m → h'.Ns X.env.locals m) (hok : HOk X.prog X.w H' h') (hg : AllBare g') :
    Inv X pins σ H' { s with heap := h', gens := g', drawn := d', toks := t' } := by
  have neL : ∀ b o, X.s₀.heap.get? b = some o → b ≠ X.env.locals := fun b o e => Nat.ne_of_lt (Nat.lt_of_lt_of_le (Heap.lt_size e) I.ok.above)
  have neC : ∀ b o, X.s₀.heap.get? b = some o → b ∉ X.ex → b ∉ ch := fun b o e hx hb => by
    rcases (hch b hb).1 with z | z
    · exact hx z
    · exact absurd (Nat.lt_of_lt_of_le (Heap.lt_size e) z) (Nat.lt_irrefl _)
  have cellK : ∀ x c, X.env.cells.lookup x = some c → ∀ v, s.heap.IsCell c v → h'.IsCell c v := fun x c e v ⟨o, ho, hd⟩ => by
    have nch : c ∉ ch := fun z => (hch c z).2.2.1 x c e rfl
    by_cases hc : c ∈ X.fs
    · obtain ⟨sl, q⟩ := slot c o (I.cne x c e) hc nch ho (I.freeC x c e)
      exact ⟨_, q, hd⟩
    · exact ⟨o, keep c o (I.cne x c e) hc nch ho (I.freeC x c e), hd⟩
  refine ⟨I.ok, I.os, hg, ⟨fun b o e n hb hx => ?_, fun b o e n hb hx => ?_, fun b o e n hx => ?_, fun b o e hx => ?_, fun b xs e => tups b xs (I.base.tups b xs e), fun b o xs e => frzs b o xs (I.base.frzs b o xs e), fun b ps e => ?_⟩, ?_, fun x c e => ?_, ?_, fun x c e => ?_, fun p hp => ?_, hok, I.len⟩
  · exact keep b o (neL b o e) hb (neC b o e hx) (I.base.keep b o e n hb hx) (I.base.free b o e n hx)
  · obtain ⟨sl, e1⟩ := I.base.slot b o e n hb hx
    obtain ⟨sl', e2⟩ := slot b _ (neL b o e) hb (neC b o e hx) e1 (I.base.free b o e n hx)
    exact ⟨sl', e2⟩
  · obtain ⟨o', e1⟩ := I.base.there b o e hx
    exact free b o' (neC b o e hx) e1 (I.base.free b o e n hx)
  · obtain ⟨o', e1⟩ := I.base.there b o e hx
    exact there b o' (neC b o e hx) e1
  · obtain ⟨m1, e1⟩ := I.base.tbls b ps e
    obtain ⟨m2, e2⟩ := tbls b _ e1
    exact ⟨m1 ++ m2, by rw [e2, Array.append_assoc]⟩
  · obtain ⟨m, hn, hl⟩ := I.loc
    refine ⟨m, ns m hn, fun i x v e1 e2 e3 => ?_⟩
    obtain ⟨u, r, l⟩ := hl i x v e1 e2 e3
    refine ⟨u, r, ?_⟩
    rcases l with l | ⟨k, c, e, z⟩
    · exact .inl l
    · exact .inr ⟨k, c, e, cellK x c e _ z⟩
  · obtain ⟨v, z⟩ := I.cell x c e
    exact ⟨v, cellK x c e v z⟩
  · obtain ⟨m, ⟨o, _, _, ho, _⟩, _⟩ := I.loc
    exact free _ o (fun z => (hch _ z).2.1 rfl) ho I.free
  · obtain ⟨v, o, ho, hd⟩ := I.cell x c e
    exact free c o (fun z => (hch c z).2.2.1 x c e rfl) ho (I.freeC x c e)
  · obtain ⟨e, n, ne, nf, d⟩ := I.pin p hp
    have nch : p.1 ∉ ch := fun z => (hch p.1 z).2.2.2 p hp rfl
    exact ⟨keep p.1 p.2 ne nf nch e n, free p.1 p.2 nch e n, ne, nf, d⟩
/-- .. where the frame's own object is kept too -/
theorem Inv.un {t' : Nat} (I : Inv X pins σ H s) (u : Un X.fs [] H H' s.heap h') (hok : HOk X.prog X.w H' h') : Inv X pins σ H' { s with heap := h', toks := t' } := by
  obtain ⟨m, ⟨o, es, ep, ho, r⟩, _⟩ := id I.loc
  obtain ⟨sl, hL⟩ := u.any ho I.free (by simp)
  exact I.step (g' := s.gens) (d' := s.drawn) (ch := []) (fun _ z => nomatch z) (fun b o _ hb _ e n => u.keep b o e n hb (by simp)) (fun b o _ hb _ e n => u.slot b o e n hb (by simp)) (fun b o _ e n => u.free b o e n (by simp)) (fun b o _ e => u.there b o e (by simp)) u.tups u.frzs u.tbls (fun m' hm => by
    obtain ⟨o', es', ep', ho', r'⟩ := hm
    rw [ho] at ho'; cases ho'
    exact ⟨_, es', ep', hL, r'⟩) hok I.bare
/-- behind a call (or a comprehension's block): the slots of this frame may have changed too, the records at ch may have turned -/
theorem Inv.call {g' : Array GenState} {t' : Nat} {d' : Drawn} {ch : List Addr} (I : Inv X pins σ H s) (u : Un (frs X.stack) ch H H' s.heap h') (hok : HOk X.prog X.w H' h') (hg : AllBare g')
    (hch : ∀ b ∈ ch, (b ∈ X.ex ∨ X.s₀.heap.objs.size ≤ b) ∧ b ≠ X.env.locals ∧ (∀ x c, X.env.cells.lookup x = some c → c ≠ b) ∧ ∀ p ∈ X.pn ++ pins, p.1 ≠ b) :
    Inv X pins σ H' { s with heap := h', gens := g', drawn := d', toks := t' } := by
  obtain ⟨m, ⟨o, es, ep, ho, r⟩, _⟩ := id I.loc
  obtain ⟨sl, hL⟩ := u.any ho I.free fun z => (hch _ z).2.1 rfl
  exact I.step (ch := ch) hch (fun b o hL hb hc e n => u.keep b o e n (fun z => (List.mem_cons.mp (I.stkSub b z)).elim hL hb) hc) (fun b o _ _ hc e n => u.any e n hc) (fun b o hc e n => u.free b o e n hc) (fun b o hc e => u.there b o e hc) u.tups u.frzs u.tbls (fun m' hm => by
    obtain ⟨o', es', ep', ho', r'⟩ := hm
    rw [ho] at ho'; cases ho'
    exact ⟨_, es', ep', hL, r'⟩) hok hg
/-- an untracked record of ours (an iterator) has turned -/
theorem Inv.turned {t' : Nat} {it : Addr} (I : Inv X pins σ H s) (k : ∀ b o, b ≠ it → s.heap.get? b = some o → h'.get? b = some o) (hn : H it = none) (hL : it ≠ X.env.locals)
    (h1 : it ∈ X.ex ∨ X.s₀.heap.objs.size ≤ it) (h2 : ∀ x c, X.env.cells.lookup x = some c → c ≠ it) (h3 : ∀ p ∈ X.pn ++ pins, p.1 ≠ it) : Inv X pins σ H { s with heap := h', toks := t' } := by
  have nit : ∀ b u, H b = some u → b ≠ it := fun b u e z => by rw [z, hn] at e; cases e
  refine I.step (g' := s.gens) (d' := s.drawn) (ch := [it]) (fun b hb => ?_) (fun b o _ _ hc e _ => k b o (fun z => hc (by simp [z])) e) (fun b o _ _ hc e _ => ⟨o.slots, k b o (fun z => hc (by simp [z])) e⟩) (fun _ _ _ _ n => n)
    (fun b o hc e => ⟨o, k b o (fun z => hc (by simp [z])) e⟩) (fun _ _ e => e) (fun _ _ _ e => e) (fun b ps e => ⟨#[], by rw [e]; simp⟩) (fun m hm => ?_) (fun b u e => ?_) I.bare
  · have e : b = it := by simpa using hb
    subst e
    exact ⟨h1, hL, h2, h3⟩
  · obtain ⟨o, es, ep, ho, r⟩ := hm
    exact ⟨o, es, ep, k _ o (Ne.symm hL) ho, r⟩
  · refine (I.hok b u e).stay (fun c v hc q => k c v ?_ q) (fun _ q => q) fun _ _ q => q
    rcases hc with z | z
    · rw [z]; exact nit b u e
    · exact nit c _ z
theorem Inv.tok (I : Inv X pins σ H s) (t : Nat) : Inv X pins σ H { s with toks := t } := I.un (h' := s.heap) (t' := t) Un.refl I.hok
/-- all objects kept -/
theorem Inv.kept {t' : Nat} (I : Inv X pins σ H s) (k : ∀ b u, s.heap.get? b = some u → h'.get? b = some u) : Inv X pins σ H { s with heap := h', toks := t' } := I.un (Un.kept k) (I.hok.kept k)
/-- a new object laid and tracked -/
theorem Inv.laid {a : Addr} {o : HO} {t' : Nat} (I : Inv X pins σ H s) (k : ∀ b u, s.heap.get? b = some u → h'.get? b = some u) (hp : s.heap.objs.size ≤ a) (new : ObjOk X.prog X.w (upd H a o) h' a o) :
    Inv X pins σ (upd H a o) { s with heap := h', toks := t' } := I.un (Un.laid k hp (I.hok.fresh hp)) (I.hok.laid k hp new)
/-- an object written -/
theorem Inv.write {x e : Addr} {o : HO} {t' : Nat} (I : Inv X pins σ H s) (mu : Mut (H x)) (he : e = x ∨ H e = some (.own x)) (k : ∀ b u, b ≠ e → s.heap.get? b = some u → h'.get? b = some u) (heo : ∃ u, h'.get? e = some u)
    (new : ObjOk X.prog X.w (upd H x o) h' x o) : Inv X pins σ (upd H x o) { s with heap := h', toks := t' } := I.un (Un.write mu he k heo) (I.hok.write mu he k heo new)
/-- forgetting slots, pins -/
theorem Inv.weak {σ' : List (Option V)} (I : Inv X pins σ H s) (hl : σ'.length = σ.length) (w : ∀ (i : Nat) v, σ'[i]? = some (some v) → σ[i]? = some (some v)) : Inv X pins σ' H s :=
  ⟨I.ok, I.os, I.bare, I.base, let ⟨m, hn, hl'⟩ := I.loc; ⟨m, hn, fun i x v e1 e2 e3 => hl' i x v e1 (w i v e2) e3⟩, I.cell, I.free, I.freeC, I.pin, I.hok, hl.trans I.len⟩
theorem Inv.pins_of {pins' : List (Addr × Obj)} (I : Inv X pins σ H s) (h : ∀ p ∈ pins', s.heap.get? p.1 = some p.2 ∧ H p.1 = none ∧ p.1 ≠ X.env.locals ∧ p.1 ∉ X.fs ∧ ∀ v, p.2.data ≠ .cell v) : Inv X pins' σ H s :=
  ⟨I.ok, I.os, I.bare, I.base, I.loc, I.cell, I.free, I.freeC, fun p hp => (List.mem_append.mp hp).elim (fun z => I.pin p (List.mem_append_left _ z)) (h p), I.hok, I.len⟩

theorem nodup_ix {N : List Str} (hN : N.Nodup) {i j : Nat} {x : Str} (a : N[i]? = some x) (b : N[j]? = some x) : i = j := by
  obtain ⟨h1, e1⟩ := List.getElem?_eq_some_iff.mp a
  obtain ⟨h2, e2⟩ := List.getElem?_eq_some_iff.mp b
  exact (List.getElem_inj hN).mp (e1.trans e2.symm)

/-- a name is stored; what changed -/
theorem store_ok2 {M : Model} {A : Around} {E : Value → Shared → Prop} {i : Nat} {x : Str} {v : V} {u : Value} {Q : Unit → Shared → Prop} (I : Inv X pins σ H s) (hN : X.N.Nodup) (hi : X.N[i]? = some x) (hx : Loc X.env.scope x) (r : RelV v u)
    (h : ∀ s', Inv X pins (σ.set i (some v)) H s' → (∃ a, Heap.SameBut a s.heap s'.heap ∧ (a = X.env.locals ∨ X.env.cells.lookup x = some a)) → Q () s') (hf : X.fn x = true ∨ X.env.scope.names.lookup x = some .local := by first | exact .inl rfl | exact .inr rfl | assumption) : wpAny M A (storeName X.env x u) Q E s := by
  obtain ⟨m, hn, hl⟩ := id I.loc
  have hcls : (X.env.scope.kind == .class || (X.env.scope.kind == .module && X.env.locals != X.env.globals)) = false := by rw [I.ok.kind]; rfl
  have hiσ : i < σ.length := by rw [I.len]; exact (List.getElem?_eq_some_iff.mp hi).1
  have cne := I.cne
  have tracked : ∀ {a : Addr} {h' : Heap}, (∃ o, s.heap.get? a = some o ∧ H a = none) → Heap.SameBut a s.heap h' → HOk X.prog X.w H h' := fun {a h'} ha hs b ob e => by
    obtain ⟨_, _, hfree⟩ := ha
    refine (I.hok b ob e).stay (fun c w' hc q => (hs.2 c ?_).trans q) (fun _ q => q) fun _ _ q => q
    rintro rfl
    rcases hc with rfl | hc
    · rw [hfree] at e; cases e
    · rw [hfree] at hc; cases hc
  rcases hx with hk | hk
  · refine wpAny_storeName_local hk hn (fun h' hn' hs => ?_) hcls
    obtain ⟨oL, _, _, hoL, _⟩ := id hn
    refine h _ ⟨I.ok, I.os, I.bare, ⟨fun b o e n hb hx => ?_, fun b o e n hb hx => ?_, I.base.free, fun b o e hx => ?_, I.base.tups, I.base.frzs, I.base.tbls⟩, ⟨_, hn', fun j y v' e1 e2 e3 => ?_⟩, fun y c e => ?_, I.free, I.freeC, fun p hp => ?_, tracked ⟨oL, hoL, I.free⟩ hs, by simpa using I.len⟩ ⟨_, hs, .inl rfl⟩
    · exact (hs.2 b (Nat.ne_of_lt (Nat.lt_of_lt_of_le (Heap.lt_size e) I.ok.above))).trans (I.base.keep b o e n hb hx)
    · obtain ⟨sl, e1⟩ := I.base.slot b o e n hb hx
      exact ⟨sl, (hs.2 b (Nat.ne_of_lt (Nat.lt_of_lt_of_le (Heap.lt_size e) I.ok.above))).trans e1⟩
    · obtain ⟨o', e1⟩ := I.base.there b o e hx
      exact ⟨o', (hs.2 b (Nat.ne_of_lt (Nat.lt_of_lt_of_le (Heap.lt_size e) I.ok.above))).trans e1⟩
    · by_cases hj : j = i
      · subst hj
        rw [hi] at e1; cases e1
        rw [List.getElem?_set_self hiσ] at e2
        cases e2
        exact ⟨u, r, .inl ⟨hk, by simp⟩⟩
      · rw [List.getElem?_set_ne (Ne.symm hj)] at e2
        obtain ⟨u', r', q⟩ := hl j y v' e1 e2 e3
        refine ⟨u', r', ?_⟩
        rcases q with ⟨k, e⟩ | ⟨k, c, e, z⟩
        · refine .inl ⟨k, ?_⟩
          have : y ≠ x := fun e => hj (nodup_ix hN e1 (e ▸ hi))
          simp [this, e]
        · exact .inr ⟨k, c, e, z.sameBut hs (cne y c e)⟩
    · obtain ⟨w', z⟩ := I.cell y c e
      exact ⟨w', z.sameBut hs (cne y c e)⟩
    · obtain ⟨e, n, ne, nf, d⟩ := I.pin p hp
      exact ⟨(hs.2 p.1 ne).trans e, n, ne, nf, d⟩
  · have hfn : X.fn x = true := by
      rcases hf with z | z
      · exact z
      · rw [z] at hk; cases hk
    obtain ⟨c, hc⟩ := I.ok.has x (.inl hk)
    obtain ⟨w', z⟩ := I.cell x c hc
    refine wpAny_storeName_cell I.ok.kind hk hc z (fun h' hc' hs => ?_)
    obtain ⟨oc, hoc, hocd⟩ := id z
    refine h { s with heap := h' } ⟨I.ok, I.os, I.bare, ⟨fun b o e n hb hx => ?_, fun b o e n hb hx => ?_, I.base.free, fun b o e hx => ?_, I.base.tups, I.base.frzs, I.base.tbls⟩, ⟨m, hn.sameBut hs (Ne.symm (cne x c hc)), fun j y v' e1 e2 e3 => ?_⟩, fun y c' e => ?_, I.free, I.freeC, fun p hp => ?_, tracked ⟨oc, hoc, I.freeC x c hc⟩ hs, by simpa using I.len⟩ ⟨c, hs, .inr hc⟩
    · exact (hs.2 b (Nat.ne_of_lt (Nat.lt_of_lt_of_le (Heap.lt_size e) (I.ok.cab x c hfn hc)))).trans (I.base.keep b o e n hb hx)
    · obtain ⟨sl, e1⟩ := I.base.slot b o e n hb hx
      exact ⟨sl, (hs.2 b (Nat.ne_of_lt (Nat.lt_of_lt_of_le (Heap.lt_size e) (I.ok.cab x c hfn hc)))).trans e1⟩
    · obtain ⟨o', e1⟩ := I.base.there b o e hx
      exact ⟨o', (hs.2 b (Nat.ne_of_lt (Nat.lt_of_lt_of_le (Heap.lt_size e) (I.ok.cab x c hfn hc)))).trans e1⟩
    · by_cases hj : j = i
      · subst hj
        rw [hi] at e1; cases e1
        rw [List.getElem?_set_self hiσ] at e2
        cases e2
        exact ⟨u, r, .inr ⟨.inl hk, c, hc, hc'⟩⟩
      · rw [List.getElem?_set_ne (Ne.symm hj)] at e2
        obtain ⟨u', r', q⟩ := hl j y v' e1 e2 e3
        refine ⟨u', r', ?_⟩
        rcases q with q | ⟨k, c', e, z'⟩
        · exact .inl q
        · refine .inr ⟨k, c', e, z'.sameBut hs ?_⟩
          rintro rfl
          exact hj (nodup_ix hN e1 (I.ok.inj _ _ _ e hc ▸ hi))
    · by_cases hcc : c' = c
      · subst hcc; exact ⟨_, hc'⟩
      · obtain ⟨w2, z2⟩ := I.cell y c' e
        exact ⟨w2, z2.sameBut hs hcc⟩
    · obtain ⟨e, n, ne, nf, d⟩ := I.pin p hp
      refine ⟨(hs.2 p.1 ?_).trans e, n, ne, nf, d⟩
      intro q
      rw [q, hoc] at e
      have q' : oc = p.2 := Option.some.inj e
      exact d w' (by rw [← q']; exact hocd)
theorem store_ok {M : Model} {A : Around} {E : Value → Shared → Prop} {i : Nat} {x : Str} {v : V} {u : Value} {Q : Unit → Shared → Prop} (I : Inv X pins σ H s) (hN : X.N.Nodup) (hi : X.N[i]? = some x) (hx : Loc X.env.scope x) (r : RelV v u)
    (h : ∀ s', Inv X pins (σ.set i (some v)) H s' → Q () s') (hf : X.fn x = true ∨ X.env.scope.names.lookup x = some .local := by first | exact .inl rfl | exact .inr rfl | assumption) : wpAny M A (storeName X.env x u) Q E s :=
  store_ok2 I hN hi hx r (fun s' I' _ => h s' I') hf
/-- behind a call or a block, the state as it is -/
theorem Inv.call' {s' : Shared} {ch : List Addr} (I : Inv X pins σ H s) (ho : s'.os = s.os) (u : Un (frs X.stack) ch H H' s.heap s'.heap) (hok : HOk X.prog X.w H' s'.heap) (hg : AllBare s'.gens)
    (hch : ∀ b ∈ ch, (b ∈ X.ex ∨ X.s₀.heap.objs.size ≤ b) ∧ b ≠ X.env.locals ∧ (∀ x c, X.env.cells.lookup x = some c → c ≠ b) ∧ ∀ p ∈ X.pn ++ pins, p.1 ≠ b) : Inv X pins σ H' s' := by
  obtain ⟨h', g', d', t', o'⟩ := s'
  have e : o' = s.os := ho
  subst e
  exact I.call (g' := g') (t' := t') (d' := d') u hok hg hch
end

/-- an exception: its class, its own dict's address (where it has one), the abstract heap behind it -/
abbrev XK := Value → Option Addr → Hp → Prop
abbrev St := List (Option V)
abbrev VK := V → Hp → Prop
/-- an expression's reading; a test's; an argument list's -/
abbrev TE := St → Hp → VK → Prop
abbrev TT := St → Hp → (Bool → Hp → Prop) → Prop
abbrev TA := St → Hp → (List V → Hp → Prop) → Prop
/-- what is wanted behind a statement -/
structure Ends where
  nx : St → Hp → Prop
  rt : VK
  bk : St → Hp → Prop := fun _ _ => False
  ct : St → Hp → Prop := fun _ _ => False
abbrev TS := Ends → St → Hp → Prop

def EP (X : Cx) (pins : List (Addr × Obj)) (σ : St) (Q : VK) (u : Value) (s' : Shared) : Prop := ∃ v H', Inv X pins σ H' s' ∧ RelV v u ∧ Q v H'
def TP (X : Cx) (pins : List (Addr × Obj)) (σ : St) (Q : Bool → Hp → Prop) (b : Bool) (s' : Shared) : Prop := ∃ H', Inv X pins σ H' s' ∧ Q b H'
def AP (X : Cx) (pins : List (Addr × Obj)) (σ : St) (Q : List V → Hp → Prop) (us : List Value) (s' : Shared) : Prop := ∃ vs H', Inv X pins σ H' s' ∧ Vals vs us ∧ Q vs H'
def SP (X : Cx) (pins : List (Addr × Obj)) (D : Ends) (f : Flow) (s' : Shared) : Prop :=
  match f with
  | .next => ∃ σ' H', Inv X pins σ' H' s' ∧ D.nx σ' H'
  | .brk => ∃ σ' H', Inv X pins σ' H' s' ∧ D.bk σ' H'
  | .cont => ∃ σ' H', Inv X pins σ' H' s' ∧ D.ct σ' H'
  | .ret u => ∃ v σ' H', Inv X pins σ' H' s' ∧ RelV v u ∧ D.rt v H'

def PE (X : Cx) (e : Expr) (t : TE) : Prop :=
  ∀ (pins : List (Addr × Obj)) (s : Shared) (σ : St) (H : Hp) (Q : VK), Inv X pins σ H s → t σ H Q → wpAny (model X.prog X.w) X.A (eval e X.env) (EP X pins σ Q) X.xe s
def PT (X : Cx) (e : Expr) (t : TT) : Prop :=
  ∀ (pins : List (Addr × Obj)) (s : Shared) (σ : St) (H : Hp) (Q : Bool → Hp → Prop), Inv X pins σ H s → t σ H Q → wpAny (model X.prog X.w) X.A (isTrue e X.env (eval e X.env)) (TP X pins σ Q) X.xe s
/-- a test whatever its 'whole' is (and, or) -/
def PW (X : Cx) (e : Expr) (t : TT) : Prop :=
  ∀ (whole : Sem Value) (pins : List (Addr × Obj)) (s : Shared) (σ : St) (H : Hp) (Q : Bool → Hp → Prop), Inv X pins σ H s → t σ H Q → wpAny (model X.prog X.w) X.A (isTrue e X.env whole) (TP X pins σ Q) X.xe s
theorem PW.pt {X : Cx} {e : Expr} {t : TT} (h : PW X e t) : PT X e t := h _
/-- an argument list (no star), from the left -/
def PA (X : Cx) (es : List Expr) (t : TA) : Prop :=
  ∀ (pos : Pos) (pins : List (Addr × Obj)) (s : Shared) (σ : St) (H : Hp) (Q : List V → Hp → Prop), Inv X pins σ H s → t σ H Q → wpAny (model X.prog X.w) X.A (spliced (backTo pos (starEach es X.env))) (AP X pins σ Q) X.xe s
def PS (X : Cx) (st : Stmt) (t : TS) : Prop :=
  ∀ (pins : List (Addr × Obj)) (s : Shared) (σ : St) (H : Hp) (D : Ends), Inv X pins σ H s → t D σ H → wpAny (model X.prog X.w) X.A (exec st X.env) (SP X pins D) X.xe s
def PSs (X : Cx) (st : List Stmt) (t : TS) : Prop :=
  ∀ (pins : List (Addr × Obj)) (s : Shared) (σ : St) (H : Hp) (D : Ends), Inv X pins σ H s → t D σ H → wpAny (model X.prog X.w) X.A (execs st X.env) (SP X pins D) X.xe s
/-- weaken the end -/
theorem thn {α : Type} {t : Sem α} {Q Q' : α → Shared → Prop} {M : Model} {A : Around} {E : Value → Shared → Prop} {s : Shared} (h : wpAny M A t Q E s) (hQ : ∀ a s, Q a s → Q' a s) : wpAny M A t Q' E s := wpAny_mono h hQ fun _ _ x => x
end L2

namespace L2
open PySem PySem.Spec PyProof.Rows
section
variable {X : Cx}

def tVar (i : Nat) : TE := fun σ H Q => ∃ v, σ[i]? = some (some v) ∧ Q v H
def tC (v : V) : TE := fun _ H Q => Q v H
theorem pe_var {i : Nat} {x : Str} {pos : Pos} (hN : X.N[i]? = some x) (hv : Vis X.env.scope x) (hd : (x == ("__debug__" : Str)) = false := by decide) (hcd : (x == ("__classdict__" : Str)) = false := by decide) : PE X (.Name x pos) (tVar i) := by
  intro pins s σ H Q I h
  obtain ⟨v, e, h⟩ := h
  obtain ⟨m, hn, hl⟩ := I.loc
  obtain ⟨u, r, l⟩ := hl i x v hN e hv
  have fin : EP X pins σ Q u s := ⟨v, H, I, r, h⟩
  rcases l with ⟨hk, hm⟩ | ⟨hk, c, hc, hcell⟩
  · exact wpAny_Name (wpAny_loadName_local I.ok.kind hk hn hm fin) hd
  · rcases hk with hk | hk
    · exact wpAny_Name (wpAny_loadName_cell I.ok.kind hk hc hcell fin) hd
    · exact wpAny_Name (wpAny_loadName_free I.ok.kind hk hc hcell fin hcd) hd
theorem pe_int {i j pos} : PE X (.Constant (.int i) j pos) (tC (.int i)) := fun _ _ _ H _ I h => wpAny_Constant_int ⟨.int i, H, I.tok _, ⟨_, rfl⟩, h⟩
theorem pe_bl {b j pos} : PE X (.Constant (.bool b) j pos) (tC (.bl b)) := fun _ _ _ H _ I h => Constant_bool ⟨.bl b, H, I, rfl, h⟩
theorem pe_non {j pos} : PE X (.Constant .none j pos) (tC .non) := fun _ _ _ H _ I h => Constant_none ⟨.non, H, I, rfl, h⟩
theorem pe_str {x j pos} : PE X (.Constant (.str x) j pos) (tC (.str x)) := fun _ _ _ H _ I h => Calls.Constant_str ⟨.str x, H, I.tok _, ⟨_, rfl⟩, h⟩

/-- a global name of the def -/
def Gl (X : Cx) (x : Str) : Prop := X.env.kindOf x = some .globalImplicit
theorem ld_glob {E : Value → Shared → Prop} {pins : List (Addr × Obj)} {s : Shared} {σ : St} {H : Hp} {x : Str} {u : Value} {pos : Pos} {Q : Value → Shared → Prop} (I : Inv X pins σ H s) (hg : Gl X x) (hm : X.mg x = some u) (h : Q u s)
    (hd : (x == ("__debug__" : Str)) = false := by decide) : wpAny (model X.prog X.w) X.A (eval (.Name x pos) X.env) Q E s :=
  Calls.Name_function_global I.ok.kind hg (Calls.loadGlobal_global (by rw [I.ok.glob]; exact I.mod.glob.keeps I.bk) hm h) hd
theorem ld_blt {E : Value → Shared → Prop} {pins : List (Addr × Obj)} {s : Shared} {σ : St} {H : Hp} {x : Str} {u : Value} {pos : Pos} {Q : Value → Shared → Prop} (I : Inv X pins σ H s) (hg : Gl X x) (hm : X.mg x = none) (hv : bootBuiltins x = some u) (h : Q u s)
    (hn : x ≠ "__name__" := by decide) (hd : (x == ("__debug__" : Str)) = false := by decide) : wpAny (model X.prog X.w) X.A (eval (.Name x pos) X.env) Q E s := by
  obtain ⟨mb, h1, h2⟩ := I.mod.blt
  exact Calls.Name_function_global I.ok.kind hg (Calls.loadGlobal_builtin (by rw [I.ok.glob]; exact I.mod.glob.keeps I.bk) hm (by rw [I.ok.blt]; exact h1.keeps I.bk) ((h2 x hn).trans hv) h) hd
/-- a module's constant, a class, a function, as a value -/
theorem pe_glob {x : Str} {v : V} {u : Value} {pos : Pos} (hg : Gl X x) (hm : X.mg x = some u) (r : RelV v u) (hd : (x == ("__debug__" : Str)) = false := by decide) : PE X (.Name x pos) (tC v) :=
  fun _ _ _ H _ I h => ld_glob I hg hm ⟨v, H, I, r, h⟩ hd
theorem pe_bltn {x : Str} {v : V} {u : Value} {pos : Pos} (hg : Gl X x) (hm : X.mg x = none) (hv : bootBuiltins x = some u) (r : RelV v u) (hn : x ≠ "__name__" := by decide) (hd : (x == ("__debug__" : Str)) = false := by decide) : PE X (.Name x pos) (tC v) :=
  fun _ _ _ H _ I h => ld_blt I hg hm hv ⟨v, H, I, r, h⟩ hn hd

variable {a b : Expr} {ta tb : TE} {pos : Pos}
def PC (X : Cx) (op : CmpOp) (a b : Expr) (t : TE) : Prop :=
  ∀ (pins : List (Addr × Obj)) (s : Shared) (σ : St) (H : Hp) (Q : VK), Inv X pins σ H s → t σ H Q →
    wpAny (model X.prog X.w) X.A (eval a X.env) (fun v s₁ => wpAny (model X.prog X.w) X.A (eval b X.env) (fun u s₂ => wpAny (model X.prog X.w) X.A (compareOp op v u) (EP X pins σ Q) X.xe s₂) X.xe s₁) X.xe s
/-- a comparison as a value, as a test -/
def tB (t : TE) : TT := fun σ H Q => t σ H fun x H1 => ∃ c, x = .bl c ∧ Q c H1
theorem pt_cmp {op : CmpOp} {t : TE} (h : PC X op a b t) (h1 : behindInMarks op b = false := by first | exact nobehind _ (by decide) (by decide) | rfl) : PT X (.Compare a [op] [b] pos) (tB t) := by
  intro pins s σ H Q I hw
  refine wpAny_isTrue_Compare1 (thn (h pins s σ H _ I hw) fun v s1 h1 => thn h1 fun u s2 h2 => thn h2 fun c s3 ⟨x, H1, I1, r1, q1⟩ => ?_) h1
  obtain ⟨d, rfl, q⟩ := q1
  cases r1
  exact wpAny_truthy_bool ⟨H1, I1, q⟩
/-- an expression whose value is a bool, as a test -/
theorem pt_val {e : Expr} {t : TE} (h : PE X e t) (he : ∀ whole, isTrue e X.env whole = (do let v ← whole; standAt e.pos; holding [v] (truthy v)) := by intro _; rfl) : PT X e (tB t) := by
  intro pins s σ H Q I hw
  refine isTrue_plain (thn (h pins s σ H _ I hw) fun v s1 ⟨x, H1, I1, r1, q1⟩ => ?_) (he _)
  obtain ⟨d, rfl, q⟩ := q1
  cases r1
  exact wpAny_truthy_bool ⟨H1, I1, q⟩

variable {tA tB' : TT} {rest : List Expr}
def tAnd (t u : TT) : TT := fun σ H Q => t σ H fun c H1 => if c = true then u σ H1 Q else Q false H1
def tOr (t u : TT) : TT := fun σ H Q => t σ H fun c H1 => if c = true then Q true H1 else u σ H1 Q
def tNot (t : TT) : TT := fun σ H Q => t σ H fun c H1 => Q (!c) H1
theorem pw_and1 (ha : PT X a tA) : PW X (.BoolOp .And [a] pos) tA := by
  intro wh pins s σ H Q I h
  refine isTrue_and (thn (ha pins s σ H Q I h) fun c s1 e => ?_)
  cases c with
  | true => exact isTrue_and_nil e
  | false => exact e
theorem pw_or1 (ha : PT X a tA) : PW X (.BoolOp .Or [a] pos) tA := by
  intro wh pins s σ H Q I h
  refine isTrue_or (thn (ha pins s σ H Q I h) fun c s1 e => ?_)
  cases c with
  | false => exact isTrue_or_nil e
  | true => exact e
theorem pw_and (ha : PT X a tA) (hb : PW X (.BoolOp .And (b :: rest) pos) tB') : PW X (.BoolOp .And (a :: b :: rest) pos) (tAnd tA tB') := by
  intro wh pins s σ H Q I h
  refine isTrue_and (thn (ha pins s σ H _ I h) fun c s1 ⟨H1, I1, q1⟩ => ?_)
  cases c with
  | true => exact hb wh pins s1 σ H1 Q I1 q1
  | false => exact ⟨H1, I1, q1⟩
theorem pw_or (ha : PT X a tA) (hb : PW X (.BoolOp .Or (b :: rest) pos) tB') : PW X (.BoolOp .Or (a :: b :: rest) pos) (tOr tA tB') := by
  intro wh pins s σ H Q I h
  refine isTrue_or (thn (ha pins s σ H _ I h) fun c s1 ⟨H1, I1, q1⟩ => ?_)
  cases c with
  | true => exact ⟨H1, I1, q1⟩
  | false => exact hb wh pins s1 σ H1 Q I1 q1
theorem pt_not (ha : PT X a tA) : PT X (.UnaryOp .Not a pos) (tNot tA) := by
  intro pins s σ H Q I h
  exact isTrue_not (ha pins s σ H (fun c H1 => Q (!c) H1) I h)
/-- .. as values (bools) -/
def tAndV (ta tb : TE) : TE := fun σ H Q => ta σ H fun x H1 => ∃ c, x = .bl c ∧ if c = true then tb σ H1 Q else Q (.bl false) H1
def tNotV (ta : TE) : TE := fun σ H Q => ta σ H fun x H1 => ∃ c, x = .bl c ∧ Q (.bl (!c)) H1
theorem pe_one {op} {t : TE} (h : PE X a t) : PE X (.BoolOp op [a] pos) t := fun pins s σ H Q I hw => BoolOp_one (h pins s σ H Q I hw)
theorem pe_and (ha : PE X a ta) (hb : PE X (.BoolOp .And (b :: rest) pos) tb) : PE X (.BoolOp .And (a :: b :: rest) pos) (tAndV ta tb) := by
  intro pins s σ H Q I h
  refine BoolOp_and (thn (ha pins s σ H _ I h) fun v s1 ⟨x, H1, I1, r1, q1⟩ => ?_)
  obtain ⟨c, rfl, q1⟩ := q1
  cases r1
  refine wpAny_truthy_bool ?_
  cases c with
  | true => exact hb pins s1 σ H1 Q I1 q1
  | false => exact ⟨.bl false, H1, I1, rfl, q1⟩
theorem pe_not (ha : PE X a ta) : PE X (.UnaryOp .Not a pos) (tNotV ta) := by
  intro pins s σ H Q I h
  refine UnaryOp_ (thn (ha pins s σ H _ I h) fun v s1 ⟨x, H1, I1, r1, q1⟩ => ?_)
  obtain ⟨c, rfl, q1⟩ := q1
  cases r1
  exact not_of (wpAny_truthy_bool ⟨.bl (!c), H1, I1, rfl, q1⟩)
/-- a if t else b -/
def tIf (t : TT) (ta tb : TE) : TE := fun σ H Q => t σ H fun c H1 => if c = true then ta σ H1 Q else tb σ H1 Q
theorem pe_ifExp {c : Expr} (hc : PT X c tA) (ha : PE X a ta) (hb : PE X b tb) : PE X (.IfExp c a b pos) (tIf tA ta tb) := by
  intro pins s σ H Q I h
  refine wpAny_IfExp (thn (hc pins s σ H _ I h) fun d s1 ⟨H1, I1, q1⟩ => ?_)
  cases d with
  | true => exact ha pins s1 σ H1 Q I1 q1
  | false => exact hb pins s1 σ H1 Q I1 q1
end
end L2

namespace L2
open PySem PySem.Spec PyProof.Rows

def SqL (K : PySem.W.Frag) (H : Hp) (a : Addr) (xs : List V) : Prop :=
  Rd H a (.lst xs) ∨
    ∃ (o : Obj) (its : Array Value) (n : Nat), K.lookup a = some o ∧ o.cls = .type "list" ∧ o.dict = none ∧ o.data = .seq its n ∧ its.size ≤ sizeLine ∧ Vals xs its.toList
def SqT (K : PySem.W.Frag) (H : Hp) (a : Addr) (xs : List V) : Prop :=
  Rd H a (.tup xs) ∨
    ∃ (o : Obj) (its : Array Value) (n : Nat), K.lookup a = some o ∧ o.cls = .type "tuple" ∧ o.data = .seq its n ∧ its.size ≤ sizeLine ∧ Vals xs its.toList
def absV : Value → Option V
  | .none => some .non
  | .bool b => some (.bl b)
  | .int i _ => some (.int i)
  | .str x _ => some (.str x)
  | .bytes b _ => some (.byt b)
  | .float b _ => some (.flt b)
  | .ref a => some (.ref a)
  | .type n => some (.ty n)
  | _ => none
theorem RelV.abs {x : V} {u : Value} (r : RelV x u) : absV u = some x := by
  cases x with
  | non => cases r; rfl
  | bl _ => cases r; rfl
  | int _ => obtain ⟨t, rfl⟩ := r; rfl
  | str _ => obtain ⟨t, rfl⟩ := r; rfl
  | byt _ => obtain ⟨t, rfl⟩ := r; rfl
  | flt _ => obtain ⟨t, rfl⟩ := r; rfl
  | ref _ => cases r; rfl
  | ty _ => cases r; rfl
theorem RelV.inj {x y : V} {u : Value} (r : RelV x u) (q : RelV y u) : x = y := Option.some.inj (r.abs.symm.trans q.abs)
theorem Vals.inj : ∀ {xs ys : List V} {us : List Value}, Vals xs us → Vals ys us → xs = ys
  | _, _, _, .nil, .nil => rfl
  | _, _, _, .cons r t, .cons r' t' => by rw [r.inj r', Vals.inj t t']
section
variable {X : Cx} {pins : List (Addr × Obj)} {σ : St} {H : Hp} {s : Shared} {a : Addr} {xs ys : List V}
theorem SqL.of {K : PySem.W.Frag} (h : H a = some (.lst xs)) : SqL K H a xs := .inl (.inl h)
theorem SqT.of {K : PySem.W.Frag} (h : H a = some (.tup xs)) : SqT K H a xs := .inl (.inl h)
theorem Inv.list (I : Inv X pins σ H s) (h : SqL X.K H a xs) : ∃ its : List Value, Vals xs its ∧ PlainL s.heap a its.toArray ∧ xs.length ≤ sizeLine := by
  rcases h with h | ⟨o, its, n, hk, hc, hd, hs, hz, r⟩
  · obtain ⟨z, its, n, r, e⟩ := h.ok I.hok
    exact ⟨its, r, ⟨_, n, e, rfl, rfl, rfl⟩, z⟩
  · refine ⟨its.toList, r, ⟨o, n, I.kIn a o hk, hc, hd, by simpa using hs⟩, ?_⟩
    have e := r.length
    simp only [Array.length_toList] at e
    omega
theorem Inv.tuple (I : Inv X pins σ H s) (h : SqT X.K H a xs) : ∃ its : List Value, Vals xs its ∧ IsTup s.heap a its.toArray ∧ xs.length ≤ sizeLine := by
  rcases h with h | ⟨o, its, n, hk, hc, hs, hz, r⟩
  · obtain ⟨z, its, r, o, e, c, n, d, _⟩ := h.ok I.hok
    exact ⟨its, r, ⟨o, e, c, n, d⟩, z⟩
  · refine ⟨its.toList, r, ⟨o, I.kIn a o hk, hc, n, by simpa using hs⟩, ?_⟩
    have e := r.length
    simp only [Array.length_toList] at e
    omega
theorem Inv.list_inj (I : Inv X pins σ H s) (h : SqL X.K H a xs) (h' : SqL X.K H a ys) : xs = ys := by
  obtain ⟨its, r, ⟨o, n, e, _, _, d⟩, _⟩ := I.list h
  obtain ⟨its', r', ⟨o', n', e', _, _, d'⟩, _⟩ := I.list h'
  rw [e] at e'; cases e'
  rw [d] at d'
  injection d' with d1 _
  have : its = its' := by simpa using congrArg Array.toList d1
  subst this
  exact r.inj r'
theorem Inv.tuple_inj (I : Inv X pins σ H s) (h : SqT X.K H a xs) (h' : SqT X.K H a ys) : xs = ys := by
  obtain ⟨its, r, ⟨o, e, _, n, d⟩, _⟩ := I.tuple h
  obtain ⟨its', r', ⟨o', e', _, n', d'⟩, _⟩ := I.tuple h'
  rw [e] at e'; cases e'
  rw [d] at d'
  injection d' with d1 _
  have : its = its' := by simpa using congrArg Array.toList d1
  subst this
  exact r.inj r'
end

abbrev Cx.wish (X : Cx) (E : Value → Shared → Prop) : Cx := { X with xe := E }
/-- no exception leaves -/
abbrev Cx.nox (X : Cx) : Cx := X.wish fun _ _ => False
theorem Cx.Ok.wish {X : Cx} (ok : X.Ok) (E : Value → Shared → Prop) : (X.wish E).Ok :=
  ⟨ok.mod, ok.kind, ok.glob, ok.blt, ok.above, ok.inj, ok.has, ok.cab, ok.hd, ok.frames, ok.stk, ok.exf, ok.bs, ok.bsz, ok.noex, ok.exfs, ok.funs, ok.frf⟩
theorem Cx.Ok.unwish {X : Cx} {E : Value → Shared → Prop} (ok : (X.wish E).Ok) : X.Ok :=
  ⟨ok.mod, ok.kind, ok.glob, ok.blt, ok.above, ok.inj, ok.has, ok.cab, ok.hd, ok.frames, ok.stk, ok.exf, ok.bs, ok.bsz, ok.noex, ok.exfs, ok.funs, ok.frf⟩
section
variable {X : Cx} {pins : List (Addr × Obj)} {σ : St} {H : Hp} {s : Shared} {E : Value → Shared → Prop}
theorem Inv.wish (I : Inv X pins σ H s) (E : Value → Shared → Prop) : Inv (X.wish E) pins σ H s := ⟨I.ok.wish E, I.os, I.bare, I.base, I.loc, I.cell, I.free, I.freeC, I.pin, I.hok, I.len⟩
theorem Inv.unwish (I : Inv (X.wish E) pins σ H s) : Inv X pins σ H s := ⟨I.ok.unwish, I.os, I.bare, I.base, I.loc, I.cell, I.free, I.freeC, I.pin, I.hok, I.len⟩
theorem SP.unwish {D : Ends} {f : Flow} {s' : Shared} (h : SP (X.wish E) pins D f s') : SP X pins D f s' := by
  cases f with
  | next => obtain ⟨σ', H', I, q⟩ := h; exact ⟨σ', H', I.unwish, q⟩
  | brk => obtain ⟨σ', H', I, q⟩ := h; exact ⟨σ', H', I.unwish, q⟩
  | cont => obtain ⟨σ', H', I, q⟩ := h; exact ⟨σ', H', I.unwish, q⟩
  | ret u => obtain ⟨v, σ', H', I, r, q⟩ := h; exact ⟨v, σ', H', I.unwish, r, q⟩
theorem PSs.nox {st : List Stmt} {t : TS} (h : PSs X.nox st t) : PSs X st t := fun pins s σ H D I hw =>
  wpAny_mono (h pins s σ H D (I.wish _) hw) (fun _ _ q => q.unwish) fun _ _ z => False.elim z
end

section
variable {X : Cx} {st : Stmt} {rest : List Stmt} {t u : TS} {e : Expr} {te : TE} {pos : Pos}
def tNext : TS := fun D σ H => D.nx σ H
def tSeq (t u : TS) : TS := fun D σ H => t { D with nx := u D } σ H
theorem pss_nil : PSs X [] tNext := fun _ _ σ H _ I h => wpAny_execs_nil ⟨σ, H, I, h⟩
theorem pss_cons (h1 : PS X st t) (h2 : PSs X rest u) : PSs X (st :: rest) (tSeq t u) := by
  intro pins s σ H D I h
  refine wpAny_execs_cons (thn (h1 pins s σ H { D with nx := u D } I h) fun f s1 q => ?_)
  cases f with
  | next =>
    obtain ⟨σ', H', I', q⟩ := q
    exact h2 pins s1 σ' H' D I' q
  | ret v => exact q
  | brk => exact q
  | cont => exact q
theorem pss_one (h1 : PS X st t) : PSs X [st] t := by
  intro pins s σ H D I h
  refine wpAny_execs_cons (thn (h1 pins s σ H D I h) fun f s1 q => ?_)
  cases f with
  | next => exact wpAny_execs_nil q
  | ret v => exact q
  | brk => exact q
  | cont => exact q
/-- in a def's body nothing is shown -/
theorem Inv.quiet {pins : List (Addr × Obj)} {σ : St} {H : Hp} {s : Shared} (I : Inv X pins σ H s) : interactive X.env = false := by simp [interactive, I.ok.kind]
/-- an expression whose value is dropped -/
def tDrop (te : TE) : TS := fun D σ H => te σ H fun _ H1 => D.nx σ H1
theorem ps_expr (he : PE X e te) (hs : swapsWith e none pos.line X.env = pure false := by rfl) : PS X (.Expr e pos) (tDrop te) := by
  intro pins s σ H D I h
  exact wpAny_Expr_any (thn (he pins s σ H _ I h) fun v s1 ⟨x, H1, I1, r1, q1⟩ => ⟨σ, H1, I1, q1⟩) I.quiet hs
def tRet (te : TE) : TS := fun D σ H => te σ H D.rt
theorem ps_ret (he : PE X e te) : PS X (.Return (some e) pos) (tRet te) := by
  intro pins s σ H D I h
  exact wpAny_Return_some (thn (he pins s σ H _ I h) fun v s1 ⟨x, H1, I1, r1, q1⟩ => ⟨x, σ, H1, I1, r1, q1⟩)
def tIfS (c : TT) (t u : TS) : TS := fun D σ H => c σ H fun b H1 => if b = true then t D σ H1 else u D σ H1
theorem ps_if {c : Expr} {a b : List Stmt} {tc : TT} (hc : PT X c tc) (ha : PSs X a t) (hb : PSs X b u) : PS X (.If c a b pos) (tIfS tc t u) := by
  intro pins s σ H D I h
  refine wpAny_If (thn (hc pins s σ H _ I h) fun d s1 ⟨H1, I1, q1⟩ => ?_)
  cases d with
  | true => exact ha pins s1 σ H1 D I1 q1
  | false => exact hb pins s1 σ H1 D I1 q1
/-- code that the proof never comes to -/
def tNever : TS := fun _ _ _ => False
theorem ps_never : PS X st tNever := fun _ _ _ _ _ _ h => h.elim
end

abbrev TG := V → St → Hp → (St → Hp → Prop) → Prop
abbrev TGs := List V → St → Hp → (St → Hp → Prop) → Prop
def PG (X : Cx) (target : Expr) (t : TG) : Prop :=
  ∀ (pins : List (Addr × Obj)) (s : Shared) (σ : St) (H : Hp) (v : V) (u : Value) (Q : St → Hp → Prop), Inv X pins σ H s → RelV v u → t v σ H Q →
    wpAny (model X.prog X.w) X.A (assign target X.env u) (fun _ s' => ∃ σ' H', Inv X pins σ' H' s' ∧ Q σ' H') X.xe s
/-- several targets, one after another -/
def PGs (X : Cx) (ts : List Expr) (t : TGs) : Prop :=
  ∀ (pins : List (Addr × Obj)) (s : Shared) (σ : St) (H : Hp) (vs : List V) (us : List Value) (Q : St → Hp → Prop), Inv X pins σ H s → Vals vs us → t vs σ H Q →
    wpAny (model X.prog X.w) X.A (assignInOrder ((assignEach ts X.env).map (·.2)) us) (fun _ s' => ∃ σ' H', Inv X pins σ' H' s' ∧ Q σ' H') X.xe s
/-- o[i] = v, by values -/
abbrev TSet := V → V → V → Hp → (Hp → Prop) → Prop
def PSet (X : Cx) (t : TSet) : Prop :=
  ∀ (pins : List (Addr × Obj)) (s : Shared) (σ : St) (H : Hp) (o i v : V) (ov iv u : Value) (Q : Hp → Prop), Inv X pins σ H s → RelV o ov → RelV i iv → RelV v u → t o i v H Q →
    wpAny (model X.prog X.w) X.A (setItem ov iv u) (fun _ s' => ∃ H', Inv X pins σ H' s' ∧ Q H') X.xe s
section
variable {X : Cx} {pos : Pos}
def gName (i : Nat) : TG := fun v σ H Q => Q (σ.set i (some v)) H
theorem pg_name {i : Nat} {x : Str} (hN : X.N.Nodup) (hi : X.N[i]? = some x) (hx : Loc X.env.scope x) (hf : X.fn x = true ∨ X.env.scope.names.lookup x = some .local := by first | exact .inl rfl | exact .inr rfl | assumption) : PG X (.Name x pos) (gName i) := by
  intro pins s σ H v u Q I r h
  exact wpAny_assign_Name (store_ok I hN hi hx r (fun s' I' => ⟨_, H, I', h⟩) hf)
def gNil : TGs := fun vs σ H Q => vs = [] ∧ Q σ H
def gCons (t : TG) (u : TGs) : TGs := fun vs σ H Q => ∃ v r, vs = v :: r ∧ t v σ H fun σ' H' => u r σ' H' Q
theorem pgs_nil : PGs X [] gNil := by
  intro pins s σ H vs us Q I r h
  obtain ⟨e, h⟩ := h
  subst e
  cases r
  exact assignInOrder_nil ⟨σ, H, I, h⟩
theorem pgs_cons {e : Expr} {es : List Expr} {t : TG} {u : TGs} (h1 : PG X e t) (h2 : PGs X es u)
    (hs : (assignEach (e :: es) X.env).map (·.2) = assign e X.env :: (assignEach es X.env).map (·.2) := by rfl) : PGs X (e :: es) (gCons t u) := by
  intro pins s σ H vs us Q I r h
  obtain ⟨v, vr, e1, h⟩ := h
  subst e1
  cases r with
  | cons r rr =>
    rw [hs]
    refine assignInOrder_cons (thn (h1 pins s σ H _ _ _ I r h) fun _ s1 ⟨σ1, H1, I1, q1⟩ => ?_)
    exact h2 pins s1 σ1 H1 _ _ Q I1 rr q1
/-- (a, b, ..) = a tuple of that length -/
def gTup (K : PySem.W.Frag) (n : Nat) (t : TGs) : TG := fun v σ H Q => ∃ a xs, v = .ref a ∧ SqT K H a xs ∧ xs.length = n ∧ t xs σ H Q
theorem pg_tup {es : List Expr} {k : Nat} {t : TGs} {n : Nat} (hc : X.calm = true) (h : PGs X es t)
    (hn : (assignEach es X.env).length = n := by rfl) (hst : (assignEach es X.env).findIdx? (·.1) = none := by rfl) : PG X (.Tuple es k pos) (gTup X.K n t) := by
  intro pins s σ H v u Q I r hw
  obtain ⟨a, xs, e1, hq, hl, hw⟩ := hw
  subst e1
  cases r
  obtain ⟨its, rv, ht, hz⟩ := I.tuple hq
  refine assign_Tuple_tuple (I.ok.hd hc) ht (by simp [hn, ← hl, rv.length]) hst fun h' hx => ?_
  have I1 : Inv X pins σ H { s with heap := h' } := I.kept (t' := s.toks) fun b o e => hx b o (Nat.ne_of_lt (Heap.lt_size e)) e
  exact h pins _ σ H xs _ Q I1 (by simpa using rv) hw
/-- o[i] = .. -/
def gSub (to ti : TE) (t : TSet) : TG := fun v σ H Q => to σ H fun o H1 => ti σ H1 fun i H2 => t o i v H2 fun H3 => Q σ H3
theorem pg_sub {o i : Expr} {to ti : TE} {t : TSet} (ho : PE X o to) (hi : PE X i ti) (hs : PSet X t)
    (ha : ∀ v, assign (.Subscript o i pos) X.env v = (do
      let ov ← holding [v] (eval o X.env)
      let iv ← holding [v, ov] (eval i X.env)
      standAt pos
      holding [v, ov, iv] (setItem ov iv v)
      release [v, ov, iv] []) := by intro _; rfl) : PG X (.Subscript o i pos) (gSub to ti t) := by
  intro pins s σ H v u Q I r h
  rw [ha]
  refine wpAny_bind (wpAny_holding (thn (ho pins s σ H _ I h) fun ov s1 ⟨x, H1, I1, r1, q1⟩ => ?_))
  refine wpAny_bind (wpAny_holding (thn (hi pins s1 σ H1 _ I1 q1) fun iv s2 ⟨y, H2, I2, r2, q2⟩ => ?_))
  refine wpAny_bind (wpAny_standAt (wpAny_bind (wpAny_holding (thn (hs pins s2 σ H2 x y v ov iv u _ I2 r1 r2 r q2) fun _ s3 ⟨H3, I3, q3⟩ => ?_))))
  exact wpAny_release ⟨σ, H3, I3, q3⟩
/-- target = value -/
def tAsg (te : TE) (g : TG) : TS := fun D σ H => te σ H fun x H1 => g x σ H1 D.nx
theorem ps_asg {tg e : Expr} {te : TE} {g : TG} (he : PE X e te) (hg : PG X tg g) (hs : swapsWithSole [tg] e pos.line X.env = pure false := by rfl) (hw : swappedStores [tg] e X.env = pure none := by rfl)
    (h1 : (assignEach [tg] X.env).map (·.2) = [assign tg X.env] := by rfl) : PS X (.Assign [tg] e pos) (tAsg te g) := by
  intro pins s σ H D I h
  refine wpAny_Assign_stores (thn (he pins s σ H _ I h) fun v s1 ⟨x, H1, I1, r1, q1⟩ => ?_) hs hw
  rw [h1]
  exact thn (hg pins s1 σ H1 x v _ I1 r1 q1) fun _ s2 q => q
/-- name = value -/
theorem ps_set {i : Nat} {x : Str} {e : Expr} {te : TE} {pos' : Pos} (hN : X.N.Nodup) (hi : X.N[i]? = some x) (hx : Loc X.env.scope x) (he : PE X e te) (hs : swapsWith e (some (.Name x pos')) pos.line X.env = pure false := by rfl) (hf : X.fn x = true ∨ X.env.scope.names.lookup x = some .local := by first | exact .inl rfl | exact .inr rfl | assumption) :
    PS X (.Assign [.Name x pos'] e pos) (tAsg te (gName i)) := by
  intro pins s σ H D I h
  refine wpAny_Assign_Name (thn (he pins s σ H _ I h) fun v s1 ⟨y, H1, I1, r1, q1⟩ => ?_) hs
  exact store_ok I1 hN hi hx r1 (fun s2 I2 => ⟨_, H1, I2, q1⟩) hf
end

section
variable {X : Cx} {pos : Pos}
end

/-- at turn i: it yields x (the heap may grow), or it stops -/
structure It where
  go : Nat → Hp → Prop
  yld : Nat → Hp → V → Hp → Prop
  stop : Nat → Hp → Prop
/-- the iterator's own objects may turn: they are not the frame's, not pinned, younger than the entry (or a comprehension's own) -/
def FpOk (X : Cx) (pins : List (Addr × Obj)) (H : Hp) (b : Addr) : Prop :=
  H b = none ∧ b ≠ X.env.locals ∧ b ∉ X.fs ∧ (b ∈ X.ex ∨ X.s₀.heap.objs.size ≤ b) ∧ (∀ x c, X.env.cells.lookup x = some c → c ≠ b) ∧ ∀ p ∈ X.pn ++ pins, p.1 ≠ b
theorem Inv.fpOk {X : Cx} {pins : List (Addr × Obj)} {σ : St} {H H' : Hp} {s : Shared} {b : Addr} (I : Inv X pins σ H s) (hb : s.heap.objs.size ≤ b) (hn : H' b = none) : FpOk X pins H' b := by
  refine ⟨hn, Nat.ne_of_gt (Nat.lt_of_lt_of_le I.lt hb), I.nofs hb, .inr (Nat.le_trans I.sz hb), fun x c e z => ?_, fun p hp z => ?_⟩
  · obtain ⟨v, q⟩ := I.cell x c e
    exact absurd (Nat.lt_of_lt_of_le q.lt (by rw [z]; exact hb)) (Nat.lt_irrefl _)
  · exact absurd (Nat.lt_of_lt_of_le (Heap.lt_size (I.pin p hp).1) (by rw [z]; exact hb)) (Nat.lt_irrefl _)
structure Turn (P : Program) (w : World) (K : PySem.W.Frag) (tg : Expr) (J : It) (fp : List Addr) (it : Addr) (tn : Nat → Heap → Prop) : Prop where
  mem : it ∈ fp
  obj : ∀ i h, tn i h → ∀ b ∈ fp, ∃ o, h.get? b = some o ∧ ∀ v, o.data ≠ .cell v
  keep : ∀ i h h', tn i h → (∀ b ∈ fp, ∀ o, h.get? b = some o → h'.get? b = some o) → tn i h'
  item : ∀ (X : Cx), X.prog = P → X.w = w → X.K = K → X.calm = true → ∀ (i : Nat) (pins : List (Addr × Obj)) (s : Shared) (σ : St) (H : Hp) (E : Value → Shared → Prop), Inv X pins σ H s → (∀ b ∈ fp, FpOk X pins H b) → tn i s.heap → J.go i H →
    wpAny (model P w) X.A (pyNext (.ref it)) (fun r s1 => ∃ u, r = some u ∧
      wpAny (model P w) X.A (letOwnedTupleGo tg (.ref it) u) (fun _ s2 => ∃ x H', Inv X pins σ H' s2 ∧ RelV x u ∧ J.yld i H x H' ∧ tn (i + 1) s2.heap ∧ ∀ b ∈ fp, H' b = none) E s1) E s
  done : ∀ (X : Cx), X.prog = P → X.w = w → X.K = K → X.calm = true → ∀ (i : Nat) (pins : List (Addr × Obj)) (s : Shared) (σ : St) (H : Hp) (E : Value → Shared → Prop), Inv X pins σ H s → (∀ b ∈ fp, FpOk X pins H b) → tn i s.heap → J.stop i H →
    wpAny (model P w) X.A (pyNext (.ref it)) (fun r s1 => r = none ∧ Inv X pins σ H s1) E s
  self : ∀ (A : Around) (i : Nat) (s : Shared) (Q : Value → Shared → Prop) (E : Value → Shared → Prop), tn i s.heap → Q (.ref it) s → wpAny (model P w) A (pyIter (.ref it)) Q E s
abbrev TI := St → Hp → (It → Hp → Prop) → Prop
/-- an iterator has come -/
def PIE (X : Cx) (pins : List (Addr × Obj)) (σ : St) (tg : Expr) (R : It → Hp → Prop) (itv : Value) (s2 : Shared) : Prop :=
  ∃ (it : Addr) (fp : List Addr) (tn : Nat → Heap → Prop) (J : It) (H' : Hp), itv = .ref it ∧ Inv X pins σ H' s2 ∧ Turn X.prog X.w X.K tg J fp it tn ∧ tn 0 s2.heap ∧ (∀ b ∈ fp, FpOk X pins H' b) ∧ R J H'
def PI (X : Cx) (tg iter : Expr) (wi : TI) : Prop :=
  ∀ (pins : List (Addr × Obj)) (s : Shared) (σ : St) (H : Hp) (R : It → Hp → Prop), Inv X pins σ H s → wi σ H R →
    wpAny (model X.prog X.w) X.A (eval iter X.env) (fun v s1 => wpAny (model X.prog X.w) X.A (pyIter v) (PIE X pins σ tg R) X.xe s1) X.xe s

/-- the step ahead of the store is nothing for an iterator that keeps no tuple -/
theorem go_of {M : Model} {A : Around} {E : Value → Shared → Prop} {s : Shared} {tg : Expr} {it : Addr} {u : Value} {o : Obj} {n : String} {vs : Array Value} {Q : Unit → Shared → Prop} (ho : s.heap.get? it = some o) (hc : o.cls = .type n) (hd : o.data = .fields vs)
    (hn : ["enumerate", "zip", "dict_itemiterator", "dict_reverseitemiterator", "odict_iterator", "itertools.zip_longest", "itertools.pairwise"].contains n = false) (hQ : Q () s) : wpAny M A (letOwnedTupleGo tg (.ref it) u) Q E s := by
  unfold letOwnedTupleGo
  cases tg <;> first
    | exact wpAny_pure hQ
    | (cases u <;> first
        | exact wpAny_pure hQ
        | (refine wpAny_bind (wpAny_load ho ?_)
           rw [hc, hd]
           show wpAny M A (if (["enumerate", "zip", "dict_itemiterator", "dict_reverseitemiterator", "odict_iterator", "itertools.zip_longest", "itertools.pairwise"].contains n && vs[0]? == some (rawInt _)) = true then _ else _) Q E s
           rw [if_neg (by intro h; rw [hn, Bool.false_and] at h; cases h)]
           exact wpAny_pure hQ))

/-- the list at a, as it stands at each turn (a loop may append to it) -/
def Itl (K : PySem.W.Frag) (a : Addr) : It :=
  ⟨fun i H => ∃ xs x, SqL K H a xs ∧ xs[i]? = some x, fun i H x H' => H' = H ∧ ∀ xs, SqL K H a xs → xs[i]? = some x, fun i H => ∃ xs, SqL K H a xs ∧ xs.length ≤ i⟩
def Itt (K : PySem.W.Frag) (a : Addr) : It :=
  ⟨fun i H => ∃ xs x, SqT K H a xs ∧ xs[i]? = some x, fun i H x H' => H' = H ∧ ∀ xs, SqT K H a xs → xs[i]? = some x, fun i H => ∃ xs, SqT K H a xs ∧ xs.length ≤ i⟩
/-- lo, lo + 1, .. (n of them) -/
def Itr (lo : Int) (n : Nat) : It := ⟨fun i _ => i < n, fun i H x H' => H' = H ∧ x = .int (lo + i), fun i _ => n ≤ i⟩
theorem turn_list {P : Program} {w : World} {K : PySem.W.Frag} {tg : Expr} (a it : Addr) : Turn P w K tg (Itl K a) [it] it (fun i h => h.IsListIter it a i) where
  mem := by simp
  obj := fun i h st b hb => by
    have e : b = it := by simpa using hb
    subst e
    obtain ⟨o, e, c, d⟩ := st
    exact ⟨o, e, fun v z => by rw [d] at z; cases z⟩
  keep := fun i h h' st k => st.at fun o e => k it (by simp) o e
  item := by
    intro X hP hw hK hc i pins s σ H E I hf st hg
    subst hP hw hK
    obtain ⟨xs, x, hq, hx⟩ := hg
    obtain ⟨its, rv, p, hz⟩ := I.list hq
    obtain ⟨u, hu, ru⟩ := rv.get hx
    obtain ⟨f0, f1, f2, f3, f4, f5⟩ := hf it (by simp)
    refine wpAny_pyNext_list_item st p.isList (x := u) (by simpa using hu) fun h' st' sb => ?_
    have I1 : Inv X pins σ H { s with heap := h' } := I.turned (t' := s.toks) (fun b o hb e => (sb.2 b hb).trans e) f0 f1 f3 f4 f5
    obtain ⟨o, e, c, d⟩ := id st'
    exact ⟨u, rfl, go_of (s := { s with heap := h' }) e c d (by decide) ⟨x, H, I1, ru, ⟨rfl, fun ys hy => by rw [I.list_inj hy hq]; exact hx⟩, st', fun b hb => (hf b hb).1⟩⟩
  done := by
    intro X hP hw hK hc i pins s σ H E I hf st hg
    subst hP hw hK
    obtain ⟨xs, hq, hx⟩ := hg
    obtain ⟨its, rv, p, hz⟩ := I.list hq
    obtain ⟨f0, f1, f2, f3, f4, f5⟩ := hf it (by simp)
    have hl := rv.length
    exact wpAny_pyNext_list_end (I.ok.hd hc) st p.isList (by simp; omega) fun h' eb => ⟨rfl, I.turned (t' := s.toks) (fun b o hb e => eb b o hb e) f0 f1 f3 f4 f5⟩
  self := fun _ _ _ _ _ st h => wpAny_pyIter_listiter st h
theorem turn_tuple {P : Program} {w : World} {K : PySem.W.Frag} {tg : Expr} (a it : Addr) : Turn P w K tg (Itt K a) [it] it (fun i h => h.IsTupleIter it a i) where
  mem := by simp
  obj := fun i h st b hb => by
    have e : b = it := by simpa using hb
    subst e
    obtain ⟨o, e, c, d⟩ := st
    exact ⟨o, e, fun v z => by rw [d] at z; cases z⟩
  keep := fun i h h' st k => st.at fun o e => k it (by simp) o e
  item := by
    intro X hP hw hK hc i pins s σ H E I hf st hg
    subst hP hw hK
    obtain ⟨xs, x, hq, hx⟩ := hg
    obtain ⟨its, rv, p, hz⟩ := I.tuple hq
    obtain ⟨u, hu, ru⟩ := rv.get hx
    obtain ⟨f0, f1, f2, f3, f4, f5⟩ := hf it (by simp)
    refine wpAny_pyNext_tuple_item st (show s.heap.IsTuple a its.toArray from p) (x := u) (by simpa using hu) fun h' st' sb => ?_
    have I1 : Inv X pins σ H { s with heap := h' } := I.turned (t' := s.toks) (fun b o hb e => (sb.2 b hb).trans e) f0 f1 f3 f4 f5
    obtain ⟨o, e, c, d⟩ := id st'
    exact ⟨u, rfl, go_of (s := { s with heap := h' }) e c d (by decide) ⟨x, H, I1, ru, ⟨rfl, fun ys hy => by rw [I.tuple_inj hy hq]; exact hx⟩, st', fun b hb => (hf b hb).1⟩⟩
  done := by
    intro X hP hw hK hc i pins s σ H E I hf st hg
    subst hP hw hK
    obtain ⟨xs, hq, hx⟩ := hg
    obtain ⟨its, rv, p, hz⟩ := I.tuple hq
    obtain ⟨f0, f1, f2, f3, f4, f5⟩ := hf it (by simp)
    have hl := rv.length
    exact wpAny_pyNext_tuple_end (I.ok.hd hc) st (show s.heap.IsTuple a its.toArray from p) (by simp; omega) fun h' eb => ⟨rfl, I.turned (t' := s.toks) (fun b o hb e => eb b o hb e) f0 f1 f3 f4 f5⟩
  self := fun _ _ _ _ _ st h => wpAny_pyIter_tupleiter st h
theorem turn_range {P : Program} {w : World} {K : PySem.W.Frag} {tg : Expr} (it : Addr) (lo : Int) (n : Nat) : Turn P w K tg (Itr lo n) [it] it (fun i h => IsRangeIter h it (lo + (i : Nat) * 1) ((n : Int) - (i : Nat)) 1) where
  mem := by simp
  obj := fun i h st b hb => by
    have e : b = it := by simpa using hb
    subst e
    exact ⟨_, st, fun v z => by
      have z' : Data.fields _ = Data.cell v := z
      cases z'⟩
  keep := fun i h h' st k => k it (by simp) _ st
  item := by
    intro X hP hw hK hc i pins s σ H E I hf st hg
    subst hP hw hK
    obtain ⟨f0, f1, f2, f3, f4, f5⟩ := hf it (by simp)
    have W := Walks.range (prog := X.prog) (w := X.w) (I.ok.hd hc) it lo 1 n
    refine W.item i s _ _ hg st fun v h' tk hv st' kk => ?_
    obtain ⟨t, rfl⟩ := hv
    have I1 : Inv X pins σ H { s with heap := h', toks := tk } := I.turned (fun b o hb e => kk b o (by simpa using hb) e) f0 f1 f3 f4 f5
    refine ⟨_, rfl, go_of (s := { s with heap := h', toks := tk }) (n := "range_iterator") st' rfl rfl (by decide) ⟨.int (lo + i), H, I1, ⟨t, ?_⟩, ⟨rfl, rfl⟩, st', fun b hb => (hf b hb).1⟩⟩
    rw [Int.mul_one]
  done := by
    intro X hP hw hK hc i pins s σ H E I hf st hg
    subst hP hw hK
    obtain ⟨f0, f1, f2, f3, f4, f5⟩ := hf it (by simp)
    exact wpAny_pyNext_range_end (I.ok.hd hc) st (by have : n ≤ i := hg; omega) fun h' eb => ⟨rfl, I.turned (t' := s.toks) (fun b o hb e => eb b o hb e) f0 f1 f3 f4 f5⟩
  self := fun _ _ _ _ _ st h => wpAny_pyIter_rangeiter st h
end L2

namespace L2
open PySem PySem.Spec PyProof.Rows
section
variable {X : Cx} {tg : Expr}
def iList (K : PySem.W.Frag) (tl : TE) : TI := fun σ H R => tl σ H fun x H1 => ∃ a, x = .ref a ∧ (∃ xs, SqL K H1 a xs) ∧ R (Itl K a) H1
def iTup (K : PySem.W.Frag) (tl : TE) : TI := fun σ H R => tl σ H fun x H1 => ∃ a, x = .ref a ∧ (∃ xs, SqT K H1 a xs) ∧ R (Itt K a) H1
theorem pi_list {l : Expr} {tl : TE} (hl : PE X l tl) : PI X tg l (iList X.K tl) := by
  intro pins s σ H R I h
  refine thn (hl pins s σ H _ I h) fun v s1 ⟨x, H1, I1, r1, q1⟩ => ?_
  obtain ⟨a, e, ⟨xs, hq⟩, q⟩ := q1
  subst e
  cases r1
  obtain ⟨its, rv, p, hz⟩ := I1.list hq
  refine wpAny_pyIter_list p.isList ?_
  refine ⟨s1.heap.objs.size, [s1.heap.objs.size], _, _, H1, rfl, I1.kept (t' := s1.toks) fun b o e => Heap.get?_push_of_some _ e, turn_list a _, ⟨_, Heap.get?_push_size _ rfl, rfl, rfl⟩, fun b hb => ?_, q⟩
  have e : b = s1.heap.objs.size := by simpa using hb
  subst e
  exact I1.fpOk (Nat.le_refl _) (I1.hok.fresh (Nat.le_refl _))
theorem pi_tup {l : Expr} {tl : TE} (hl : PE X l tl) : PI X tg l (iTup X.K tl) := by
  intro pins s σ H R I h
  refine thn (hl pins s σ H _ I h) fun v s1 ⟨x, H1, I1, r1, q1⟩ => ?_
  obtain ⟨a, e, ⟨xs, hq⟩, q⟩ := q1
  subst e
  cases r1
  obtain ⟨its, rv, p, hz⟩ := I1.tuple hq
  refine wpAny_pyIter_tuple (show s1.heap.IsTuple a its.toArray from p) ?_
  refine ⟨s1.heap.objs.size, [s1.heap.objs.size], _, _, H1, rfl, I1.kept (t' := s1.toks) fun b o e => Heap.get?_push_of_some _ e, turn_tuple a _, ⟨_, Heap.get?_push_size _ rfl, rfl, rfl⟩, fun b hb => ?_, q⟩
  have e : b = s1.heap.objs.size := by simpa using hb
  subst e
  exact I1.fpOk (Nat.le_refl _) (I1.hok.fresh (Nat.le_refl _))
/-- a range object just made, walked -/
theorem range_it {pins : List (Addr × Obj)} {σ : St} {H : Hp} {s : Shared} {R : It → Hp → Prop} {E : Value → Shared → Prop} {lo hi : Int} {t u v : Tok} {tk : Nat} (I : Inv X pins σ H s) (h1 : -(2 ^ 62) ≤ lo) (h2 : lo < 2 ^ 62) (h3 : -(2 ^ 62) ≤ hi) (h4 : hi < 2 ^ 62)
    (q : R (Itr lo (hi - lo).toNat) H) : wpAny (model X.prog X.w) X.A (pyIter (.ref s.heap.objs.size)) (PIE X pins σ tg R) E { s with heap := s.heap.push { cls := .type "range", data := .fields #[.int lo t, .int hi u, .int 1 v] }, toks := tk } := by
  refine wpAny_pyIter_range (IsRange.new ..) (small_one h1 h2 h3 h4) ?_
  have I1 : Inv X pins σ H { s with heap := s.heap.push { cls := .type "range", data := .fields #[.int lo t, .int hi u, .int 1 v] }, toks := tk } := I.kept fun b o e => Heap.get?_push_of_some _ e
  refine ⟨(s.heap.push { cls := .type "range", data := .fields #[.int lo t, .int hi u, .int 1 v] }).objs.size, [(s.heap.push { cls := .type "range", data := .fields #[.int lo t, .int hi u, .int 1 v] }).objs.size], _, _, H, rfl,
    I1.kept (t' := tk) fun b o e => Heap.get?_push_of_some _ e, turn_range _ lo (hi - lo).toNat, ?_, fun b hb => ?_, q⟩
  · have e1 : lo + ((0 : Nat) : Int) * 1 = lo := by simp
    have e2 : (((hi - lo).toNat : Nat) : Int) - ((0 : Nat) : Int) = Builtin.Range.rangeSize lo hi 1 := by rw [rangeSize_one]; split <;> omega
    show IsRangeIter _ _ (lo + ((0 : Nat) : Int) * 1) ((((hi - lo).toNat : Nat) : Int) - ((0 : Nat) : Int)) 1
    rw [e1, e2]
    exact Heap.get?_push_size _ rfl
  · have e : b = (s.heap.push { cls := .type "range", data := .fields #[.int lo t, .int hi u, .int 1 v] }).objs.size := by simpa using hb
    subst e
    exact I1.fpOk (Nat.le_refl _) (I1.hok.fresh (Nat.le_refl _))
def iRng1 (ta : TA) : TI := fun σ H R => ta σ H fun vs H1 => ∃ j : Int, vs = [.int j] ∧ -(2 ^ 62) ≤ j ∧ j < 2 ^ 62 ∧ R (Itr 0 j.toNat) H1
def iRng2 (ta : TA) : TI := fun σ H R => ta σ H fun vs H1 => ∃ i j : Int, vs = [.int i, .int j] ∧ (-(2 ^ 62) ≤ i ∧ i < 2 ^ 62 ∧ -(2 ^ 62) ≤ j ∧ j < 2 ^ 62) ∧ R (Itr i (j - i).toNat) H1
theorem pi_range1 {a : Expr} {ta : TA} {p pos : Pos} (hg : Gl X "range") (hm : X.mg "range" = none) (ha : PA X [a] ta) (hs : starEach [a] X.env = [(false, eval a X.env)] := by rfl) : PI X tg (.Call (.Name "range" p) [a] [] pos) (iRng1 ta) := by
  intro pins s σ H R I h
  refine Call_ (ld_blt I hg hm boot_range (PyProof.Rows.callWith_type1 (thn (ha pos pins s σ H _ I h) fun us s1 ⟨vs, H1, I1, r1, q1⟩ => ?_) hs rfl))
  obtain ⟨j, e, q1, q2, q⟩ := q1
  subst e
  cases r1 with
  | cons r rr =>
    cases rr
    obtain ⟨t, rfl⟩ := r
    exact call_range_1 (range_it I1 (by omega) (by omega) q1 q2 (by simpa using q))
theorem pi_range2 {a b : Expr} {ta : TA} {p pos : Pos} (hg : Gl X "range") (hm : X.mg "range" = none) (ha : PA X [a, b] ta) (hs : starEach [a, b] X.env = [(false, eval a X.env), (false, eval b X.env)] := by rfl) (hs2 : starEach [b] X.env = [(false, eval b X.env)] := by rfl) :
    PI X tg (.Call (.Name "range" p) [a, b] [] pos) (iRng2 ta) := by
  intro pins s σ H R I h
  refine Call_ (ld_blt I hg hm boot_range (PyProof.Rows.callWith_type1 (thn (ha pos pins s σ H _ I h) fun us s1 ⟨vs, H1, I1, r1, q1⟩ => ?_) (by rw [hs, hs2]) (by rw [hs2]; rfl)))
  obtain ⟨i, j, e, ⟨q1, q2, q3, q4⟩, q⟩ := q1
  subst e
  cases r1 with
  | cons r rr =>
    cases rr with
    | cons r' rr =>
      cases rr
      obtain ⟨t, rfl⟩ := r
      obtain ⟨t', rfl⟩ := r'
      exact call_range_2 (range_it I1 q1 q2 q3 q4 q)

/-- W: the invariant by the turn and a measure; N: what the body is to reach -/
def tFor (wi : TI) (g : TG) (tb : TS) : TS := fun D σ H => wi σ H fun J H1 => ∃ W : Nat → Nat → St → Hp → Prop, (∃ m, W 0 m σ H1) ∧ ∀ i m σ H, W i m σ H →
  (J.stop i H ∧ D.nx σ H) ∨ (J.go i H ∧ ∃ N : St → Hp → Prop, (∀ σ' H', N σ' H' → ∃ m', m' < m ∧ W (i + 1) m' σ' H') ∧ ∀ x H', J.yld i H x H' → g x σ H' fun σ2 H2 => tb { D with nx := N, ct := N, bk := D.nx } σ2 H2)
/-- the records at fp as they stand -/
def pinsAt (fp : List Addr) (h : Heap) : List (Addr × Obj) := fp.filterMap fun b => (h.get? b).map fun o => (b, o)
theorem mem_pinsAt {fp : List Addr} {h : Heap} {b : Addr} {o : Obj} (hb : b ∈ fp) (e : h.get? b = some o) : (b, o) ∈ pinsAt fp h := List.mem_filterMap.mpr ⟨b, hb, by rw [e]; rfl⟩
theorem of_pinsAt {fp : List Addr} {h : Heap} {p : Addr × Obj} (hp : p ∈ pinsAt fp h) : p.1 ∈ fp ∧ h.get? p.1 = some p.2 := by
  obtain ⟨b, hb, e⟩ := List.mem_filterMap.mp hp
  cases q : h.get? b with
  | none => rw [q] at e; cases e
  | some o =>
    rw [q] at e
    have e' : (b, o) = p := Option.some.inj e
    subst e'
    exact ⟨hb, q⟩
theorem Inv.pinned {pins : List (Addr × Obj)} {σ : St} {H : Hp} {s : Shared} {fp : List Addr} (I : Inv X pins σ H s) (hf : ∀ b ∈ fp, FpOk X pins H b) (ho : ∀ b ∈ fp, ∃ o, s.heap.get? b = some o ∧ ∀ v, o.data ≠ .cell v) : Inv X (pins ++ pinsAt fp s.heap) σ H s :=
  I.pins_of fun p hp => (List.mem_append.mp hp).elim (fun z => I.pin p (List.mem_append_right _ z)) fun z => by
    obtain ⟨hb, e⟩ := of_pinsAt z
    obtain ⟨f0, f1, f2, _⟩ := hf p.1 hb
    obtain ⟨o, e', d⟩ := ho p.1 hb
    rw [e] at e'; cases e'
    exact ⟨e, f0, f1, f2, d⟩
theorem Inv.unpinned {pins pl : List (Addr × Obj)} {σ : St} {H : Hp} {s : Shared} (I : Inv X (pins ++ pl) σ H s) : Inv X pins σ H s := I.pins_of fun p hp => I.pin p (List.mem_append_right _ (List.mem_append_left _ hp))
theorem ps_for {iter : Expr} {body : List Stmt} {wi : TI} {g : TG} {tb : TS} {pos : Pos} (hp : PassesOwn (model X.prog X.w) X.A X.env X.xe) (hc : X.calm = true) (hi : PI X tg iter wi) (hg : PG X tg g) (hb : PSs X body tb)
    (hs : ∀ x, foldedSetIterable iter X.env x = pure x := by intro _; rfl) : PS X (.For tg iter body [] pos) (tFor wi g tb) := by
  intro pins s σ H D I h
  refine wpAny_For (thn (hi pins s σ H _ I h) fun v s1 h1 => thn h1 fun itv s2 h2 => ?_) hs
  obtain ⟨it, fp, tn, J, H2, e, I2, T, st2, f2, W, ⟨m0, w0⟩, turn⟩ := h2
  subst e
  -- what stays true of the iterator's objects through the loop
  have stat : ∀ {H' : Hp}, (∀ b ∈ fp, H' b = none) → ∀ b ∈ fp, FpOk X pins H' b := fun hn b hb => ⟨hn b hb, (f2 b hb).2⟩
  refine codeAny_forLoop_any (fun n s' => ∃ i σ' H', Inv X pins σ' H' s' ∧ tn i s'.heap ∧ (∀ b ∈ fp, H' b = none) ∧ W i n σ' H') ?_ m0 ⟨0, σ, H2, I2, st2, fun b hb => (f2 b hb).1, w0⟩
  rintro n s3 ⟨i, σ3, H3, I3, st3, fr3, w3⟩
  rcases turn i n σ3 H3 w3 with ⟨stop, qn⟩ | ⟨go, N, hN, step⟩
  · refine wpAny_passesOwn hp (thn (T.done X rfl rfl rfl hc i pins s3 σ3 H3 X.xe I3 (stat fr3) st3 stop) fun r s4 ⟨hr, I4⟩ => ?_)
    subst hr
    exact wpAny_execs_nil ⟨σ3, H3, I4, qn⟩
  · refine wpAny_passesOwn hp (thn (T.item X rfl rfl rfl hc i pins s3 σ3 H3 X.xe I3 (stat fr3) st3 go) fun r s4 ⟨u, hr, h4⟩ => ?_)
    subst hr
    refine wpAny_passesOwn hp (thn h4 fun _ s5 ⟨x, H5, I5, r5, y5, st5, fr5⟩ => ?_)
    have I5' := I5.pinned (stat fr5) (T.obj _ _ st5)
    refine wpAny_passesOwn hp (thn (hg _ s5 σ3 H5 x u _ I5' r5 (step x H5 y5)) fun _ s6 ⟨σ6, H6, I6, q6⟩ => ?_)
    refine wpAny_passesOwn hp (thn (hb _ s6 σ6 H6 _ I6 q6) fun f s7 q7 => ?_)
    have again : ∀ {σ7 : St} {H7 : Hp}, Inv X (pins ++ pinsAt fp s5.heap) σ7 H7 s7 → N σ7 H7 → ∃ m, m < n ∧ ∃ i σ' H', Inv X pins σ' H' s7 ∧ tn i s7.heap ∧ (∀ b ∈ fp, H' b = none) ∧ W i m σ' H' := fun {σ7 H7} I7 n7 => by
      obtain ⟨m', hm, w7⟩ := hN σ7 H7 n7
      refine ⟨m', hm, i + 1, σ7, H7, I7.unpinned, T.keep _ _ _ st5 fun b hb o e => (I7.pin (b, o) (List.mem_append_right _ (List.mem_append_right _ (mem_pinsAt hb e)))).1, fun b hb => ?_, w7⟩
      obtain ⟨o, e, d⟩ := T.obj _ _ st5 b hb
      exact (I7.pin (b, o) (List.mem_append_right _ (List.mem_append_right _ (mem_pinsAt hb e)))).2.1
    cases f with
    | next => obtain ⟨σ7, H7, I7, n7⟩ := q7; exact again I7 n7
    | cont => obtain ⟨σ7, H7, I7, n7⟩ := q7; exact again I7 n7
    | brk => obtain ⟨σ7, H7, I7, q7⟩ := q7; exact ⟨σ7, H7, I7.unpinned, q7⟩
    | ret v => obtain ⟨x7, σ7, H7, I7, r7, q7⟩ := q7; exact ⟨x7, σ7, H7, I7.unpinned, r7, q7⟩
end

/-- over a list that the body leaves as it is -/
theorem for_list {K : PySem.W.Frag} {a : Addr} {xs : List V} {g : TG} {tb : TS} {D : Ends} {σ : St} {H : Hp} (Pv : Nat → St → Hp → Prop) (h0 : Pv 0 σ H) (hl : ∀ i σ H, i ≤ xs.length → Pv i σ H → SqL K H a xs)
    (hs : ∀ i x σ H, xs[i]? = some x → Pv i σ H → g x σ H fun σ2 H2 => tb { D with nx := Pv (i + 1), ct := Pv (i + 1), bk := D.nx } σ2 H2) (hd : ∀ σ H, Pv xs.length σ H → D.nx σ H) :
    ∃ W : Nat → Nat → St → Hp → Prop, (∃ m, W 0 m σ H) ∧ ∀ i m σ H, W i m σ H →
      ((Itl K a).stop i H ∧ D.nx σ H) ∨ ((Itl K a).go i H ∧ ∃ N : St → Hp → Prop, (∀ σ' H', N σ' H' → ∃ m', m' < m ∧ W (i + 1) m' σ' H') ∧ ∀ x H', (Itl K a).yld i H x H' → g x σ H' fun σ2 H2 => tb { D with nx := N, ct := N, bk := D.nx } σ2 H2) := by
  refine ⟨fun i m σ H => m = xs.length - i ∧ i ≤ xs.length ∧ Pv i σ H, ⟨xs.length, by simp, Nat.zero_le _, h0⟩, ?_⟩
  rintro i m σ H ⟨rfl, hi, p⟩
  have q := hl i σ H hi p
  by_cases hlt : i < xs.length
  · refine .inr ⟨⟨xs, xs[i], q, by simp [hlt]⟩, Pv (i + 1), fun σ' H' p' => ⟨xs.length - (i + 1), by omega, rfl, hlt, p'⟩, fun x H' y => ?_⟩
    obtain ⟨e, y⟩ := y
    subst e
    exact hs i x σ _ (y xs q) p
  · have e : i = xs.length := by omega
    subst e
    exact .inl ⟨⟨xs, q, Nat.le_refl _⟩, hd σ H p⟩
theorem for_tup {K : PySem.W.Frag} {a : Addr} {xs : List V} {g : TG} {tb : TS} {D : Ends} {σ : St} {H : Hp} (Pv : Nat → St → Hp → Prop) (h0 : Pv 0 σ H) (hl : ∀ i σ H, i ≤ xs.length → Pv i σ H → SqT K H a xs)
    (hs : ∀ i x σ H, xs[i]? = some x → Pv i σ H → g x σ H fun σ2 H2 => tb { D with nx := Pv (i + 1), ct := Pv (i + 1), bk := D.nx } σ2 H2) (hd : ∀ σ H, Pv xs.length σ H → D.nx σ H) :
    ∃ W : Nat → Nat → St → Hp → Prop, (∃ m, W 0 m σ H) ∧ ∀ i m σ H, W i m σ H →
      ((Itt K a).stop i H ∧ D.nx σ H) ∨ ((Itt K a).go i H ∧ ∃ N : St → Hp → Prop, (∀ σ' H', N σ' H' → ∃ m', m' < m ∧ W (i + 1) m' σ' H') ∧ ∀ x H', (Itt K a).yld i H x H' → g x σ H' fun σ2 H2 => tb { D with nx := N, ct := N, bk := D.nx } σ2 H2) := by
  refine ⟨fun i m σ H => m = xs.length - i ∧ i ≤ xs.length ∧ Pv i σ H, ⟨xs.length, by simp, Nat.zero_le _, h0⟩, ?_⟩
  rintro i m σ H ⟨rfl, hi, p⟩
  have q := hl i σ H hi p
  by_cases hlt : i < xs.length
  · refine .inr ⟨⟨xs, xs[i], q, by simp [hlt]⟩, Pv (i + 1), fun σ' H' p' => ⟨xs.length - (i + 1), by omega, rfl, hlt, p'⟩, fun x H' y => ?_⟩
    obtain ⟨e, y⟩ := y
    subst e
    exact hs i x σ _ (y xs q) p
  · have e : i = xs.length := by omega
    subst e
    exact .inl ⟨⟨xs, q, Nat.le_refl _⟩, hd σ H p⟩
theorem for_range {lo : Int} {n : Nat} {g : TG} {tb : TS} {D : Ends} {σ : St} {H : Hp} (Pv : Nat → St → Hp → Prop) (h0 : Pv 0 σ H)
    (hs : ∀ i σ H, i < n → Pv i σ H → g (.int (lo + i)) σ H fun σ2 H2 => tb { D with nx := Pv (i + 1), ct := Pv (i + 1), bk := D.nx } σ2 H2) (hd : ∀ σ H, Pv n σ H → D.nx σ H) :
    ∃ W : Nat → Nat → St → Hp → Prop, (∃ m, W 0 m σ H) ∧ ∀ i m σ H, W i m σ H →
      ((Itr lo n).stop i H ∧ D.nx σ H) ∨ ((Itr lo n).go i H ∧ ∃ N : St → Hp → Prop, (∀ σ' H', N σ' H' → ∃ m', m' < m ∧ W (i + 1) m' σ' H') ∧ ∀ x H', (Itr lo n).yld i H x H' → g x σ H' fun σ2 H2 => tb { D with nx := N, ct := N, bk := D.nx } σ2 H2) := by
  refine ⟨fun i m σ H => m = n - i ∧ i ≤ n ∧ Pv i σ H, ⟨n, by simp, Nat.zero_le _, h0⟩, ?_⟩
  rintro i m σ H ⟨rfl, hi, p⟩
  by_cases hlt : i < n
  · refine .inr ⟨hlt, Pv (i + 1), fun σ' H' p' => ⟨n - (i + 1), by omega, rfl, hlt, p'⟩, fun x H' y => ?_⟩
    obtain ⟨e, y⟩ := y
    subst e y
    exact hs i σ _ hlt p
  · have e : i = n := by omega
    subst e
    exact .inl ⟨Nat.le_refl _, hd σ H p⟩
end L2

namespace L2
open PySem PySem.Spec PyProof.Rows

abbrev R2 := V → V → Hp → VK → Prop
/-- a two-place operation on values: f is binaryOp op, inplaceOp op or compareOp op -/
def OpR (X : Cx) (f : Value → Value → Sem Value) (r : R2) : Prop :=
  ∀ (pins : List (Addr × Obj)) (s : Shared) (σ : St) (H : Hp) (x y : V) (v u : Value) (Q : VK), Inv X pins σ H s → RelV x v → RelV y u → r x y H Q →
    wpAny (model X.prog X.w) X.A (f v u) (EP X pins σ Q) X.xe s
/-- a call of a value that is known (a builtin, a type) with values -/
def CallR (X : Cx) (f : Value) (r : List V → Hp → VK → Prop) : Prop :=
  ∀ (pins : List (Addr × Obj)) (s : Shared) (σ : St) (H : Hp) (xs : List V) (us : List Value) (Q : VK), Inv X pins σ H s → Vals xs us → r xs H Q →
    wpAny (model X.prog X.w) X.A (call f us) (EP X pins σ Q) X.xe s
def tOp (r : R2) (ta tb : TE) : TE := fun σ H Q => ta σ H fun x H1 => tb σ H1 fun y H2 => r x y H2 Q
/-- ints in, under C, and a value out -/
def rI (C : Int → Int → Prop) (g : Int → Int → V) : R2 := fun x y H Q => ∃ i j, x = .int i ∧ y = .int j ∧ C i j ∧ Q (g i j) H
def rI0 (g : Int → Int → V) : R2 := fun x y H Q => ∃ i j, x = .int i ∧ y = .int j ∧ Q (g i j) H
section
variable {X : Cx} {a b c : Expr} {ta tb tc : TE} {pos : Pos}

theorem binT (ha : PE X a ta) (hb : PE X b tb) {pins : List (Addr × Obj)} {s : Shared} {σ : St} {H : Hp} {R : V → V → Hp → Prop} (I : Inv X pins σ H s)
    (h : ta σ H fun x H1 => tb σ H1 fun y H2 => R x y H2) {Q : Value → Shared → Prop} {f : Value → Value → Sem Value}
    (hf : ∀ v u s2 x y H2, Inv X pins σ H2 s2 → RelV x v → RelV y u → R x y H2 → wpAny (model X.prog X.w) X.A (f v u) Q X.xe s2) :
    wpAny (model X.prog X.w) X.A (eval a X.env) (fun v s₁ => wpAny (model X.prog X.w) X.A (eval b X.env) (fun u s₂ => wpAny (model X.prog X.w) X.A (f v u) Q X.xe s₂) X.xe s₁) X.xe s := by
  refine thn (ha pins s σ H _ I h) fun v s1 ⟨x, H1, I1, r1, q1⟩ => ?_
  refine thn (hb pins s1 σ H1 _ I1 q1) fun u s2 ⟨y, H2, I2, r2, q2⟩ => ?_
  exact hf v u s2 x y H2 I2 r1 r2 q2

theorem pe_op {op : Operator} {r : R2} (ho : OpR X (binaryOp op) r) (ha : PE X a ta) (hb : PE X b tb) : PE X (.BinOp a op b pos) (tOp r ta tb) := by
  intro pins s σ H Q I h
  exact wpAny_BinOp (binT ha hb I h fun v u s2 x y H2 I2 rx ry q => ho pins s2 σ H2 x y v u Q I2 rx ry q)
theorem opI {f : Value → Value → Sem Value} {C : Int → Int → Prop} {g : Int → Int → Int}
    (rule : ∀ (i j : Int) (t u : Tok) (s : Shared) (Q : Value → Shared → Prop) (E : Value → Shared → Prop), C i j → Q (.int (g i j) s.toks) { s with toks := s.toks + 1 } → wpAny (model X.prog X.w) X.A (f (.int i t) (.int j u)) Q E s) :
    OpR X f (rI C fun i j => .int (g i j)) := by
  intro pins s σ H x y v u Q I rx ry h
  obtain ⟨i, j, rfl, rfl, hc, q⟩ := h
  obtain ⟨t, rfl⟩ := rx
  obtain ⟨t', rfl⟩ := ry
  exact rule i j t t' s _ _ hc ⟨.int (g i j), H, I.tok _, ⟨_, rfl⟩, q⟩
theorem opI0 {f : Value → Value → Sem Value} {g : Int → Int → Int}
    (rule : ∀ (i j : Int) (t u : Tok) (s : Shared) (Q : Value → Shared → Prop) (E : Value → Shared → Prop), Q (.int (g i j) s.toks) { s with toks := s.toks + 1 } → wpAny (model X.prog X.w) X.A (f (.int i t) (.int j u)) Q E s) :
    OpR X f (rI0 fun i j => .int (g i j)) := by
  intro pins s σ H x y v u Q I rx ry h
  obtain ⟨i, j, rfl, rfl, q⟩ := h
  obtain ⟨t, rfl⟩ := rx
  obtain ⟨t', rfl⟩ := ry
  exact rule i j t t' s _ _ ⟨.int (g i j), H, I.tok _, ⟨_, rfl⟩, q⟩
theorem opB0 {f : Value → Value → Sem Value} {g : Int → Int → Bool}
    (rule : ∀ (i j : Int) (t u : Tok) (s : Shared) (Q : Value → Shared → Prop) (E : Value → Shared → Prop), Q (.bool (g i j)) s → wpAny (model X.prog X.w) X.A (f (.int i t) (.int j u)) Q E s) :
    OpR X f (rI0 fun i j => .bl (g i j)) := by
  intro pins s σ H x y v u Q I rx ry h
  obtain ⟨i, j, rfl, rfl, q⟩ := h
  obtain ⟨t, rfl⟩ := rx
  obtain ⟨t', rfl⟩ := ry
  exact rule i j t t' s _ _ ⟨.bl (g i j), H, I, rfl, q⟩

def CPow (i j : Int) : Prop := 0 ≤ j ∧ j ≤ 1000000 ∧ i.natAbs < 2 ^ 64
def CMul (i j : Int) : Prop := (-(2 ^ 64) < i ∧ i < 2 ^ 64) ∨ (-(2 ^ 64) < j ∧ j < 2 ^ 64)
theorem CMul.ok {i j : Int} (h : CMul i j) : IntMulOk i j := by
  rcases h with ⟨h1, h2⟩ | ⟨h1, h2⟩
  · exact .of_left (intBits_le_64 h1 h2)
  · exact .of_right (intBits_le_64 h1 h2)
theorem op_add : OpR X (binaryOp .Add) (rI0 fun i j => .int (i + j)) := opI0 fun _ _ _ _ _ _ _ q => add_int q
theorem op_sub : OpR X (binaryOp .Sub) (rI0 fun i j => .int (i - j)) := opI0 fun _ _ _ _ _ _ _ q => sub_int q
theorem op_mul : OpR X (binaryOp .Mult) (rI CMul fun i j => .int (i * j)) := opI fun _ _ _ _ _ _ _ hc q => mul_int q hc.ok
/-- % by a positive divisor of any size -/
theorem op_mod : OpR X (binaryOp .Mod) (rI (fun _ j => 0 < j) fun i j => .int (i % j)) := opI fun i j _ _ _ _ _ hc q => by
  have h1 : (0 : Int) < j := hc
  exact mod_int' (by omega) (by rw [Int.fmod_eq_emod_of_nonneg i (by omega)]; exact q)
theorem op_pow : OpR X (binaryOp .Pow) (rI CPow fun i j => .int (i ^ j.toNat)) := opI fun _ _ _ _ _ _ _ hc q => pow_int_small hc.1 hc.2.1 hc.2.2 q
end

/-- the scalars that == tells apart as data does -/
def scal : V → V → Bool
  | .non, .non => true | .non, .int _ => true | .int _, .non => true | .non, .bl _ => true | .bl _, .non => true | .non, .str _ => true | .str _, .non => true
  | .int _, .int _ => true | .bl _, .bl _ => true | .str _, .str _ => true | .byt _, .byt _ => true
  | .int _, .str _ => true | .str _, .int _ => true | .bl _, .str _ => true | .str _, .bl _ => true
  | _, _ => false
def rEq : R2 := fun x y H Q => scal x y = true ∧ Q (.bl (decide (x = y))) H
def rNe : R2 := fun x y H Q => scal x y = true ∧ Q (.bl (!decide (x = y))) H

theorem dec_int {i j : Int} : decide (V.int i = V.int j) = (i == j) := by
  rw [Bool.eq_iff_iff]
  simp
theorem dec_bl {i j : Bool} : decide (V.bl i = V.bl j) = (i == j) := by
  rw [Bool.eq_iff_iff]
  simp
theorem dec_str {i j : Str} : decide (V.str i = V.str j) = (i == j) := by
  rw [Bool.eq_iff_iff]
  simp
theorem dec_byt {i j : Array UInt8} : decide (V.byt i = V.byt j) = (i.toList == j.toList) := by
  rw [Bool.eq_iff_iff]
  cases i
  cases j
  simp

section
variable {X : Cx} {a b c : Expr} {ta tb tc : TE} {pos : Pos}
theorem fin_bl {pins : List (Addr × Obj)} {σ : St} {H : Hp} {s : Shared} {Q : VK} {k k' : Bool} (I : Inv X pins σ H s) (q : Q (.bl k) H) (e : k = k') : EP X pins σ Q (.bool k') s := by
  subst e
  exact ⟨.bl k, H, I, rfl, q⟩
theorem op_eq : OpR X (compareOp .Eq) rEq := by
  intro pins s σ H x y v u Q I rx ry h
  obtain ⟨hs, q⟩ := h
  cases x with
  | non =>
    cases rx
    cases y with
    | non => cases ry; exact PySem.EqNone.eq_none_none (fin_bl I q (by simp))
    | bl j => cases ry; exact PySem.EqNone.eq_none_bool (fin_bl I q (by simp))
    | int j => obtain ⟨t', rfl⟩ := ry; exact PySem.EqNone.eq_none_int (fin_bl I q (by simp))
    | str j => obtain ⟨t', rfl⟩ := ry; exact PySem.EqNone.eq_none_str (fin_bl I q (by simp))
    | _ => exact absurd (show false = true from hs) Bool.false_ne_true
  | bl i =>
    cases rx
    cases y with
    | non => cases ry; exact PySem.EqNone.eq_bool_none (fin_bl I q (by simp))
    | bl j => cases ry; exact eq_bool (fin_bl I q dec_bl)
    | str j => obtain ⟨t', rfl⟩ := ry; exact PySem.EqMixed.eq_bool_str (fin_bl I q (by simp))
    | _ => exact absurd (show false = true from hs) Bool.false_ne_true
  | int i =>
    obtain ⟨t, rfl⟩ := rx
    cases y with
    | non => cases ry; exact PySem.EqNone.eq_int_none (fin_bl I q (by simp))
    | int j => obtain ⟨t', rfl⟩ := ry; exact eq_int (fin_bl I q dec_int)
    | str j => obtain ⟨t', rfl⟩ := ry; exact PySem.EqMixed.eq_int_str (fin_bl I q (by simp))
    | _ => exact absurd (show false = true from hs) Bool.false_ne_true
  | str i =>
    obtain ⟨t, rfl⟩ := rx
    cases y with
    | non => cases ry; exact PySem.EqNone.eq_str_none (fin_bl I q (by simp))
    | bl j => cases ry; exact PySem.EqMixed.eq_str_bool (fin_bl I q (by simp))
    | int j => obtain ⟨t', rfl⟩ := ry; exact PySem.EqMixed.eq_str_int (fin_bl I q (by simp))
    | str j => obtain ⟨t', rfl⟩ := ry; exact eq_str (fin_bl I q dec_str)
    | _ => exact absurd (show false = true from hs) Bool.false_ne_true
  | byt i =>
    obtain ⟨t, rfl⟩ := rx
    cases y with
    | byt j => obtain ⟨t', rfl⟩ := ry; exact PySem.W.eq_bytes (fin_bl I q dec_byt)
    | _ => exact absurd (show false = true from hs) Bool.false_ne_true
  | _ => cases y <;> exact absurd (show false = true from hs) Bool.false_ne_true
theorem op_ne : OpR X (compareOp .NotEq) rNe := by
  intro pins s σ H x y v u Q I rx ry h
  obtain ⟨hs, q⟩ := h
  cases x with
  | non =>
    cases rx
    cases y with
    | non => cases ry; exact PySem.EqNone.ne_none_none (fin_bl I q (by simp))
    | bl j => cases ry; exact PySem.EqNone.ne_none_bool (fin_bl I q (by simp))
    | int j => obtain ⟨t', rfl⟩ := ry; exact PySem.EqNone.ne_none_int (fin_bl I q (by simp))
    | str j => obtain ⟨t', rfl⟩ := ry; exact PySem.EqNone.ne_none_str (fin_bl I q (by simp))
    | _ => exact absurd (show false = true from hs) Bool.false_ne_true
  | bl i =>
    cases rx
    cases y with
    | non => cases ry; exact PySem.EqNone.ne_bool_none (fin_bl I q (by simp))
    | bl j => cases ry; exact ne_bool (fin_bl I q (congrArg not dec_bl))
    | str j => obtain ⟨t', rfl⟩ := ry; exact PySem.EqMixed.ne_bool_str (fin_bl I q (by simp))
    | _ => exact absurd (show false = true from hs) Bool.false_ne_true
  | int i =>
    obtain ⟨t, rfl⟩ := rx
    cases y with
    | non => cases ry; exact PySem.EqNone.ne_int_none (fin_bl I q (by simp))
    | int j => obtain ⟨t', rfl⟩ := ry; exact ne_int (fin_bl I q (congrArg not dec_int))
    | str j => obtain ⟨t', rfl⟩ := ry; exact PySem.EqMixed.ne_int_str (fin_bl I q (by simp))
    | _ => exact absurd (show false = true from hs) Bool.false_ne_true
  | str i =>
    obtain ⟨t, rfl⟩ := rx
    cases y with
    | non => cases ry; exact PySem.EqNone.ne_str_none (fin_bl I q (by simp))
    | bl j => cases ry; exact PySem.EqMixed.ne_str_bool (fin_bl I q (by simp))
    | int j => obtain ⟨t', rfl⟩ := ry; exact PySem.EqMixed.ne_str_int (fin_bl I q (by simp))
    | str j => obtain ⟨t', rfl⟩ := ry; exact ne_str (fin_bl I q (congrArg not dec_str))
    | _ => exact absurd (show false = true from hs) Bool.false_ne_true
  | byt i =>
    obtain ⟨t, rfl⟩ := rx
    cases y with
    | byt j => obtain ⟨t', rfl⟩ := ry; exact PySem.W.ne_bytes (fin_bl I q (congrArg not dec_byt))
    | _ => exact absurd (show false = true from hs) Bool.false_ne_true
  | _ => cases y <;> exact absurd (show false = true from hs) Bool.false_ne_true

theorem op_lt : OpR X (compareOp .Lt) (rI0 fun i j => .bl (decide (i < j))) := opB0 fun _ _ _ _ _ _ _ q => lt_int q
theorem op_le : OpR X (compareOp .LtE) (rI0 fun i j => .bl (decide (i ≤ j))) := opB0 fun _ _ _ _ _ _ _ q => le_int q
theorem op_gt : OpR X (compareOp .Gt) (rI0 fun i j => .bl (decide (j < i))) := opB0 fun _ _ _ _ _ _ _ q => gt_int q
theorem op_ge : OpR X (compareOp .GtE) (rI0 fun i j => .bl (decide (j ≤ i))) := opB0 fun _ _ _ _ _ _ _ q => ge_int q
/-- is None, is not None: the right side a value none -/
theorem op_isN : OpR X (compareOp .Is) (fun x y H Q => y = .non ∧ Q (.bl (decide (x = .non))) H) := by
  intro pins s σ H x y v u Q I rx ry h
  obtain ⟨rfl, q⟩ := h
  cases ry
  refine is_none_gen (fin_bl I q ?_)
  cases x <;> first
    | (cases rx; rfl)
    | (obtain ⟨t, rfl⟩ := rx; rfl)
theorem op_notN : OpR X (compareOp .IsNot) (fun x y H Q => y = .non ∧ Q (.bl (!decide (x = .non))) H) := by
  intro pins s σ H x y v u Q I rx ry h
  obtain ⟨rfl, q⟩ := h
  cases ry
  refine isnot_none_gen (fin_bl I q ?_)
  cases x <;> first
    | (cases rx; rfl)
    | (obtain ⟨t, rfl⟩ := rx; rfl)

theorem nomark (b : Expr) {op : CmpOp} (h : op ≠ .In := by decide) (h2 : op ≠ .NotIn := by decide) : behindInMarks op b = false := by
  have e1 : (op == CmpOp.In) = false := by cases op <;> first | rfl | exact absurd rfl h
  have e2 : (op == CmpOp.NotIn) = false := by cases op <;> first | rfl | exact absurd rfl h2
  cases b <;> simp [behindInMarks, e1, e2]
/-- a comparison as a value; hm: nomark b, or (for in, not in) by with_unfolding_all rfl -/
theorem pe_cmpR {op : CmpOp} {r : R2} (ho : OpR X (compareOp op) r) (ha : PE X a ta) (hb : PE X b tb) (hm : behindInMarks op b = false) : PE X (.Compare a [op] [b] pos) (tOp r ta tb) := by
  intro pins s σ H Q I h
  exact wpAny_Compare1 (binT ha hb I h fun v u s2 x y H2 I2 rx ry q => ho pins s2 σ H2 x y v u Q I2 rx ry q) hm
/-- a reading of a value as a test -/
def tTest (t : TE) : TT := fun σ H Q => t σ H fun x H' => ∃ k, x = .bl k ∧ Q k H'
theorem pt_cmpR {op : CmpOp} {r : R2} (ho : OpR X (compareOp op) r) (ha : PE X a ta) (hb : PE X b tb) (hm : behindInMarks op b = false) : PT X (.Compare a [op] [b] pos) (tTest (tOp r ta tb)) := by
  intro pins s σ H Q I h
  refine wpAny_isTrue_Compare1 (thn (ha pins s σ H _ I h) fun v s1 ⟨x, H1, I1, r1, q1⟩ => thn (hb pins s1 σ H1 _ I1 q1) fun u s2 ⟨y, H2, I2, r2, q2⟩ =>
    thn (ho pins s2 σ H2 x y v u _ I2 r1 r2 q2) fun c s3 ⟨z, H3, I3, r3, k, e, q3⟩ => ?_) hm
  subst e
  cases r3
  exact wpAny_truthy_bool ⟨H3, I3, q3⟩
/-- a op1 b op2 c -/
def tChain (r r' : R2) (ta tb tc : TE) : TE := fun σ H Q => ta σ H fun x H1 => tb σ H1 fun y H2 => r x y H2 fun z H3 => ∃ k, z = .bl k ∧
  (if k = true then tc σ H3 fun w' H4 => r' y w' H4 Q else Q (.bl false) H3)
theorem pt_chain {op op' : CmpOp} {r r' : R2} (ho : OpR X (compareOp op) r) (ho' : OpR X (compareOp op') r') (ha : PE X a ta) (hb : PE X b tb) (hc : PE X c tc)
    (hm : lastMarks [op, op'] [b, c] = false := by with_unfolding_all rfl) : PT X (.Compare a [op, op'] [b, c] pos) (tTest (tChain r r' ta tb tc)) := by
  intro pins s σ H Q I h
  refine isTrue_chain (thn (ha pins s σ H _ I h) fun v s1 ⟨x, H1, I1, r1, q1⟩ => test_link (thn (hb pins s1 σ H1 _ I1 q1) fun u s2 ⟨y, H2, I2, r2, q2⟩ =>
    thn (ho pins s2 σ H2 x y v u _ I2 r1 r2 q2) fun d s3 ⟨z, H3, I3, r3, k, e, q3⟩ => ?_)) hm
  subst e
  cases r3
  refine wpAny_truthy_bool ?_
  cases k with
  | false =>
    obtain ⟨k', e', q'⟩ := q3
    cases e'
    exact ite_ff ⟨H3, I3, q'⟩
  | true =>
    refine ite_tt (test_last (thn (hc pins s3 σ H3 _ I3 q3) fun w' s4 ⟨z', H4, I4, r4, q4⟩ => thn (ho' pins s4 σ H4 y z' u w' _ I4 r2 r4 q4) fun d' s5 ⟨z2, H5, I5, r5, k2, e2, q5⟩ => ?_))
    subst e2
    cases r5
    exact wpAny_truthy_bool ⟨H5, I5, q5⟩

theorem line63 : (sizeLine : Nat) < 2 ^ 63 := by rw [sizeLine_eq]; decide
theorem op_add_str : OpR X (binaryOp .Add) (fun x y H Q => ∃ i j, x = .str i ∧ y = .str j ∧ i.length + j.length ≤ sizeLine ∧ Q (.str (i ++ j)) H) := by
  intro pins s σ H x y v u Q I rx ry h
  obtain ⟨i, j, rfl, rfl, hz, q⟩ := h
  obtain ⟨t, rfl⟩ := rx
  obtain ⟨t', rfl⟩ := ry
  exact add_str (fun t' tk => ⟨.str (i ++ j), H, I.tok _, ⟨_, rfl⟩, q⟩) hz
theorem vals1 {x : V} {us : List Value} (r : Vals [x] us) : ∃ u, us = [u] ∧ RelV x u := by
  cases r with
  | cons r1 r2 => cases r2; exact ⟨_, rfl, r1⟩
theorem vals2 {x y : V} {us : List Value} (r : Vals [x, y] us) : ∃ u w', us = [u, w'] ∧ RelV x u ∧ RelV y w' := by
  cases r with
  | cons r1 r2 =>
    cases r2 with
    | cons r3 r4 => cases r4; exact ⟨_, _, rfl, r1, r3⟩
theorem call_max2 (hc : X.calm = true) : CallR X (.builtin "max") (fun xs H Q => ∃ i j, xs = [.int i, .int j] ∧ Q (.int (if j > i then j else i)) H) := by
  intro pins s σ H xs us Q I r h
  obtain ⟨i, j, rfl, q⟩ := h
  obtain ⟨u, w', rfl, ⟨t, rfl⟩, ⟨t', rfl⟩⟩ := vals2 r
  refine max_two_ints (I.ok.hd hc) fun h' tk k => ⟨_, H, I.kept k, ?_, q⟩
  by_cases hj : j > i
  · rw [if_pos hj, if_pos hj]; exact ⟨_, rfl⟩
  · rw [if_neg hj, if_neg hj]; exact ⟨_, rfl⟩
theorem call_min2 (hc : X.calm = true) : CallR X (.builtin "min") (fun xs H Q => ∃ i j, xs = [.int i, .int j] ∧ Q (.int (if j < i then j else i)) H) := by
  intro pins s σ H xs us Q I r h
  obtain ⟨i, j, rfl, q⟩ := h
  obtain ⟨u, w', rfl, ⟨t, rfl⟩, ⟨t', rfl⟩⟩ := vals2 r
  refine min_two_ints (I.ok.hd hc) fun h' tk k => ⟨_, H, I.kept k, ?_, q⟩
  by_cases hj : j < i
  · rw [if_pos hj, if_pos hj]; exact ⟨_, rfl⟩
  · rw [if_neg hj, if_neg hj]; exact ⟨_, rfl⟩
theorem call_int1 : CallR X (.type "int") (fun xs H Q => (∃ i, xs = [.int i] ∧ Q (.int i) H) ∨ ∃ k, xs = [.bl k] ∧ Q (.int (if k then 1 else 0)) H) := by
  intro pins s σ H xs us Q I r h
  rcases h with ⟨i, rfl, q⟩ | ⟨k, rfl, q⟩
  · obtain ⟨u, rfl, t, rfl⟩ := vals1 r
    exact call_int_int ⟨.int i, H, I, ⟨_, rfl⟩, q⟩
  · obtain ⟨u, rfl, r1⟩ := vals1 r
    cases r1
    exact call_int_bool ⟨.int (if k then 1 else 0), H, I.tok _, ⟨_, rfl⟩, q⟩
end
end L2

namespace L2
open PySem PySem.Spec PyProof.Rows

structure ObjM (h : Heap) (x dx C : Addr) (mA : Str → Option Value) : Prop where
  obj : h.get? x = some (PySem.W.instObj C dx)
  ns : h.Ns1 dx mA
  ne : dx ≠ x

theorem lookIn_ns {h : Heap} {dx : Addr} {mA : Str → Option Value} (n : h.Ns1 dx mA) : ∃ od, h.get? dx = some od ∧ ∀ name, PySem.W.lookIn name od = some (mA name) := by
  obtain ⟨o, es, ep, ho, hd, hk, _, hm⟩ := n
  refine ⟨o, ho, fun name => ?_⟩
  have e := hm name
  unfold nsFind findBy at e
  rw [← Array.find?_toList] at e
  unfold PySem.W.lookIn
  rw [hd]
  dsimp only
  split
  · rename_i y q
    rw [q] at e
    exact congrArg some e
  · rename_i q
    rw [q] at e
    have a : es.toList.any (·.refKey) = false := by
      rw [List.any_eq_false]
      intro y hy
      obtain ⟨z, t, hkey⟩ := hk y (Array.mem_toList_iff.mp hy)
      simp [DictEntry.refKey, hkey]
    have a' : ¬ es.toList.any (·.refKey) = true := by rw [a]; exact Bool.false_ne_true
    rw [if_neg a']
    exact congrArg some e

theorem ObjM.look {h : Heap} {x dx C : Addr} {mA : Str → Option Value} (I : ObjM h x dx C mA) : ∃ od, PySem.W.InstAt h x (PySem.W.instObj C dx) C (some od) ∧ ∀ name, PySem.W.lookIn name od = some (mA name) :=
  let ⟨od, ho, hl⟩ := lookIn_ns I.ns
  ⟨od, ⟨I.obj, rfl, rfl, ho⟩, hl⟩

section
variable {prog : Program} {w : World} {A : Around} {E : Value → Shared → Prop} {s : Shared} {K : PySem.W.Frag} {x dx C f : Addr} {mA : Str → Option Value} {name : Str} {v : Value}

end

theorem RelO.some_of {v : V} {o : Option Value} (r : RelO (some v) o) : ∃ u, o = some u ∧ RelV v u := by
  cases o with
  | none => exact (show False from r).elim
  | some u => exact ⟨u, rfl, r⟩
section
variable {P : Program} {w : World} {H H' : Hp} {h h' : Heap} {a C dx : Addr} {fs fs' : List (Str × V)}
theorem ins_get (hok : HOk P w H h) (e : H a = some (.ins C dx fs)) : ∃ mA, ObjM h a dx C mA ∧ (∀ f, RelO (fs.lookup f) (mA f)) ∧ PySem.Within mA (fs.map (·.1)) ∧ fs.length ≤ 1000 ∧ H dx = some (.own a) := by
  obtain ⟨d, z, ne, ob, mA, n, r, q⟩ := (show ObjOk P w H h a (.ins C dx fs) from hok a _ e)
  exact ⟨mA, ⟨ob, n, ne⟩, r, q, z, d⟩
end

structure Cls (K : PySem.W.Frag) (C : Addr) : Prop where
  pg : PySem.W.plainGet K C Str.empty = true
  hd : PySem.W.hasDictIn K C = true
  po : PySem.W.plainOver K C = true
  sa : PySem.W.findIn K (.ref C) "__setattr__" = some (some (.builtin "object.__setattr__"))
theorem Cls.get {K : PySem.W.Frag} {C : Addr} (c : Cls K C) (f : Str) : PySem.W.plainGet K C f = true := c.pg
section
variable {X : Cx} {pins : List (Addr × Obj)} {σ : St} {H : Hp} {s : Shared} {a C dx : Addr} {fs : List (Str × V)} {f : Str} {v : V} {A : Around} {E : Value → Shared → Prop}

end

section
variable {X : Cx} {o e value : Expr} {f : Str} {pos pos' tpos : Pos} {ta tv : TE}
end

section
variable {X : Cx} {pins : List (Addr × Obj)} {σ : St} {H : Hp} {s : Shared} {A : Around} {E : Value → Shared → Prop} {Q : Value → Shared → Prop} {c : Value} {b : Bool}
/-- the type of a value, as the fragment's deciders take it; for an instance its class -/
inductive TyOf (K : PySem.W.Frag) (H : Hp) : V → Value → Prop where
  | non : TyOf K H .non (.type "NoneType")
  | bl (x : Bool) : TyOf K H (.bl x) (.type "bool")
  | int (i : Int) : TyOf K H (.int i) (.type "int")
  | str (x : Str) : TyOf K H (.str x) (.type "str")
  | flt (x : UInt64) : TyOf K H (.flt x) (.type "float")
  | lst {a : Addr} {xs : List V} (e : H a = some (.lst xs)) : TyOf K H (.ref a) (.type "list")
  | frz {a : Addr} {o : Obj} {xs : List V} (e : H a = some (.frz o (.lst xs))) : TyOf K H (.ref a) (.type "list")
  | tup {a : Addr} {xs : List V} (e : H a = some (.tup xs)) : TyOf K H (.ref a) (.type "tuple")
  | dK {a : Addr} {kvs : List (Key × V)} (e : H a = some (.dK kvs)) : TyOf K H (.ref a) (.type "dict")
  | dT {a : Addr} {kvs : List (List Key × V)} (e : H a = some (.dT kvs)) : TyOf K H (.ref a) (.type "dict")
  | ins {a C dx : Addr} {fs : List (Str × V)} (e : H a = some (.ins C dx fs)) (cl : Cls K C) (ha : PySem.W.findIn K (.ref C) "__class__" = some (some (.builtin "object.__class__")))
      (hn : PySem.W.specialIn K (.builtin "object.__class__") "__get__" = some (some (.builtin "getset_descriptor.__get__"))) (htk : PySem.W.takesIn K (.builtin "object.__class__") = some true)
      (hm : PySem.W.mroIn K C (.type "object") = some true) : TyOf K H (.ref a) (.ref C)
/-- isinstance(x, c) for one class c, a built-in or an own one: kitOne's answer -/
theorem isinst_ok {x : V} {u t : Value} (I : Inv X pins σ H s) (rx : RelV x u) (ty : TyOf X.K H x t) (e : PySem.W.kitOne X.K t c = some b) (h : ∀ tk, Q (.bool b) { s with toks := tk }) :
    wpAny (model X.prog X.w) A (call (.builtin "isinstance") [u, c]) Q E s := by
  cases ty with
  | non => cases (show u = Value.none from rx); exact PySem.W.kia_one PySem.W.kitx_none I.kIn True.intro e (fun z => nomatch z) h
  | bl y => cases (show u = Value.bool y from rx); exact PySem.W.kia_one PySem.W.kitx_bool I.kIn True.intro e (fun z => nomatch z) h
  | int i => obtain ⟨t, q⟩ := (show ∃ t, u = Value.int i t from rx); cases q; exact PySem.W.kia_one PySem.W.kitx_int I.kIn True.intro e (fun z => nomatch z) h
  | str y => obtain ⟨t, q⟩ := (show ∃ t, u = Value.str y t from rx); cases q; exact PySem.W.kia_one PySem.W.kitx_str I.kIn True.intro e (fun z => nomatch z) h
  | flt y => obtain ⟨t, q⟩ := (show ∃ t, u = Value.float y t from rx); cases q; exact PySem.W.kia_one PySem.W.kitx_float I.kIn True.intro e (fun z => nomatch z) h
  | @lst a xs ea =>
    cases (show u = Value.ref a from rx)
    obtain ⟨_, _, n, _, h1⟩ := (show ObjOk X.prog X.w H s.heap a (.lst xs) from I.hok a _ ea)
    exact PySem.W.kia_one PySem.W.kitx_list I.kIn ⟨_, h1, rfl⟩ e (fun z => nomatch z) h
  | @frz a ob xs ea =>
    cases (show u = Value.ref a from rx)
    obtain ⟨_, _, _, n, _, h1⟩ := (show ObjOk X.prog X.w H s.heap a (.frz ob (.lst xs)) from I.hok a _ ea)
    exact PySem.W.kia_one PySem.W.kitx_list I.kIn ⟨_, h1, rfl⟩ e (fun z => nomatch z) h
  | @tup a xs ea =>
    cases (show u = Value.ref a from rx)
    obtain ⟨_, _, _, p⟩ := (show ObjOk X.prog X.w H s.heap a (.tup xs) from I.hok a _ ea)
    obtain ⟨o, h1, h2, _⟩ := p
    exact PySem.W.kia_one PySem.W.kitx_tuple I.kIn ⟨o, h1, h2⟩ e (fun z => nomatch z) h
  | @dK a kvs ea =>
    cases (show u = Value.ref a from rx)
    obtain ⟨_, _, vs, _, p⟩ := (show ObjOk X.prog X.w H s.heap a (.dK kvs) from I.hok a _ ea)
    obtain ⟨o, es, ep, h1, h2, _⟩ := p
    exact PySem.W.kia_one PySem.W.kitx_dict I.kIn ⟨o, h1, h2.1⟩ e (fun z => nomatch z) h
  | @dT a kvs ea =>
    cases (show u = Value.ref a from rx)
    obtain ⟨_, _, xs, _, o, es, ep, h1, h2, _⟩ := (show ObjOk X.prog X.w H s.heap a (.dT kvs) from I.hok a _ ea)
    exact PySem.W.kia_one PySem.W.kitx_dict I.kIn ⟨o, h1, h2.1⟩ e (fun z => nomatch z) h
  | @ins a C dx fs ea cl ha hn htk hm =>
    cases (show u = Value.ref a from rx)
    obtain ⟨mA, O, _⟩ := ins_get I.hok ea
    obtain ⟨od, J, _⟩ := O.look
    exact PySem.W.kia_one (PySem.W.kitx_own (cl.get _) cl.hd ha hn htk hm) I.kIn J e (fun z => nomatch z) h
end
end L2

namespace L2
open PySem PySem.Spec PyProof.Rows

structure Room (k : Nat) (A : Around) : Prop where
  hd : A.handled = none
  dp : A.depth + 3 * k + 5 < recursionLimit
  un : A.units + 16 * k + 200 < cLine
theorem Room.mono {j k : Nat} {A : Around} (r : Room k A) (h : j ≤ k) : Room j A := ⟨r.hd, by have := r.dp; omega, by have := r.un; omega⟩
theorem Room.deeper {k : Nat} {A : Around} (r : Room (k + 1) A) (env : Env) : Room k (A.deeper env) :=
  ⟨r.hd, by have := r.dp; show A.depth + 1 + 3 * k + 5 < _; omega, by have := r.un; show A.units + 3 + 16 * k + 200 < _; omega⟩
theorem Room.depth {k : Nat} {A : Around} (r : Room k A) : A.depth < recursionLimit := by have := r.dp; omega
theorem Room.units {k : Nat} {A : Around} (r : Room k A) : A.units + 64 < cLine := by have := r.un; omega
def tNil : TA := fun _ H Q => Q [] H
def tCons (ta : TE) (tr : TA) : TA := fun σ H Q => ta σ H fun x H1 => tr σ H1 fun xs H2 => Q (x :: xs) H2
section
variable {X : Cx} {e : Expr} {es : List Expr} {te : TE} {t : TA} {pos : Pos}
theorem pa_nil : PA X [] tNil := fun _ _ _ _ H Q I h => Calls.spliced_nil ⟨[], H, I, .nil, h⟩
theorem pa_cons (ha : PE X e te) (hr : PA X es t) (hs : starEach (e :: es) X.env = (false, eval e X.env) :: starEach es X.env := by rfl) : PA X (e :: es) (tCons te t) := by
  intro pos pins s σ H Q I h
  rw [hs]
  show wpAny _ _ (spliced ((false, eval e X.env) :: backTo pos (starEach es X.env))) _ _ s
  refine Calls.spliced_cons (thn (ha pins s σ H _ I h) fun u s1 ⟨x, H1, I1, r1, q1⟩ => ?_)
  exact thn (hr pos pins s1 σ H1 _ I1 q1) fun us s2 ⟨xs, H2, I2, r2, q2⟩ => ⟨x :: xs, H2, I2, .cons r1 r2, q2⟩

/-- a tuple, a list of written items -/
def tTup (t : TA) : TE := fun σ H Q => t σ H fun xs H1 => xs.length ≤ sizeLine ∧ ∀ p, H1 p = none → Q (.ref p) (upd H1 p (.tup xs))
def tLst (t : TA) : TE := fun σ H Q => t σ H fun xs H1 => xs.length ≤ sizeLine ∧ ∀ p, H1 p = none → Q (.ref p) (upd H1 p (.lst xs))
theorem pe_tup {x1} (h : PA X es t) : PE X (.Tuple es x1 pos) (tTup t) := by
  intro pins s σ H Q I hq
  refine wpAny_Tuple_spliced (thn (h pos pins s σ H _ I hq) fun us s1 ⟨xs, H1, I1, r, z, q⟩ => ⟨by rw [← r.length]; exact z, ?_⟩)
  have hf : H1 s1.heap.objs.size = none := I1.hok.fresh (Nat.le_refl _)
  refine ⟨.ref s1.heap.objs.size, upd H1 s1.heap.objs.size (.tup xs), I1.laid (t' := s1.toks) (fun b u e => Heap.get?_push_of_some _ e) (Nat.le_refl _) ?_, rfl, q _ hf⟩
  exact ⟨z, us, r, ⟨_, Heap.get?_push_size _ rfl, rfl, _, rfl, rfl⟩⟩
theorem pe_lst (h : PA X es t) : PE X (.List es pos) (tLst t) := by
  intro pins s σ H Q I hq
  refine wpAny_List_spliced (thn (h pos pins s σ H _ I hq) fun us s1 ⟨xs, H1, I1, r, z, q⟩ => ⟨by rw [← r.length]; exact z, ?_⟩)
  have hf : H1 s1.heap.objs.size = none := I1.hok.fresh (Nat.le_refl _)
  refine ⟨.ref s1.heap.objs.size, upd H1 s1.heap.objs.size (.lst xs), I1.laid (t' := s1.toks) (fun b u e => Heap.get?_push_of_some _ e) (Nat.le_refl _) ?_, rfl, q _ hf⟩
  exact ⟨z, us, 0, r, Heap.get?_push_size _ rfl⟩
end

/-- a def's promise: the bound arguments in the parameters' order, the heap, the wanted end, the wanted exception -/
abbrev Sp := List V → Hp → VK → XK → Prop
/-- how an exception lies behind a call (file 08 gives it): the callers' frames, abstract heap and state ahead of the call, the wish, the exception, the state -/
abbrev CXT := List Env → Hp → Shared → XK → Value → Shared → Prop

/-- the state at a call -/
structure Env0 (P : Program) (w : World) (K : PySem.W.Frag) (mg : Str → Option Value) (base : Heap) (A : Around) (outer : List Env) (s : Shared) (H : Hp) : Prop where
  frames : A.frames = some outer
  mod : Mod K mg base
  bs : ∀ b o, base.get? b = some o → s.heap.get? b = some o ∧ H b = none
  bsz : base.objs.size ≤ s.heap.objs.size
  funs : s.heap.FunFrames base outer
  frf : ∀ b ∈ frs outer, H b = none
  hok : HOk P w H s.heap
  bare : AllBare s.gens
/-- a call's end -/
def CE (outer : List Env) (P : Program) (w : World) (H : Hp) (s : Shared) (Q : VK) (u : Value) (s' : Shared) : Prop :=
  ∃ v H', s'.os = s.os ∧ AllBare s'.gens ∧ Un (frs outer) [] H H' s.heap s'.heap ∧ HOk P w H' s'.heap ∧ RelV v u ∧ Q v H'
def CR (CX : CXT) (outer : List Env) (P : Program) (w : World) (H : Hp) (s : Shared) (Q : VK) (E : XK) (r : Result) (s' : Shared) : Prop :=
  match r with
  | .ok (.ret u) => CE outer P w H s Q u s'
  | .ok _ => False
  | .error e => CX outer H s E e s'
structure FnOk (P : Program) (w : World) (K : PySem.W.Frag) (mg : Str → Option Value) (base : Heap) (CX : CXT) (k : Nat) (f : Addr) (fd : FuncData) (ps : List Str) (sp : Sp) : Prop where
  len : ∀ vs H Q E, sp vs H Q E → vs.length = ps.length
  run : ∀ (A : Around) (outer : List Env) (s : Shared) (H : Hp) (args : Args) (us : List Value) (vs : List V) (Q : VK) (E : XK), Room k A → Env0 P w K mg base A outer s H → BindsTo s fd args (ps.zip us) → Vals vs us → sp vs H Q E →
    codeAny (model P w) A (.call (.ref f) args) (CR CX outer P w H s Q E) s
theorem FnOk.mono {P : Program} {w : World} {K : PySem.W.Frag} {mg : Str → Option Value} {base : Heap} {CX : CXT} {j k : Nat} {f : Addr} {fd : FuncData} {ps : List Str} {sp : Sp} (F : FnOk P w K mg base CX j f fd ps sp) (h : j ≤ k) :
    FnOk P w K mg base CX k f fd ps sp := ⟨F.len, fun A outer s H args us vs Q E hr => F.run A outer s H args us vs Q E (hr.mono h)⟩
/-- a weaker promise -/
theorem FnOk.imp {P : Program} {w : World} {K : PySem.W.Frag} {mg : Str → Option Value} {base : Heap} {CX : CXT} {k : Nat} {f : Addr} {fd : FuncData} {ps : List Str} {sp sp' : Sp} (F : FnOk P w K mg base CX k f fd ps sp)
    (h : ∀ vs H Q E, sp' vs H Q E → sp vs H Q E) : FnOk P w K mg base CX k f fd ps sp' :=
  ⟨fun vs H Q E q => F.len vs H Q E (h _ _ _ _ q), fun A outer s H args us vs Q E hr he hb hv hs => F.run A outer s H args us vs Q E hr he hb hv (h _ _ _ _ hs)⟩

section
variable {X : Cx} {pins : List (Addr × Obj)} {σ : St} {H : Hp} {s s' : Shared}
/-- from a body: what a callee wants -/
theorem Inv.env0 (I : Inv X pins σ H s) : Env0 X.prog X.w X.K X.mg X.base X.A X.stack s H :=
  ⟨I.ok.frames, I.ok.mod, I.bs, Nat.le_trans I.ok.bsz I.sz, I.stack, I.stkFree, I.hok, I.bare⟩
/-- behind a call -/
theorem Inv.after {Q : VK} {u : Value} (I : Inv X pins σ H s) (h : CE X.stack X.prog X.w H s Q u s') : EP X pins σ Q u s' := by
  obtain ⟨v, H', os, bare, un, hok, r, q⟩ := h
  obtain ⟨hh, g, d, t, os'⟩ := s'
  obtain rfl : os' = s.os := os
  exact ⟨v, H', I.call (h' := hh) (g' := g) (d' := d) (t' := t) (ch := []) un hok bare (fun b z => absurd z (by simp)), r, q⟩
end

/-- f(..): the written arguments, then the defaults dvs; E: what is wanted of an exception -/
def tCall (sp : Sp) (dvs : List V) (E : XK) (t : TA) : TE := fun σ H Q => t σ H fun vs H1 => sp (vs ++ dvs) H1 Q E
/-- how the parameters are bound: us the positional arguments, kw the keywords' values by name, ds the defaults that fill up -/
def Binds (K : PySem.W.Frag) (fd : FuncData) (ps : List Str) (ds : List Value) : Prop :=
  ∀ (s : Shared) (us : List Value), K.In s.heap → (us ++ ds).length = ps.length → BindsTo s fd ⟨us, []⟩ (ps.zip (us ++ ds))
/-- every parameter is given -/
theorem Binds.all {K : PySem.W.Frag} {fd : FuncData} {ps : List Str} (h : ∀ us : List Value, us.length = ps.length → bindArgs fd ⟨us, []⟩ = pure (ps.zip us)) : Binds K fd ps [] := fun s us _ hl => by
  rw [List.append_nil] at hl ⊢
  exact .of_eq (h us hl)

/-- an exception of a callee reaches what this body wants of exceptions -/
def Passes (CX : CXT) (X : Cx) (E : XK) : Prop := ∀ (pins : List (Addr × Obj)) (σ : St) (H : Hp) (s : Shared) (e : Value) (s' : Shared), Inv X pins σ H s → CX X.stack H s E e s' → X.xe e s'

section
variable {X : Cx} {CX : CXT} {k : Nat} {f C : Addr} {fd : FuncData} {ps : List Str} {sp : Sp} {dvs : List V} {ds : List Value} {E : XK} {x m : Str} {p pos apos : Pos} {e o : Expr} {es : List Expr} {ta : TE} {t : TA}

/-- the callee runs -/
theorem run_fn {pins : List (Addr × Obj)} {σ : St} {H : Hp} {s : Shared} {Q : VK} {us : List Value} {vs : List V} (F : FnOk X.prog X.w X.K X.mg X.base CX k f fd ps sp) (hr : Room k X.A) (hb : Binds X.K fd ps ds) (hd : Vals dvs ds) (hx : Passes CX X E)
    (I : Inv X pins σ H s) (r : Vals vs us) (h : sp (vs ++ dvs) H Q E) : wpAny (model X.prog X.w) X.A (call (.ref f) us) (EP X pins σ Q) X.xe s := by
  have r2 : Vals (vs ++ dvs) (us ++ ds) := r.append hd
  have hl : (us ++ ds).length = ps.length := by rw [← r2.length]; exact F.len _ _ _ _ h
  refine wpAny_call (codeAny_mono (F.run X.A X.stack s H ⟨us, []⟩ (us ++ ds) (vs ++ dvs) Q E hr I.env0 (hb s us I.kIn hl) r2 h) fun r s' hq => ?_)
  cases r with
  | error e => exact hx pins σ H s e s' I hq
  | ok fl =>
    cases fl with
    | ret u => exact I.after hq
    | next => exact False.elim hq
    | brk => exact False.elim hq
    | cont => exact False.elim hq

theorem pe_call (F : FnOk X.prog X.w X.K X.mg X.base CX k f fd ps sp) (hr : Room k X.A) (hg : Gl X x) (hm : X.mg x = some (.ref f)) (hk : PySem.W.keepIn X.K (.ref f) = true) (hb : Binds X.K fd ps ds) (hd : Vals dvs ds) (hx : Passes CX X E)
    (ha : PA X (e :: es) t) (hdb : (x == ("__debug__" : Str)) = false := by decide) (he : starEach (e :: es) X.env = (false, eval e X.env) :: starEach es X.env := by rfl) (hpl : (backTo pos (starEach es X.env)).any (·.1) = false := by rfl) :
    PE X (.Call (.Name x p) (e :: es) [] pos) (tCall sp dvs E t) := by
  intro pins s σ H Q I h
  refine wpAny_Call_Name_kw (ld_glob I hg hm ?_ hdb)
  refine PySem.W.callWith_K (h₀ := X.base) I.ok.mod.kin hk (thn (ha pos pins s σ H _ I h) fun us s1 ⟨vs, H1, I1, r, q⟩ => ⟨I1.kIn, ?_⟩) he hpl
  exact run_fn F hr hb hd hx I1 r q
end

section
variable {X : Cx} {CX : CXT} {k : Nat} {f C : Addr} {fd : FuncData} {ps ks : List Str} {sp : Sp} {E : XK} {x m : Str} {p pos apos kpos : Pos} {e o : Expr} {es : List Expr} {kws : List Keyword} {te ta : TE} {t tk : TA} {nm : Option Str}
variable {g : List Value → List Value → List Value} {gV : List V → List V → List V}
end

/-- names: the parameters first -/
structure FnScope (N P : List Str) (sc : Scope) : Prop where
  kind : sc.kind = .function
  co : sc.isCoroutine = false
  gen : sc.isGenerator = false
  nd : N.Nodup
  pre : N.take P.length = P
  par : ∀ x ∈ P, sc.names.lookup x = some .local ∨ sc.names.lookup x = some .cell
  nofree : ∀ y ∈ sc.names, y.2 ≠ .free

theorem bindL_out {kindOf : Str → Option NameKind} {x : Str} : ∀ {binds : List (Str × Value)} {m : Str → Option Value}, (∀ v, (x, v) ∉ binds) → bindL kindOf binds m x = m x
  | [], _, _ => rfl
  | (n, v) :: r, m, h => by
    unfold bindL
    rw [bindL_out fun w hw => h w (List.mem_cons_of_mem _ hw)]
    split
    · have : x ≠ n := by rintro rfl; exact h v List.mem_cons_self
      simp [this]
    · rfl
theorem bindC_out {kindOf : Str → Option NameKind} {x : Str} : ∀ {binds : List (Str × Value)} {m : Str → Option Value}, (∀ v, (x, v) ∉ binds) → bindC kindOf binds m x = m x
  | [], _, _ => rfl
  | (n, v) :: r, m, h => by
    unfold bindC
    rw [bindC_out fun w hw => h w (List.mem_cons_of_mem _ hw)]
    split
    · rfl
    · have : x ≠ n := by rintro rfl; exact h v List.mem_cons_self
      simp [this]
theorem bindL_get {kindOf : Str → Option NameKind} {x : Str} {v : Value} : ∀ {P : List Str} {vs : List Value} {i : Nat} {m : Str → Option Value}, P.Nodup → P[i]? = some x → vs[i]? = some v → kindOf x = some .local →
    bindL kindOf (P.zip vs) m x = some v
  | [], _, _, _, _, h, _, _ => by simp at h
  | _ :: _, [], _, _, _, _, h, _ => by simp at h
  | p :: P, w :: vs, 0, m, nd, h1, h2, hk => by
    simp at h1 h2; subst h1; subst h2
    show bindL kindOf ((p, w) :: P.zip vs) m p = _
    unfold bindL
    rw [bindL_out fun v hv => (List.nodup_cons.mp nd).1 (List.of_mem_zip hv).1, if_pos hk]
    simp
  | p :: P, w :: vs, i + 1, m, nd, h1, h2, hk => by
    show bindL kindOf ((p, w) :: P.zip vs) m x = _
    unfold bindL
    exact bindL_get (i := i) (List.nodup_cons.mp nd).2 (by simpa using h1) (by simpa using h2) hk
theorem bindC_get {kindOf : Str → Option NameKind} {x : Str} {v : Value} : ∀ {P : List Str} {vs : List Value} {i : Nat} {m : Str → Option Value}, P.Nodup → P[i]? = some x → vs[i]? = some v → kindOf x ≠ some .local →
    bindC kindOf (P.zip vs) m x = some v
  | [], _, _, _, _, h, _, _ => by simp at h
  | _ :: _, [], _, _, _, _, h, _ => by simp at h
  | p :: P, w :: vs, 0, m, nd, h1, h2, hk => by
    simp at h1 h2; subst h1; subst h2
    show bindC kindOf ((p, w) :: P.zip vs) m p = _
    unfold bindC
    rw [bindC_out fun v hv => (List.nodup_cons.mp nd).1 (List.of_mem_zip hv).1, if_neg hk]
    simp
  | p :: P, w :: vs, i + 1, m, nd, h1, h2, hk => by
    show bindC kindOf ((p, w) :: P.zip vs) m x = _
    unfold bindC
    exact bindC_get (i := i) (List.nodup_cons.mp nd).2 (by simpa using h1) (by simpa using h2) hk

/-- the names' values at the entry -/
def start (N : List Str) (vs : List V) : St := vs.map some ++ List.replicate (N.length - vs.length) none

/-- the context of a def's body, at its entry; an exception leaves the frame, then lies as CX says -/
def cxOf (CX : CXT) (P : Program) (w : World) (K : PySem.W.Frag) (mg : Str → Option Value) (base : Heap) (N : List Str) (qual : Str) (scope : Scope) (f : Addr) (cd : Value) (A : Around) (outer : List Env) (s : Shared) (H : Hp) (E : XK) : Cx where
  prog := P
  w := w
  K := K
  mg := mg
  base := base
  A := A.deeper (envOfC qual scope s.heap.objs.size f cd)
  N := N
  s₀ := s
  H₀ := H
  env := envOfC qual scope s.heap.objs.size f cd
  outer := outer
  stack := envOfC qual scope s.heap.objs.size f cd :: outer
  ex := []
  calm := true
  fn := fun _ => true
  pn := []
  xe := fun e s' => wpAny (model P w) (A.deeper (envOfC qual scope s.heap.objs.size f cd)) (leaving (envOfC qual scope s.heap.objs.size f cd) e) (fun _ s'' => CX outer H s E e s'') (fun e' s'' => CX outer H s E e' s'') s'

theorem cell_has {sc : Scope} {n : Nat} {x : Str} (h : sc.names.lookup x = some .cell) : ∃ c, (cellsFrom n sc.names []).lookup x = some c := by
  have q := PySem.W.cellsFrom_some sc.names n [] (.inl h)
  exact Option.isSome_iff_exists.mp q

theorem inv_start {CX : CXT} {P : Program} {w : World} {K : PySem.W.Frag} {mg : Str → Option Value} {base : Heap} {N ps : List Str} {qual : Str} {scope : Scope} {f : Addr} {cd : Value} {A : Around} {outer : List Env} {s s1 : Shared} {H : Hp} {E : XK} {us : List Value} {vs : List V}
    (S : FnScope N ps scope) (hd : A.handled = none) (e0 : Env0 P w K mg base A outer s H) (hl : vs.length = ps.length) (r : Vals vs us)
    (x : InCallC s s.heap.objs.size (bindL (envOfC qual scope s.heap.objs.size f cd).kindOf (ps.zip us) fun _ => none) (cellsFrom (s.heap.objs.size + 1) scope.names []) (bindC (envOfC qual scope s.heap.objs.size f cd).kindOf (ps.zip us) fun _ => none) s1) :
    Inv (cxOf CX P w K mg base N qual scope f cd A outer s H E) [] (start N vs) H s1 := by
  have hpl : ps.length ≤ N.length := by have := congrArg List.length S.pre; rw [List.length_take] at this; omega
  obtain ⟨h1, tk, rfl, hk⟩ := x.done
  have noA : ∀ b : Addr, b ∉ (cxOf CX P w K mg base N qual scope f cd A outer s H E).ex := fun b z => absurd (show b ∈ ([] : List Addr) from z) (by simp)
  refine ⟨⟨e0.mod, S.kind, rfl, rfl, Nat.le_refl _, fun y z c h1 h2 => ?_, fun y hy => ?_, fun y c _ h => ?_, fun _ => hd, Around.frames_deeper e0.frames, .inr ⟨rfl, rfl⟩, fun b z => absurd z (noA b), e0.bs, e0.bsz, fun b _ _ => noA b, fun b z => absurd z (noA b), e0.funs, e0.frf⟩,
    rfl, e0.bare, Un.kept hk, ⟨_, x.toInCall.ns, fun i y v h1 h2 h3 => ?_⟩, fun y c h => ⟨_, x.cell y c h⟩, e0.hok.fresh (Nat.le_refl _), fun y c h => ?_, fun p hp => absurd (show p ∈ ([] : List (Addr × Obj)) from hp) (by simp), e0.hok.kept hk, ?_⟩
  · exact name_of_addr x.apart (PySem.mem_of_lookup h1) (PySem.mem_of_lookup h2)
  · have hy : scope.names.lookup y = some .cell ∨ scope.names.lookup y = some .free := hy
    rcases hy with hy | hy
    · exact cell_has hy
    · exact absurd rfl (S.nofree _ (PySem.mem_of_lookup hy))
  · exact Nat.le_of_lt (x.above y c (PySem.mem_of_lookup h))
  · have hi : i < vs.length := by
      unfold start at h2
      by_cases hi : i < vs.length
      · exact hi
      · rw [List.getElem?_append_right (by simpa using hi)] at h2
        rw [List.getElem?_replicate] at h2
        split at h2 <;> cases h2
    have ha : vs[i]? = some v := by
      unfold start at h2
      rw [List.getElem?_append_left (by simpa using hi), List.getElem?_map] at h2
      cases e : vs[i]? with
      | none => rw [e] at h2; cases h2
      | some a => rw [e] at h2; cases h2; rfl
    obtain ⟨u, hu, rv⟩ := r.get ha
    have hp : ps[i]? = some y := by
      rw [← S.pre, List.getElem?_take_of_lt (by omega)]; exact h1
    have ndP : ps.Nodup := by rw [← S.pre]; exact S.nd.sublist (List.take_sublist _ _)
    refine ⟨u, rv, ?_⟩
    rcases S.par y (List.mem_of_getElem? hp) with k | k
    · exact .inl ⟨k, bindL_get ndP hp hu k⟩
    · obtain ⟨c, e⟩ := cell_has (n := s.heap.objs.size + 1) k
      refine .inr ⟨.inl k, c, e, ?_⟩
      have q := x.cell y c e
      rw [bindC_get ndP hp hu (by show scope.names.lookup y ≠ _; rw [k]; decide)] at q
      exact q
  · exact e0.hok.fresh (Nat.le_of_lt (x.above y c (PySem.mem_of_lookup h)))
  · unfold start
    show _ = N.length
    rw [List.length_append, List.length_map, List.length_replicate]
    omega

/-- THE RULE: a def (or a method) of the text, by its body. The body's reading t is chosen for each entry; it is run at the parameters' values -/
theorem fn_of {CX : CXT} {P : Program} {w : World} {K : PySem.W.Frag} {mg : Str → Option Value} {base : Heap} {k : Nat} {f : Addr} {name qual : Str} {params : Arguments} {body : List Stmt} {scope : Scope} {dV kV doc pm cdv ct oc : Value} {an od : Option Addr}
    {osl : Array (Option Value)} {N ps : List Str} {sp : Sp} (lk : K.lookup f = some ⟨oc, od, .func (PySem.W.fnOf name qual params body scope dV kV doc pm an cdv ct), osl⟩) (hcd : PySem.W.codeIn K cdv qual = true) (S : FnScope N ps scope)
    (len : ∀ vs H Q E, sp vs H Q E → vs.length = ps.length)
    (hbody : ∀ (A : Around) (outer : List Env) (s : Shared) (H : Hp) (vs : List V) (Q : VK) (E : XK), Room k (A.deeper (envOfC qual scope s.heap.objs.size f cdv)) → sp vs H Q E →
      ∃ t, PSs (cxOf CX P w K mg base N qual scope f cdv A outer s H E) body t ∧ t { nx := fun _ H' => Q .non H', rt := Q } (start N vs) H) :
    FnOk P w K mg base CX (k + 1) f (PySem.W.fnOf name qual params body scope dV kV doc pm an cdv ct) ps sp := by
  refine ⟨len, fun A outer s H args us vs Q E hr e0 hb r hsp => ?_⟩
  have hl := len _ _ _ _ hsp
  have KX : K.In s.heap := e0.mod.kin.keeps fun b o e => (e0.bs b o e).1
  have lim : s.heap.NoLimit := e0.mod.nolimit.keeps fun b o e => (e0.bs b o e).1
  have hkind : ∀ y ∈ ps.zip us, scope.names.lookup y.1 = some .local ∨ (scope.names.lookup y.1 = some .cell ∧ ((cellsFrom (s.heap.objs.size + 1) scope.names []).lookup y.1).isSome = true) := fun ⟨n, v⟩ hy => by
    rcases S.par n (List.of_mem_zip hy).1 with q | q
    · exact .inl q
    · exact .inr ⟨q, PySem.W.cellsFrom_some _ _ _ (.inl q)⟩
  refine codeAny_call_function hr.depth (KX _ _ lk) rfl S.co S.gen rfl (PySem.W.codeRec_of KX hcd) (hb _ _ _ _ ?_)
  refine wpAny_newFunctionEnv_cells S.kind hkind fun env he s1 x => ?_
  subst he
  refine ⟨lim.keeps x.toInCall.keep, codeAny_func ?_⟩
  obtain ⟨t, ht, hq⟩ := hbody A outer s H vs Q E (hr.deeper _) hsp
  have I : Inv (cxOf CX P w K mg base N qual scope f cdv A outer s H E) [] (start N vs) H s1 := inv_start S hr.hd e0 hl r x
  refine wpAny_mono (ht [] s1 (start N vs) H _ I hq) (fun fl s' hs => ?_) fun e s' hs => hs
  have fin : ∀ {σ' : St} {H' : Hp} {v : V} {u : Value}, Inv (cxOf CX P w K mg base N qual scope f cdv A outer s H E) [] σ' H' s' → RelV v u → Q v H' → CE outer P w H s Q u s' :=
    fun {σ' H' v u} J rv q => ⟨v, H', J.os, J.bare, J.base, J.hok, rv, q⟩
  cases fl with
  | ret u =>
    obtain ⟨v, σ', H', J, rv, q⟩ := hs
    exact fin J rv q
  | next =>
    obtain ⟨σ', H', J, q⟩ := hs
    exact fin (v := V.non) (u := Value.none) J rfl q
  | brk =>
    obtain ⟨_, _, _, q⟩ := hs
    exact False.elim q
  | cont =>
    obtain ⟨_, _, _, q⟩ := hs
    exact False.elim q
end L2

namespace L2
open PySem PySem.Spec PyProof.Rows
section
variable {X : Cx} {x : Str} {p pos : Pos} {e : Expr} {es : List Expr} {t : TA} {id T : String} {r : List V → Hp → VK → Prop}

def tCB (r : List V → Hp → VK → Prop) (t : TA) : TE := fun σ H Q => t σ H fun vs H1 => r vs H1 Q
/-- f(e, ..), f a built-in function -/
theorem pe_callB (hc : CallR X (.builtin id) r) (hg : Gl X x) (hm : X.mg x = none) (hv : bootBuiltins x = some (.builtin id)) (ha : PA X (e :: es) t) (hn : x ≠ "__name__" := by decide) (hdb : (x == ("__debug__" : Str)) = false := by decide)
    (he : starEach (e :: es) X.env = (false, eval e X.env) :: starEach es X.env := by rfl) (hpl : (backTo pos (starEach es X.env)).any (·.1) = false := by rfl) : PE X (.Call (.Name x p) (e :: es) [] pos) (tCB r t) := by
  intro pins s σ H Q I h
  refine wpAny_Call_Name_kw (ld_blt I hg hm hv ?_ hn hdb)
  exact PyProof.Rows.callWith_builtin1 (thn (ha pos pins s σ H _ I h) fun us s1 ⟨vs, H1, I1, r1, q1⟩ => hc pins s1 σ H1 vs us Q I1 r1 q1) he hpl
/-- T(e, ..), T a built-in type -/
theorem pe_callTy (hc : CallR X (.type T) r) (hg : Gl X x) (hm : X.mg x = none) (hv : bootBuiltins x = some (.type T)) (ha : PA X (e :: es) t) (hn : x ≠ "__name__" := by decide) (hdb : (x == ("__debug__" : Str)) = false := by decide)
    (he : starEach (e :: es) X.env = (false, eval e X.env) :: starEach es X.env := by rfl) (hpl : (backTo pos (starEach es X.env)).any (·.1) = false := by rfl) : PE X (.Call (.Name x p) (e :: es) [] pos) (tCB r t) := by
  intro pins s σ H Q I h
  refine wpAny_Call_Name_kw (ld_blt I hg hm hv ?_ hn hdb)
  exact PyProof.Rows.callWith_type1 (thn (ha pos pins s σ H _ I h) fun us s1 ⟨vs, H1, I1, r1, q1⟩ => hc pins s1 σ H1 vs us Q I1 r1 q1) he hpl
end
end L2

namespace HT
open PySem PyProof.Rows

section
open PySem.SeqAt
open PySem.AutoSeq1 (wpAny_loadPart')
open PySem.MeetsSeq PySem.MeetsSeq2 PySem.MeetsSeq3

end

section
variable {prog : Program} {w : World} {A : Around} {E : Value → Shared → Prop} {s : Shared}

/-- t + u, t not empty -/
theorem cat_tup {t b : Addr} {vs ws : List Value} {Q : Value → Shared → Prop} (ht : IsTup s.heap t vs.toArray) (hb : IsTup s.heap b ws.toArray) (hv : vs ≠ [])
    (h1 : ws = [] → Q (.ref t) s) (h2 : ws ≠ [] → Q (.ref s.heap.objs.size) { s with heap := s.heap.push { cls := .type "tuple", data := .seq (vs ++ ws).toArray } })
    (hsz : vs.length + ws.length ≤ sizeLine) : wpAny (model prog w) A (binaryOp .Add (.ref t) (.ref b)) Q E s := by
  obtain ⟨⟨cls, dd, data, sl⟩, ho, hc, n, hd⟩ := id ht
  obtain ⟨⟨cls2, dd2, data2, sl2⟩, ho2, hc2, n2, hd2⟩ := id hb
  simp only at hc hd hc2 hd2
  subst hc hd hc2 hd2
  have e : vs.toArray ++ ws.toArray = (vs ++ ws).toArray := by simp
  by_cases hw : ws = []
  · exact concat_meets ⟨_, ho, rfl⟩ ⟨_, ho2, rfl⟩ noFill_tuple_add seq_tuple_add PySem.F.slot_tuple_add PySem.F.entry_tuple_add (PySem.F.args_tuple_add_2 _ _)
      (tuple_addW1 t b vs.toArray ws.toArray n n2 dd dd2 sl sl2 (by simpa using hv) (by simp [hw])) ⟨ho, ho2, h1 hw⟩
  · refine concat_meets ⟨_, ho, rfl⟩ ⟨_, ho2, rfl⟩ noFill_tuple_add seq_tuple_add PySem.F.slot_tuple_add PySem.F.entry_tuple_add (PySem.F.args_tuple_add_2 _ _)
      (tuple_addW2 t b vs.toArray ws.toArray n n2 dd dd2 sl sl2 (by simpa using hv) (by simpa using hw) (by rw [List.size_toArray, List.size_toArray]; exact hsz)) ⟨ho, ho2, ?_⟩
    rw [e]
    exact h2 hw

/-- a slice's bound as a place among n (d where it is left out) -/
def sIx (n d : Nat) : Option Int → Nat
  | none => d
  | some v => if v < 0 then (v + (n : Int)).toNat else min v.toNat n
theorem sIx_none (n d : Nat) : sIx n d none = d := rfl
theorem sIx_nat (n d k : Nat) : sIx n d (some (k : Int)) = min k n := by
  show (if (k : Int) < 0 then ((k : Int) + (n : Int)).toNat else min (k : Int).toNat n) = min k n
  rw [if_neg (by omega), Int.toNat_natCast]
theorem sIx_le (n d : Nat) (hd : d ≤ n) (o : Option Int) : sIx n d o ≤ n := by
  cases o with
  | none => exact hd
  | some v =>
    show (if v < 0 then (v + (n : Int)).toNat else min v.toNat n) ≤ n
    by_cases hv : v < 0
    · rw [if_pos hv]; omega
    · rw [if_neg hv]; exact Nat.min_le_right _ _
theorem clip_eq (v : Int) (n d : Nat) : (if v < 0 then max (v + (n : Int)) 0 else min v (n : Int)) = ((sIx n d (some v) : Nat) : Int) := by
  show (if v < 0 then max (v + (n : Int)) 0 else min v (n : Int)) = (((if v < 0 then (v + (n : Int)).toNat else min v.toNat n) : Nat) : Int)
  by_cases hv : v < 0
  · simp only [if_pos hv]; omega
  · simp only [if_neg hv]; omega
theorem adjust_gen (lo hi : Option Int) (n : Nat) : Builtin.Slice.sliceAdjust lo hi 1 (n : Int) = (((sIx n 0 lo : Nat) : Int), ((sIx n n hi : Nat) : Int)) := by
  have h1 : ¬ ((1 : Int) < 0) := by omega
  unfold Builtin.Slice.sliceAdjust
  simp only [h1, if_false]
  refine Prod.ext ?_ ?_
  · cases lo with
    | none => rfl
    | some v => exact clip_eq v n 0
  · cases hi with
    | none => rfl
    | some v => exact clip_eq v n n
theorem places_gen (i j : Nat) : Builtin.Slice.slicePlaces (i : Int) (j : Int) 1 = j - i := by
  unfold Builtin.Slice.slicePlaces
  have h1 : (1 : Int) > 0 := by omega
  simp only [h1, if_true, Int.ediv_one]
  split <;> omega
theorem slicePart_ {v : Value} {o : Option Int} {Q : Option Int → Shared → Prop} (p : IsPart v o) (h : Q o s) : wpAny (model prog w) A (Builtin.Slice.slicePartIndex v) Q E s := by
  cases p with
  | none => exact slicePart_none h
  | int i t => exact slicePart_int h
theorem sliceApplied_gen {sl : Addr} {vl vu : Value} {lo hi : Option Int} {n : Nat} {Q : Int × Int × Nat → Shared → Prop} (hs : s.heap.IsSliceOf sl vl vu .none) (pl : IsPart vl lo) (pu : IsPart vu hi)
    (h : Q (((sIx n 0 lo : Nat) : Int), 1, sIx n n hi - sIx n 0 lo) s) : wpAny (model prog w) A (Builtin.Slice.sliceApplied (.ref sl) (pure (n : Int))) Q E s := by
  obtain ⟨os, hos, hcs, hds⟩ := id hs
  unfold Builtin.Slice.sliceApplied Builtin.Slice.sliceFields
  refine wpAny_bind (wpAny_bind (wpAny_field hos hds (x := vl) rfl (wpAny_bind (wpAny_field hos hds (x := vu) rfl (wpAny_bind (wpAny_field hos hds (x := .none) rfl (wpAny_pure ?_)))))))
  refine wpAny_bind (slicePart_none ?_)
  show wpAny _ _ (if ((1 : Int) == 0) = true then _ else _) _ _ s
  rw [if_neg (by decide)]
  refine wpAny_bind (slicePart_ pl (wpAny_bind (slicePart_ pu (wpAny_bind (wpAny_pure ?_)))))
  show wpAny _ _ (match Builtin.Slice.sliceAdjust lo hi 1 (n : Int) with | (lo, hi) => pure (lo, (1 : Int), Builtin.Slice.slicePlaces lo hi 1)) _ _ s
  rw [adjust_gen lo hi n]
  show wpAny _ _ (pure (((sIx n 0 lo : Nat) : Int), (1 : Int), Builtin.Slice.slicePlaces ((sIx n 0 lo : Nat) : Int) ((sIx n n hi : Nat) : Int) 1)) _ _ s
  rw [places_gen]
  exact wpAny_pure h
theorem pick_gen (xs : Array Value) (i k : Nat) : ((List.range k).filterMap fun (m : Nat) => xs[((i : Int) + (m : Int) * 1).toNat]?).toArray = ((xs.toList.drop i).take k).toArray := by
  have e : (fun (m : Nat) => xs[((i : Int) + (m : Int) * 1).toNat]?) = fun m => xs[i + m]? := by
    funext m
    have : ((i : Int) + (m : Int) * 1).toNat = i + m := by omega
    rw [this]
  rw [e]
  have := pick_run xs i k
  rw [List.filterMap_map] at this
  have e2 : ((fun x => xs[x]?) ∘ fun x => i + x) = fun m => xs[i + m]? := rfl
  rw [e2] at this
  rw [this]

theorem getItem_tuple_cut {t sl : Addr} {items : Array Value} {vl vu : Value} {lo hi : Option Int} {Q : Value → Shared → Prop} (ht : IsTup s.heap t items) (hs : s.heap.IsSliceOf sl vl vu .none) (pl : IsPart vl lo) (pu : IsPart vu hi)
    (hw : ¬ (sIx items.size 0 lo = 0 ∧ sIx items.size items.size hi = items.size))
    (h : Q (.ref s.heap.objs.size) { s with heap := s.heap.push { cls := .type "tuple", data := .seq ((items.toList.drop (sIx items.size 0 lo)).take (sIx items.size items.size hi - sIx items.size 0 lo)).toArray } })
    (hsz : items.size ≤ sizeLine) : wpAny (model prog w) A (getItem (.ref t) (.ref sl)) Q E s := by
  have htake : sizeOk (.seq ((items.toList.drop (sIx items.size 0 lo)).take (sIx items.size items.size hi - sIx items.size 0 lo)).toArray) := by
    show ((items.toList.drop (sIx items.size 0 lo)).take (sIx items.size items.size hi - sIx items.size 0 lo)).toArray.size ≤ sizeLine
    rw [List.size_toArray, List.length_take, List.length_drop, Array.length_toList]
    omega
  have hj : sIx items.size items.size hi ≤ items.size := sIx_le _ _ (Nat.le_refl _) hi
  obtain ⟨os, hos, hcs, hds⟩ := id hs
  have hTs : s.TypeIs (.ref sl) "slice" := ⟨os, hos, hcs⟩
  unfold getItem
  try with_reducible refine wpAny_holding ?_
  first | refine wpAny_bind (wpAny_pure ?_) | skip
  refine wpAny_bind (wpAny_sequenceKey ht.typeIs (by decide) ?_)
  refine wpAny_bind (wpAny_callSpecial?_slot (name := Str.ofString "__getitem__") ht.typeIs PyProof.Rows.slot_tuple_getitem
    (wpAny_call_entry PyProof.Rows.slot_tuple_getitem ht.typeIs entry_tuple_getitem ?_ (args_tuple_getitem _ _)))
  show wpAny _ _ (Builtin.Tuple.tupleItemsOf (.ref t) >>= _) _ _ s
  refine wpAny_bind (tupleItemsOf_ ht ?_)
  refine wpAny_bind (wpAny_typeOf hTs ?_)
  rw [if_pos (by decide)]
  refine wpAny_bind (sliceApplied_gen hs pl pu ?_)
  have hno : ¬ ((((sIx items.size 0 lo : Nat) : Int) == 0 && (1 : Int) == 1 && (sIx items.size items.size hi - sIx items.size 0 lo) == items.size) = true) := by
    intro q
    rw [Bool.and_eq_true, Bool.and_eq_true] at q
    have q1 : ((sIx items.size 0 lo : Nat) : Int) = 0 := eq_of_beq q.1.1
    have q2 : sIx items.size items.size hi - sIx items.size 0 lo = items.size := eq_of_beq q.2
    exact hw ⟨by omega, by omega⟩
  show wpAny _ _ (if (((sIx items.size 0 lo : Nat) : Int) == 0 && (1 : Int) == 1 && (sIx items.size items.size hi - sIx items.size 0 lo) == items.size) = true then _ else _) _ _ s
  rw [if_neg hno, pick_gen]
  first
    | exact wpAny_bind (m := Builtin.Tuple.tupleExact _) (wpAny_newObj_type (wpAny_pure ⟨_, rfl, wpAny_pure h⟩) htake)
    | exact wpAny_bind (m := Builtin.Tuple.tupleExact _) (wpAny_newObj_type (wpAny_bind (wpAny_pure (wpAny_pure ⟨_, rfl, wpAny_pure h⟩))) htake)
    | exact wpAny_bind (wpAny_bind (m := Builtin.Tuple.tupleExact _) (wpAny_newObj_type (wpAny_pure (wpAny_pure ⟨_, rfl, wpAny_pure h⟩)) htake))
    | exact wpAny_bind (wpAny_bind (m := Builtin.Tuple.tupleExact _) (wpAny_newObj_type (wpAny_pure ⟨_, rfl, wpAny_pure h⟩) htake))
end
end HT

namespace L2
open PySem PySem.Spec PyProof.Rows

abbrev TO := St → Hp → (Option Int → Hp → Prop) → Prop
/-- a slice's part (left out, or an int) -/
def PO (X : Cx) (e : Option Expr) (t : TO) : Prop :=
  ∀ (pins : List (Addr × Obj)) (s : Shared) (σ : St) (H : Hp) (Q : Option Int → Hp → Prop), Inv X pins σ H s → t σ H Q →
    wpAny (model X.prog X.w) X.A (evalPart e X.env) (fun u s' => ∃ o H', Inv X pins σ H' s' ∧ IsPart u o ∧ Q o H') X.xe s
def tNoPart : TO := fun _ H Q => Q none H
def tPart (t : TE) : TO := fun σ H Q => t σ H fun x H1 => ∃ i, x = .int i ∧ Q (some i) H1

theorem intsAre_of {ns : List Int} : ∀ {us : List Value}, Vals (ns.map V.int) us → IntsAre us ns := by
  induction ns with
  | nil => intro us r; rw [List.map_nil] at r; cases r; exact .nil
  | cons n ns ih =>
    intro us r
    rw [List.map_cons] at r
    cases r with
    | cons r1 r2 =>
      obtain ⟨t, e⟩ := r1
      subst e
      exact .cons n t (ih r2)

section
variable {X : Cx} {e : Expr} {te : TE} {lo hi : Option Expr} {tl th : TO} {pos p2 : Pos}

theorem po_none : PO X none tNoPart := by
  intro pins s σ H Q I h
  rw [evalPart_none]
  exact wpAny_pure ⟨none, H, I, .none, h⟩
theorem po_some (h : PE X e te) : PO X (some e) (tPart te) := by
  intro pins s σ H Q I hw
  rw [evalPart_some]
  refine thn (h pins s σ H _ I hw) fun u s1 ⟨x, H1, I1, r1, q1⟩ => ?_
  obtain ⟨i, rfl, q⟩ := q1
  obtain ⟨t, rfl⟩ := r1
  exact ⟨some i, H1, I1, .int i t, q⟩

/-- what a slice of a value is, by values: the slice object stands at sl -/
def SlR (X : Cx) (r : V → Option Int → Option Int → Hp → VK → Prop) : Prop :=
  ∀ (pins : List (Addr × Obj)) (s : Shared) (σ : St) (H : Hp) (x : V) (v vl vu : Value) (lo hi : Option Int) (sl : Addr) (Q : VK), Inv X pins σ H s → RelV x v → s.heap.IsSliceOf sl vl vu .none → IsPart vl lo → IsPart vu hi → r x lo hi H Q →
    ∃ T id, typeLookup (.type T) "__getitem__" = pure (some (.builtin id)) ∧ s.TypeIs v T ∧ wpAny (model X.prog X.w) X.A (getItem v (.ref sl)) (EP X pins σ Q) X.xe s
def tSl (r : V → Option Int → Option Int → Hp → VK → Prop) (te : TE) (tl th : TO) : TE := fun σ H Q => te σ H fun x H1 => tl σ H1 fun l H2 => th σ H2 fun u H3 => r x l u H3 Q
/-- a[lo:hi], any a -/
theorem pe_slice {r : V → Option Int → Option Int → Hp → VK → Prop} (hr : SlR X r) (he : PE X e te) (hl : PO X lo tl) (hu : PO X hi th) : PE X (.Subscript e (.Slice lo hi none p2) pos) (tSl r te tl th) := by
  intro pins s σ H Q I h
  refine Subscript_ (thn (he pins s σ H _ I h) fun v s1 ⟨x, H1, I1, r1, q1⟩ => ?_)
  refine wpAny_Slice (thn (hl pins s1 σ H1 _ I1 q1) fun vl s2 ⟨l, H2, I2, pl, q2⟩ => thn (hu pins s2 σ H2 _ I2 q2) fun vu s3 ⟨u, H3, I3, pu, q3⟩ => ?_)
  rw [evalPart_none]
  refine wpAny_pure ?_
  have I4 : Inv X pins σ H3 { s3 with heap := s3.heap.push { cls := .type "slice", data := .fields #[vl, vu, .none] } } := I3.kept (t' := s3.toks) fun b ob q => Heap.get?_push_of_some _ q
  obtain ⟨T, id, hT, ht, hg⟩ := hr pins { s3 with heap := s3.heap.push { cls := .type "slice", data := .fields #[vl, vu, .none] } } σ H3 x v vl vu l u s3.heap.objs.size Q I4 r1 (Heap.IsSliceOf.new ..) pl pu q3
  show wpAny (model X.prog X.w) X.A (subscriptTail e (.Slice lo hi none p2) v (.ref s3.heap.objs.size)) (EP X pins σ Q) X.xe { s3 with heap := s3.heap.push { cls := .type "slice", data := .fields #[vl, vu, .none] } }
  exact tail_any (ops := [.ref s3.heap.objs.size, v]) ht hT hg (by with_unfolding_all rfl)

/-- the items of xs[lo:hi] -/
def cutV (xs : List V) (lo hi : Option Int) : List V := (xs.drop (HT.sIx xs.length 0 lo)).take (HT.sIx xs.length xs.length hi - HT.sIx xs.length 0 lo)
theorem cutV_length (xs : List V) (lo hi : Option Int) : (cutV xs lo hi).length ≤ xs.length := by
  unfold cutV
  rw [List.length_take, List.length_drop]
  omega
/-- t[lo:hi], not the whole of it (the whole would be t itself) -/
def rSlT (K : PySem.W.Frag) : V → Option Int → Option Int → Hp → VK → Prop := fun x lo hi H Q => ∃ a xs, x = .ref a ∧ SqT K H a xs ∧
  ¬ (HT.sIx xs.length 0 lo = 0 ∧ HT.sIx xs.length xs.length hi = xs.length) ∧ ∀ p, H p = none → Q (.ref p) (upd H p (.tup (cutV xs lo hi)))
theorem sl_tup : SlR X (rSlT X.K) := by
  intro pins s σ H x v vl vu lo hi sl Q I rx hs pl pu h
  obtain ⟨a, xs, rfl, hx, hw, q⟩ := h
  cases rx
  obtain ⟨its, r, ht, hz⟩ := I.tuple hx
  have hlen : its.toArray.size = xs.length := by rw [List.size_toArray]; exact r.length.symm
  refine ⟨"tuple", _, PyProof.Rows.slot_tuple_getitem.lookup, ht.typeIs, ?_⟩
  refine HT.getItem_tuple_cut ht hs pl pu (by rw [hlen]; exact hw) ?_ (by rw [hlen]; exact hz)
  rw [hlen]
  refine ⟨.ref s.heap.objs.size, _, I.laid (t' := s.toks) (o := .tup (cutV xs lo hi)) (fun b ob q => Heap.get?_push_of_some _ q) (Nat.le_refl _) ?_, rfl, q _ (I.hok.fresh (Nat.le_refl _))⟩
  exact ⟨Nat.le_trans (cutV_length xs lo hi) hz, _, (r.drop (HT.sIx xs.length 0 lo)).take (HT.sIx xs.length xs.length hi - HT.sIx xs.length 0 lo), _, Heap.get?_push_size _ rfl, rfl, _, rfl, rfl⟩

/-- t + u, t not empty: u empty gives t itself -/
def rCatT (K : PySem.W.Frag) : R2 := fun x y H Q => ∃ a b xs ys, x = .ref a ∧ y = .ref b ∧ SqT K H a xs ∧ SqT K H b ys ∧ xs ≠ [] ∧ xs.length + ys.length ≤ sizeLine ∧
  (ys = [] → Q (.ref a) H) ∧ (ys ≠ [] → ∀ p, H p = none → Q (.ref p) (upd H p (.tup (xs ++ ys))))
theorem Vals.nil_iff {xs : List V} {us : List Value} (r : Vals xs us) : us = [] ↔ xs = [] := by
  cases r with
  | nil => simp
  | cons _ _ => simp
theorem op_catT : OpR X (binaryOp .Add) (rCatT X.K) := by
  intro pins s σ H x y v u Q I rx ry h
  obtain ⟨a, b, xs, ys, rfl, rfl, ha, hb, hx, hz, q1, q2⟩ := h
  cases rx
  cases ry
  obtain ⟨its, r1, p1, _⟩ := I.tuple ha
  obtain ⟨its2, r2, p2, _⟩ := I.tuple hb
  refine HT.cat_tup p1 p2 (fun z => hx (r1.nil_iff.mp z)) (fun z => ⟨.ref a, H, I, rfl, q1 (r2.nil_iff.mp z)⟩) (fun z => ?_) (by rw [← r1.length, ← r2.length]; exact hz)
  refine ⟨.ref s.heap.objs.size, _, I.laid (t' := s.toks) (o := .tup (xs ++ ys)) (fun b ob q => Heap.get?_push_of_some _ q) (Nat.le_refl _) ?_, rfl, q2 (fun w => z (r2.nil_iff.mpr w)) _ (I.hok.fresh (Nat.le_refl _))⟩
  exact ⟨by rw [List.length_append]; exact hz, _, r1.append r2, _, Heap.get?_push_size _ rfl, rfl, _, rfl, rfl⟩
end
end L2

namespace L2
open PySem PySem.Spec PyProof.Rows

/-- the place that an index of any sign means -/
def ixN (n : Nat) (i : Int) : Option Nat := if 0 ≤ i then (if i < n then some i.toNat else none) else if -(n : Int) ≤ i then some (i + n).toNat else none
def atI {α : Type} (xs : List α) (i : Int) : Option α := (ixN xs.length i).bind fun j => xs[j]?
theorem ixN_seq {n : Nat} {i : Int} {j : Nat} (h : ixN n i = some j) : seqIndex? i n = some j ∧ j < n ∧ -(n : Int) ≤ i ∧ i < n := by
  unfold ixN at h
  by_cases h0 : 0 ≤ i
  · rw [if_pos h0] at h
    by_cases h1 : i < n
    · rw [if_pos h1] at h
      have e : i.toNat = j := Option.some.inj h
      exact ⟨by rw [seqIndex_of h0 h1, e], by omega, by omega, h1⟩
    · rw [if_neg h1] at h; cases h
  · rw [if_neg h0] at h
    by_cases h1 : -(n : Int) ≤ i
    · rw [if_pos h1] at h
      have e : (i + n).toNat = j := Option.some.inj h
      exact ⟨by rw [seqIndex_neg (by omega) h1, e], by omega, h1, by omega⟩
    · rw [if_neg h1] at h; cases h
theorem atI_get {α : Type} {xs : List α} {i : Int} {v : α} (h : atI xs i = some v) : ∃ j, seqIndex? i xs.length = some j ∧ xs[j]? = some v ∧ j < xs.length ∧ -(xs.length : Int) ≤ i ∧ i < xs.length := by
  unfold atI at h
  cases e : ixN xs.length i with
  | none => rw [e] at h; cases h
  | some j =>
    rw [e] at h
    obtain ⟨h1, h2, h3, h4⟩ := ixN_seq e
    exact ⟨j, h1, h, h2, h3, h4⟩
theorem atI_nat {α : Type} {xs : List α} {j : Nat} {v : α} (h : xs[j]? = some v) : atI xs (j : Int) = some v := by
  have hj : j < xs.length := (List.getElem?_eq_some_iff.mp h).1
  have e : ixN xs.length (j : Int) = some j := by
    unfold ixN
    rw [if_pos (by omega), if_pos (by omega)]; simp
  unfold atI; rw [e]; exact h
/-- what stands as an index of a plain subscript -/
def PlainIx (b : Expr) : Prop := ∀ o i, subscripted b false o i = operate [o, i] (getItem o i)
/-- a subscript by values -/
def IxR (X : Cx) (r : R2) : Prop :=
  ∀ (value slice : Expr) (pins : List (Addr × Obj)) (s : Shared) (σ : St) (H : Hp) (x y : V) (v u : Value) (Q : VK), Inv X pins σ H s → RelV x v → RelV y u → r x y H Q →
    subscripted slice false v u = operate [v, u] (getItem v u) → wpAny (model X.prog X.w) X.A (subscriptTail value slice v u) (EP X pins σ Q) X.xe s
/-- a call of a builtin's method by values: the receiver, the arguments -/
def MtR (X : Cx) (id : String) (r : V → List V → Hp → VK → Prop) : Prop :=
  ∀ (pins : List (Addr × Obj)) (s : Shared) (σ : St) (H : Hp) (x : V) (xs : List V) (v : Value) (us : List Value) (Q : VK), Inv X pins σ H s → RelV x v → Vals xs us → r x xs H Q →
    wpAny (model X.prog X.w) X.A (call (.builtin id) (v :: us)) (EP X pins σ Q) X.xe s
section
variable {X : Cx} {a b : Expr} {ta tb : TE} {pos : Pos}
/-- a[b] -/
theorem pe_ix {r : R2} (hr : IxR X r) (ha : PE X a ta) (hb : PE X b tb) (hs : PlainIx b) : PE X (.Subscript a b pos) (tOp r ta tb) := by
  intro pins s σ H Q I h
  exact Subscript_ (binT ha hb I h fun v u s2 x y H2 I2 rx ry q => hr a b pins s2 σ H2 x y v u Q I2 rx ry q (hs _ _))

def rIxL (K : PySem.W.Frag) : R2 := fun x y H Q => ∃ p xs i v, x = .ref p ∧ y = .int i ∧ SqL K H p xs ∧ atI xs i = some v ∧ Q v H
def rIxT (K : PySem.W.Frag) : R2 := fun x y H Q => ∃ p xs i v, x = .ref p ∧ y = .int i ∧ SqT K H p xs ∧ atI xs i = some v ∧ Q v H
def rIxS : R2 := fun x y H Q => ∃ z i c, x = .str z ∧ y = .int i ∧ z.length ≤ sizeLine ∧ atI z.cps.toList i = some c ∧ Q (.str ⟨#[c]⟩) H
theorem ix_list : IxR X (rIxL X.K) := by
  intro value slice pins s σ H x y v u Q I rx ry h hs
  obtain ⟨p, xs, i, z, rfl, rfl, hq, he, q⟩ := h
  cases rx
  obtain ⟨t, rfl⟩ := ry
  obtain ⟨its, r, pl, hz⟩ := I.list hq
  obtain ⟨j, h1, h2, h3, h4, h5⟩ := atI_get he
  obtain ⟨w, ew, rw'⟩ := r.get h2
  have hl := r.length
  have hn := line63
  have fin : EP X pins σ Q w s := ⟨z, H, I, rw', q⟩
  by_cases h0 : 0 ≤ i
  · have hj : i.toNat = j := by
      rw [seqIndex_of h0 h5] at h1
      exact Option.some.inj h1
    exact item_listR pl.isList h0 (by omega) (by rw [hj]; simpa using ew) fin hs
  · have hj : (i + (its.toArray.size : Int)).toNat = j := by
      rw [seqIndex_neg (by omega) h4] at h1
      rw [List.size_toArray, ← hl]
      exact Option.some.inj h1
    exact subscriptTail_builtinR (x := w) pl.isList.typeIs slot_list_getitem.lookup
      (wpAny_getItem_list_neg (Q := fun r s' => r = w ∧ EP X pins σ Q r s') pl.isList (by omega) (by rw [List.size_toArray] <;> omega) (by omega) (by rw [hj]; simpa using ew) ⟨rfl, fin⟩) hs
theorem ix_tup : IxR X (rIxT X.K) := by
  intro value slice pins s σ H x y v u Q I rx ry h hs
  obtain ⟨p, xs, i, z, rfl, rfl, hq, he, q⟩ := h
  cases rx
  obtain ⟨t, rfl⟩ := ry
  obtain ⟨its, r, pl, hz⟩ := I.tuple hq
  obtain ⟨j, h1, h2, h3, h4, h5⟩ := atI_get he
  obtain ⟨w, ew, rw'⟩ := r.get h2
  have hl := r.length
  have hn := line63
  have fin : EP X pins σ Q w s := ⟨z, H, I, rw', q⟩
  exact subscriptTail_builtinR (x := w) pl.typeIs slot_tuple_getitem.lookup
    (getItem_tuple (j := j) (Q := fun r s' => r = w ∧ EP X pins σ Q r s') pl (by omega) (by omega) (by rw [List.size_toArray, ← hl]; exact h1) (by simpa using ew) ⟨rfl, fin⟩) hs
theorem ix_str : IxR X rIxS := by
  intro value slice pins s σ H x y v u Q I rx ry h hs
  obtain ⟨z, i, c, rfl, rfl, hz, he, q⟩ := h
  obtain ⟨t, rfl⟩ := rx
  obtain ⟨t', rfl⟩ := ry
  obtain ⟨j, h1, h2, h3, h4, h5⟩ := atI_get he
  have hl : z.cps.toList.length = z.length := by simp [Str.length]
  rw [hl] at h1 h4 h5
  have hn := line63
  exact tail_any (typeIs_str s z t) slot_str_getitem.lookup (getItem_str (c := c) (by
    have e1 : decide (i < -(2 ^ 63 : Int)) = false := decide_eq_false (by omega)
    have e2 : decide (i ≥ 2 ^ 63) = false := decide_eq_false (by omega)
    rw [e1, e2, Bool.or_false]) (by rw [h1]; simpa using h2) ⟨.str ⟨#[c]⟩, H, I.tok _, ⟨_, rfl⟩, q⟩) hs
/-- the list's object behind a store -/
theorem mapSeq_set (its : List Value) (n j : Nat) (u : Value) : Obj.mapSeq (·.setIfInBounds j u) { cls := .type "list", data := .seq its.toArray n } = { cls := .type "list", data := .seq (its.set j u).toArray n } := by
  simp [Obj.mapSeq]
theorem Inv.lst {pins : List (Addr × Obj)} {σ : St} {H : Hp} {s : Shared} {p : Addr} {xs : List V} (I : Inv X pins σ H s) (h : H p = some (.lst xs)) :
    ∃ (its : List Value) (n : Nat), Vals xs its ∧ s.heap.get? p = some { cls := .type "list", data := .seq its.toArray n } ∧ xs.length ≤ sizeLine := by
  obtain ⟨z, its, n, r, e⟩ := I.hok p _ h
  exact ⟨its, n, r, e, z⟩
/-- the list at p is written by an update of its object -/
theorem Inv.lstUpd {pins : List (Addr × Obj)} {σ : St} {H : Hp} {s : Shared} {p : Addr} {xs ys : List V} {its its' : List Value} {n n' : Nat} {f : Obj → Obj} (I : Inv X pins σ H s) (h : H p = some (.lst xs))
    (ho : s.heap.get? p = some { cls := .type "list", data := .seq its.toArray n }) (hf : f { cls := .type "list", data := .seq its.toArray n } = { cls := .type "list", data := .seq its'.toArray n' }) (r : Vals ys its') (hz : ys.length ≤ sizeLine) (t : Nat) :
    Inv X pins σ (upd H p (.lst ys)) { s with heap := s.heap.update p f, toks := t } := by
  have e : (s.heap.update p f).get? p = some { cls := .type "list", data := .seq its'.toArray n' } := by
    rw [Heap.get?_update_self f ho (by rw [hf] <;> rfl), hf]
  refine I.write (x := p) (e := p) (by rw [h]; trivial) (.inl rfl) (fun b u hb q => (Heap.get?_update_other _ _ (Ne.symm hb)).trans q) ⟨_, e⟩ ?_
  exact ⟨hz, its', n', r, e⟩
def rSetL : V → V → V → Hp → (Hp → Prop) → Prop := fun o i v H Q => ∃ p xs k j, o = .ref p ∧ i = .int k ∧ H p = some (.lst xs) ∧ ixN xs.length k = some j ∧ Q (upd H p (.lst (xs.set j v)))
theorem set_list : PSet X rSetL := by
  intro pins s σ H o i v ov iv u Q I ro ri rv h
  obtain ⟨p, xs, k, j, rfl, rfl, hp, hj, q⟩ := h
  cases ro
  obtain ⟨t, rfl⟩ := ri
  obtain ⟨its, n, r, ho, hz⟩ := I.lst hp
  obtain ⟨h1, h2, h3, h4⟩ := ixN_seq hj
  have hl := r.length
  have hn := line63
  have I' : Inv X pins σ (upd H p (.lst (xs.set j v))) { s with heap := s.heap.update p (Obj.mapSeq (·.setIfInBounds j u)) } :=
    I.lstUpd hp ho (mapSeq_set its n j u) (r.set rv j) (by rw [List.length_set]; exact hz) s.toks
  by_cases h0 : 0 ≤ k
  · have hk : k.toNat = j := by
      rw [seqIndex_of h0 h4] at h1
      exact Option.some.inj h1
    exact PySem.W.ki_setAt ho h0 (by omega) (by rw [List.size_toArray, ← hl]; exact h4) (by rw [hk]; exact ⟨_, I', q⟩)
  · have hk : (k + (its.toArray.size : Int)).toNat = j := by
      rw [seqIndex_neg (by omega) h3] at h1
      rw [List.size_toArray, ← hl]
      exact Option.some.inj h1
    exact PySem.W.ki_setBack ho (by omega) (by rw [List.size_toArray, ← hl]; exact h3) (by omega) (by rw [hk]; exact ⟨_, I', q⟩)

theorem slice_bounds (lo hi : Option Int) (n : Nat) : (sliceBounds lo hi none n).1 = ((HT.sIx n 0 lo : Nat) : Int) ∧ (sliceBounds lo hi none n).2.1 = ((HT.sIx n n hi : Nat) : Int) ∧ (sliceBounds lo hi none n).2.2 = 1 := by
  refine ⟨?_, ?_, rfl⟩
  · cases lo with
    | none => simp [sliceBounds, HT.sIx]
    | some i =>
      simp only [sliceBounds, HT.sIx, Option.getD_none, show (1 : Int) > 0 by decide, if_true]
      by_cases h : i < 0
      · simp only [h, if_true] <;> omega
      · simp only [h, if_false] <;> omega
  · cases hi with
    | none => simp [sliceBounds, HT.sIx]
    | some i =>
      simp only [sliceBounds, HT.sIx, Option.getD_none, show (1 : Int) > 0 by decide, if_true]
      by_cases h : i < 0
      · simp only [h, if_true] <;> omega
      · simp only [h, if_false] <;> omega
theorem slicePick_cut (its : List Value) (lo hi : Option Int) : slicePick its.toArray lo hi none = ((its.drop (HT.sIx its.length 0 lo)).take (HT.sIx its.length its.length hi - HT.sIx its.length 0 lo)).toArray := by
  obtain ⟨h1, h2, h3⟩ := slice_bounds lo hi its.toArray.size
  unfold slicePick
  rw [h1, h2, h3]
  simp only [sliceRange_one, pick_run, List.size_toArray] <;> rfl
/-- xs[lo:hi] of a list: a new list -/
def rSlL (K : PySem.W.Frag) : V → Option Int → Option Int → Hp → VK → Prop := fun x lo hi H Q => ∃ a xs, x = .ref a ∧ SqL K H a xs ∧ ∀ p, H p = none → Q (.ref p) (upd H p (.lst (cutV xs lo hi)))
theorem sl_list : SlR X (rSlL X.K) := by
  intro pins s σ H x v vl vu lo hi sl Q I rx hs pl pu h
  obtain ⟨a, xs, rfl, hx, q⟩ := h
  cases rx
  obtain ⟨its, r, ht, hz⟩ := I.list hx
  have hlen := r.length
  refine ⟨"list", _, slot_list_getitem.lookup, ht.isList.typeIs, ?_⟩
  refine wpAny_getItem_list_slice ht.isList hs pl pu .none (by simp) ?_ (by rw [List.size_toArray] <;> omega)
  rw [slicePick_cut, ← hlen]
  refine ⟨.ref s.heap.objs.size, _, I.laid (t' := s.toks) (o := .lst (cutV xs lo hi)) (fun b ob q => Heap.get?_push_of_some _ q) (Nat.le_refl _) ?_, rfl, q _ (I.hok.fresh (Nat.le_refl _))⟩
  exact ⟨Nat.le_trans (cutV_length xs lo hi) hz, _, 0, (r.drop (HT.sIx xs.length 0 lo)).take (HT.sIx xs.length xs.length hi - HT.sIx xs.length 0 lo), Heap.get?_push_size _ rfl⟩

def flatV : V → Bool
  | .non => true
  | .bl _ => true
  | .int _ => true
  | .str _ => true
  | _ => false
/-- == of flat values -/
def eqV : V → V → Bool
  | .non, .non => true
  | .bl a, .bl b => a == b
  | .bl a, .int b => (if a then 1 else 0) == b
  | .int a, .bl b => a == (if b then 1 else 0)
  | .int a, .int b => a == b
  | .str a, .str b => a == b
  | _, _ => false
theorem eqAt_V {A : Around} {s : Shared} {y x : V} {u v : Value} (ry : RelV y u) (rx : RelV x v) (fy : flatV y = true) (fx : flatV x = true) : SeqAt.EqAt A s u v (eqV y x) := by
  cases y with
  | non =>
    cases ry
    cases x with
    | non => cases rx; exact SeqAt.EqAt.same _
    | bl b => cases rx; exact SeqAt.EqAt.none_bool b
    | int b => obtain ⟨t, rfl⟩ := rx; exact SeqAt.EqAt.none_int b t
    | str b => obtain ⟨t, rfl⟩ := rx; exact SeqAt.EqAt.none_str b t
    | _ => exact absurd (show false = true from fx) Bool.false_ne_true
  | bl a =>
    cases ry
    cases x with
    | non => cases rx; exact SeqAt.EqAt.bool_none a
    | bl b => cases rx; exact SeqAt.EqAt.bool_bool a b
    | int b => obtain ⟨t, rfl⟩ := rx; exact SeqAt.EqAt.bool_int a b t
    | str b => obtain ⟨t, rfl⟩ := rx; exact SeqAt.EqAt.bool_str a b t
    | _ => exact absurd (show false = true from fx) Bool.false_ne_true
  | int a =>
    obtain ⟨t', rfl⟩ := ry
    cases x with
    | non => cases rx; exact SeqAt.EqAt.int_none a t'
    | bl b => cases rx; exact SeqAt.EqAt.int_bool a t' b
    | int b => obtain ⟨t, rfl⟩ := rx; exact SeqAt.EqAt.int_int a t' b t
    | str b => obtain ⟨t, rfl⟩ := rx; exact SeqAt.EqAt.int_str a t' b t
    | _ => exact absurd (show false = true from fx) Bool.false_ne_true
  | str a =>
    obtain ⟨t', rfl⟩ := ry
    cases x with
    | non => cases rx; exact SeqAt.EqAt.str_none a t'
    | bl b => cases rx; exact SeqAt.EqAt.str_bool a t' b
    | int b => obtain ⟨t, rfl⟩ := rx; exact SeqAt.EqAt.str_int a t' b t
    | str b => obtain ⟨t, rfl⟩ := rx; exact SeqAt.EqAt.str_str a t' b t
    | _ => exact absurd (show false = true from fx) Bool.false_ne_true
  | _ => exact absurd (show false = true from fy) Bool.false_ne_true
/-- the items' answers, read off the values (a value's own answer does not lean on its token) -/
def eqU (x : V) (u : Value) : Bool := match u with
  | .none => eqV .non x
  | .bool b => eqV (.bl b) x
  | .int i _ => eqV (.int i) x
  | .str z _ => eqV (.str z) x
  | _ => false
theorem eqU_of {x y : V} {u : Value} (r : RelV y u) (f : flatV y = true) : eqU x u = eqV y x := by
  cases y with
  | non => cases r; rfl
  | bl b => cases r; rfl
  | int i => obtain ⟨t, rfl⟩ := r; rfl
  | str z => obtain ⟨t, rfl⟩ := r; rfl
  | _ => exact absurd (show false = true from f) Bool.false_ne_true
theorem any_eqU {x : V} : ∀ {xs : List V} {us : List Value}, Vals xs us → xs.all flatV = true → us.any (eqU x) = xs.any fun y => eqV y x
  | _, _, .nil, _ => rfl
  | y :: xs, u :: us, .cons r t, f => by
    rw [List.all_cons, Bool.and_eq_true] at f
    rw [List.any_cons, List.any_cons, eqU_of r f.1, any_eqU t f.2]
theorem mem_eqAt {A : Around} {s : Shared} {x : V} {v : Value} (rx : RelV x v) (fx : flatV x = true) : ∀ {xs : List V} {us : List Value}, Vals xs us → xs.all flatV = true → ∀ u ∈ us, SeqAt.EqAt A s u v (eqU x u)
  | _, _, .nil, _ => fun u hu => by cases hu
  | y :: xs, u :: us, .cons r t, f => fun u' hu => by
    rw [List.all_cons, Bool.and_eq_true] at f
    rcases List.mem_cons.mp hu with rfl | hu
    · rw [eqU_of r f.1]; exact eqAt_V r rx f.1 fx
    · exact mem_eqAt rx fx t f.2 u' hu
def inV (x : V) (xs : List V) : Bool := xs.any fun y => eqV y x
/-- x in a list or tuple of flat items -/
def rIn (K : PySem.W.Frag) (neg : Bool) : R2 := fun x y H Q => ∃ p xs, y = .ref p ∧ (SqL K H p xs ∨ SqT K H p xs) ∧ flatV x = true ∧ xs.all flatV = true ∧ Q (.bl (if neg then !inV x xs else inV x xs)) H
theorem op_in_seq : OpR X (compareOp .In) (rIn X.K false) := by
  intro pins s σ H x y v u Q I rx ry h
  obtain ⟨p, xs, rfl, hq, fx, fs, q⟩ := h
  cases ry
  rcases hq with hq | hq
  · obtain ⟨its, r, pl, hz⟩ := I.list hq
    refine SeqAt.in_listAt (eqU x) pl.isList (fun w hw => mem_eqAt rx fx r fs w (by simpa using hw)) ⟨.bl _, H, I, rfl, ?_⟩
    rw [show its.toArray.any (eqU x) = its.any (eqU x) by simp, any_eqU r fs]
    exact q
  · obtain ⟨its, r, pl, hz⟩ := I.tuple hq
    refine SeqAt.in_tupleAt (eqU x) pl (fun w hw => mem_eqAt rx fx r fs w (by simpa using hw)) ⟨.bl _, H, I, rfl, ?_⟩
    rw [show its.toArray.any (eqU x) = its.any (eqU x) by simp, any_eqU r fs]
    exact q
theorem op_notIn_seq : OpR X (compareOp .NotIn) (rIn X.K true) := by
  intro pins s σ H x y v u Q I rx ry h
  obtain ⟨p, xs, rfl, hq, fx, fs, q⟩ := h
  cases ry
  rcases hq with hq | hq
  · obtain ⟨its, r, pl, hz⟩ := I.list hq
    refine SeqAt.notIn_listAt (eqU x) pl.isList (fun w hw => mem_eqAt rx fx r fs w (by simpa using hw)) ⟨.bl _, H, I, rfl, ?_⟩
    rw [show its.toArray.any (eqU x) = its.any (eqU x) by simp, any_eqU r fs]
    exact q
  · obtain ⟨its, r, pl, hz⟩ := I.tuple hq
    refine SeqAt.notIn_tupleAt (eqU x) pl (fun w hw => mem_eqAt rx fx r fs w (by simpa using hw)) ⟨.bl _, H, I, rfl, ?_⟩
    rw [show its.toArray.any (eqU x) = its.any (eqU x) by simp, any_eqU r fs]
    exact q
theorem call_len_seq : CallR X (.builtin "len") (fun xs H Q => ∃ p ys, xs = [.ref p] ∧ (SqL X.K H p ys ∨ SqT X.K H p ys) ∧ Q (.int ys.length) H) := by
  intro pins s σ H xs us Q I r h
  obtain ⟨p, ys, rfl, hq, q⟩ := h
  obtain ⟨u, rfl, rx⟩ := vals1 r
  cases rx
  have hn := line63
  rcases hq with hq | hq
  · obtain ⟨its, r', pl, hz⟩ := I.list hq
    have hlen := r'.length
    exact Calls.call_len_list pl.isList (by simp only [List.size_toArray] <;> omega) ⟨.int ys.length, H, I.tok _, ⟨s.toks + 1, by rw [List.size_toArray, hlen]⟩, q⟩
  · obtain ⟨its, r', pl, hz⟩ := I.tuple hq
    have hlen := r'.length
    exact len_tuple pl (by simp only [List.size_toArray] <;> omega) ⟨.int ys.length, H, I.tok _, ⟨s.toks + 1, by rw [List.size_toArray, hlen]⟩, q⟩
theorem call_tuple_of : CallR X (.type "tuple") (fun xs H Q => ∃ p ys, xs = [.ref p] ∧ ((SqL X.K H p ys ∧ ∀ l, H l = none → Q (.ref l) (upd H l (.tup ys))) ∨ (SqT X.K H p ys ∧ Q (.ref p) H))) := by
  intro pins s σ H xs us Q I r h
  obtain ⟨p, ys, rfl, h⟩ := h
  obtain ⟨u, rfl, rx⟩ := vals1 r
  cases rx
  rcases h with ⟨hq, q⟩ | ⟨hq, q⟩
  · obtain ⟨its, r', pl, hz⟩ := I.list hq
    have hlen := r'.length
    refine call_tuple_list pl.isList (fun h' kp => ?_) (by simp only [List.size_toArray] <;> omega)
    have I1 : Inv X pins σ H { s with heap := h' } := I.kept (t' := s.toks) kp
    have I2 : Inv X pins σ (upd H h'.objs.size (.tup ys)) { s with heap := h'.push { cls := .type "tuple", data := .seq its.toArray } } :=
      I1.laid (t' := s.toks) (fun b o e => Heap.get?_push_of_some _ e) (Nat.le_refl _) (show ObjOk X.prog X.w _ _ _ (.tup ys) from ⟨hz, its, r', _, Heap.get?_push_size _ rfl, rfl, _, rfl, rfl⟩)
    exact ⟨.ref h'.objs.size, _, I2, rfl, q _ (I1.hok.fresh (Nat.le_refl _))⟩
  · obtain ⟨its, r', pl, hz⟩ := I.tuple hq
    exact call_tuple_same pl ⟨.ref p, H, I, rfl, q⟩

/-- the value is of that builtin type -/
def tyV (K : PySem.W.Frag) (T : String) (x : V) (H : Hp) : Prop := match x with
  | .str _ => T = "str"
  | .int _ => T = "int"
  | .ref p => (T = "list" ∧ ∃ xs, SqL K H p xs) ∨ (T = "tuple" ∧ ∃ o, K.lookup p = some o ∧ o.cls = .type "tuple" ∧ o.dict = none) ∨
      (T = "dict" ∧ ((∃ kvs, H p = some (.dK kvs)) ∨ ∃ kvs, H p = some (.dT kvs))) ∨ (T = "set" ∧ ∃ S n, H p = some (.set S n))
  | _ => False
theorem tyV_is {pins : List (Addr × Obj)} {σ : St} {H : Hp} {s : Shared} {T : String} {x : V} {v : Value} (I : Inv X pins σ H s) (r : RelV x v) (ty : tyV X.K T x H) :
    s.TypeIs v T ∧ ∀ a, v = .ref a → ∃ ob, s.heap.get? a = some ob ∧ ob.dict = none := by
  cases x with
  | str z =>
    obtain ⟨t, rfl⟩ := r
    cases (show T = "str" from ty)
    exact ⟨typeIs_str s z t, fun _ e => nomatch e⟩
  | int i =>
    obtain ⟨t, rfl⟩ := r
    cases (show T = "int" from ty)
    exact ⟨typeIs_int s i t, fun _ e => nomatch e⟩
  | ref p =>
    cases r
    rcases ty with ⟨rfl, xs, hq⟩ | ⟨rfl, o, hk, hc, hd⟩ | ⟨rfl, hk⟩ | ⟨rfl, S, n, hk⟩
    · obtain ⟨its, _, pl, _⟩ := I.list hq
      refine ⟨pl.isList.typeIs, fun a e => ?_⟩
      cases e
      obtain ⟨o, n, e, c, hd, _⟩ := pl
      exact ⟨o, e, hd⟩
    · refine ⟨⟨o, I.kIn p o hk, hc⟩, fun a e => ?_⟩
      cases e
      exact ⟨o, I.kIn _ o hk, hd⟩
    · have z : ∃ o, s.heap.get? p = some o ∧ o.ExactDict := by
        rcases hk with ⟨kvs, hk⟩ | ⟨kvs, hk⟩
        · obtain ⟨_, _, _, _, o, _, _, e, ex, _⟩ := I.hok p _ hk
          exact ⟨o, e, ex⟩
        · obtain ⟨_, _, _, _, o, _, _, e, ex, _⟩ := I.hok p _ hk
          exact ⟨o, e, ex⟩
      obtain ⟨o, e, ex⟩ := z
      refine ⟨⟨o, e, ex.1⟩, fun a e2 => ?_⟩
      cases e2
      exact ⟨o, e, ex.2.1⟩
    · obtain ⟨o, _, _, _, e, ex, _⟩ := I.hok p _ hk
      refine ⟨⟨o, e, ex.1⟩, fun a e2 => ?_⟩
      cases e2
      exact ⟨o, e, ex.2.1⟩
  | _ => exact False.elim ty
def tBM (K : PySem.W.Frag) (T : String) (r : V → List V → Hp → VK → Prop) (to : TE) (t : TA) : TE := fun σ H Q => to σ H fun x H1 => tyV K T x H1 ∧ t σ H1 fun xs H2 => r x xs H2 Q
variable {o e : Expr} {es : List Expr} {to : TE} {t : TA} {name : Str} {apos cpos : Pos} {T id : String} {r : V → List V → Hp → VK → Prop}
theorem pe_bm (pa : PlainAttrs T) (slot : Slot T name id) (hty : typeOf (.builtin id) = pure (.type "method_descriptor")) (hm : MtR X id r) (ho : PE X o to) (ha : PA X (e :: es) t)
    (hbase : attributeBase o name X.env (eval o X.env) = eval o X.env := by rfl)
    (hfew : ((backTo cpos (starEach (e :: es) X.env)).all (fun x => !x.1) && (backToKw cpos (keywordEach [] X.env)).all (fun x => x.1.isSome)
      && decide ((e :: es).length + ([] : List Keyword).length + (if ([] : List Keyword).isEmpty then 0 else 1) < 30)) = true := by rfl)
    (hline : (apos.endLine == cpos.line) = true := by rfl) (hs : starEach (e :: es) X.env = (false, eval e X.env) :: starEach es X.env := by rfl) (hplain : (backTo cpos (starEach es X.env)).any (·.1) = false := by rfl) :
    PE X (.Call (.Attribute o name apos) (e :: es) [] cpos) (tBM X.K T r to t) := by
  intro pins s σ H Q I h
  refine wpAny_Call_method_late hbase hfew hline rfl (thn (ho pins s σ H _ I h) fun v s1 ⟨x, H1, I1, r1, ty, q1⟩ => ?_)
  obtain ⟨h1, h2⟩ := tyV_is I1 r1 ty
  refine ⟨T, id, pa, slot, hty, h1, h2, ?_⟩
  have hA := ha cpos pins s1 σ H1 _ I1 q1
  rw [hs] at hA ⊢
  refine Calls.callWith_builtin (by show (false || (backTo cpos (starEach es X.env)).any (·.1)) = false; rw [hplain] <;> rfl) (Calls.evalArgs_plain ?_)
  exact thn hA fun us s2 ⟨vs, H2, I2, r2, q2⟩ => hm pins s2 σ H2 x vs v us Q I2 r1 r2 q2
/- xs.append(e), list.index on a module's tuple .. are MtR facts of 06m -/
end
end L2

namespace L2
open PySem PySem.Spec PyProof.Rows

def MtM (X : Cx) (id : String) (r : V → List V → Hp → VK → Prop) : Prop :=
  ∀ (pins : List (Addr × Obj)) (s : Shared) (σ : St) (H : Hp) (x : V) (xs : List V) (v : Value) (us : List Value) (Q : VK), Inv X pins σ H s → RelV x v → Vals xs us → r x xs H Q →
    wpAny (model X.prog X.w) X.A (call (.builtin id) (v :: us)) (EP X pins σ Q) X.xe s

theorem Vals.one : ∀ {x : V} {us : List Value}, Vals [x] us → ∃ u, us = [u] ∧ RelV x u
  | _, _, .cons r .nil => ⟨_, rfl, r⟩
theorem Vals.two : ∀ {x y : V} {us : List Value}, Vals [x, y] us → ∃ u v, us = [u, v] ∧ RelV x u ∧ RelV y v
  | _, _, _, .cons r (.cons q .nil) => ⟨_, _, rfl, r, q⟩
section
variable {X : Cx} {pins : List (Addr × Obj)} {σ : St} {H : Hp} {s : Shared} {l b : Addr} {xs ys zs : List V}

theorem Inv.lset {its its' : List Value} {n : Nat} {f : Array Value → Array Value} {t' : Nat} (I : Inv X pins σ H s) (hH : H l = some (.lst xs))
    (e : s.heap.get? l = some { cls := .type "list", data := .seq its.toArray n }) (hf : f its.toArray = its'.toArray) (hv : Vals ys its') (hz : ys.length ≤ sizeLine) :
    Inv X pins σ (upd H l (.lst ys)) { s with heap := s.heap.update l (Obj.mapSeq f), toks := t' } := by
  have q := PySem.IsL.update e f
  rw [hf] at q
  refine I.write (x := l) (e := l) (by rw [hH]; exact trivial) (.inl rfl) (fun b' u hb hu => (Heap.get?_update_other s.heap (Obj.mapSeq f) (Ne.symm hb)).trans hu) ⟨_, q⟩ ?_
  exact ⟨hz, its', _, hv, q⟩
theorem Inv.lnew {its : List Value} {t' : Nat} (I : Inv X pins σ H s) (hv : Vals ys its) (hz : ys.length ≤ sizeLine) :
    Inv X pins σ (upd H s.heap.objs.size (.lst ys)) { s with heap := s.heap.push { cls := .type "list", data := .seq its.toArray }, toks := t' } :=
  I.laid (fun _ _ q => Heap.get?_push_of_some _ q) (Nat.le_refl _) ⟨hz, its, 0, hv, Heap.get?_push_size _ rfl⟩
theorem Inv.fresh (I : Inv X pins σ H s) : H s.heap.objs.size = none := I.hok.fresh (Nat.le_refl _)
theorem Inv.lstM (I : Inv X pins σ H s) (hH : H l = some (.lst xs)) : xs.length ≤ sizeLine ∧ ∃ (its : List Value) (n : Nat), Vals xs its ∧ xs.length = its.length ∧ s.heap.get? l = some { cls := .type "list", data := .seq its.toArray n } := by
  obtain ⟨z, its, n, r, e⟩ := I.hok l _ hH
  exact ⟨z, its, n, r, r.length, e⟩

end

section
variable {X : Cx}

def rAppend : V → List V → Hp → VK → Prop := fun x vs H Q => ∃ l xs y, x = .ref l ∧ vs = [y] ∧ H l = some (.lst xs) ∧ xs.length < sizeLine ∧ Q .non (upd H l (.lst (xs ++ [y])))
theorem mt_append : MtM X "list.append" rAppend := by
  intro pins s σ H x vs v us Q I rx rv h
  obtain ⟨l, xs, y, rfl, rfl, hH, hz, q⟩ := h
  cases rx
  obtain ⟨u, rfl, ru⟩ := rv.one
  obtain ⟨z, its, n, r, hl, e⟩ := I.lstM hH
  refine call_meets F.slot_list_append ⟨_, e, rfl⟩ F.entry_list_append (F.args_list_append_2 _ _) (PySem.list_append l its.toArray n u (by rw [List.size_toArray]; omega)) ⟨e, ?_⟩
  refine ⟨.non, _, I.lset (its' := its ++ [u]) hH e (by simp) (r.append (.cons ru .nil)) ?_, rfl, q⟩
  rw [List.length_append, List.length_singleton]
  omega

def rCat : R2 := fun x y H Q => ∃ l b xs zs, x = .ref l ∧ y = .ref b ∧ H l = some (.lst xs) ∧ H b = some (.lst zs) ∧ xs.length + zs.length ≤ sizeLine ∧ ∀ p, H p = none → Q (.ref p) (upd H p (.lst (xs ++ zs)))
theorem op_cat : OpR X (binaryOp .Add) rCat := by
  intro pins s σ H x y v u Q I rx ry h
  obtain ⟨l, b, xs, zs, rfl, rfl, hH, hB, hz, q⟩ := h
  cases rx
  cases ry
  obtain ⟨z, its, n, r, hl, e⟩ := I.lstM hH
  obtain ⟨z2, its2, n2, r2, hl2, e2⟩ := I.lstM hB
  refine PySem.P.add_list e e2 ?_ (by rw [List.size_toArray, List.size_toArray]; omega)
  have ea : its.toArray ++ its2.toArray = (its ++ its2).toArray := by simp
  rw [ea]
  exact ⟨.ref _, _, I.lnew (t' := s.toks) (r.append r2) (by rw [List.length_append]; omega), rfl, q _ I.fresh⟩
end

section
variable {prog : Program} {w : World} {A : Around} {E : Value → Shared → Prop} {s : Shared}
end

section
variable {X : Cx}
end
end L2

namespace Att
open PySem PySem.W PySem.Calls PyProof.Rows

theorem ints_of_wellAll {P : Params} {h : Heap} : ∀ (ns : List Int) (vs : List Value), WellAll P h vs (ns.map WData.int) → IntsAre vs ns := by
  intro ns
  induction ns with
  | nil =>
    intro vs w
    rw [List.map_nil] at w
    cases w
    exact .nil
  | cons n ns ih =>
    intro vs w
    rw [List.map_cons] at w
    cases w with
    | cons a b =>
      cases a
      exact .cons _ _ (ih _ b)

theorem script_of {l : OpenLaw} {n : Nat} (hn : l.most = some n) {P : Params} {h : Heap} {args : List WData} {vals : List Value}
    (hpre : l.row.toRowW.claim.pre args = true) (hwl : WellAll P h vals args) :
    ∃ a vs ns, vals = [Value.ref a] ∧ args = [WData.list (ns.map WData.int)] ∧ h.get? a = some { cls := .type "list", data := .seq vs.toArray } ∧ IntsAre vs ns ∧ ns.length ≤ n := by
  have hsh : WShape.hasAll [] args [.list .int] = true := (pre_splitW hpre).1
  have hc : l.pre.holds [] { args := args } = true := (pre_splitW hpre).2
  obtain ⟨d, r, rfl, h1, h2⟩ := hasAllW_cons hsh
  obtain rfl := hasAllW_nil h2
  obtain ⟨xs, rfl, h3⟩ := hasW_list h1
  obtain ⟨ns, rfl⟩ := items_int h3
  have hlen : ns.length ≤ n := by
    unfold OpenLaw.pre at hc
    have h4 : (WTm.not (.lt (.lit (.int (n : Int))) (.len (.arg 0)))).holds [] { args := [.list (ns.map .int)] } = true := by
      have h4 := (holds_andW hc).1
      rw [hn] at h4
      exact h4
    have h5 := condW_of h4 (w_not (w_lt w_lit (w_len_list (w_arg rfl))))
    rw [List.length_map] at h5
    refine Nat.le_of_not_lt fun q => ?_
    have q' : (n : Int) < ((ns.length : Nat) : Int) := by omega
    first
      | (rw [decide_eq_true q'] at h5; exact absurd h5 (by decide))
      | (simp at h5; omega)
  cases hwl with
  | cons w1 w2 =>
    cases w2
    cases w1 with
    | list ho hall => exact ⟨_, _, ns, rfl, rfl, ho, ints_of_wellAll ns _ hall, hlen⟩

theorem post_true (l : OpenLaw) (args : List WData) : l.row.toRowW.claim.post args (.bool true) args = true :=
  postW_of (r := l.row.toRowW) (X := (true == true))
    (show WShape.has [] (.bool true) .bool = true by first | rfl | decide | simp [WShape.has, WShape.arms, WShape.armsAll])
    (show (WTm.eq .res (.lit (.bool true))).value [] { args := args, res := some (.bool true), after := args } = some (.bool (true == true)) from w_eq_bool (w_res rfl) w_lit) rfl

/-- the same from a codeAny of the CALL (for a layer whose function contracts speak of calls) -/
theorem attach_call {l : OpenLaw} {n : Nat} {q : Program} {loose : List Str} {XP : (Str → Option Value) → Heap → Prop} {YP : World → Heap → Prop} {d : DefRec}
    (hn : l.most = some n) (hdf : d.params.defaults = [])
    (call : ∀ (w : World) (s₀ s₁ : Shared) (mg mb : Str → Option Value) (fa : Addr) (o : Obj) (pm cd doc : Value) (a : Addr) (vs : List Value) (ns : List Int),
      Ground q loose [] XP w s₀ mg mb s₁.heap → YP w s₁.heap →
      s₁.heap.get? fa = some o → o.data = .func (docDef d.name d.params d.body d.scope pm cd doc) → s₁.heap.CodeRec cd d.name → mg d.name = some (.ref fa) →
      s₁.heap.get? a = some { cls := .type "list", data := .seq vs.toArray } → IntsAre vs ns → ns.length ≤ n → s₁.gens = #[] →
      codeAny (model l.prog w) callerA (.call (.ref fa) ⟨[.ref a], []⟩) (fun r s' => r = .ok (.ret (.bool true)) ∧ OldK s₁.heap s'.heap ∧ s'.os = s₁.os ∧ AllBare s'.gens) s₁) :
    WalkO q loose XP YP l.row.toRowW d [] (fun f vs => PySem.call f vs) := by
  intro w s₀ s₁ mg mb G Y fa o pm cd doc dV kV ho hd hcd hD hmg hg args vals as hpre hlay hrd hwl hlo
  obtain rfl : dV = .none := Dflts.none hD hdf
  obtain rfl : kV = .none := Dflts.noKw hD
  obtain ⟨a, vs, ns, rfl, rfl, hobj, hints, hlen⟩ := script_of hn hpre hwl
  refine enter_call (codeAny_mono (call w s₀ s₁ mg mb fa o pm cd doc a vs ns G Y ho (fd_plain hd) hcd hmg hobj hints hlen hg) fun r s' hq => ?_)
  obtain ⟨rfl, h2, h3, h4⟩ := hq
  exact ⟨.inl ⟨.bool true, .bool true, [], rfl, fun _ => rfl, .bool true, post_true l _, fun _ => ⟨List.Pairwise.nil, fun _ hm => (nomatch hm)⟩⟩, h2, h3, h4⟩

section
variable {prog : Program} {w : World} {A : Around} {E : Value → Shared → Prop} {s : Shared} {K : Frag}

end
end Att

namespace L2
open PySem PySem.Spec PyProof.Rows

theorem vals_ints : ∀ {vs : List Value} {ns : List Int}, IntsAre vs ns → Vals (ns.map V.int) vs
  | _, _, .nil => .nil
  | _, _, .cons n t h => .cons ⟨t, rfl⟩ (vals_ints h)

/-- nothing is tracked but the script, known to the object (or it is an object of the module) -/
def Only (H : Hp) : Prop := ∀ b, H b = none ∨ ∃ o xs, H b = some (.frz o (.lst xs))

/-- THE HEAD: the law's promise, at the heap behind the top. F, the promise of the law's def, may use that base is part of the heap (so K.In base, base.Ns mainGlobals mg stand in Mod) -/
theorem law_call {P : Program} {w : World} {K : PySem.W.Frag} {mg mb : Str → Option Value} {CX : CXT} {k : Nat} {fa a : Addr} {fd : FuncData} {x : Str} {sp : Sp} {s₁ : Shared} {vs : List Value} {ns : List Int}
    (KX : K.In s₁.heap) (hns : s₁.heap.Ns mainGlobals mg) (hb : s₁.heap.Ns builtinsNs mb) (hbb : ∀ x : Str, x ≠ "__name__" → mb x = bootBuiltins x) (hlim : s₁.heap.NoLimit) (hg : s₁.gens = #[])
    (ha : s₁.heap.get? a = some { cls := .type "list", data := .seq vs.toArray }) (hi : IntsAre vs ns) (hl : ns.length ≤ sizeLine) (hr : Room k callerA)
    (F : ∀ base : Heap, K.In base → base.Ns mainGlobals mg → FnOk P w K mg base CX k fa fd [x] sp) (hbind : ∀ (s : Shared) (u : Value), BindsTo s fd ⟨[u], []⟩ [(x, u)])
    (hsp : ∀ H : Hp, Only H → SqL K H a (ns.map V.int) → sp [.ref a] H (fun v _ => v = .bl true) fun _ _ _ => False)
    (hCX : ∀ H e s', CX [] H s₁ (fun _ _ _ => False) e s' → False) :
    codeAny (model P w) callerA (.call (.ref fa) ⟨[.ref a], []⟩) (fun r s' => r = .ok (.ret (.bool true)) ∧ OldK s₁.heap s'.heap ∧ s'.os = s₁.os ∧ AllBare s'.gens) s₁ := by
  have rv := vals_ints hi
  have lenV := hi.length
  -- from an abstract heap in which nothing but the script may be tracked
  have core : ∀ H : Hp, Only H → SqL K H a (ns.map V.int) → HOk P w H s₁.heap → (∀ b, H b ≠ none → b = a) → (H a ≠ none → K.lookup a = none) →
      codeAny (model P w) callerA (.call (.ref fa) ⟨[.ref a], []⟩) (fun r s' => r = .ok (.ret (.bool true)) ∧ OldK s₁.heap s'.heap ∧ s'.os = s₁.os ∧ AllBare s'.gens) s₁ := by
    intro H hO hS hok hA hK
    have base_of : ∀ {b : Addr} {o : Obj}, s₁.heap.get? b = some o → H b = none → (hidT s₁.heap H).get? b = some o := fun e n => hidT_get e n
    have noA : ∀ {b : Addr} {o : Obj} {es : Array DictEntry} {ep : Nat}, s₁.heap.get? b = some o → o.data = .dict es ep → H b = none := fun {b o es ep} e d => by
      cases q : H b with
      | none => rfl
      | some u =>
        have e' : b = a := hA b (by rw [q]; simp)
        subst e'
        rw [ha] at e; cases e
        have d' : Data.seq vs.toArray _ = Data.dict es ep := d
        cases d'
    have nsK : ∀ {b : Addr} {m : Str → Option Value}, s₁.heap.Ns b m → (hidT s₁.heap H).Ns b m := fun {b m} ⟨o, es, ep, e, d, r⟩ => ⟨o, es, ep, base_of e (noA e d), d, r⟩
    have hKb : K.In (hidT s₁.heap H) := fun b o e => base_of (KX b o e) (by
      cases q : H b with
      | none => rfl
      | some u =>
        have e' : b = a := hA b (by rw [q]; simp)
        subst e'
        rw [hK (by rw [q]; simp)] at e; cases e)
    have hM : Mod K mg (hidT s₁.heap H) := ⟨hKb, nsK hns, ⟨mb, nsK hb, hbb⟩, let ⟨mc, h1, h2⟩ := hlim; ⟨mc, nsK h1, h2⟩⟩
    have e0 : Env0 P w K mg (hidT s₁.heap H) callerA [] s₁ H := ⟨rfl, hM, fun b o e => of_hidT e, Nat.le_of_eq (hidT_size _ _), trivial, fun b hb => absurd (show b ∈ ([] : List Addr) from hb) (by simp), hok, .of_eq hg⟩
    refine codeAny_mono ((F _ hKb (nsK hns)).run callerA [] s₁ H ⟨[.ref a], []⟩ [.ref a] [.ref a] _ _ hr e0 (hbind s₁ (.ref a)) (.cons rfl .nil) (hsp H hO hS)) fun r s' h => ?_
    cases r with
    | error e => exact (hCX H e s' h).elim
    | ok fl =>
      cases fl with
      | next => exact False.elim h
      | brk => exact False.elim h
      | cont => exact False.elim h
      | ret u =>
        obtain ⟨v, H', os, bare, un, hok', r', q⟩ := h
        have q' : v = .bl true := q
        subst q'
        obtain rfl : u = Value.bool true := r'
        refine ⟨rfl, OldK.of_keep fun b o e => ?_, os, bare⟩
        cases q : H b with
        | none => exact un.keep b o e q (by intro z; exact absurd (show b ∈ ([] : List Addr) from z) (by simp)) (by simp)
        | some u =>
          rcases hO b with z | ⟨ob, xs, z⟩
          · rw [q] at z; cases z
          · have z2 := un.frzs b ob _ z
            obtain ⟨e1, _⟩ := hok b _ z
            obtain ⟨e2, _⟩ := hok' b _ z2
            rw [e] at e1; cases e1
            exact e2
  cases hk : K.lookup a with
  | some o =>
    -- the script is one of the module's own objects
    have e := KX a o hk
    rw [ha] at e
    cases e
    refine core (fun _ => none) (fun _ => .inl rfl) (.inr ⟨_, vs.toArray, _, hk, rfl, rfl, rfl, by rw [List.size_toArray, lenV]; exact hl, by simpa using rv⟩) (fun b u z => by have z' : (none : Option HO) = some u := z; cases z') (fun b z => absurd rfl z) fun z => absurd rfl z
  | none =>
    refine core (fun b => if b = a then some (.frz { cls := .type "list", data := .seq vs.toArray } (.lst (ns.map V.int))) else none) (fun b => ?_) (.inl (.inr ⟨{ cls := .type "list", data := .seq vs.toArray }, if_pos rfl⟩)) (fun b u z => ?_) (fun b z => ?_) fun _ => hk
    · by_cases hb : b = a
      · exact .inr ⟨_, _, if_pos hb⟩
      · exact .inl (if_neg hb)
    · by_cases hb : b = a
      · have z' := (if_pos hb).symm.trans z
        cases z'
        subst hb
        exact ⟨ha, by rw [List.length_map]; exact hl, vs, _, rv, ha⟩
      · have z' := (if_neg hb).symm.trans z
        cases z'
    · by_cases hb : b = a
      · exact hb
      · exact absurd (if_neg hb) z
end L2

namespace L2
open PySem PySem.Spec PyProof.Rows

abbrev KOf {K : PySem.W.Frag} {h : Heap} (_ : K.In h) : PySem.W.Frag := K

/-- the goal that k_head leaves (case hc), from the law's promise. F gives the function object fd (K's own) once, then the promise over every base -/
theorem walk_of {l : PySem.W.OpenLaw} {n k : Nat} {q : Program} {loose : List Str} {XP : (Str → Option Value) → Heap → Prop} {YP : World → Heap → Prop} {d : DefRec} {K : Params → PySem.W.Frag} {CX : World → CXT} {sp : World → Sp} {x : Str}
    (hn : l.most = some n) (hn2 : n ≤ sizeLine) (hdf : d.params.defaults = []) (hr : Room k callerA)
    (hY : ∀ (w : World) (h : Heap), YP w h → (K w.params).In h)
    (F : ∀ (w : World) (mg : Str → Option Value) (fa : Addr) (h : Heap), (K w.params).In h → h.Ns mainGlobals mg → mg d.name = some (.ref fa) →
      ∃ fd : FuncData, (∀ (s : Shared) (u : Value), BindsTo s fd ⟨[u], []⟩ [(x, u)]) ∧
        ∀ base : Heap, (K w.params).In base → base.Ns mainGlobals mg → FnOk l.prog w (K w.params) mg base (CX w) k fa fd [x] (sp w))
    (hsp : ∀ (w : World) (H : Hp) (a : Addr) (ns : List Int), ns.length ≤ n → Only H → SqL (K w.params) H a (ns.map V.int) → sp w [.ref a] H (fun v _ => v = .bl true) fun _ _ _ => False)
    (hCX : ∀ (w : World) (H : Hp) (s : Shared) (e : Value) (s' : Shared), CX w [] H s (fun _ _ _ => False) e s' → False) :
    PySem.W.WalkO q loose XP YP l.row.toRowW d [] (fun f vs => PySem.call f vs) := by
  refine Att.attach_call hn hdf fun w s₀ s₁ mg mb fa o pm cd doc a vs ns G Y ho hd hcd hmg hobj hints hlen hg => ?_
  have KX := hY w _ Y
  obtain ⟨fd, hb, hF⟩ := F w mg fa _ KX G.T.g hmg
  exact law_call KX G.T.g G.T.b G.T.builtins G.T.nolimit hg hobj hints (Nat.le_trans hlen hn2) hr hF hb (fun H hO hS => hsp w H a ns hlen hO hS) fun H e s' => hCX w H s₁ e s'
end L2

/- THE LAST THEOREM (shape; LID, My.* are yours):
   My.Adr: a structure of the addresses that your layer names (classes, functions); My.Txt K t: a structure (Prop) of the equations over K;
   My.txt_mk : {K} {implicit addresses ..} (e1 : nsIn K mainGlobals "law" = some (some (.ref f))) (e2 : K.lookup f = some ⟨oc, od, .func (fnOf "law" "law" params body scope dV kV doc pm an cdv ct), sl⟩) (e3 : codeIn K cdv "law" = true) .. : ∃ t, My.Txt K t

set_option maxRecDepth 100000 in
set_option maxHeartbeats 0 in
theorem PySem.Challenge.cw_LID_holds : PySem.Challenge.rw_LID.Holds := by
  w_on; o_law; k_head; (case hw => w_witness2)
  k_fill
  refine L2.walk_of (l := PySem.Challenge.rw_LID) (n := 63) (k := 40) (x := "script") (CX := fun w => ..) (sp := fun _ => My.sp_law) rfl (by decide) rfl ⟨rfl, by decide, by decide⟩ (fun w h Y => PySem.W.kIn_of Y) ?F ?S ?C
  case F =>
    intro w mg fa h KX G hmg
    have T : ∃ t, My.Txt (L2.KOf KX) t := by
      dsimp only [L2.KOf]                          -- K must stand as «<heap const> w.params» for k_is
      refine' My.txt_mk ?e1 ?e2 ?e3 ..
      (case e1 => PySem.W.k_is)                    -- in the order: a name -> its address -> its object -> its parts
      (case e2 => PySem.W.k_is)
      ..
    obtain ⟨t, T⟩ := T
    have e0 := hmg.symm.trans (PySem.W.mg_of KX G T.law)
    cases e0                                       -- fa is the law's own address
    exact ⟨_, fun s u => .of_eq rfl, fun base kb nb => My.law_fn T kb nb⟩     -- if «.of_eq rfl» comes too early: refine' ⟨_, ?b, fun base kb nb => My.law_fn T kb nb⟩; exact fun s u => .of_eq rfl
  case S => exact fun w H a ns hl hO hS => ..
  case C => exact ..
(the tactic k_is has no namespace: write k_is) -/

namespace L2
open PySem PySem.Spec PyProof.Rows

def defArgs (s : Stmt) : Arguments := match s with
  | .FunctionDef _ a _ _ _ _ _ _ _ _ => a
  | _ => { posonlyargs := [], args := [], vararg := none, kwonlyargs := [], kw_defaults := [], kwarg := none, defaults := [] }
def defBody (s : Stmt) : List Stmt := match s with
  | .FunctionDef _ _ b _ _ _ _ _ _ _ => b
  | _ => []
def defScope (s : Stmt) : Scope := match s with
  | .FunctionDef _ _ _ _ _ _ sc _ _ _ => sc
  | _ => { kind := .function, names := [], isGenerator := false, isCoroutine := false }

abbrev CX0 : CXT := fun _ _ _ _ _ _ => False
abbrev E0 : XK := fun _ _ _ => False
theorem pass0 {X : Cx} : Passes CX0 X E0 := fun _ _ _ _ _ _ _ h => h.elim

structure Fun (K : PySem.W.Frag) (x qual : Str) (st : Stmt) (f : Addr) (fd : FuncData) : Prop where
  ex : ∃ (oc : Value) (od : Option Addr) (kV doc pm : Value) (an : Option Addr) (cdv ct : Value) (osl : Array (Option Value)),
    fd = PySem.W.fnOf x qual (defArgs st) (defBody st) (defScope st) .none kV doc pm an cdv ct ∧ K.lookup f = some ⟨oc, od, .func fd, osl⟩ ∧ PySem.W.codeIn K cdv qual = true
  kp : PySem.W.keepIn K (.ref f) = true
section
variable {P : Program} {w : World} {K : PySem.W.Frag} {mg : Str → Option Value} {base : Heap}
/-- THE RULE for a def: its body as a term of rules, and the reading of that term -/
theorem Fun.ok {x qual : Str} {st : Stmt} {f : Addr} {fd : FuncData} {N ps : List Str} {k : Nat} {sp : Sp} (F : Fun K x qual st f fd) (S : FnScope N ps (defScope st)) (len : ∀ vs H Q E, sp vs H Q E → vs.length = ps.length)
    (hbody : ∀ (cdv : Value) (A : Around) (outer : List Env) (s : Shared) (H : Hp) (vs : List V) (Q : VK) (E : XK), Room k (A.deeper (envOfC qual (defScope st) s.heap.objs.size f cdv)) → sp vs H Q E →
      ∃ t, PSs (cxOf CX0 P w K mg base N qual (defScope st) f cdv A outer s H E).nox (defBody st) t ∧ t { nx := fun _ H' => Q .non H', rt := Q } (start N vs) H) : FnOk P w K mg base CX0 (k + 1) f fd ps sp := by
  obtain ⟨oc, od, kV, doc, pm, an, cdv, ct, osl, rfl, lk, hcd⟩ := F.ex
  refine fn_of lk hcd S len fun A outer s H vs Q E hr hsp => ?_
  obtain ⟨t, h, q⟩ := hbody cdv A outer s H vs Q E hr hsp
  exact ⟨t, h.nox, q⟩
theorem fun_mk {x qual : Str} {st : Stmt} {f : Addr} {oc : Value} {od an : Option Addr} {osl : Array (Option Value)} {kV doc pm cdv ct : Value} (l : K.lookup f = some ⟨oc, od, .func (PySem.W.fnOf x qual (defArgs st) (defBody st) (defScope st) .none kV doc pm an cdv ct), osl⟩)
    (c : PySem.W.codeIn K cdv qual = true) (k : PySem.W.keepIn K (.ref f) = true) : Fun K x qual st f (PySem.W.fnOf x qual (defArgs st) (defBody st) (defScope st) .none kV doc pm an cdv ct) := ⟨⟨oc, od, kV, doc, pm, an, cdv, ct, osl, rfl, l, c⟩, k⟩
end
theorem hu_of {A : Around} {k : Nat} (hr : Room k A) : A.units + 1 < cLine := Nat.lt_of_le_of_lt (Nat.add_le_add_left (by decide : 1 ≤ 64) _) hr.units
section
variable {X : Cx}
theorem pv (i : Nat) {x : Str} {pos : Pos} (hN : X.N[i]? = some x := by rfl) (hv : Vis X.env.scope x := by first | exact Or.inl rfl | exact Or.inr (Or.inl rfl) | exact Or.inr (Or.inr rfl)) (hd : (x == ("__debug__" : Str)) = false := by decide)
    (hcd : (x == ("__classdict__" : Str)) = false := by decide) : PE X (.Name x pos) (tVar i) := pe_var hN hv hd hcd
end

theorem iteF {A B : Prop} (h : B) : if false = true then A else B := by
  rw [if_neg Bool.false_ne_true]
  exact h
theorem iteT {A B : Prop} (h : A) : if true = true then A else B := by
  rw [if_pos rfl]
  exact h
theorem ite2 {c A B : Prop} [Decidable c] (h1 : c → A) (h2 : ¬ c → B) : if c then A else B := by
  by_cases h : c
  · rw [if_pos h]
    exact h1 h
  · rw [if_neg h]
    exact h2 h
theorem iteNS {c A B : Prop} [Decidable c] (hc : c) (h : B) : if (!decide c) = true then A else B := by
  rw [decide_eq_true hc]
  exact iteF h

/-- all that was tracked is as it was -/
def Same (H H' : Hp) : Prop := ∀ b o, H b = some o → H' b = some o
theorem Same.refl (H : Hp) : Same H H := fun _ _ h => h
theorem Same.trans {H H1 H2 : Hp} (a : Same H H1) (b : Same H1 H2) : Same H H2 := fun c o h => b c o (a c o h)
theorem Same.seq {K : PySem.W.Frag} {H H' : Hp} {a : Addr} {xs : List V} (e : Same H H') (h : SqL K H a xs) : SqL K H' a xs := by
  rcases h with (h | ⟨o, h⟩) | h
  · exact .inl (.inl (e _ _ h))
  · exact .inl (.inr ⟨o, e _ _ h⟩)
  · exact .inr h

end L2

section
set_option Elab.async false
set_option linter.all false
set_option maxRecDepth 100000
set_option maxHeartbeats 4000000
namespace L2
open PySem PySem.Spec PyProof.Rows

section
variable {X : Cx}
end
def clOf (env : Env) : List (Str × NameKind) → List (Str × Addr) → List (Str × Addr)
  | [], cs => cs
  | (n, k) :: r, cs => clOf env r (if k == .free then match env.cells.lookup n with | some a => (n, a) :: cs | none => cs else cs)
theorem clOf_from {env : Env} {x : Str} {c : Addr} : ∀ {ns : List (Str × NameKind)} {cs : List (Str × Addr)}, (∀ p ∈ cs, env.cells.lookup p.1 = some p.2) → (clOf env ns cs).lookup x = some c → env.cells.lookup x = some c
  | [], cs, h, e => by
    unfold clOf at e
    exact h (x, c) (PySem.mem_of_lookup e)
  | (n, k) :: r, cs, h, e => by
    unfold clOf at e
    refine clOf_from (ns := r) ?_ e
    intro p hp
    split at hp
    · split at hp
      · rename_i a ea
        rcases List.mem_cons.mp hp with rfl | hp
        · exact ea
        · exact h p hp
      · exact h p hp
    · exact h p hp
theorem lookup_ne_none {x : Str} : ∀ {cs : List (Str × Addr)}, (∃ c, (x, c) ∈ cs) → ∃ c, cs.lookup x = some c
  | [], ⟨_, h⟩ => nomatch h
  | (n, a) :: r, ⟨c, h⟩ => by
    rw [List.lookup_cons]
    cases e : x == n with
    | true => exact ⟨a, rfl⟩
    | false =>
      rcases List.mem_cons.mp h with h | h
      · cases h
        rw [beq_self_eq_true] at e; cases e
      · exact lookup_ne_none ⟨c, h⟩
theorem clOf_has {env : Env} {x : Str} : ∀ {ns : List (Str × NameKind)} {cs : List (Str × Addr)}, ((∃ c, (x, c) ∈ cs) ∨ ((x, NameKind.free) ∈ ns ∧ ∃ c, env.cells.lookup x = some c)) → ∃ c, (x, c) ∈ clOf env ns cs
  | [], cs, h => by
    unfold clOf
    rcases h with h | ⟨h, _⟩
    · exact h
    · cases h
  | (n, k) :: r, cs, h => by
    unfold clOf
    refine clOf_has (ns := r) ?_
    rcases h with ⟨c, h⟩ | ⟨h, c, hc⟩
    · refine .inl ⟨c, ?_⟩
      split
      · split
        · exact List.mem_cons_of_mem _ h
        · exact h
      · exact h
    · rcases List.mem_cons.mp h with h | h
      · cases h
        refine .inl ⟨c, ?_⟩
        rw [if_pos (by decide), hc]
        exact List.mem_cons_self
      · exact .inr ⟨h, c, hc⟩
theorem closureFor_eq {sc : Scope} {env : Env} (h : ∀ p ∈ sc.names, p.2 = NameKind.free → ∃ c, env.cells.lookup p.1 = some c) : closureFor sc env = pure (clOf env sc.names []) := by
  have go : ∀ (ns : List (Str × NameKind)) (cs : List (Str × Addr)), (∀ p ∈ ns, p.2 = NameKind.free → ∃ c, env.cells.lookup p.1 = some c) →
      (forIn ns cs fun (x : Str × NameKind) (r : List (Str × Addr)) => (if (x.2 == NameKind.free) = true then do
          let y ← cellOf env x.1
          pure (ForInStep.yield ((x.1, y) :: r)) else pure (ForInStep.yield r) : Sem (ForInStep (List (Str × Addr))))) = (pure (clOf env ns cs) : Sem (List (Str × Addr))) := by
    intro ns
    induction ns with
    | nil => intro cs _; rfl
    | cons p r ih =>
      intro cs hp
      obtain ⟨n, k⟩ := p
      rw [List.forIn_cons]
      unfold clOf
      by_cases hk : k = NameKind.free
      · subst hk
        obtain ⟨c, hc⟩ := hp (n, .free) List.mem_cons_self rfl
        have e1 : cellOf env n = pure c := by unfold cellOf; rw [hc]
        simp only [beq_self_eq_true, if_true, e1, hc, pure_bind]
        exact ih _ fun q hq => hp q (List.mem_cons_of_mem _ hq)
      · have hb : (k == NameKind.free) = false := by simpa using hk
        simp only [hb, Bool.false_eq_true, if_false, pure_bind]
        exact ih _ fun q hq => hp q (List.mem_cons_of_mem _ hq)
  unfold closureFor
  have := go sc.names [] h
  simp only [bind_pure_comp, id_map'] at this ⊢
  rw [this]
  rfl
end L2

end

section
set_option Elab.async false
set_option linter.all false
set_option maxRecDepth 100000
set_option maxHeartbeats 4000000
namespace L2
open PySem PySem.Spec PyProof.Rows

theorem relabel_lookup {env : Env} {x : Str} {k' : NameKind} : ∀ {ns : List (Str × NameKind)},
    (ns.map fun (n, k) => if (k == NameKind.free && env.scope.kind == .function && env.kindOf n == some .cell) then (n, NameKind.cell) else (n, k)).lookup x = some k' →
    ∃ k, ns.lookup x = some k ∧ (k' = k ∨ (k = .free ∧ k' = .cell))
  | [], h => by simp at h
  | (n, k) :: r, h => by
    have h' : List.lookup x ((if (k == NameKind.free && env.scope.kind == .function && env.kindOf n == some .cell) = true then (n, NameKind.cell) else (n, k)) :: (r.map fun (n, k) => if (k == NameKind.free && env.scope.kind == .function && env.kindOf n == some .cell) then (n, NameKind.cell) else (n, k))) = some k' := h
    rw [List.lookup_cons]
    by_cases hc : (k == NameKind.free && env.scope.kind == .function && env.kindOf n == some .cell) = true
    · rw [if_pos hc, List.lookup_cons] at h'
      cases e : x == n with
      | true =>
        rw [e] at h'
        cases h'
        refine ⟨k, rfl, .inr ⟨?_, rfl⟩⟩
        rw [Bool.and_eq_true, Bool.and_eq_true] at hc
        exact eq_of_beq hc.1.1
      | false =>
        rw [e] at h'
        exact relabel_lookup h'
    · rw [if_neg hc, List.lookup_cons] at h'
      cases e : x == n with
      | true =>
        rw [e] at h'
        cases h'
        exact ⟨_, rfl, .inl rfl⟩
      | false =>
        rw [e] at h'
        exact relabel_lookup h'
theorem relabel_has {env : Env} {x : Str} {k : NameKind} : ∀ {ns : List (Str × NameKind)}, ns.lookup x = some k →
    ∃ k', (ns.map fun (n, k) => if (k == NameKind.free && env.scope.kind == .function && env.kindOf n == some .cell) then (n, NameKind.cell) else (n, k)).lookup x = some k' ∧ (k' = k ∨ (k = .free ∧ k' = .cell))
  | [], h => by simp at h
  | (n, k0) :: r, h => by
    show ∃ k', List.lookup x ((if (k0 == NameKind.free && env.scope.kind == .function && env.kindOf n == some .cell) = true then (n, NameKind.cell) else (n, k0)) :: (r.map fun (n, k) => if (k == NameKind.free && env.scope.kind == .function && env.kindOf n == some .cell) then (n, NameKind.cell) else (n, k))) = some k' ∧ _
    rw [List.lookup_cons] at h
    by_cases hc : (k0 == NameKind.free && env.scope.kind == .function && env.kindOf n == some .cell) = true
    · rw [if_pos hc, List.lookup_cons]
      cases e : x == n with
      | true =>
        rw [e] at h
        cases h
        refine ⟨_, rfl, .inr ⟨?_, rfl⟩⟩
        rw [Bool.and_eq_true, Bool.and_eq_true] at hc
        exact eq_of_beq hc.1.1
      | false =>
        rw [e] at h
        exact relabel_has h
    · rw [if_neg hc, List.lookup_cons]
      cases e : x == n with
      | true =>
        rw [e] at h
        cases h
        exact ⟨_, rfl, .inl rfl⟩
      | false =>
        rw [e] at h
        exact relabel_has h

/-- which slot of the def's a slot of the block has its value from (none: the block's own) -/
abbrev Cap := List (Option Nat)
def capt (ix : Cap) (σ : St) : St := ix.map fun o => (o.bind fun j => σ[j]?).join
def capOk (N N' : List Str) (sc sc' : Scope) (ix : Cap) : Bool :=
  (ix.length == N'.length) && (sc'.kind == .function) &&
  (sc'.names.all fun p => p.2 != .cell && (p.2 != .local || sc'.names.lookup p.1 == some .local) && (p.2 != .free || (sc.names.lookup p.1 == some .cell || sc.names.lookup p.1 == some .free))) &&
  (List.range ix.length).all fun k => match ix[k]? with
    | some (some j) => match N'[k]? with
      | some x => N[j]? == some x && sc'.names.lookup x == some .free
      | none => false
    | _ => true
structure CapOk (N N' : List Str) (sc sc' : Scope) (ix : Cap) : Prop where
  len : ix.length = N'.length
  kind : sc'.kind = .function
  nocell : ∀ p ∈ sc'.names, p.2 ≠ .cell
  loc : ∀ p ∈ sc'.names, p.2 = .local → sc'.names.lookup p.1 = some .local
  fre : ∀ p ∈ sc'.names, p.2 = .free → sc.names.lookup p.1 = some .cell ∨ sc.names.lookup p.1 = some .free
  cap : ∀ (k j : Nat), ix[k]? = some (some j) → ∃ x, N'[k]? = some x ∧ N[j]? = some x ∧ sc'.names.lookup x = some .free
theorem capOk_of {N N' : List Str} {sc sc' : Scope} {ix : Cap} (h : capOk N N' sc sc' ix = true) : CapOk N N' sc sc' ix := by
  unfold capOk at h
  simp only [Bool.and_eq_true, List.all_eq_true, beq_iff_eq] at h
  obtain ⟨⟨⟨h1, h2⟩, h3⟩, h4⟩ := h
  refine ⟨h1, h2, fun p hp => ?_, fun p hp hl => ?_, fun p hp hf => ?_, fun k j hk => ?_⟩
  · have := (h3 p hp).1.1
    simpa using this
  · have := (h3 p hp).1.2
    rw [hl] at this
    simpa using this
  · have := (h3 p hp).2
    rw [hf] at this
    simpa using this
  · have hlt : k < ix.length := (List.getElem?_eq_some_iff.mp hk).1
    have := h4 k (List.mem_range.mpr hlt)
    rw [hk] at this
    simp only at this
    cases e : N'[k]? with
    | none => rw [e] at this; simp at this
    | some x =>
      rw [e] at this
      simp only [Bool.and_eq_true, beq_iff_eq] at this
      exact ⟨x, rfl, this.1, this.2⟩

/-- the block's context -/
abbrev Cx.comp (X : Cx) (sc : Scope) (N' : List Str) (C : Addr) (s₀ : Shared) (H₀ : Hp) (ex : List Addr) : Cx :=
  { X with N := N', s₀ := s₀, H₀ := H₀, env := compEnvC sc (clOf X.env sc.names []) C X.env, outer := X.stack, stack := X.stack, ex := ex, fn := fun _ => false, pn := [], xe := fun _ _ => False }

/-- more is known -/
def Ext (σ σ' : St) : Prop := σ.length = σ'.length ∧ ∀ (i : Nat) v, σ[i]? = some (some v) → σ'[i]? = some (some v)
theorem ext_set {σ : St} {i : Nat} {v : Option V} (h : σ[i]? = some none) : Ext σ (σ.set i v) := by
  refine ⟨by simp, fun j w e => ?_⟩
  by_cases hj : i = j
  · subst hj; rw [h] at e; cases e
  · rw [List.getElem?_set_ne hj]; exact e
/-- the tests of a comprehension's clause -/
def PTs (X : Cx) (ifs : List Expr) (t : TT) : Prop :=
  ∀ (pins : List (Addr × Obj)) (s : Shared) (σ : St) (H : Hp) (Q : Bool → Hp → Prop), Inv X pins σ H s → t σ H Q →
    wpAny (model X.prog X.w) X.A (forIn ifs true fun c r => if r = true then do let ok ← isTrue c X.env (eval c X.env); pure (ForInStep.yield ok) else pure (ForInStep.yield r)) (TP X pins σ Q) X.xe s
def tYes : TT := fun _ H Q => Q true H
theorem pts_nil {X : Cx} : PTs X [] tYes := fun _ _ _ H _ I h => wpAny_tests_nil ⟨H, I, h⟩
theorem pts_one {X : Cx} {c : Expr} {t : TT} (h : PT X c t) : PTs X [c] t := fun pins s σ H Q I hw => wpAny_tests_one (h pins s σ H Q I hw)

/-- what a comprehension's reading asks behind its iterator -/
def CompGo (J : It) (ix : Cap) (g : TG) (tt : TT) (te : TE) (σ : St) (H1 : Hp) (Q : VK) : Prop := ∃ W : Nat → Nat → List V → Hp → Prop, (∃ m, W 0 m [] H1) ∧ ∀ i m ys H, W i m ys H →
  (J.stop i H ∧ ∀ D, H D = none → Q (.ref D) (upd H D (.lst ys))) ∨
  (J.go i H ∧ ys.length < sizeLine ∧ ∀ x H', J.yld i H x H' → g x (capt ix σ) H' fun σ2 H2 => Ext (capt ix σ) σ2 ∧ tt σ2 H2 fun b H3 =>
    if b = true then te σ2 H3 fun y H4 => ∃ m', m' < m ∧ W (i + 1) m' (ys ++ [y]) H4 else ∃ m', m' < m ∧ W (i + 1) m' ys H3)
def tComp (ix : Cap) (wi : TI) (g : TG) (tt : TT) (te : TE) : TE := fun σ H Q => wi σ H fun J H1 => CompGo J ix g tt te σ H1 Q

theorem HOk.track {P : Program} {w : World} {H : Hp} {h : Heap} {a : Addr} {o : HO} (x : HOk P w H h) (hn : H a = none) (new : ObjOk P w (upd H a o) h a o) : HOk P w (upd H a o) h := fun b u e => by
  by_cases hb : b = a
  · subst hb; rw [upd_same] at e; cases e; exact new
  · rw [upd_ne hb] at e
    exact (x b u e).stay (fun c v _ q => q) (fun c q => by rw [upd_ne (ne_of_none q hn)]; exact q) fun c xs q => by rw [upd_ne (ne_of_none q hn)]; exact q

theorem codeAny_compLoop_own {prog : Program} {w : World} {A : Around} {R : Result → Shared → Prop} {s : Shared} {elt target iter : Expr} {ifs : List Expr} {scope : Scope} {pos : Pos} {it acc : Value} {env : Env} (I : Nat → Shared → Prop)
    (turn : ∀ n s, I n s → wpAny (model prog w) A (pyNext it) (fun r s₁ => match r with
      | none => R (.ok .next) s₁
      | some v => wpAny (model prog w) A (letOwnedTupleGo target it v) (fun _ s₁' => wpAny (model prog w) A (assign target env v) (fun _ s₂ =>
          wpAny (model prog w) A (forIn ifs true fun c r => if r = true then do let ok ← isTrue c env (eval c env); pure (ForInStep.yield ok) else pure (ForInStep.yield r)) (fun ok s₃ =>
            if ok = true then wpAny (model prog w) A (eval elt env) (fun x s₄ =>
              wpAny (model prog w) A (call (.builtin "list.append") [acc, x]) (fun _ s₅ => ∃ m, m < n ∧ I m s₅) (notedBy (model prog w) A env fun e s' => R (.error e) s') s₄) (notedBy (model prog w) A env fun e s' => R (.error e) s') s₃
            else ∃ m, m < n ∧ I m s₃) (notedBy (model prog w) A env fun e s' => R (.error e) s') s₂) (notedBy (model prog w) A env fun e s' => R (.error e) s') s₁') (notedBy (model prog w) A env fun e s' => R (.error e) s') s₁) (notedBy (model prog w) A env fun e s' => R (.error e) s') s)
    (n : Nat) (h : I n s) :
    codeAny (model prog w) A (.compLoop (.ListComp elt [⟨target, iter, ifs, 0⟩] scope pos) 0 it acc env) R s := by
  refine codeAny_loop rfl I (fun n s hI => ?_) n h
  show wpAny _ A ((compTurn (.ListComp elt [⟨target, iter, ifs, 0⟩] scope pos) 0 it acc env).onRaise (fun x => do noteFrame x env; theTreesLotGoes x)) _ _ s
  refine wpAny_noted ?_
  rw [compTurn_list]
  refine wpAny_bind (wpAny_standAt (wpAny_bind (wpAny_mono (turn n s hI) (fun r s₁ h₁ => ?_) fun _ _ h' => h')))
  cases r with
  | none => exact wpAny_pure h₁
  | some v =>
    refine wpAny_bind (wpAny_mono h₁ (fun _ s₁' h₁' => ?_) fun _ _ h' => h')
    refine wpAny_bind (wpAny_mono h₁' (fun _ s₂ h₂ => wpAny_bind (wpAny_mono h₂ (fun ok s₃ h₃ => ?_) fun _ _ h' => h')) fun _ _ h' => h')
    cases ok with
    | false => exact wpAny_pure ⟨rfl, h₃⟩
    | true =>
      exact wpAny_bind (wpAny_bind (wpAny_mono h₃ (fun x s₄ h₄ => wpAny_bind (wpAny_mono h₄ (fun _ s₅ h₅ => wpAny_pure (wpAny_pure ⟨rfl, h₅⟩)) fun _ _ h' => h')) fun _ _ h' => h'))

section
variable {X : Cx}
theorem no_exc {M : Model} {A : Around} {α : Type} {t : Sem α} {Q : α → Shared → Prop} {E : Value → Shared → Prop} {s : Shared} (h : wpAny M A t Q (fun _ _ => False) s) : wpAny M A t Q E s := wpAny_mono h (fun _ _ q => q) fun _ _ z => z.elim

/-- the block of a comprehension, from its iterator on: at its end the frame is as it was, a new list is tracked, and the block's own dict may be let go -/
theorem comp_block {elt tg iter : Expr} {ifs : List Expr} {sc : Scope} {pos : Pos} {N' : List Str} {ix : Cap} {g : TG} {tt : TT} {te : TE} {pins : List (Addr × Obj)} {σ : St} {s : Shared} {Q : VK} {RR : Value → Addr → Result → Shared → Prop} {E : Value → Shared → Prop}
    {itv : Value} (hc : X.calm = true) (ok : CapOk X.N N' X.env.scope sc ix)
    (hg : ∀ C s₀ H₀ ex, PG (X.comp sc N' C s₀ H₀ ex) tg g) (ht : ∀ C s₀ H₀ ex, PTs (X.comp sc N' C s₀ H₀ ex) ifs tt) (he : ∀ C s₀ H₀ ex, PE (X.comp sc N' C s₀ H₀ ex) elt te)
    (hi : PIE X pins σ tg (fun J H1 => CompGo J ix g tt te σ H1 Q) itv s)
    (fin : ∀ (D C : Addr) (s' : Shared) (H' : Hp) (m : Str → Option Value), Inv X pins σ H' s' → Q (.ref D) H' → s'.heap.Ns C m → H' C = none → C ≠ X.env.locals → X.s₀.heap.objs.size ≤ C → (∀ x c, X.env.cells.lookup x = some c → c ≠ C) → (∀ p ∈ X.pn ++ pins, p.1 ≠ C) →
      RR (.ref D) C (.ok .next) s') :
    wpAny (model X.prog X.w) X.A (newList []) (fun acc s₃ => wpAny (model X.prog X.w) X.A (newFunctionEnv sc X.env.globals (clOf X.env sc.names []) [] X.env.qual none .none (some X.env)) (fun cenv s₄ =>
      codeAny (model X.prog X.w) X.A (.compStart (.ListComp elt [⟨tg, iter, ifs, 0⟩] sc pos) 0 itv acc { cenv with scope := relabel sc X.env }) (RR acc cenv.locals) s₄) E s₃) E s := by
  obtain ⟨it, fp, tn, J, H2, rfl, I2, T, st2, f2, W, ⟨m0, w0⟩, turn⟩ := hi
  refine wpAny_newObj_type (wpAny_newFunctionEnv ok.nocell (by intro y hy; simp at hy) (fun h₁ hns₁ hsb₁ => ?_) ok.kind)
  dsimp only at hns₁ hsb₁ ⊢
  generalize hHD : s.heap.push { cls := .type "list", dict := none, data := .seq ([] : List Value).toArray } = hD at hns₁ hsb₁ ⊢
  have hCs : hD.objs.size = s.heap.objs.size + 1 := by rw [← hHD, Heap.size_push]
  have upC : s.heap.objs.size < hD.objs.size := by rw [hCs]; exact Nat.lt_succ_self _
  have hDC : s.heap.objs.size ≠ hD.objs.size := by rw [hCs]; exact Nat.ne_of_lt (Nat.lt_succ_self _)
  have below : ∀ b o, s.heap.get? b = some o → b ≠ hD.objs.size ∧ b ≠ s.heap.objs.size := fun b o e => by
    have := Heap.lt_size e
    exact ⟨Nat.ne_of_lt (by rw [hCs]; exact Nat.lt_succ_of_lt this), Nat.ne_of_lt this⟩
  have old : ∀ b o, s.heap.get? b = some o → h₁.get? b = some o := fun b o e => hsb₁.extBut b o (below b o e).1 (Heap.get?_push_of_some _ (hHD ▸ Heap.get?_push_of_some _ e))
  have hacc : h₁.get? s.heap.objs.size = some { cls := .type "list", data := .seq ([] : List Value).toArray 0 } := hsb₁.extBut _ _ hDC (Heap.get?_push_of_some _ (hHD ▸ Heap.get?_push_size _ rfl))
  -- the context
  have fpo : ∀ b ∈ fp, b < s.heap.objs.size := fun b hb => let ⟨o, e, _⟩ := T.obj _ _ st2 b hb; Heap.lt_size e
  have cellX : ∀ x c, (clOf X.env sc.names []).lookup x = some c → X.env.cells.lookup x = some c := fun x c e => clOf_from (fun p hp => absurd hp (by simp)) e
  have cellLt : ∀ x c, X.env.cells.lookup x = some c → c < s.heap.objs.size := fun x c e => let ⟨v, z⟩ := I2.cell x c e; z.lt
  have hasC : ∀ x, (x, NameKind.free) ∈ sc.names → ∃ c, (clOf X.env sc.names []).lookup x = some c := fun x hx => by
    have h1 := I2.ok.has x (ok.fre (x, .free) hx rfl)
    exact lookup_ne_none (clOf_has (.inr ⟨hx, h1⟩))
  have okX : (X.comp sc N' hD.objs.size s H2 fp).Ok := by
    refine ⟨I2.ok.mod, ok.kind, I2.ok.glob, I2.ok.blt, ?_, ?_, ?_, ?_, I2.ok.hd, I2.ok.frames, .inl rfl, ?_, I2.bs, Nat.le_trans I2.ok.bsz I2.sz, ?_, ?_, I2.stack, I2.stkFree⟩
    · exact Nat.le_of_lt upC
    · intro x y c h1 h2
      exact I2.ok.inj x y c (cellX x c h1) (cellX y c h2)
    · intro x hx
      have hx' : (relabel sc X.env).names.lookup x = some .cell ∨ (relabel sc X.env).names.lookup x = some .free := hx
      have : ∃ k, sc.names.lookup x = some k ∧ (k = .free ∨ k = .cell) := by
        rcases hx' with h | h
        · obtain ⟨k, e, z⟩ := relabel_lookup h
          rcases z with z | ⟨z, _⟩
          · exact ⟨k, e, .inr z.symm⟩
          · exact ⟨k, e, .inl z⟩
        · obtain ⟨k, e, z⟩ := relabel_lookup h
          rcases z with z | ⟨_, z⟩
          · exact ⟨k, e, .inl z.symm⟩
          · cases z
      obtain ⟨k, e, z⟩ := this
      rcases z with rfl | rfl
      · exact hasC x (PySem.mem_of_lookup e)
      · exact absurd rfl (ok.nocell _ (PySem.mem_of_lookup e))
    · intro x c h _
      cases h
    · intro b hb
      refine ⟨?_, fun x c e => (f2 b hb).2.2.2.2.1 x c (cellX x c e)⟩
      exact Nat.ne_of_lt (by rw [hCs]; exact Nat.lt_succ_of_lt (fpo b hb))
    · intro b o e hb
      rcases (f2 b hb).2.2.2.1 with z | z
      · exact I2.ok.noex b o e z
      · exact absurd (Nat.lt_of_lt_of_le (Heap.lt_size (I2.ok.bs b o e).1) z) (Nat.lt_irrefl _)
    · intro b hb z
      rcases List.mem_cons.mp (I2.stkSub b z) with z | z
      · exact (f2 b hb).2.1 z
      · exact (f2 b hb).2.2.1 z
  have hnD : H2 s.heap.objs.size = none := I2.hok.fresh (Nat.le_refl _)
  have hnC : H2 hD.objs.size = none := I2.hok.fresh (Nat.le_of_lt upC)
  have nofsD : ∀ a, s.heap.objs.size ≤ a → a ∉ frs X.stack := fun a ha z => by
    rcases List.mem_cons.mp (I2.stkSub a z) with z | z
    · exact absurd (Nat.lt_of_lt_of_le I2.lt ha) (by rw [z]; exact Nat.lt_irrefl _)
    · exact I2.nofs ha z
  have start : Inv (X.comp sc N' hD.objs.size s H2 fp) [(s.heap.objs.size, { cls := .type "list", data := .seq ([] : List Value).toArray 0 })] (capt ix σ) H2 { s with heap := h₁, toks := s.toks + ([] : List (Str × Value)).length } := by
    refine ⟨okX, rfl, I2.bare, Un.kept old, ⟨_, hns₁, ?_⟩, fun x c e => ?_, hnC, fun x c e => I2.freeC x c (cellX x c e), fun p hp => ?_, I2.hok.kept old, ?_⟩
    · intro i x v hN hv hvis
      have hl : i < ix.length := by rw [ok.len]; exact (List.getElem?_eq_some_iff.mp hN).1
      have hv' : (ix.map fun o => (o.bind fun j => σ[j]?).join)[i]? = some (some v) := hv
      rw [List.getElem?_map, List.getElem?_eq_getElem hl] at hv'
      have hv'' : ((ix[i].bind fun j => σ[j]?).join) = some v := Option.some.inj hv'
      cases ej : ix[i] with
      | none => rw [ej] at hv''; cases hv''
      | some j =>
        rw [ej] at hv''
        have hσ : σ[j]? = some (some v) := by
          have z : (σ[j]?).join = some v := hv''
          cases q : σ[j]? with
          | none => rw [q] at z; cases z
          | some o => rw [q] at z; exact congrArg some z
        obtain ⟨x', e1, e2, e3⟩ := ok.cap i j (by rw [List.getElem?_eq_getElem hl, ej])
        rw [show N'[i]? = some x from hN] at e1
        cases e1
        have hk := ok.fre (x, .free) (PySem.mem_of_lookup e3) rfl
        obtain ⟨m, hm, hl'⟩ := I2.loc
        obtain ⟨u, ru, lk⟩ := hl' j x v e2 hσ (hk.elim (fun z => .inr (.inl z)) fun z => .inr (.inr z))
        refine ⟨u, ru, .inr ⟨?_, ?_⟩⟩
        · show (relabel sc X.env).names.lookup x = some .cell ∨ (relabel sc X.env).names.lookup x = some .free
          obtain ⟨k', q1, q2⟩ := relabel_has (env := X.env) e3
          rcases q2 with q2 | ⟨_, q2⟩
          · exact .inr (q1.trans (congrArg some q2))
          · exact .inl (q1.trans (congrArg some q2))
        · obtain ⟨c, hc'⟩ := hasC x (PySem.mem_of_lookup e3)
          refine ⟨c, hc', ?_⟩
          rcases lk with ⟨z, _⟩ | ⟨_, c', ec, ⟨o, ho, hd⟩⟩
          · have z' : X.env.scope.names.lookup x = some .local := z
            rcases hk with hk | hk
            · rw [z'] at hk; cases hk
            · rw [z'] at hk; cases hk
          · rw [cellX x c hc'] at ec
            cases ec
            exact ⟨o, old _ _ ho, hd⟩
    · obtain ⟨v, o, ho, hd⟩ := I2.cell x c (cellX x c e)
      exact ⟨v, o, old _ _ ho, hd⟩
    · have e : p = (s.heap.objs.size, { cls := .type "list", data := .seq ([] : List Value).toArray 0 }) := by simpa using hp
      subst e
      exact ⟨hacc, hnD, hDC, nofsD _ (Nat.le_refl _), fun v z => by cases z⟩
    · show (ix.map _).length = N'.length
      rw [List.length_map]
      exact ok.len
  have st1 : tn 0 h₁ := T.keep _ _ _ st2 fun b hb o e => old b o e
  have loop : ∀ s₃ : Shared, s₃ = { s with heap := h₁, toks := s.toks + ([] : List (Str × Value)).length } →
      codeAny (model X.prog X.w) X.A (.compLoop (.ListComp elt [⟨tg, iter, ifs, 0⟩] sc pos) 0 (.ref it) (.ref s.heap.objs.size) (compEnvC sc (clOf X.env sc.names []) hD.objs.size X.env))
        (RR (.ref s.heap.objs.size) hD.objs.size) s₃ := by
    rintro s₃ rfl
    have fpI : ∀ {H' : Hp} {o : Obj}, (∀ b ∈ fp, H' b = none) → ∀ b ∈ fp, FpOk (X.comp sc N' hD.objs.size s H2 fp) [(s.heap.objs.size, o)] H' b := fun {H' o} hn b hb => by
      have hlt := fpo b hb
      refine ⟨hn b hb, (okX.exf b hb).1, okX.exfs b hb, .inl hb, (okX.exf b hb).2, fun p hp => ?_⟩
      have e : p = (s.heap.objs.size, o) := by simpa using hp
      subst e
      exact Nat.ne_of_gt hlt
    refine codeAny_compLoop_own (fun n s' => ∃ i ys its k H', Inv (X.comp sc N' hD.objs.size s H2 fp) [(s.heap.objs.size, { cls := .type "list", data := .seq its.toArray k })] (capt ix σ) H' s' ∧ Vals ys its ∧ ys.length ≤ sizeLine ∧ tn i s'.heap ∧ (∀ b ∈ fp, H' b = none) ∧ W i n ys H')
      ?_ m0 ⟨0, [], [], 0, H2, start, .nil, Nat.zero_le _, st1, fun b hb => (f2 b hb).1, w0⟩
    rintro n s4 ⟨i, ys, its, k, H4, I4, r4, z4, st4, fr4, w4⟩
    rcases turn i n ys H4 w4 with ⟨stop, q⟩ | ⟨go, hz, step⟩
    · refine no_exc (thn (T.done (X.comp sc N' hD.objs.size s H2 fp) rfl rfl rfl hc i _ s4 _ H4 (fun _ _ => False) I4 (fpI fr4) st4 stop) fun r s5 ⟨hr, I5⟩ => ?_)
      subst hr
      show RR (.ref s.heap.objs.size) hD.objs.size (.ok .next) s5
      obtain ⟨pD, nD, _, _, _⟩ := I5.pin (s.heap.objs.size, { cls := .type "list", data := .seq its.toArray k }) (by simp)
      obtain ⟨m5, hm5, _⟩ := I5.loc
      have okD : HOk X.prog X.w (upd H4 s.heap.objs.size (.lst ys)) s5.heap := I5.hok.track nD ⟨z4, its, k, r4, pD⟩
      have un : Un (frs X.stack) fp H2 (upd H4 s.heap.objs.size (.lst ys)) s.heap s5.heap := by
        have B : Un (frs X.stack) fp H2 H4 s.heap s5.heap := I5.base
        have ne : ∀ b u, H2 b = some u → b ≠ s.heap.objs.size := fun b u e => ne_of_none e hnD
        refine ⟨B.keep, B.slot, fun b o e n hb => ?_, B.there, fun b xs e => ?_, fun b o u e => ?_, fun b ps e => ?_⟩
        · rw [upd_ne (below b o e).2]; exact B.free b o e n hb
        · rw [upd_ne (ne b _ e)]; exact B.tups b xs e
        · rw [upd_ne (ne b _ e)]; exact B.frzs b o u e
        · rw [upd_ne (ne b _ e)]; exact B.tbls b ps e
      have IX : Inv X pins σ (upd H4 s.heap.objs.size (.lst ys)) s5 := I2.call' (ch := fp) I5.os un okD I5.bare fun b hb => ⟨(f2 b hb).2.2.2.1, (f2 b hb).2.1, (f2 b hb).2.2.2.2.1, (f2 b hb).2.2.2.2.2⟩
      refine fin _ _ s5 _ m5 IX (q _ nD) hm5 ?_ (Nat.ne_of_gt (Nat.lt_trans I2.lt upC)) (Nat.le_of_lt (Nat.lt_of_le_of_lt I2.sz upC)) (fun x c e => Nat.ne_of_lt (Nat.lt_trans (cellLt x c e) upC)) (fun p hp => Nat.ne_of_lt (Nat.lt_trans (Heap.lt_size (I2.pin p hp).1) upC))
      rw [upd_ne (Ne.symm hDC)]; exact I5.free
    · refine no_exc (thn (T.item (X.comp sc N' hD.objs.size s H2 fp) rfl rfl rfl hc i _ s4 _ H4 (fun _ _ => False) I4 (fpI fr4) st4 go) fun r s5 ⟨u, hr, h5⟩ => ?_)
      subst hr
      refine no_exc (thn h5 fun _ s6 ⟨x, H6, I6, r6, y6, st6, fr6⟩ => ?_)
      have I6' := I6.pinned (fpI fr6) (T.obj _ _ st6)
      refine no_exc (thn (hg _ _ _ _ _ s6 _ H6 x u _ I6' r6 (step x H6 y6)) fun _ s7 ⟨σ7, H7, I7, x7, q7⟩ => ?_)
      refine no_exc (thn (ht _ _ _ _ _ s7 σ7 H7 _ I7 q7) fun b s8 ⟨H8, I8, q8⟩ => ?_)
      -- what is left of a turn
      have back : ∀ {s9 : Shared} {H9 : Hp}, Inv (X.comp sc N' hD.objs.size s H2 fp) ([(s.heap.objs.size, { cls := .type "list", data := .seq its.toArray k })] ++ pinsAt fp s6.heap) σ7 H9 s9 →
          Inv (X.comp sc N' hD.objs.size s H2 fp) [(s.heap.objs.size, { cls := .type "list", data := .seq its.toArray k })] (capt ix σ) H9 s9 ∧ tn (i + 1) s9.heap ∧ (∀ b ∈ fp, H9 b = none) := fun {s9 H9} J9 => by
        refine ⟨(J9.unpinned).weak x7.1 x7.2, T.keep _ _ _ st6 fun b hb o e => (J9.pin (b, o) (List.mem_append_right _ (List.mem_append_right _ (mem_pinsAt hb e)))).1, fun b hb => ?_⟩
        obtain ⟨o, e, d⟩ := T.obj _ _ st6 b hb
        exact (J9.pin (b, o) (List.mem_append_right _ (List.mem_append_right _ (mem_pinsAt hb e)))).2.1
      cases b with
      | false =>
        rw [if_neg Bool.false_ne_true] at q8 ⊢
        obtain ⟨m', hm, w8⟩ := q8
        obtain ⟨J8, st8, fr8⟩ := back I8
        exact ⟨m', hm, i + 1, ys, its, k, H8, J8, r4, z4, st8, fr8, w8⟩
      | true =>
        rw [if_pos rfl] at q8 ⊢
        refine no_exc (thn (he _ _ _ _ _ s8 σ7 H8 _ I8 q8) fun y s9 ⟨v9, H9, I9, r9, q9⟩ => ?_)
        obtain ⟨m', hm, w9⟩ := q9
        obtain ⟨J9, st9, fr9⟩ := back I9
        obtain ⟨pD, nD, neC, nf, _⟩ := J9.pin (s.heap.objs.size, { cls := .type "list", data := .seq its.toArray k }) (by simp)
        have hlen := r4.length
        refine call_meets F.slot_list_append ⟨_, pD, rfl⟩ F.entry_list_append (F.args_list_append_2 _ _) (PySem.list_append s.heap.objs.size its.toArray k y (by rw [List.size_toArray]; omega)) ⟨pD, ?_⟩
        have q := PySem.IsL.update pD (·.push y)
        have ep : its.toArray.push y = (its ++ [y]).toArray := by simp
        dsimp only at q
        rw [ep] at q
        obtain ⟨k', q⟩ : ∃ k', (s9.heap.update s.heap.objs.size (Obj.mapSeq (·.push y))).get? s.heap.objs.size = some { cls := .type "list", data := .seq (its ++ [y]).toArray k' } := ⟨_, q⟩
        have J0 : Inv (X.comp sc N' hD.objs.size s H2 fp) [] (capt ix σ) H9 s9 := J9.pins_of fun p hp => absurd hp (by simp)
        have J1 : Inv (X.comp sc N' hD.objs.size s H2 fp) [] (capt ix σ) H9 { s9 with heap := s9.heap.update s.heap.objs.size (Obj.mapSeq (·.push y)) } :=
          J0.turned (it := s.heap.objs.size) (t' := s9.toks) (fun b o hb e => (Heap.get?_update_other _ _ (Ne.symm hb)).trans e) nD neC (.inr (Nat.le_refl _)) (fun x c e => Nat.ne_of_lt (cellLt x c (cellX x c e))) fun p hp => absurd hp (by simp)
        refine ⟨m', hm, i + 1, ys ++ [v9], its ++ [y], k', H9, J1.pins_of fun p hp => ?_, r4.append (.cons r9 .nil), ?_, T.keep _ _ _ st9 fun b hb o e => (Heap.get?_update_other _ _ ?_).trans e, fr9, w9⟩
        · have e : p = _ := List.mem_singleton.mp hp
          subst e
          exact ⟨q, nD, neC, nf, fun v z => by cases z⟩
        · rw [List.length_append, List.length_singleton]; omega
        · exact Nat.ne_of_gt (fpo b hb)
  exact codeAny_compStart_list (loop _ rfl) (T.self _ 0 _ _ _ st1 (loop _ rfl))

/-- letting the block's dict go -/
theorem Inv.letGo {pins : List (Addr × Obj)} {σ : St} {H : Hp} {s : Shared} {C : Addr} {h' : Heap} (I : Inv X pins σ H s) (hs : Heap.SameBut C s.heap h') (h0 : H C = none) (h1 : C ≠ X.env.locals) (h2 : X.s₀.heap.objs.size ≤ C) (h3 : ∀ x c, X.env.cells.lookup x = some c → c ≠ C)
    (h4 : ∀ p ∈ X.pn ++ pins, p.1 ≠ C) : Inv X pins σ H { s with heap := h' } := I.turned (t' := s.toks) (fun b o hb e => (hs.2 b hb).trans e) h0 h1 (.inr h2) h3 h4

/-- [elt for tg in iter if ..] -/
theorem pe_comp {elt tg iter : Expr} {ifs : List Expr} {sc : Scope} {pos : Pos} (N' : List Str) (ix : Cap) {wi : TI} {g : TG} {tt : TT} {te : TE} (hc : X.calm = true) (hok : capOk X.N N' X.env.scope sc ix = true)
    (hi : PI X tg iter wi) (hg : ∀ C s₀ H₀ ex, PG (X.comp sc N' C s₀ H₀ ex) tg g) (ht : ∀ C s₀ H₀ ex, PTs (X.comp sc N' C s₀ H₀ ex) ifs tt) (he : ∀ C s₀ H₀ ex, PE (X.comp sc N' C s₀ H₀ ex) elt te)
    (hs : ∀ x, foldedSetIterable iter X.env x = pure x := by intro _; rfl) : PE X (.ListComp elt [⟨tg, iter, ifs, 0⟩] sc pos) (tComp ix wi g tt te) := by
  intro pins s σ H Q I h
  have ok := capOk_of hok
  rw [eval_ListComp]
  refine wpAny_comprehension_free (use := none) rfl hs (closureFor_eq fun p hp hk => I.ok.has p.1 (ok.fre p hp hk)) ok.kind ok.loc (thn (hi pins s σ H _ I h) fun v s1 h1 => thn h1 fun itv s2 h2 => ?_)
  refine comp_block (RR := fun acc C => compPost (model X.prog X.w) X.A X.xe none (EP X pins σ Q) acc C) hc ok hg ht he h2 ?_
  intro D C s' H' m I' q hm h0 h1 h2 h3 h4
  exact ⟨m, hm, fun h' hsb => ⟨.ref D, H', I'.letGo hsb h0 h1 h2 h3 h4, rfl, q⟩⟩
/-- name = [elt for tg in iter if ..] -/
theorem ps_setComp {elt tg iter : Expr} {ifs : List Expr} {sc : Scope} {pos spos py : Pos} {i : Nat} {y : Str} (N' : List Str) (ix : Cap) {wi : TI} {g : TG} {tt : TT} {te : TE} (hc : X.calm = true) (hok : capOk X.N N' X.env.scope sc ix = true)
    (hN : X.N.Nodup) (hy : X.N[i]? = some y) (hx : Loc X.env.scope y)
    (hi : PI X tg iter wi) (hg : ∀ C s₀ H₀ ex, PG (X.comp sc N' C s₀ H₀ ex) tg g) (ht : ∀ C s₀ H₀ ex, PTs (X.comp sc N' C s₀ H₀ ex) ifs tt) (he : ∀ C s₀ H₀ ex, PE (X.comp sc N' C s₀ H₀ ex) elt te)
    (hs : ∀ x, foldedSetIterable iter X.env x = pure x := by intro _; rfl) (hsw : swapsWith (.ListComp elt [⟨tg, iter, ifs, 0⟩] sc pos) (some (.Name y py)) spos.line X.env = pure true := by rfl)
    (hf : X.fn y = true ∨ X.env.scope.names.lookup y = some .local := by first | exact .inl rfl | exact .inr rfl | assumption) :
    PS X (.Assign [.Name y py] (.ListComp elt [⟨tg, iter, ifs, 0⟩] sc pos) spos) (tAsg (tComp ix wi g tt te) (gName i)) := by
  intro pins s σ H D I h
  have ok := capOk_of hok
  rw [exec_Assign_Name_used _ _ _ _ hsw]
  refine wpAny_bind (wpAny_standAt (wpAny_bind ?_))
  show wpAny _ X.A (do let _ ← comprehension (.ListComp elt [⟨tg, iter, ifs, 0⟩] sc pos) sc X.env _ (newList []) false (eval iter X.env) (some (assign (.Name y py) X.env))) _ _ s
  refine wpAny_bind (wpAny_mono (wpAny_comprehension_free (use := some (assign (.Name y py) X.env)) (Q := fun _ s' => SP X pins D .next s') rfl hs (closureFor_eq fun p hp hk => I.ok.has p.1 (ok.fre p hp hk)) ok.kind ok.loc
    (thn (hi pins s σ H _ I h) fun v s1 h1 => thn h1 fun itv s2 h2 => ?_)) (fun _ s' hq => wpAny_pure (wpAny_pure hq)) fun _ _ e => e)
  refine comp_block (Q := fun x H1 => gName i x σ H1 D.nx) (RR := fun acc C => compPost (model X.prog X.w) X.A X.xe (some (assign (.Name y py) X.env)) (fun _ s' => SP X pins D .next s') acc C) hc ok hg ht he h2 ?_
  intro Dl C s' H' m I' q hm h0 h1 h2 h3 h4
  refine wpAny_assign_Name (store_ok2 I' hN hy hx (v := .ref Dl) rfl (fun s3 I3 sb => ?_) hf)
  obtain ⟨a, hsb, ha⟩ := sb
  have hne : C ≠ a := by
    rcases ha with e | e
    · rw [e]; exact h1
    · exact Ne.symm (h3 y a e)
  exact ⟨m, hm.sameBut hsb hne, fun h' hs' => ⟨_, H', I3.letGo hs' h0 h1 h2 h3 h4, q⟩⟩
end

section
variable {ix : Cap} {tt : TT} {te : TE} {g : TG} {σ : St} {H : Hp} {Q : VK}
/-- what a turn is to reach -/
def Nxt (Pv : Nat → List V → Hp → Prop) (n i : Nat) (ys : List V) : VK := fun y H2 => ∃ m', m' < n - i ∧ m' = n - (i + 1) ∧ i + 1 ≤ n ∧ (ys ++ [y]).length = i + 1 ∧ Pv (i + 1) (ys ++ [y]) H2
theorem nxt {Pv : Nat → List V → Hp → Prop} {n i : Nat} {ys : List V} {y : V} {H2 : Hp} (hi : i < n) (hl : ys.length = i) (h : Pv (i + 1) (ys ++ [y]) H2) : Nxt Pv n i ys y H2 :=
  ⟨n - (i + 1), by omega, rfl, hi, by rw [List.length_append, List.length_singleton, hl], h⟩
/-- over a range, a Name target in slot j, no test -/
theorem comp_range {lo : Int} {n j : Nat} (Pv : Nat → List V → Hp → Prop) (hj : (capt ix σ)[j]? = some none) (h0 : Pv 0 [] H) (hn : n < sizeLine)
    (hs : ∀ i ys H, i < n → ys.length = i → Pv i ys H → te ((capt ix σ).set j (some (.int (lo + i)))) H (Nxt Pv n i ys))
    (hd : ∀ ys H, ys.length = n → Pv n ys H → ∀ D, H D = none → Q (.ref D) (upd H D (.lst ys))) : CompGo (Itr lo n) ix (gName j) tYes te σ H Q := by
  refine ⟨fun i m ys H => m = n - i ∧ i ≤ n ∧ ys.length = i ∧ Pv i ys H, ⟨n, by simp, Nat.zero_le _, rfl, h0⟩, ?_⟩
  rintro i m ys H ⟨rfl, hi, hl, p⟩
  by_cases hlt : i < n
  · refine .inr ⟨hlt, by omega, fun x H' y => ?_⟩
    obtain ⟨e, y⟩ := y
    subst e y
    refine ⟨ext_set hj, ?_⟩
    unfold tYes
    dsimp only
    rw [if_pos rfl]
    exact hs i ys _ hlt hl p
  · have e : i = n := by omega
    subst e
    exact .inl ⟨Nat.le_refl _, hd ys H hl p⟩
/-- over a list that stays as it is -/
theorem comp_list {K : PySem.W.Frag} {a : Addr} {xs : List V} {j : Nat} (Pv : Nat → List V → Hp → Prop) (hj : (capt ix σ)[j]? = some none) (h0 : Pv 0 [] H) (hn : xs.length < sizeLine) (hl' : ∀ i ys H, i ≤ xs.length → Pv i ys H → SqL K H a xs)
    (hs : ∀ i x ys H, xs[i]? = some x → ys.length = i → Pv i ys H → te ((capt ix σ).set j (some x)) H (Nxt Pv xs.length i ys))
    (hd : ∀ ys H, ys.length = xs.length → Pv xs.length ys H → ∀ D, H D = none → Q (.ref D) (upd H D (.lst ys))) : CompGo (Itl K a) ix (gName j) tYes te σ H Q := by
  refine ⟨fun i m ys H => m = xs.length - i ∧ i ≤ xs.length ∧ ys.length = i ∧ Pv i ys H, ⟨xs.length, by simp, Nat.zero_le _, rfl, h0⟩, ?_⟩
  rintro i m ys H ⟨rfl, hi, hl, p⟩
  have q := hl' i ys H hi p
  by_cases hlt : i < xs.length
  · refine .inr ⟨⟨xs, xs[i], q, by simp [hlt]⟩, by omega, fun v H' y => ?_⟩
    obtain ⟨e, y⟩ := y
    subst e
    refine ⟨ext_set hj, ?_⟩
    unfold tYes
    dsimp only
    rw [if_pos rfl]
    exact hs i v ys _ (y xs q) hl p
  · have e : i = xs.length := by omega
    subst e
    exact .inl ⟨⟨xs, q, Nat.le_refl _⟩, hd ys H hl p⟩
theorem comp_tup {K : PySem.W.Frag} {a : Addr} {xs : List V} {j : Nat} (Pv : Nat → List V → Hp → Prop) (hj : (capt ix σ)[j]? = some none) (h0 : Pv 0 [] H) (hn : xs.length < sizeLine) (hl' : ∀ i ys H, i ≤ xs.length → Pv i ys H → SqT K H a xs)
    (hs : ∀ i x ys H, xs[i]? = some x → ys.length = i → Pv i ys H → te ((capt ix σ).set j (some x)) H (Nxt Pv xs.length i ys))
    (hd : ∀ ys H, ys.length = xs.length → Pv xs.length ys H → ∀ D, H D = none → Q (.ref D) (upd H D (.lst ys))) : CompGo (Itt K a) ix (gName j) tYes te σ H Q := by
  refine ⟨fun i m ys H => m = xs.length - i ∧ i ≤ xs.length ∧ ys.length = i ∧ Pv i ys H, ⟨xs.length, by simp, Nat.zero_le _, rfl, h0⟩, ?_⟩
  rintro i m ys H ⟨rfl, hi, hl, p⟩
  have q := hl' i ys H hi p
  by_cases hlt : i < xs.length
  · refine .inr ⟨⟨xs, xs[i], q, by simp [hlt]⟩, by omega, fun v H' y => ?_⟩
    obtain ⟨e, y⟩ := y
    subst e
    refine ⟨ext_set hj, ?_⟩
    unfold tYes
    dsimp only
    rw [if_pos rfl]
    exact hs i v ys _ (y xs q) hl p
  · have e : i = xs.length := by omega
    subst e
    exact .inl ⟨⟨xs, q, Nat.le_refl _⟩, hd ys H hl p⟩
end
end L2

end

section
set_option Elab.async false
set_option linter.all false
set_option maxRecDepth 100000
set_option maxHeartbeats 4000000
namespace L2
open PySem PySem.Spec PyProof.Rows

section
variable {X : Cx}
def CDivB (i j : Int) : Prop := 0 < j ∧ j < 2 ^ 64
theorem op_fdivB : OpR X (binaryOp .FloorDiv) (rI CDivB fun i j => .int (i / j)) := opI fun i j _ _ _ _ _ hc q => by
  have h1 : (0 : Int) < j := hc.1
  have h2 : j < 2 ^ 64 := hc.2
  refine floordiv_int (by omega) (by rw [Int.fdiv_eq_ediv_of_nonneg i (by omega)]; exact q) (.inl (PyProof.noPylong_of_log2 ?_))
  have h3 : j.natAbs < 2 ^ 64 := by omega
  have h0 : j.natAbs ≠ 0 := by omega
  have h4 : j.natAbs.log2 < 64 := (Nat.log2_lt h0).mpr h3
  omega

theorem strsAre_of {ys : List Str} : ∀ {us : List Value}, Vals (ys.map V.str) us → StrsAre us ys := by
  induction ys with
  | nil => intro us r; rw [List.map_nil] at r; cases r; exact .nil
  | cons n ns ih =>
    intro us r
    rw [List.map_cons] at r
    cases r with
    | cons r1 r2 =>
      obtain ⟨t, e⟩ := r1
      subst e
      exact .cons n t (ih r2)
def rJoin (K : PySem.W.Frag) : V → List V → Hp → VK → Prop := fun x vs H Q => ∃ (sep : Str) (p : Addr) (ys : List Str), x = .str sep ∧ vs = [.ref p] ∧ SqL K H p (ys.map V.str) ∧ (ys.map (·.length)).sum + ys.length * sep.length ≤ 16777216 ∧ Q (.str (Txt.join sep ys)) H
theorem mt_join : MtR X "str.join" (rJoin X.K) := by
  intro pins s σ H x vs v us Q I rx rv h
  obtain ⟨sep, p, ys, rfl, rfl, hq, hz, q⟩ := h
  obtain ⟨t, rfl⟩ := rx
  obtain ⟨u, rfl, ru⟩ := rv.one
  cases ru
  obtain ⟨its, r, pl, _⟩ := I.list hq
  exact join_list pl.isList (by simpa using strsAre_of r) hz fun t' k => ⟨.str _, H, I.tok k, ⟨t', rfl⟩, q⟩
/-- x[lo:hi] of a text -/
def rSlS : V → Option Int → Option Int → Hp → VK → Prop := fun x lo hi H Q => ∃ z : Str, x = .str z ∧ z.length ≤ sizeLine ∧ Q (.str (Txt.slice z lo hi)) H
theorem sl_str : SlR X rSlS := by
  intro pins s σ H x v vl vu lo hi sl Q I rx hs pl pu h
  obtain ⟨z, rfl, hz, q⟩ := h
  obtain ⟨t, rfl⟩ := rx
  refine ⟨"str", _, F.slot_str_getitem.lookup, typeIs_str _ _ _, ?_⟩
  have hq : ∀ (o : Str), o = Txt.slice z lo hi → o.length ≤ sizeLine ∧ ∀ t' k, EP X pins σ Q (.str o t') { s with toks := k } := fun o e => by
    subst e
    exact ⟨Nat.le_trans (Txt.slice_le z _ _) hz, fun t' k => ⟨.str _, H, I.tok k, ⟨t', rfl⟩, q⟩⟩
  obtain ⟨os, hos, hcs, hds⟩ := hs
  cases pl with
  | none =>
    cases pu with
    | none => exact wpAny_getItem_str_slice (l := none) (u := none) (st := none) ⟨os, hos, hcs, hds⟩ rfl (post_val_or_str (hq _ rfl))
    | int j uj => exact wpAny_getItem_str_slice (l := none) (u := some (j, uj)) (st := none) ⟨os, hos, hcs, hds⟩ rfl (post_val_or_str (hq _ rfl))
  | int i ui =>
    cases pu with
    | none => exact wpAny_getItem_str_slice (l := some (i, ui)) (u := none) (st := none) ⟨os, hos, hcs, hds⟩ rfl (post_val_or_str (hq _ rfl))
    | int j uj => exact wpAny_getItem_str_slice (l := some (i, ui)) (u := some (j, uj)) (st := none) ⟨os, hos, hcs, hds⟩ rfl (post_val_or_str (hq _ rfl))

theorem call_isinst : CallR X (.builtin "isinstance") (fun xs H Q => ∃ x y c t b, xs = [x, y] ∧ (∀ u, RelV y u → u = c) ∧ TyOf X.K H x t ∧ PySem.W.kitOne X.K t c = some b ∧ Q (.bl b) H) := by
  intro pins s σ H xs us Q I r h
  obtain ⟨x, y, c, t, b, rfl, hy, ty, e, q⟩ := h
  obtain ⟨u, v, rfl, ru, rv⟩ := r.two
  obtain rfl := hy v rv
  exact isinst_ok I ru ty e fun tk => ⟨.bl b, H, I.tok tk, rfl, q⟩

def eqVs : List V → List V → Bool
  | [], [] => true
  | x :: xs, y :: ys => eqV x y && eqVs xs ys
  | _, _ => false
theorem eqVs_len : ∀ {xs ys : List V}, xs.length ≠ ys.length → eqVs xs ys = false
  | [], [], h => absurd rfl h
  | [], _ :: _, _ => rfl
  | _ :: _, [], _ => rfl
  | x :: xs, y :: ys, h => by
    show (eqV x y && eqVs xs ys) = false
    rw [eqVs_len (xs := xs) (ys := ys) (by simpa using h), Bool.and_false]
theorem eqVs_range : ∀ {xs ys : List V}, xs.length = ys.length → (List.range xs.length).all (fun i => eqV (xs.getD i .non) (ys.getD i .non)) = eqVs xs ys
  | [], [], _ => rfl
  | [], _ :: _, h => by cases h
  | _ :: _, [], h => by cases h
  | x :: xs, y :: ys, h => by
    rw [List.length_cons, List.range_succ_eq_map, List.all_cons, List.all_map]
    show (eqV x y && (List.range xs.length).all (fun i => eqV (xs.getD i .non) (ys.getD i .non))) = (eqV x y && eqVs xs ys)
    rw [eqVs_range (xs := xs) (ys := ys) (by simpa using h)]
def rEqL (K : PySem.W.Frag) : R2 := fun x y H Q => ∃ a b xs ys, x = .ref a ∧ y = .ref b ∧ SqL K H a xs ∧ SqL K H b ys ∧ xs.all flatV = true ∧ ys.all flatV = true ∧ Q (.bl (eqVs xs ys)) H
theorem op_eqL (hu : X.A.units < cLine) : OpR X (compareOp .Eq) (rEqL X.K) := by
  intro pins s σ H x y v u Q I rx ry h
  obtain ⟨a, b, xs, ys, rfl, rfl, ha, hb, fa, fb, q⟩ := h
  cases rx
  cases ry
  obtain ⟨its, r1, p1, _⟩ := I.list ha
  obtain ⟨its2, r2, p2, _⟩ := I.list hb
  have l1 := r1.length
  have l2 := r2.length
  by_cases hl : xs.length = ys.length
  · refine SeqAt.eq_listAt (e := fun i => eqV (xs.getD i .non) (ys.getD i .non)) p1.isList p2.isList (by simp only [List.size_toArray]; omega) hu (fun j h1 h2 => ?_) ⟨.bl _, H, I, rfl, ?_⟩
    · have j1 : j < xs.length := by simp only [List.size_toArray] at h1; omega
      have j2 : j < ys.length := by simp only [List.size_toArray] at h2; omega
      obtain ⟨u1, e1, q1⟩ := r1.get (i := j) (x := xs[j]) (List.getElem?_eq_getElem j1)
      obtain ⟨u2, e2, q2⟩ := r2.get (i := j) (x := ys[j]) (List.getElem?_eq_getElem j2)
      have g1 : its.toArray[j] = u1 := by
        have : its[j]? = some its[j] := List.getElem?_eq_getElem (by omega)
        rw [e1] at this
        simpa using (Option.some.inj this).symm
      have g2 : its2.toArray[j] = u2 := by
        have : its2[j]? = some its2[j] := List.getElem?_eq_getElem (by omega)
        rw [e2] at this
        simpa using (Option.some.inj this).symm
      rw [g1, g2, List.getD_eq_getElem?_getD, List.getD_eq_getElem?_getD, List.getElem?_eq_getElem j1, List.getElem?_eq_getElem j2]
      exact eqAt_V q1 q2 (List.all_eq_true.mp fa _ (List.getElem_mem j1)) (List.all_eq_true.mp fb _ (List.getElem_mem j2))
    · rw [List.size_toArray, ← l1, eqVs_range hl]
      exact q
  · refine SeqAt.eq_list_lengthsAt p1.isList p2.isList (by simp only [List.size_toArray]; simp; omega) hu ⟨.bl _, H, I, rfl, ?_⟩
    rw [eqVs_len hl] at q
    exact q
end

/-- all that was tracked is as it was but for what stands at a -/
def SameBut (a : Addr) (H H' : Hp) : Prop := ∀ b o, H b = some o → b ≠ a → H' b = some o
theorem SameBut.refl (a : Addr) (H : Hp) : SameBut a H H := fun _ _ h _ => h
theorem SameBut.trans {a : Addr} {H H1 H2 : Hp} (h : SameBut a H H1) (k : SameBut a H1 H2) : SameBut a H H2 := fun b o e n => k b o (h b o e n) n
theorem SameBut.upd (a : Addr) (H : Hp) (o : HO) : SameBut a H (upd H a o) := fun b u e n => by rw [upd_ne n]; exact e
theorem Same.but {a : Addr} {H H' : Hp} (h : Same H H') : SameBut a H H' := fun b o e _ => h b o e
theorem Same.new {H : Hp} {p : Addr} (h : H p = none) (o : HO) : Same H (upd H p o) := fun b u q => by rw [upd_ne (ne_of_none q h)]; exact q
theorem none_of_same {H H' : Hp} {p : Addr} (h : Same H H') (n : H' p = none) : H p = none := by
  cases e : H p with
  | none => rfl
  | some o => rw [h p o e] at n; cases n
end L2

end

section
set_option Elab.async false
set_option linter.all false
set_option maxRecDepth 100000
set_option maxHeartbeats 4000000
namespace L2
open PySem PySem.Spec PyProof.Rows
structure DefTx (K : PySem.W.Frag) (mg : Str → Option Value) (x : Str) (st : Stmt) (ps : List Str) : Prop where
  ex : ∃ (f : Addr) (fd : FuncData), Fun K x x st f fd ∧ mg x = some (.ref f) ∧ ∀ us : List Value, us.length = ps.length → bindArgs fd ⟨us, []⟩ = pure (ps.zip us)
structure DefIs (P : Program) (w : World) (K : PySem.W.Frag) (mg : Str → Option Value) (base : Heap) (n : Nat) (x : Str) (ps : List Str) (sp : Sp) : Prop where
  ex : ∃ (f : Addr) (fd : FuncData), FnOk P w K mg base CX0 n f fd ps sp ∧ Binds K fd ps [] ∧ PySem.W.keepIn K (.ref f) = true ∧ mg x = some (.ref f) ∧ ∃ oc od osl, K.lookup f = some ⟨oc, od, .func fd, osl⟩
theorem fun_at {K : PySem.W.Frag} {x : Str} {st : Stmt} {f : Addr} {fd : FuncData} (F : Fun K x x st f fd) : ∃ oc od osl, K.lookup f = some ⟨oc, od, .func fd, osl⟩ := by
  obtain ⟨oc, od, kV, doc, pm, an, cdv, ct, osl, _, l, _⟩ := F.ex
  exact ⟨oc, od, osl, l⟩
section
variable {P : Program} {w : World} {K : PySem.W.Frag} {mg : Str → Option Value} {base : Heap} {n m : Nat} {x : Str} {ps N : List Str} {sp : Sp} {st : Stmt}
theorem DefIs.mono (D : DefIs P w K mg base n x ps sp) (h : n ≤ m) : DefIs P w K mg base m x ps sp := by
  obtain ⟨f, fd, F, r⟩ := D.ex
  exact ⟨f, fd, F.mono h, r⟩
theorem DefIs.imp {sp' : Sp} (D : DefIs P w K mg base n x ps sp) (h : ∀ vs H Q E, sp' vs H Q E → sp vs H Q E) : DefIs P w K mg base n x ps sp' := by
  obtain ⟨f, fd, F, r⟩ := D.ex
  exact ⟨f, fd, F.imp h, r⟩
theorem DefIs.of (T : DefTx K mg x st ps) (S : FnScope N ps (defScope st)) (len : ∀ vs H Q E, sp vs H Q E → vs.length = ps.length)
    (hbody : ∀ (f : Addr) (cdv : Value) (A : Around) (outer : List Env) (s : Shared) (H : Hp) (vs : List V) (Q : VK) (E : XK), Room n (A.deeper (envOfC x (defScope st) s.heap.objs.size f cdv)) → sp vs H Q E →
      ∃ t, PSs (cxOf CX0 P w K mg base N x (defScope st) f cdv A outer s H E).nox (defBody st) t ∧ t { nx := fun _ H' => Q .non H', rt := Q } (start N vs) H) : DefIs P w K mg base (n + 1) x ps sp := by
  obtain ⟨f, fd, F, m, b⟩ := T.ex
  exact ⟨f, fd, F.ok S len (fun cdv A outer s H vs Q E hr h => hbody f cdv A outer s H vs Q E hr h), Binds.all b, F.kp, m, fun_at F⟩
theorem DefIs.none (T : DefTx K mg x st ps) (no : ∀ vs H Q E, ¬ sp vs H Q E) : DefIs P w K mg base n x ps sp := by
  obtain ⟨f, fd, F, m, b⟩ := T.ex
  exact ⟨f, fd, ⟨fun vs H Q E h => absurd h (no vs H Q E), fun A outer s H args us vs Q E _ _ _ _ h => absurd h (no vs H Q E)⟩, Binds.all b, F.kp, m, fun_at F⟩
end
section
variable {X : Cx} {n : Nat} {x : Str} {ps : List Str} {sp : Sp} {e : Expr} {es : List Expr} {p pos : Pos} {t : TA}
theorem pe_dcall (D : DefIs X.prog X.w X.K X.mg X.base n x ps sp) (hr : Room n X.A) (ha : PA X (e :: es) t) (hg : Gl X x := by rfl) (hdb : (x == ("__debug__" : Str)) = false := by decide)
    (he : starEach (e :: es) X.env = (false, eval e X.env) :: starEach es X.env := by rfl) (hpl : (backTo pos (starEach es X.env)).any (·.1) = false := by rfl) : PE X (.Call (.Name x p) (e :: es) [] pos) (tCall sp [] E0 t) := by
  obtain ⟨f, fd, F, b, k, m, _⟩ := D.ex
  exact pe_call F hr hg m k b .nil pass0 ha hdb he hpl
/-- a global int, text -/
theorem pe_gint {i : Int} (hm : ∃ t, X.mg x = some (.int i t)) (hg : Gl X x := by rfl) (hd : (x == ("__debug__" : Str)) = false := by decide) : PE X (.Name x pos) (tC (.int i)) := by
  obtain ⟨t, h⟩ := hm
  exact pe_glob hg h ⟨t, rfl⟩ hd
theorem pe_gty {T : String} (hm : X.mg x = none) (hv : bootBuiltins x = some (.type T)) (hg : Gl X x := by rfl) (hn : x ≠ "__name__" := by decide) (hd : (x == ("__debug__" : Str)) = false := by decide) : PE X (.Name x pos) (tC (.ty T)) := pe_bltn hg hm hv rfl hn hd
end
/-- the feed at a holds two ints, all else is as it was -/
def Fed (a : Addr) (H H' : Hp) : Prop := SameBut a H H' ∧ ∃ p q : Int, H' a = some (.lst [.int p, .int q])
theorem Fed.trans {a : Addr} {H H1 H2 : Hp} (h : Fed a H H1) (k : Fed a H1 H2) : Fed a H H2 := ⟨h.1.trans k.1, k.2⟩
theorem Fed.of {a : Addr} {H : Hp} {p q : Int} : Fed a H (upd H a (.lst [.int p, .int q])) := ⟨SameBut.upd a H _, p, q, upd_same⟩
theorem Fed.refl {a : Addr} {H : Hp} {p q : Int} (h : H a = some (.lst [.int p, .int q])) : Fed a H H := ⟨SameBut.refl a H, p, q, h⟩
theorem Fed.same {a : Addr} {H H' H'' : Hp} (h : Fed a H H') (s : Same H' H'') : Fed a H H'' := by
  obtain ⟨k, p, q, e⟩ := h
  exact ⟨k.trans s.but, p, q, s _ _ e⟩
/-- from a heap in which the feed is new -/
theorem Fed.back {a : Addr} {H H0 H' : Hp} (n : H a = none) (s : Same H H0) (h : Fed a H0 H') : Same H H' := fun b o e => h.1 b o (s b o e) (ne_of_none e n)
end L2
namespace L2
open PySem PySem.Spec PyProof.Rows
theorem deftx_mk {K : PySem.W.Frag} {h : Heap} {mg : Str → Option Value} (X : K.In h) (G : h.Ns mainGlobals mg) {x : Str} {st : Stmt} {ps : List Str} {f : Addr} {oc : Value} {od an : Option Addr} {osl : Array (Option Value)} {kV doc pm cdv ct : Value}
    (a : PySem.W.nsIn K mainGlobals x = some (some (.ref f))) (l : K.lookup f = some ⟨oc, od, .func (PySem.W.fnOf x x (defArgs st) (defBody st) (defScope st) .none kV doc pm an cdv ct), osl⟩)
    (c : PySem.W.codeIn K cdv x = true) (k : PySem.W.keepIn K (.ref f) = true)
    (b : ∀ (kV doc pm : Value) (an : Option Addr) (cdv ct : Value) (us : List Value), us.length = ps.length → bindArgs (PySem.W.fnOf x x (defArgs st) (defBody st) (defScope st) .none kV doc pm an cdv ct) ⟨us, []⟩ = pure (ps.zip us)) : DefTx K mg x st ps := by
  have F := fun_mk (st := st) l c k
  exact ⟨f, _, F, PySem.W.mg_of X G a, b kV doc pm an cdv ct⟩
/-- the law's own def, for the walk -/
theorem law_top {P : Program} {w : World} {K : PySem.W.Frag} {mg : Str → Option Value} {n : Nat} {x y : Str} {st : Stmt} {sp : Sp} {fa : Addr} (T : DefTx K mg x st [y]) (hmg : mg x = some (.ref fa)) (D : ∀ base, DefIs P w K mg base n x [y] sp) :
    ∃ fd : FuncData, (∀ (s : Shared) (u : Value), BindsTo s fd ⟨[u], []⟩ [(y, u)]) ∧ ∀ base : Heap, K.In base → base.Ns mainGlobals mg → FnOk P w K mg base CX0 n fa fd [y] sp := by
  obtain ⟨f, fd, F, m, b⟩ := T.ex
  rw [hmg] at m
  cases m
  refine ⟨fd, fun s u => .of_eq (b [u] rfl), fun base _ _ => ?_⟩
  obtain ⟨f', fd', G, _, _, m', oc, od, osl, l⟩ := (D base).ex
  rw [hmg] at m'
  cases m'
  obtain ⟨oc2, od2, osl2, l2⟩ := fun_at F
  rw [l] at l2
  cases l2
  exact G
theorem gint_mk {K : PySem.W.Frag} {h : Heap} {mg : Str → Option Value} (X : K.In h) (G : h.Ns mainGlobals mg) {x : Str} {i : Int} {t : Tok} (a : PySem.W.nsIn K mainGlobals x = some (some (.int i t))) : ∃ t, mg x = some (.int i t) := ⟨t, PySem.W.mg_of X G a⟩
end L2

end

section
set_option Elab.async false
set_option linter.all false
set_option maxRecDepth 100000
set_option maxHeartbeats 4000000
namespace Zt
open PySem
section
variable {prog : Program} {w : World} {A : Around} {E : Value → Shared → Prop} {s : Shared}
theorem next_item {it l : Addr} {i : Nat} {items} {x : Value} {Q : Value → Shared → Prop} (hit : s.heap.IsTupleIter it l i)
    (hl : s.heap.IsTuple l items) (hx : items[i]? = some x)
    (hQ : ∀ h', h'.IsTupleIter it l (i + 1) → Heap.SameBut it s.heap h' → Q x { s with heap := h' }) :
    wpAny (model prog w) A (Builtin.SmallTypes.nextOf (.ref it)) Q E s := by
  obtain ⟨o, ho, hc, hd⟩ := id hit
  obtain ⟨ol, hol, _, nl, hdl⟩ := hl
  unfold Builtin.SmallTypes.nextOf
  refine wpAny_bind (wpAny_callSpecial?_slot (name := Str.ofString "__next__") hit.typeIs F.slot_tuple_iterator_next
    (wpAny_call_entry F.slot_tuple_iterator_next hit.typeIs F.entry_tuple_iterator_next ?_ (F.args_tuple_iterator_next_1 _)))
  show wpAny _ _ (field (.ref it) 0 >>= _) _ _ s
  refine wpAny_bind (wpAny_field ho hd (x := .ref l) rfl ?_)
  show wpAny _ _ (if (Value.ref l == Value.none) = true then _ else _) _ _ s
  rw [if_neg (show ¬ ((Value.ref l == Value.none) = true) from Bool.false_ne_true)]
  show wpAny _ _ (field (.ref it) 1 >>= _) _ _ s
  refine wpAny_bind (wpAny_field ho hd (x := .int i 0) rfl ?_)
  show wpAny _ _ (seqItems? (.ref l) >>= _) _ _ s
  refine wpAny_bind (wpAny_seqItems hol hdl ?_)
  simp only [Int.toNat_natCast, hx]
  refine wpAny_bind (wpAny_setField ho hd (by simp) (wpAny_pure ⟨x, rfl, wpAny_pure (hQ _ ?_ (Heap.SameBut.update ..))⟩))
  exact ⟨_, Heap.get?_update_self _ ho (Obj.isFreed_of_fields (Obj.data_mapFields hd _)), (Obj.cls_mapFields ..).trans hc, by
    rw [Obj.data_mapFields hd]; simp [rawInt]⟩
theorem next_end {it l : Addr} {i : Nat} {items} {Q : Value → Shared → Prop} (hh : A.handled = none)
    (hit : s.heap.IsTupleIter it l i) (hl : s.heap.IsTuple l items) (hx : items[i]? = none)
    (hE : ∀ h' e, Heap.ExtBut it s.heap h' → (∃ o, h'.get? e = some o ∧ o.cls = .type "StopIteration") → E (.ref e) { s with heap := h' }) :
    wpAny (model prog w) A (Builtin.SmallTypes.nextOf (.ref it)) Q E s := by
  obtain ⟨o, ho, hc, hd⟩ := id hit
  obtain ⟨ol, hol, _, nl, hdl⟩ := hl
  unfold Builtin.SmallTypes.nextOf
  refine wpAny_bind (wpAny_callSpecial?_slot (name := Str.ofString "__next__") hit.typeIs F.slot_tuple_iterator_next
    (wpAny_call_entry F.slot_tuple_iterator_next hit.typeIs F.entry_tuple_iterator_next ?_ (F.args_tuple_iterator_next_1 _)))
  show wpAny _ _ (field (.ref it) 0 >>= _) _ _ s
  refine wpAny_bind (wpAny_field ho hd (x := .ref l) rfl ?_)
  show wpAny _ _ (if (Value.ref l == Value.none) = true then _ else _) _ _ s
  rw [if_neg (show ¬ ((Value.ref l == Value.none) = true) from Bool.false_ne_true)]
  show wpAny _ _ (field (.ref it) 1 >>= _) _ _ s
  refine wpAny_bind (wpAny_field ho hd (x := .int i 0) rfl ?_)
  show wpAny _ _ (seqItems? (.ref l) >>= _) _ _ s
  refine wpAny_bind (wpAny_seqItems hol hdl ?_)
  simp only [Int.toNat_natCast, hx]
  refine wpAny_bind (wpAny_rule (wpAny_bind (wpAny_setField ho hd (by simp) ?_)))
  show wpAny _ _ (newExc (.type "StopIteration") [] >>= _) _ _ _
  refine wpAny_bind ?_
  simp only [newExc, newTuple]
  refine wpAny_bind (wpAny_newObj_type ?_ (by size_fits))
  refine wpAny_bind (m := firstArgMember _ _) (wpAny_of_eq (a := Value.none) (by first | rfl | (simp only [firstArgMember]; rfl)) ?_)
  refine wpAny_newObj_type ?_ (by size_fits)
  simp only [raiseNew]
  refine wpAny_bind (wpAny_handled ?_)
  first | rw [show A.in1.handled = none from hh] | rw [hh]
  refine wpAny_bind (wpAny_pure (wpAny_throw ?_))
  exact hE _ _ (((Heap.SameBut.update ..).extBut.push _).push _) ⟨_, Heap.get?_push_size _ rfl, rfl⟩
/-- a zip amid its walk -/
abbrev IsZipF (h : Heap) (z TI TO : Addr) (f0 f1 : Value) : Prop :=
  h.get? z = some { cls := .type "zip", dict := none, data := .fields #[f0, f1, .bool false, .ref TI, .ref TO], slots := #[] }
/-- nothing was handed out yet, or what was is still there -/
def Free (h : Heap) (z TI TO : Addr) : Prop := IsZipF h z TI TO .none (.bool false) ∨ ∃ (T : Addr) (b : Bool) (o : Obj), IsZipF h z TI TO (rawInt T) (.bool b) ∧ h.get? T = some o ∧ T ≠ z
structure Zs (h : Heap) (z TI TO i1 i2 l1 l2 : Addr) (xs ys : Array Value) (k : Nat) : Prop where
  zip : Free h z TI TO
  ti : IsPair h TI (.ref i1) (.ref i2)
  to : ∃ a b, IsPair h TO a b
  it1 : h.IsTupleIter i1 l1 k
  it2 : h.IsTupleIter i2 l2 k
  t1 : h.IsTuple l1 xs
  t2 : h.IsTuple l2 ys
theorem item_first {z TI TO i1 i2 l1 l2 : Addr} {k1 k2 : Nat} {xs ys : Array Value} {x y a b : Value} {Q : Value → Shared → Prop} (D : ZipApart z TI TO i1 i2 l1 l2)
    (hz : IsZip s.heap z TI TO .none) (hTI : IsPair s.heap TI (.ref i1) (.ref i2)) (hTO : IsPair s.heap TO a b)
    (h1 : s.heap.IsTupleIter i1 l1 k1) (h2 : s.heap.IsTupleIter i2 l2 k2) (hl1 : s.heap.IsTuple l1 xs) (hl2 : s.heap.IsTuple l2 ys) (hx : xs[k1]? = some x) (hy : ys[k2]? = some y)
    (hQ : ∀ h', IsZip h' z TI TO (rawInt s.heap.objs.size) → IsPair h' TO x y → h'.IsTupleIter i1 l1 (k1 + 1) → h'.IsTupleIter i2 l2 (k2 + 1) → IsPair h' s.heap.objs.size x y → h'.objs.size = s.heap.objs.size + 1 →
      (∀ c o, c ≠ z → c ≠ TO → c ≠ i1 → c ≠ i2 → s.heap.get? c = some o → h'.get? c = some o) → Q (.ref s.heap.objs.size) { s with heap := h' }) :
    wpAny (model prog w) A (Builtin.«zip.__next__» ⟨[.ref z], []⟩) (fun fin s' => ∃ v, fin = .done (.ret v) ∧ Q v s') E s := by
  show wpAny _ _ (field (.ref z) 2 >>= _) _ _ _
  refine wpAny_bind (wpAny_field hz rfl (x := .bool false) rfl ?_)
  show wpAny _ _ (field (.ref z) 3 >>= _) _ _ _
  refine wpAny_bind (wpAny_field hz rfl (x := .ref TI) rfl ?_)
  refine wpAny_bind (wpAny_seqItems hTI rfl ?_)
  show wpAny _ _ (Builtin.SmallTypes.ownedTupleIsFree (.ref z) >>= _) _ _ _
  refine wpAny_bind ?_
  unfold Builtin.SmallTypes.ownedTupleIsFree
  refine wpAny_bind (wpAny_field hz rfl (x := .none) rfl (wpAny_pure ?_))
  simp only [if_true]
  refine wpAny_bind (wpAny_rule ?_)
  refine wpAny_bind (wpAny_field hz rfl (x := .ref TO) rfl ?_)
  refine wpAny_bind (wpAny_setField_rec hz (by simp) fun h₁ hz₁ hs₁ => ?_)
  replace hz₁ : IsZip h₁ z TI TO .ellipsis := hz₁
  refine wpAny_bind ?_
  simp only [List.zipIdx_cons, List.zipIdx_nil, List.forIn_cons, List.forIn_nil]
  refine wpAny_bind (wpAny_bind (wpAny_onRaise ?_))
  show wpAny _ _ (Builtin.SmallTypes.nextOf (.ref i1) >>= _) _ _ _
  refine wpAny_bind (next_item (h1.extBut hs₁.extBut D.i1z) (hl1.extBut hs₁.extBut D.l1z) hx fun h₂ h1₂ hs₂ => wpAny_pure ?_)
  have hTO₂ : IsPair h₂ TO a b := hs₂.extBut _ _ D.TOi1 (hs₁.extBut _ _ D.TOz hTO)
  refine wpAny_bind (wpAny_seqItems hTO₂ rfl ?_)
  refine wpAny_bind (wpAny_updateSeq_pair hTO₂ fun h₃ hTO₃ hs₃ => ?_)
  replace hTO₃ : IsPair h₃ TO x b := hTO₃
  refine wpAny_bind (wpAny_letGo (wpAny_pure ?_))
  refine wpAny_bind (wpAny_bind (wpAny_onRaise ?_))
  show wpAny _ _ (Builtin.SmallTypes.nextOf (.ref i2) >>= _) _ _ _
  refine wpAny_bind (next_item (((h2.extBut hs₁.extBut D.i2z).extBut hs₂.extBut D.i12.symm).extBut hs₃.extBut D.TOi2.symm)
    (((hl2.extBut hs₁.extBut D.l2z).extBut hs₂.extBut D.l2i1).extBut hs₃.extBut D.l2TO) hy fun h₄ h2₄ hs₄ => wpAny_pure ?_)
  have hTO₄ : IsPair h₄ TO x b := hs₄.extBut _ _ D.TOi2 hTO₃
  refine wpAny_bind (wpAny_seqItems hTO₄ rfl ?_)
  refine wpAny_bind (wpAny_updateSeq_pair hTO₄ fun h₅ hTO₅ hs₅ => ?_)
  replace hTO₅ : IsPair h₅ TO x y := hTO₅
  refine wpAny_bind (wpAny_letGo (wpAny_pure (wpAny_pure ?_)))
  refine wpAny_bind (wpAny_seqItems hTO₅ rfl ?_)
  refine wpAny_bind (wpAny_newTuple ?_)
  have hsz : h₅.objs.size = s.heap.objs.size := by rw [hs₅.1, hs₄.1, hs₃.1, hs₂.1, hs₁.1]
  have hz₅ : IsZip h₅ z TI TO .ellipsis := hs₅.extBut _ _ D.TOz.symm (hs₄.extBut _ _ D.i2z.symm (hs₃.extBut _ _ D.TOz.symm (hs₂.extBut _ _ D.i1z.symm hz₁)))
  have hk₅ : ∀ c o, c ≠ z → c ≠ TO → c ≠ i1 → c ≠ i2 → s.heap.get? c = some o → h₅.get? c = some o := fun c o c1 c2 c3 c4 e =>
    hs₅.extBut _ _ c2 (hs₄.extBut _ _ c4 (hs₃.extBut _ _ c2 (hs₂.extBut _ _ c3 (hs₁.extBut _ _ c1 e))))
  have h1₅ : h₅.IsTupleIter i1 l1 (k1 + 1) := ((h1₂.extBut hs₃.extBut D.TOi1.symm).extBut hs₄.extBut D.i12).extBut hs₅.extBut D.TOi1.symm
  have h2₅ : h₅.IsTupleIter i2 l2 (k2 + 1) := h2₄.extBut hs₅.extBut D.TOi2.symm
  have hzlt : z < h₅.objs.size := Heap.lt_size hz₅
  show wpAny _ _ (Builtin.SmallTypes.ownedTupleHandOut (.ref z) (.ref h₅.objs.size) >>= _) _ _ _
  refine wpAny_bind ?_
  unfold Builtin.SmallTypes.ownedTupleHandOut
  have hz₆ : IsZip (h₅.push { cls := .type "tuple", data := .seq #[x, y] }) z TI TO .ellipsis := Heap.get?_push_of_some _ hz₅
  refine wpAny_bind (wpAny_setField_rec hz₆ (by simp) fun h₇ hz₇ hs₇ => ?_)
  replace hz₇ : IsZip h₇ z TI TO (rawInt h₅.objs.size) := hz₇
  refine wpAny_setField_rec hz₇ (by simp) fun h₈ hz₈ hs₈ => ?_
  replace hz₈ : IsZip h₈ z TI TO (rawInt h₅.objs.size) := hz₈
  have up : ∀ c o, c ≠ z → h₅.get? c = some o → h₈.get? c = some o := fun c o c1 e => hs₈.extBut _ _ c1 (hs₇.extBut _ _ c1 (Heap.get?_push_of_some _ e))
  have hT₈ : IsPair h₈ h₅.objs.size x y := hs₈.extBut _ _ (Nat.ne_of_gt hzlt) (hs₇.extBut _ _ (Nat.ne_of_gt hzlt) (Heap.get?_push_size _ rfl))
  have hz8 : h₈.objs.size = h₅.objs.size + 1 := by rw [hs₈.1, hs₇.1, Heap.size_push]
  rw [hsz] at hz₈ hT₈ hz8
  refine wpAny_pure ⟨_, rfl, ?_⟩
  show Q (.ref h₅.objs.size) _
  rw [hsz]
  exact hQ h₈ hz₈ (up _ _ D.TOz hTO₅) (h1₅.at fun o e => up _ o D.i1z e) (h2₅.at fun o e => up _ o D.i2z e) hT₈ hz8 fun c o c1 c2 c3 c4 e => up c o c1 (hk₅ c o c1 c2 c3 c4 e)
theorem alive {a : Addr} {o : Obj} {Q : Option Obj → Shared → Prop} (ho : s.heap.get? a = some o) (h : Q (some o) s) : wpAny (model prog w) A (loadIfAlive a) Q E s := by
  intro Γ p hΓ
  unfold loadIfAlive
  first
    | (rw [Sem.wp_loadIfAlive, ho]; exact h)
    | (simp only [Sem.wp_loadIfAlive, ho]; exact h)
theorem ends {z TI TO i1 i2 l1 l2 : Addr} {k : Nat} {xs ys : Array Value} {Q : Fin → Shared → Prop} (hh : A.handled = none) (D : ZipApart z TI TO i1 i2 l1 l2) (S : Zs s.heap z TI TO i1 i2 l1 l2 xs ys k) (hx : xs[k]? = none)
    (hE : ∀ h' e, (∀ c o, c ≠ z → c ≠ i1 → s.heap.get? c = some o → h'.get? c = some o) → (∃ o, h'.get? e = some o ∧ o.cls = .type "StopIteration") → E (.ref e) { s with heap := h' }) :
    wpAny (model prog w) A (Builtin.«zip.__next__» ⟨[.ref z], []⟩) Q E s := by
  obtain ⟨hz, hTI, ⟨a, b, hTO⟩, h1, h2, hl1, hl2⟩ := S
  rcases hz with hz | ⟨T, bb, oT, hz, hT, hTz⟩
  · show wpAny _ _ (field (.ref z) 2 >>= _) _ _ _
    refine wpAny_bind (wpAny_field hz rfl (x := .bool false) rfl ?_)
    show wpAny _ _ (field (.ref z) 3 >>= _) _ _ _
    refine wpAny_bind (wpAny_field hz rfl (x := .ref TI) rfl ?_)
    refine wpAny_bind (wpAny_seqItems hTI rfl ?_)
    show wpAny _ _ (Builtin.SmallTypes.ownedTupleIsFree (.ref z) >>= _) _ _ _
    refine wpAny_bind ?_
    unfold Builtin.SmallTypes.ownedTupleIsFree
    refine wpAny_bind (wpAny_field hz rfl (x := .none) rfl (wpAny_pure ?_))
    simp only [if_true]
    refine wpAny_bind (wpAny_rule ?_)
    refine wpAny_bind (wpAny_field hz rfl (x := .ref TO) rfl ?_)
    refine wpAny_bind (wpAny_setField_rec hz (by simp) fun h₁ hz₁ hs₁ => ?_)
    replace hz₁ : IsZip h₁ z TI TO .ellipsis := hz₁
    refine wpAny_bind ?_
    simp only [List.zipIdx_cons, List.zipIdx_nil, List.forIn_cons, List.forIn_nil]
    refine wpAny_bind (wpAny_bind (wpAny_onRaise ?_))
    show wpAny _ _ (Builtin.SmallTypes.nextOf (.ref i1) >>= _) _ _ _
    refine wpAny_bind (next_end hh (h1.extBut hs₁.extBut D.i1z) (hl1.extBut hs₁.extBut D.l1z) hx fun h₂ e hs₂ he => ?_)
    obtain ⟨oe, hoe, hce⟩ := he
    have hz₂ : IsZip h₂ z TI TO .ellipsis := hs₂ _ _ D.i1z.symm hz₁
    have hez : e ≠ z := fun x => by subst x; rw [hz₂] at hoe; cases hoe; simp at hce
    refine wpAny_setField_rec hz₂ (by simp) fun h₃ _ hs₃ => hE h₃ e (fun c o c1 c3 x => hs₃.extBut _ _ c1 (hs₂ _ _ c3 (hs₁.extBut _ _ c1 x))) ⟨oe, hs₃.extBut _ _ hez hoe, hce⟩
  · show wpAny _ _ (field (.ref z) 2 >>= _) _ _ _
    refine wpAny_bind (wpAny_field hz rfl (x := .bool false) rfl ?_)
    show wpAny _ _ (field (.ref z) 3 >>= _) _ _ _
    refine wpAny_bind (wpAny_field hz rfl (x := .ref TI) rfl ?_)
    refine wpAny_bind (wpAny_seqItems hTI rfl ?_)
    show wpAny _ _ (Builtin.SmallTypes.ownedTupleIsFree (.ref z) >>= _) _ _ _
    refine wpAny_bind ?_
    unfold Builtin.SmallTypes.ownedTupleIsFree
    refine wpAny_bind (wpAny_field hz rfl (x := rawInt T) rfl ?_)
    show wpAny _ _ (loadIfAlive ((T : Int).toNat) >>= _) _ _ _
    rw [Int.toNat_natCast]
    refine wpAny_bind (alive hT ?_)
    simp only [Option.isNone_some, Bool.false_eq_true, if_false]
    refine wpAny_bind (wpAny_field hz rfl (x := .bool bb) rfl ?_)
    cases bb with
    | true =>
      simp only [bne_self_eq_false, Bool.false_eq_true, if_false]
      refine wpAny_pure ?_
      simp only [Bool.false_eq_true, if_false, List.forIn_toArray, List.forIn_cons, List.forIn_nil]
      refine wpAny_bind (wpAny_bind (wpAny_bind (wpAny_holding ?_)))
      show wpAny _ _ (Builtin.SmallTypes.nextOf (.ref i1) >>= _) _ _ _
      exact wpAny_bind (next_end hh h1 hl1 hx fun h₂ e hs₂ he => hE h₂ e (fun c o c1 c3 x => hs₂ _ _ c3 x) he)
    | false =>
      rw [if_pos (by rfl)]
      refine wpAny_bind (wpAny_setField_rec hz (by simp) fun h₁ hz₁ hs₁ => ?_)
      refine wpAny_pure ?_
      simp only [Bool.false_eq_true, if_false, List.forIn_toArray, List.forIn_cons, List.forIn_nil]
      refine wpAny_bind (wpAny_bind (wpAny_bind (wpAny_holding ?_)))
      show wpAny _ _ (Builtin.SmallTypes.nextOf (.ref i1) >>= _) _ _ _
      exact wpAny_bind (next_end hh (h1.extBut hs₁.extBut D.i1z) (hl1.extBut hs₁.extBut D.l1z) hx fun h₂ e hs₂ he => hE h₂ e (fun c o c1 c3 x => hs₂ _ _ c3 (hs₁.extBut _ _ c1 x)) he)
theorem pyNext_end {z TI TO i1 i2 l1 l2 : Addr} {k : Nat} {xs ys : Array Value} {Q : Option Value → Shared → Prop} (hh : A.handled = none) (D : ZipApart z TI TO i1 i2 l1 l2) (S : Zs s.heap z TI TO i1 i2 l1 l2 xs ys k) (hx : xs[k]? = none)
    (hQ : ∀ h', (∀ c o, c ≠ z → c ≠ i1 → s.heap.get? c = some o → h'.get? c = some o) → Q none { s with heap := h' }) : wpAny (model prog w) A (pyNext (.ref z)) Q E s := by
  have hT : s.TypeIs (.ref z) "zip" := by
    rcases S.zip with hz | ⟨T, bb, oT, hz, _⟩ <;> exact ⟨_, hz, rfl⟩
  unfold pyNext
  refine wpAny_bind (wpAny_attempt (wpAny_callSpecial?_slot (name := Str.ofString "__next__") hT F.slot_zip_next
    (wpAny_call_entry F.slot_zip_next hT F.entry_zip_next (ends hh D S hx fun h' e hk he => ?_) (F.args_zip_next_1 _))))
  obtain ⟨o, ho, hc⟩ := he
  refine wpAny_bind (wpAny_isInstance (T := "StopIteration") (b := true) ⟨o, ho, hc⟩ isSubtype_stop ?_)
  exact wpAny_pure (hQ _ hk)
end
section
variable {prog : Program} {w : World} {A : Around} {R : Result → Shared → Prop} {S z TI TO i1 i2 l1 l2 : Addr} {xs ys : Array Value} {n B : Nat}
end
section
variable {prog : Program} {w : World} {A : Around} {R : Result → Shared → Prop} {s : Shared} {S z TI TO i1 i2 l1 l2 : Addr} {xs ys : Array Value} {n B : Nat}
end
section
variable {prog : Program} {w : World} {A : Around} {E : Value → Shared → Prop} {s : Shared} {z TI TO i1 i2 l1 l2 : Addr} {xs ys : Array Value} {n B : Nat}
end
abbrev zH1 (h : Heap) (l1 : Addr) : Heap := h.push { cls := .type "tuple_iterator", data := .fields #[.ref l1, .int 0 0] }
abbrev zH2 (h : Heap) (l1 l2 : Addr) : Heap := (zH1 h l1).push { cls := .type "tuple_iterator", data := .fields #[.ref l2, .int 0 0] }
abbrev zH3 (h : Heap) (l1 l2 : Addr) : Heap := (zH2 h l1 l2).push { cls := .type "tuple", data := .seq #[.ref h.objs.size, .ref (zH1 h l1).objs.size] }
abbrev zH4 (h : Heap) (l1 l2 : Addr) : Heap := (zH3 h l1 l2).push { cls := .type "tuple", data := .seq #[.none, .none] }
abbrev zH5 (h : Heap) (l1 l2 : Addr) : Heap := (zH4 h l1 l2).push { cls := .type "zip", data := .fields #[.none, .bool false, .bool false, .ref (zH2 h l1 l2).objs.size, .ref (zH3 h l1 l2).objs.size] }
theorem meets_new (l1 l2 : Addr) (xs ys : Array Value) :
    Meets (Builtin.«zip.__new__» ⟨[.type "zip", .ref l1, .ref l2], []⟩) (fun _ R s => s.heap.IsTuple l1 xs ∧ s.heap.IsTuple l2 ys ∧
      R (.ok (.ret (.ref (zH4 s.heap l1 l2).objs.size))) { s with heap := zH5 s.heap l1 l2 }) :=
  .of_wp fun prog w A R s h => by
    obtain ⟨hp, g, d, tk, os⟩ := s; obtain ⟨hl1, hl2, h⟩ := h
    have hsub := sub_zip
    have hL1 : Heap.IsTuple (Shared.heap ⟨hp, g, d, tk, os⟩) l1 xs := hl1
    have hL2 : Heap.IsTuple (Shared.heap ⟨hp.push { cls := .type "tuple_iterator", data := .fields #[.ref l1, .int 0 0] }, g, d, tk, os⟩) l2 ys := Heap.IsTuple.push hl2 _
    wp_walk using wpAny_pyIter_tuple hL1, wpAny_pyIter_tuple hL2
    exact ⟨_, rfl, h⟩
section
variable {prog : Program} {w : World} {A : Around} {E : Value → Shared → Prop} {s : Shared}
end
end Zt

end

section
set_option Elab.async false
set_option linter.all false
set_option maxRecDepth 100000
set_option maxHeartbeats 4000000
namespace L2
open PySem PySem.Spec PyProof.Rows
abbrev TJ := St → Hp → Str → VK → Prop
def PJ (X : Cx) (es : List Expr) (t : TJ) : Prop :=
  ∀ (pins : List (Addr × Obj)) (s : Shared) (σ : St) (H : Hp) (out : Str) (Q : VK), Inv X pins σ H s → t σ H out Q → wpAny (model X.prog X.w) X.A (joinParts out (evalEach es X.env)) (EP X pins σ Q) X.xe s
def jNil : TJ := fun _ H out Q => out.length ≤ sizeLine ∧ Q (.str out) H
def jLit (x : Str) (t : TJ) : TJ := fun σ H out Q => (out ++ x).length ≤ sizeLine ∧ t σ H (out ++ x) Q
def jStr (te : TE) (t : TJ) : TJ := fun σ H out Q => te σ H fun v H1 => ∃ x, v = .str x ∧ x.length ≤ sizeLine ∧ (out ++ x).length ≤ sizeLine ∧ t σ H1 (out ++ x) Q
section
variable {X : Cx} {e e1 e2 : Expr} {es : List Expr} {te : TE} {t : TJ} {pos : Pos}
theorem pj_nil : PJ X [] jNil := fun _ _ _ H out _ I h => joinParts_nilE (joinParts_nil ⟨.str out, H, I.tok _, ⟨_, rfl⟩, h.2⟩ h.1)
theorem pj_lit {x : Str} {j} (h : PJ X es t) : PJ X (.Constant (.str x) j pos :: es) (jLit x t) := by
  intro pins s σ H out Q I hw
  refine joinParts_consE (joinParts_cons (thn (pe_str (X := X) pins s σ H (fun v H' => v = .str x ∧ H' = H) I ⟨rfl, rfl⟩) fun v s1 ⟨z, H1, I1, r, e1, e2⟩ => ?_))
  subst e1 e2
  obtain ⟨t', rfl⟩ := r
  exact ⟨hw.1, h pins s1 σ _ _ Q I1 hw.2⟩
theorem pj_str (he : PE X e te) (h : PJ X es t) : PJ X (.FormattedValue e (-1) none pos :: es) (jStr te t) := by
  intro pins s σ H out Q I hw
  refine joinParts_consE (joinParts_cons (FormattedValue_plain (thn (he pins s σ H _ I hw) fun v s1 ⟨z, H1, I1, r, x, e, hz, hl, q⟩ => ?_)))
  subst e
  obtain ⟨t', rfl⟩ := r
  exact formatField_str (fun t'' tk => ⟨hl, h pins _ σ H1 _ Q (I1.tok tk) q⟩) hz
theorem pe_fstr (h : PJ X (e1 :: e2 :: es) t) : PE X (.JoinedStr (e1 :: e2 :: es) pos) (fun σ H Q => t σ H Str.empty Q) := fun pins s σ H Q I hw => JoinedStr_many (h pins s σ H _ Q I hw)
end
section
variable {X : Cx}
def rNeE (K : PySem.W.Frag) : R2 := fun x y H Q => ∃ a b xs, x = .ref a ∧ y = .ref b ∧ SqL K H a xs ∧ SqL K H b [] ∧ Q (.bl (!xs.isEmpty)) H
theorem op_neE (hu : X.A.units < cLine) : OpR X (compareOp .NotEq) (rNeE X.K) := by
  intro pins s σ H x y v u Q I rx ry h
  obtain ⟨a, b, xs, rfl, rfl, ha, hb, q⟩ := h
  cases rx
  cases ry
  obtain ⟨its, r1, p1, _⟩ := I.list ha
  obtain ⟨its2, r2, p2, _⟩ := I.list hb
  have l1 := r1.length
  have l2 := r2.length
  cases xs with
  | nil =>
    refine PySem.EqBoolInt.of_rcne (SeqAt.RcNeAt.lists (e := fun _ => true) p1.isList p2.isList (by simp only [List.size_toArray]; omega) hu fun j h1 h2 => ?_) ⟨.bl _, H, I, rfl, ?_⟩
    · simp only [List.size_toArray] at h1
      simp at l1
      omega
    · have : its = [] := List.eq_nil_of_length_eq_zero (by simpa using l1.symm)
      subst this
      exact q
  | cons x xs =>
    refine PySem.EqBoolInt.of_rcne (SeqAt.RcNeAt.lists_lengths p1.isList p2.isList (by simp only [List.size_toArray]; simp at l1 l2 ⊢; omega) hu) ⟨.bl _, H, I, rfl, ?_⟩
    simpa using q
end
section
variable {X : Cx} {a b : Expr} {ta tb : TE} {p1 p2 q1 q2 : Pos}
end
end L2

end

section
set_option Elab.async false
set_option linter.all false
set_option maxRecDepth 100000
set_option maxHeartbeats 4000000
namespace L2
open PySem PySem.Spec PyProof.Rows
section
variable {es : List Expr} {env : Env}
theorem star_const {c k p} : starEach (.Constant c k p :: es) env = (false, eval (.Constant c k p) env) :: starEach es env := rfl
theorem star_name {x p} : starEach (.Name x p :: es) env = (false, eval (.Name x p) env) :: starEach es env := rfl
theorem star_call {a b c d} : starEach (.Call a b c d :: es) env = (false, eval (.Call a b c d) env) :: starEach es env := rfl
theorem star_bin {a b c d} : starEach (.BinOp a b c d :: es) env = (false, eval (.BinOp a b c d) env) :: starEach es env := rfl
theorem star_sub {a b c} : starEach (.Subscript a b c :: es) env = (false, eval (.Subscript a b c) env) :: starEach es env := rfl
theorem star_tup {a b c} : starEach (.Tuple a b c :: es) env = (false, eval (.Tuple a b c) env) :: starEach es env := rfl
theorem star_lst {a b} : starEach (.List a b :: es) env = (false, eval (.List a b) env) :: starEach es env := rfl
theorem star_cmp {a b c d} : starEach (.Compare a b c d :: es) env = (false, eval (.Compare a b c d) env) :: starEach es env := rfl
theorem star_bool {a b c} : starEach (.BoolOp a b c :: es) env = (false, eval (.BoolOp a b c) env) :: starEach es env := rfl
theorem star_fstr {a b} : starEach (.JoinedStr a b :: es) env = (false, eval (.JoinedStr a b) env) :: starEach es env := rfl
theorem star_comp {a b c d} : starEach (.ListComp a b c d :: es) env = (false, eval (.ListComp a b c d) env) :: starEach es env := rfl
end
end L2
namespace L2
open PySem PySem.Spec PyProof.Rows
end L2

end

section
set_option Elab.async false
set_option linter.all false
set_option maxRecDepth 100000
set_option maxHeartbeats 4000000
namespace M
open PySem
end M

end

section
set_option Elab.async false
set_option linter.all false
set_option maxRecDepth 100000
set_option maxHeartbeats 4000000
namespace M
open PySem
inductive D where
  | int (i : Int)
  | str (x : Str)
  | tup (ds : List D)
inductive All2 {α β : Type} (R : α → β → Prop) : List α → List β → Prop where
  | nil : All2 R [] []
  | cons {a b as bs} (h : R a b) (t : All2 R as bs) : All2 R (a :: as) (b :: bs)
theorem All2.length {α β : Type} {R : α → β → Prop} {as : List α} {bs : List β} (h : All2 R as bs) : as.length = bs.length := by
  induction h with
  | nil => rfl
  | cons _ _ ih => simp [ih]
theorem All2.imp {α β : Type} {R S : α → β → Prop} {as : List α} {bs : List β} (h : All2 R as bs) (f : ∀ a b, R a b → S a b) : All2 S as bs := by
  induction h with
  | nil => exact .nil
  | cons h _ ih => exact .cons (f _ _ h) ih
theorem All2.get {α β : Type} {R : α → β → Prop} {as : List α} {bs : List β} (h : All2 R as bs) : ∀ {i : Nat} {a : α}, as[i]? = some a → ∃ b, bs[i]? = some b ∧ R a b := by
  induction h with
  | nil => intro i a e; simp at e
  | cons h _ ih =>
    intro i a e
    cases i with
    | zero => simp at e; subst e; exact ⟨_, by simp, h⟩
    | succ i => simpa using ih (i := i) (a := a) (by simpa using e)
def S (s : String) : Str := Str.ofString s
def isLetter (c : Nat) : Bool := 97 ≤ c && c ≤ 122
def nameL (x : List Nat) : Bool := 1 ≤ x.length && x.length ≤ 6 && x.all isLetter && x != [110, 117, 109] && x != [105, 116]
def Name (x : Str) : Prop := nameL x.cps.toList = true
theorem Name.le {x : Str} (h : Name x) : x.cps.toList.length ≤ 6 := by
  unfold Name nameL at h
  simp only [Bool.and_eq_true, decide_eq_true_eq] at h
  exact h.1.1.1.2
end M

end

section
set_option Elab.async false
set_option linter.all false
set_option maxRecDepth 100000
set_option maxHeartbeats 4000000
namespace M
open PySem
end M

end

section
set_option Elab.async false
set_option linter.all false
set_option maxRecDepth 100000
set_option maxHeartbeats 4000000
namespace M
open PySem
def L (x : Str) : List Nat := x.cps.toList
def ofL (l : List Nat) : Str := ⟨l.toArray⟩
theorem L_ofL (l : List Nat) : L (ofL l) = l := rfl
theorem ofL_L (x : Str) : ofL (L x) = x := by
  cases x
  rfl
theorem L_inj {x y : Str} (h : L x = L y) : x = y := by
  rw [← ofL_L x, ← ofL_L y, h]
theorem L_append (x y : Str) : L (x ++ y) = L x ++ L y := by
  show (x.cps ++ y.cps).toList = _
  simp [L]
theorem L_length (x : Str) : (L x).length = x.length := by
  simp [L, Str.length]
end M

end

section
set_option Elab.async false
set_option linter.all false
set_option maxRecDepth 100000
set_option maxHeartbeats 4000000
namespace M
open PySem
end M

end

section
set_option Elab.async false
set_option linter.all false
set_option maxRecDepth 100000
set_option maxHeartbeats 4000000
namespace M
open PySem
end M

end

section
set_option Elab.async false
set_option linter.all false
set_option maxRecDepth 100000
set_option maxHeartbeats 4000000
namespace M
open PySem L2
mutual
def RelD (H : Hp) : V → D → Prop
  | v, .int i => v = .int i
  | v, .str x => v = .str x
  | v, .tup ds => ∃ a vs, v = .ref a ∧ H a = some (.tup vs) ∧ RelDs H vs ds
def RelDs (H : Hp) : List V → List D → Prop
  | vs, [] => vs = []
  | vs, d :: ds => ∃ v r, vs = v :: r ∧ RelD H v d ∧ RelDs H r ds
end
mutual
theorem RelD.same {H H' : Hp} (s : Same H H') : ∀ {v : V} (d : D), RelD H v d → RelD H' v d
  | v, .int i, h => h
  | v, .str x, h => h
  | v, .tup ds, ⟨a, vs, e, ha, h⟩ => ⟨a, vs, e, s _ _ ha, RelDs.same s ds h⟩
theorem RelDs.same {H H' : Hp} (s : Same H H') : ∀ {vs : List V} (ds : List D), RelDs H vs ds → RelDs H' vs ds
  | vs, [], h => h
  | vs, d :: ds, ⟨v, r, e, h1, h2⟩ => ⟨v, r, e, RelD.same s d h1, RelDs.same s ds h2⟩
end
theorem RelDs.length {H : Hp} : ∀ {vs : List V} {ds : List D}, RelDs H vs ds → vs.length = ds.length
  | vs, [], h => by rw [show vs = [] from h]; rfl
  | vs, d :: ds, ⟨v, r, e, _, h2⟩ => by rw [e, List.length_cons, List.length_cons, RelDs.length h2]
theorem RelDs.append {H : Hp} : ∀ {vs us : List V} {ds es : List D}, RelDs H vs ds → RelDs H us es → RelDs H (vs ++ us) (ds ++ es)
  | vs, us, [], es, h, k => by rw [show vs = [] from h]; exact k
  | vs, us, d :: ds, es, ⟨v, r, e, h1, h2⟩, k => by subst e; exact ⟨v, r ++ us, rfl, h1, RelDs.append h2 k⟩
theorem RelDs.get {H : Hp} : ∀ {vs : List V} {ds : List D} {i : Nat} {v : V}, RelDs H vs ds → vs[i]? = some v → ∃ d, ds[i]? = some d ∧ RelD H v d
  | vs, [], i, v, h, e => by rw [show vs = [] from h] at e; simp at e
  | vs, d :: ds, 0, v, ⟨u, r, e0, h1, _⟩, e => by
    subst e0
    simp at e
    subst e
    exact ⟨d, rfl, h1⟩
  | vs, d :: ds, i + 1, v, ⟨u, r, e0, _, h2⟩, e => by
    subst e0
    obtain ⟨x, hx, hr⟩ := RelDs.get (i := i) (v := v) h2 (by simpa using e)
    exact ⟨x, by simpa using hx, hr⟩
end M
namespace M
open PySem L2
theorem iteKF {c A B : Prop} [Decidable c] (h : decide c = false) (b : B) : if decide c = true then A else B := by
  rw [h]
  exact b
theorem iteKT {c A B : Prop} [Decidable c] (h : decide c = true) (a : A) : if decide c = true then A else B := by
  rw [h]
  exact a
theorem iteBF {c : Bool} {A B : Prop} (h : c = false) (b : B) : if c = true then A else B := by
  rw [h]
  exact b
theorem iteBT {c : Bool} {A B : Prop} (h : c = true) (a : A) : if c = true then A else B := by
  rw [h]
  exact a
end M

end

section
set_option Elab.async false
set_option linter.all false
set_option maxRecDepth 100000
set_option maxHeartbeats 4000000
namespace M
open PySem L2
end M

end

section
set_option Elab.async false
set_option linter.all false
set_option maxRecDepth 100000
set_option maxHeartbeats 4000000
namespace M
open PySem L2
mutual
theorem RelD.tups {H H' : Hp} (s : ∀ b vs, H b = some (.tup vs) → H' b = some (.tup vs)) : ∀ {v : V} (d : D), RelD H v d → RelD H' v d
  | v, .int i, h => h
  | v, .str x, h => h
  | v, .tup ds, ⟨a, vs, e, ha, h⟩ => ⟨a, vs, e, s _ _ ha, RelDs.tups s ds h⟩
theorem RelDs.tups {H H' : Hp} (s : ∀ b vs, H b = some (.tup vs) → H' b = some (.tup vs)) : ∀ {vs : List V} (ds : List D), RelDs H vs ds → RelDs H' vs ds
  | vs, [], h => h
  | vs, d :: ds, ⟨v, r, e, h1, h2⟩ => ⟨v, r, e, RelD.tups s d h1, RelDs.tups s ds h2⟩
end
theorem fed_tups {a : Addr} {H H' : Hp} (hf : ∃ p q : Int, H a = some (.lst [.int p, .int q])) (f : Fed a H H') : ∀ b vs, H b = some (.tup vs) → H' b = some (.tup vs) := fun b vs e => f.1 b _ e fun z => by
  obtain ⟨p, q, h⟩ := hf
  rw [z, h] at e
  cases e
def single (c : Nat) : Str := ⟨#[c]⟩
theorem join_singles : ∀ cs : List Nat, Txt.join (S "") (cs.map single) = ofL cs := by
  have h : ∀ cs : List Nat, L (Str.join (S "") (cs.map single)) = cs := by
    intro cs
    induction cs with
    | nil => rfl
    | cons c r ih =>
      cases r with
      | nil => rfl
      | cons d r =>
        show L (single c ++ S "" ++ Str.join (S "") ((d :: r).map single)) = _
        rw [L_append, L_append, ih]
        have e : L (S "") = [] := by decide +kernel
        rw [e]
        rfl
  intro cs
  apply L_inj
  show L (Builtin.Str.glued (S "") (cs.map single)) = cs
  rw [StrLaws.glued_eq_join, h]
theorem sum_singles (cs : List Nat) : ((cs.map single).map (·.length)).sum = cs.length := by
  induction cs with
  | nil => rfl
  | cons c r ih =>
    show (single c).length + ((r.map single).map (·.length)).sum = r.length + 1
    rw [ih, show (single c).length = 1 from rfl]
    omega
theorem at_codes {α : Type} {cs : List α} {r : Int} (h0 : 0 ≤ r) (h : r < (cs.length : Int)) : ∃ c ∈ cs, atI cs r = some c := by
  have hk : r.toNat < cs.length := by omega
  have ek : r = ((r.toNat : Nat) : Int) := by omega
  refine ⟨cs[r.toNat], List.getElem_mem hk, ?_⟩
  have q : atI cs ((r.toNat : Nat) : Int) = some cs[r.toNat] := atI_nat (List.getElem?_eq_getElem hk)
  rw [← ek] at q
  exact q
end M

end

section
set_option Elab.async false
set_option linter.all false
set_option maxRecDepth 100000
set_option maxHeartbeats 4000000
namespace L2
open PySem PySem.Spec PyProof.Rows

section
variable {κ : Type} [DecidableEq κ]
def valV (kvs : List (κ × V)) (k : κ) : Option V := (kvs.find? fun kv => decide (kv.1 = k)).map (·.2)
/-- in its place, or at the end -/
def putK (kvs : List (κ × V)) (k : κ) (v : V) : List (κ × V) :=
  if (kvs.any fun kv => decide (kv.1 = k)) = true then kvs.map (fun kv => if kv.1 = k then (kv.1, v) else kv) else kvs ++ [(k, v)]
theorem valV_pos {p : κ × V} {r : List (κ × V)} {k : κ} (e : p.1 = k) : valV (p :: r) k = some p.2 := by simp [valV, List.find?_cons, e]
theorem valV_neg {p : κ × V} {r : List (κ × V)} {k : κ} (e : ¬ p.1 = k) : valV (p :: r) k = valV r k := by simp [valV, List.find?_cons, e]
theorem valV_any (k : κ) : ∀ kvs : List (κ × V), (kvs.any fun kv => decide (kv.1 = k)) = (valV kvs k).isSome
  | [] => rfl
  | p :: r => by
    rw [List.any_cons]
    by_cases e : p.1 = k
    · simp only [valV_pos e, decide_eq_true e, Bool.true_or, Option.isSome_some]
    · rw [valV_neg e, decide_eq_false e, Bool.false_or]; exact valV_any k r
theorem valV_map (k j : κ) (y : V) : ∀ kvs : List (κ × V), valV (kvs.map fun kv => if kv.1 = k then (kv.1, y) else kv) j = (valV kvs j).map fun x => if j = k then y else x
  | [] => rfl
  | p :: r => by
    have ih := valV_map k j y r
    rw [List.map_cons]
    by_cases h : p.1 = k
    · rw [if_pos h]
      by_cases e : p.1 = j
      · rw [valV_pos (p := (p.1, y)) e, valV_pos e, Option.map_some, if_pos (e.symm.trans h)]
      · rw [valV_neg (p := (p.1, y)) e, valV_neg e, ih]
    · rw [if_neg h]
      by_cases e : p.1 = j
      · rw [valV_pos (p := p) e, valV_pos e, Option.map_some, if_neg (fun z => h (e.trans z))]
      · rw [valV_neg (p := p) e, valV_neg e, ih]
theorem valV_snoc (k j : κ) (y : V) : ∀ kvs : List (κ × V), valV kvs k = none → valV (kvs ++ [(k, y)]) j = if j = k then some y else valV kvs j
  | [], _ => by
    by_cases e : k = j
    · rw [if_pos e.symm]; exact valV_pos (p := (k, y)) e
    · rw [if_neg (fun z => e z.symm)]; exact valV_neg (p := (k, y)) e
  | p :: r, hn => by
    rw [List.cons_append]
    have hk : ¬ p.1 = k := fun z => by rw [valV_pos z] at hn; cases hn
    rw [valV_neg hk] at hn
    have ih := valV_snoc k j y r hn
    by_cases e : p.1 = j
    · rw [valV_pos e, valV_pos e, if_neg (fun z => hk (e.trans z))]
    · rw [valV_neg e, valV_neg e, ih]
theorem valV_put (kvs : List (κ × V)) (k j : κ) (y : V) : valV (putK kvs k y) j = if j = k then some y else valV kvs j := by
  unfold putK
  by_cases a : (kvs.any fun kv => decide (kv.1 = k)) = true
  · rw [if_pos a, valV_map]
    rw [valV_any] at a
    by_cases e : j = k
    · obtain ⟨x, hx⟩ := Option.isSome_iff_exists.mp a
      rw [if_pos e, e, hx, Option.map_some, if_pos rfl]
    · rw [if_neg e]
      cases valV kvs j with
      | none => rfl
      | some x => rw [Option.map_some, if_neg e]
  · rw [if_neg a]
    refine valV_snoc k j y kvs ?_
    rw [valV_any] at a
    cases q : valV kvs k with
    | none => rfl
    | some x => rw [q] at a; exact (a rfl).elim
theorem length_putK (kvs : List (κ × V)) (k : κ) (v : V) : (putK kvs k v).length ≤ kvs.length + 1 := by
  unfold putK
  split
  · rw [List.length_map]; omega
  · rw [List.length_append, List.length_cons, List.length_nil]; omega
theorem RelO.isSome_eq {o : Option V} {u : Option Value} (r : RelO o u) : o.isSome = u.isSome := by
  cases o with
  | none => cases u with
    | none => rfl
    | some _ => exact (show False from r).elim
  | some _ => cases u with
    | none => exact (show False from r).elim
    | some _ => rfl
/-- raw tables of the same keys -/
theorem KV.val {kvs : List (κ × V)} {vs : List (κ × Value)} (r : KV kvs vs) (k : κ) : RelO (valV kvs k) (valueAt vs k) := by
  unfold KV at r
  induction r with
  | nil => exact True.intro
  | @cons p q ps qs h t ih =>
    obtain ⟨h1, h2⟩ := h
    by_cases e : p.1 = k
    · have e' : q.1 = k := h1.symm.trans e
      have b : valueAt (q :: qs) k = some q.2 := by simp [valueAt, List.find?_cons, e']
      rw [valV_pos e, b]; exact h2
    · have e' : ¬ q.1 = k := fun z => e (h1.trans z)
      have b : valueAt (q :: qs) k = valueAt qs k := by simp [valueAt, List.find?_cons, e']
      rw [valV_neg e, b]; exact ih
theorem KV.any {kvs : List (κ × V)} {vs : List (κ × Value)} (r : KV kvs vs) (k : κ) : (kvs.any fun kv => decide (kv.1 = k)) = vs.any fun kv => decide (kv.1 = k) := by
  unfold KV at r
  induction r with
  | nil => rfl
  | cons h t ih => rw [List.any_cons, List.any_cons, ih, h.1]
theorem KV.repl {kvs : List (κ × V)} {vs : List (κ × Value)} (r : KV kvs vs) (k : κ) {y : V} {u : Value} (ry : RelV y u) :
    KV (kvs.map fun kv => if kv.1 = k then (kv.1, y) else kv) (vs.map fun kv => if kv.1 = k then (kv.1, u) else kv) := by
  unfold KV at r ⊢
  induction r with
  | nil => exact .nil
  | @cons p q ps qs h t ih =>
    rw [List.map_cons, List.map_cons]
    refine .cons ?_ ih
    obtain ⟨h1, h2⟩ := h
    by_cases e : p.1 = k
    · rw [if_pos e, if_pos (h1.symm.trans e)]; exact ⟨h1, ry⟩
    · rw [if_neg e, if_neg (fun z => e (h1.trans z))]; exact ⟨h1, h2⟩
theorem KV.put {kvs : List (κ × V)} {vs : List (κ × Value)} (r : KV kvs vs) (k : κ) {y : V} {u : Value} (ry : RelV y u) : KV (putK kvs k y) (stored vs k u) := by
  unfold putK stored
  rw [r.any k]
  by_cases e : (vs.any fun kv => decide (kv.1 = k)) = true
  · rw [if_pos e, if_pos e]; exact r.repl k ry
  · rw [if_neg e, if_neg e]; exact Paired.snoc r ⟨rfl, ry⟩
theorem KV.length {kvs : List (κ × V)} {vs : List (κ × Value)} (r : KV kvs vs) : kvs.length = vs.length := Paired.length r
end


theorem kV_is {P : Program} {w : World} {k : Key} {u : Value} (r : RelV (kV k) u) : (mixKind P w).is k u = true := by
  cases k with
  | inl i => obtain ⟨t, e⟩ := (show ∃ t, u = Value.int i t from r); subst e; exact mixKind_int P w i t
  | inr x => obtain ⟨t, e⟩ := (show ∃ t, u = Value.str x t from r); subst e; exact mixKind_str P w x t
theorem items_are {P : Program} {w : World} : ∀ {ks : List Key} {us : List Value}, Vals (ks.map kV) us → ItemsAre (mixKind P w) ks us
  | [], _, r => by rw [List.map_nil] at r; cases r; exact .nil
  | k :: ks, _, r => by
    rw [List.map_cons] at r
    cases r with
    | cons h t => exact .cons (kV_is h) (items_are t)

/-- raw entries of a dict with tuple keys -/
abbrev KT (H : Hp) : List (List Key × V) → List (List Key × Addr × Value) → Prop := Paired fun p q => p.1 = q.1 ∧ H q.2.1 = some (.tup (p.1.map kV)) ∧ RelV p.2 q.2.2
theorem KT.val {H : Hp} {kvs : List (List Key × V)} {xs : List (List Key × Addr × Value)} (r : KT H kvs xs) (k : List Key) : RelO (valV kvs k) ((atKey xs k).map (·.2)) := by
  induction r with
  | nil => exact True.intro
  | @cons p q ps qs h t ih =>
    obtain ⟨h1, _, h2⟩ := h
    by_cases e : p.1 = k
    · have e' : q.1 = k := h1.symm.trans e
      have b : atKey (q :: qs) k = some q.2 := by simp [atKey, List.find?_cons, e']
      rw [valV_pos e, b]; exact h2
    · have e' : ¬ q.1 = k := fun z => e (h1.trans z)
      have b : atKey (q :: qs) k = atKey qs k := by simp [atKey, List.find?_cons, e']
      rw [valV_neg e, b]; exact ih
theorem KT.repl {H : Hp} {kvs : List (List Key × V)} {xs : List (List Key × Addr × Value)} (r : KT H kvs xs) (k : List Key) {y : V} {u : Value} (ry : RelV y u) :
    KT H (kvs.map fun kv => if kv.1 = k then (kv.1, y) else kv) (xs.map (putAt k u)) := by
  induction r with
  | nil => exact .nil
  | @cons p q ps qs h t ih =>
    rw [List.map_cons, List.map_cons]
    refine .cons ?_ ih
    obtain ⟨h1, h2, h3⟩ := h
    unfold putAt
    by_cases e : p.1 = k
    · rw [if_pos e, if_pos (h1.symm.trans e)]; exact ⟨h1, h2, ry⟩
    · rw [if_neg e, if_neg (fun z => e (h1.trans z))]; exact ⟨h1, h2, h3⟩
theorem KT.put {H : Hp} {kvs : List (List Key × V)} {xs : List (List Key × Addr × Value)} (r : KT H kvs xs) (k : List Key) {b : Addr} {y : V} {u : Value} (hb : H b = some (.tup (k.map kV))) (ry : RelV y u) :
    KT H (putK kvs k y) (storedH xs k b u) := by
  have e : (kvs.any fun kv => decide (kv.1 = k)) = (atKey xs k).isSome := by
    rw [valV_any, (r.val k).isSome_eq, Option.isSome_map]
  unfold putK storedH
  rw [e]
  by_cases q : (atKey xs k).isSome = true
  · rw [if_pos q, if_pos q]; exact r.repl k ry
  · rw [if_neg q, if_neg q]; exact Paired.snoc r ⟨rfl, hb, ry⟩
theorem KT.keeps {H H' : Hp} {kvs : List (List Key × V)} {xs : List (List Key × Addr × Value)} (r : KT H kvs xs) (ht : ∀ b ys, H b = some (.tup ys) → H' b = some (.tup ys)) : KT H' kvs xs :=
  Paired.mapP r fun _ _ z => ⟨z.1, ht _ _ z.2.1, z.2.2⟩

section
variable {P : Program} {w : World} {H : Hp} {h : Heap} {a : Addr}
theorem rd_of {u : HO} (ok : HOk P w H h) (e : Rd H a u) : ObjOk P w H h a u := e.ok ok
theorem dk_rd {kvs : List (Key × V)} (ok : HOk P w H h) (e : Rd H a (.dK kvs)) : kvs.length ≤ sizeLine ∧ (a == sysModules) = false ∧ ∃ vs, KV kvs vs ∧ h.DictOf (mixKind P w) a vs :=
  show ObjOk P w H h a (.dK kvs) from rd_of ok e
theorem dk_of {kvs : List (Key × V)} (ok : HOk P w H h) (e : H a = some (.dK kvs)) : kvs.length ≤ sizeLine ∧ (a == sysModules) = false ∧ ∃ vs, KV kvs vs ∧ h.DictOf (mixKind P w) a vs := dk_rd ok (.inl e)
/-- a tracked tuple of ints and texts is a key -/
theorem key_of {ks : List Key} (ok : HOk P w H h) (e : H a = some (.tup (ks.map kV))) : (tupleKind (mixKind P w)).is h ks a := by
  obtain ⟨_, its, r, o, h1, h2, n, h3, _⟩ := (show ObjOk P w H h a (.tup (ks.map kV)) from ok a _ e)
  exact ⟨o, its.toArray, n, h1, h2, h3, by simpa using items_are r⟩
theorem dt_rd {kvs : List (List Key × V)} (ok : HOk P w H h) (e : Rd H a (.dT kvs)) : kvs.length ≤ sizeLine ∧ (a == sysModules) = false ∧
    ∃ xs, KT H kvs xs ∧ h.DictOfH (tupleKind (mixKind P w)) a xs := by
  obtain ⟨z, y, xs, r, o, es, ep, h1, h2, h3, h4, h5⟩ := (show ObjOk P w H h a (.dT kvs) from rd_of ok e)
  refine ⟨z, y, xs, r, o, es, ep, h1, h2, h3, h4, fun x hx => ?_, h5⟩
  have all : ∀ {l : List (List Key × V)} {m : List (List Key × Addr × Value)}, KT H l m → ∀ x ∈ m, (tupleKind (mixKind P w)).is h x.1 x.2.1 := by
    intro l m q
    induction q with
    | nil => intro x hx; exact nomatch hx
    | @cons p q ps qs hq t ih =>
      intro x hx
      rcases List.mem_cons.mp hx with e | hx
      · subst e
        exact key_of ok (by rw [← hq.1]; exact hq.2.1)
      · exact ih x hx
  exact all r x hx
theorem dt_of {kvs : List (List Key × V)} (ok : HOk P w H h) (e : H a = some (.dT kvs)) : kvs.length ≤ sizeLine ∧ (a == sysModules) = false ∧
    ∃ xs, KT H kvs xs ∧ h.DictOfH (tupleKind (mixKind P w)) a xs := dt_rd ok (.inl e)
end

/-- what the dict at a holds at the key y -/
def DGet (H : Hp) (a : Addr) (y : V) (r : Option V) : Prop :=
  (∃ kvs k, Rd H a (.dK kvs) ∧ y = kV k ∧ r = valV kvs k) ∨ ∃ kvs k b, Rd H a (.dT kvs) ∧ y = .ref b ∧ H b = some (.tup (k.map kV)) ∧ r = valV kvs k
/-- the heap behind a[y] = v -/
def DPut (H : Hp) (a : Addr) (y v : V) (H' : Hp) : Prop :=
  (∃ kvs k, H a = some (.dK kvs) ∧ y = kV k ∧ kvs.length < sizeLine ∧ H' = upd H a (.dK (putK kvs k v))) ∨
  ∃ kvs k b, H a = some (.dT kvs) ∧ y = .ref b ∧ H b = some (.tup (k.map kV)) ∧ kvs.length < sizeLine ∧ H' = upd H a (.dT (putK kvs k v))
theorem DGet.k {H : Hp} {a : Addr} {kvs : List (Key × V)} {k : Key} (e : H a = some (.dK kvs)) : DGet H a (kV k) (valV kvs k) := .inl ⟨kvs, k, .inl e, rfl, rfl⟩
theorem DPut.k {H : Hp} {a : Addr} {kvs : List (Key × V)} {k : Key} {v : V} (e : H a = some (.dK kvs)) (hl : kvs.length < sizeLine) : DPut H a (kV k) v (upd H a (.dK (putK kvs k v))) := .inl ⟨kvs, k, e, rfl, hl, rfl⟩
section
variable {X : Cx} {pins : List (Addr × Obj)} {σ : St} {H : Hp} {s : Shared} {a : Addr} {y v : V} {u r : Value} {o : Option V} {A : Around} {E : Value → Shared → Prop}

theorem Inv.big (I : Inv X pins σ H s) : sysModules < s.heap.objs.size := by
  have h : mainGlobals < s.heap.objs.size := (I.mod.glob.keeps I.bk).lt
  exact Nat.lt_trans (by decide) h

/-- d[y], there -/
theorem d_getItem {Q : Value → Shared → Prop} (hu : A.units + 1 < cLine) (I : Inv X pins σ H s) (g : DGet H a y (some v)) (ry : RelV y u) (h : ∀ w' s', Inv X pins σ H s' → RelV v w' → Q w' s') :
    wpAny (model X.prog X.w) A (getItem (.ref a) u) Q E s := by
  rcases g with ⟨kvs, k, e, ey, l⟩ | ⟨kvs, k, b, e, ey, eb, l⟩
  · subst ey
    obtain ⟨z, hd, vs, rel, dd⟩ := dk_rd I.hok e
    obtain ⟨w', hw, rw'⟩ := RelO.some_of (v := v) (o := valueAt vs k) (by rw [l]; exact rel.val k)
    exact wpAny_getItem_of (kV_is ry) dd.mapOf hw (h w' _ (I.tok _) rw')
  · subst ey
    cases (show u = Value.ref b from ry)
    obtain ⟨z, hd, xs, rel, dd⟩ := dt_rd I.hok e
    obtain ⟨w', hw, rw'⟩ := RelO.some_of (v := v) (o := (atKey xs k).map (·.2)) (by rw [l]; exact rel.val k)
    obtain ⟨p, hp, hp2⟩ := Option.map_eq_some_iff.mp hw
    refine wpAny_getItem_heap (tupleKind_room_in1 hu) (key_of I.hok eb) dd hp ?_
    rw [hp2]
    exact h w' _ (I.tok _) rw'
/-- y in d -/
theorem d_in {Q : Value → Shared → Prop} (hu : A.units + 1 < cLine) (I : Inv X pins σ H s) (g : DGet H a y o) (ry : RelV y u) (h : ∀ s', Inv X pins σ H s' → Q (.bool o.isSome) s') :
    wpAny (model X.prog X.w) A (compareOp .In u (.ref a)) Q E s := by
  rcases g with ⟨kvs, k, e, ey, l⟩ | ⟨kvs, k, b, e, ey, eb, l⟩
  · subst ey
    obtain ⟨z, hd, vs, rel, dd⟩ := dk_rd I.hok e
    refine wpAny_in_of (kV_is ry) hd dd.mapOf ?_
    rw [← (rel.val k).isSome_eq, ← l]
    exact h _ (I.tok _)
  · subst ey
    cases (show u = Value.ref b from ry)
    obtain ⟨z, hd, xs, rel, dd⟩ := dt_rd I.hok e
    refine wpAny_in_heap (tupleKind_room_in1 hu) (key_of I.hok eb) hd dd ?_
    have q := (rel.val k).isSome_eq
    rw [Option.isSome_map] at q
    rw [← q, ← l]
    exact h _ (I.tok _)
theorem d_notIn {Q : Value → Shared → Prop} (hu : A.units + 1 < cLine) (I : Inv X pins σ H s) (g : DGet H a y o) (ry : RelV y u) (h : ∀ s', Inv X pins σ H s' → Q (.bool (!o.isSome)) s') :
    wpAny (model X.prog X.w) A (compareOp .NotIn u (.ref a)) Q E s := by
  rcases g with ⟨kvs, k, e, ey, l⟩ | ⟨kvs, k, b, e, ey, eb, l⟩
  · subst ey
    obtain ⟨z, hd, vs, rel, dd⟩ := dk_rd I.hok e
    refine wpAny_notIn_of (kV_is ry) hd dd.mapOf ?_
    rw [← (rel.val k).isSome_eq, ← l]
    exact h _ (I.tok _)
  · subst ey
    cases (show u = Value.ref b from ry)
    obtain ⟨z, hd, xs, rel, dd⟩ := dt_rd I.hok e
    refine wpAny_notIn_heap (tupleKind_room_in1 hu) (key_of I.hok eb) hd dd ?_
    have q := (rel.val k).isSome_eq
    rw [Option.isSome_map] at q
    rw [← q, ← l]
    exact h _ (I.tok _)
/-- a dict's object is replaced -/
theorem d_write {h' : Heap} {t' : Nat} {ob : HO} (I : Inv X pins σ H s) (mu : Mut (H a)) (hs : Heap.SameBut a s.heap h') (he : ∃ q, h'.get? a = some q) (new : ObjOk X.prog X.w (upd H a ob) h' a ob) :
    Inv X pins σ (upd H a ob) { s with heap := h', toks := t' } :=
  I.write (x := a) (e := a) mu (.inl rfl) (fun b q hb z => (hs.2 b hb).trans z) he new
theorem dk_new {P : Program} {w : World} {H' : Hp} {h' : Heap} {kvs : List (Key × V)} {vs : List (Key × Value)} (z : kvs.length ≤ sizeLine) (hd : (a == sysModules) = false) (rel : KV kvs vs) (dd : h'.DictOf (mixKind P w) a vs) :
    ObjOk P w H' h' a (.dK kvs) := ⟨z, hd, vs, rel, dd⟩
/-- d[y] = v -/
theorem d_setItem {H' : Hp} {Q : Unit → Shared → Prop} (hu : A.units + 1 < cLine) (I : Inv X pins σ H s) (g : DPut H a y v H') (ry : RelV y u) (rv : RelV v r) (h : ∀ s', Inv X pins σ H' s' → Q () s') :
    wpAny (model X.prog X.w) A (setItem (.ref a) u r) Q E s := by
  rcases g with ⟨kvs, k, e, ey, l, eH⟩ | ⟨kvs, k, b, e, ey, eb, l, eH⟩
  · subst ey eH
    obtain ⟨z, hd, vs, rel, dd⟩ := dk_of I.hok e
    have hz : vs.length ≤ sizeLine := by rw [← rel.length]; exact z
    have hl : (putK kvs k v).length ≤ sizeLine := by have := length_putK kvs k v; omega
    refine wpAny_setItem_pairs (hsz := hz) (kV_is ry) dd fun h' dd' hs => h _ ?_
    have he : ∃ q, h'.get? a = some q := let ⟨q, _, _, hq, _⟩ := dd'; ⟨q, hq⟩
    exact d_write I (by rw [e]; exact True.intro) hs he (dk_new hl hd (rel.put k rv) dd')
  · subst ey eH
    cases (show u = Value.ref b from ry)
    obtain ⟨z, hd, xs, rel, dd⟩ := dt_of I.hok e
    have hz : xs.length ≤ sizeLine := by rw [← Paired.length rel]; exact z
    have hl : (putK kvs k v).length ≤ sizeLine := by have := length_putK kvs k v; omega
    refine wpAny_setItem_heap (hsz := hz) (tupleKind_room_in1 hu) (key_of I.hok eb) dd fun h' dd' hs => h _ ?_
    obtain ⟨q, es, ep, hq, h2, h3, h4, _, h5⟩ := dd'
    refine d_write I (by rw [e]; exact True.intro) hs ⟨q, hq⟩ ⟨hl, hd, _, (rel.put k eb rv).keeps fun c ys ec => ?_, q, es, ep, hq, h2, h3, h4, h5⟩
    rw [upd_ne (ne_of ec e (fun z => nomatch z))]
    exact ec
end

section
variable {X : Cx} {pins : List (Addr × Obj)} {σ : St} {H : Hp} {s : Shared} {a : Addr} {kvs : List (Key × V)} {k : Key} {u : Value} {A : Around} {E : Value → Shared → Prop}
end


/-- the element of a subscription, not a slice -/
def NoSl (i : Expr) : Prop := ∀ ov iv, subscripted i false ov iv = operate [ov, iv] (getItem ov iv)
theorem subD_of {prog : Program} {w : World} {A : Around} {E : Value → Shared → Prop} {s : Shared} {env : Env} {value slice : Expr} {pos : Pos} {T id : String} {Q : Value → Shared → Prop}
    (hl : typeLookup (.type T) "__getitem__" = pure (some (.builtin id))) (hs : NoSl slice)
    (h : wpAny (model prog w) A (eval value env) (fun o s₁ => wpAny (model prog w) A (eval slice env) (fun i s₂ => s₂.TypeIs o T ∧ wpAny (model prog w) A (getItem o i) Q E s₂) E s₁) E s) :
    wpAny (model prog w) A (eval (.Subscript value slice pos) env) Q E s := by
  refine Subscript_ (wpAny_mono h (fun o s₁ h₁ => wpAny_mono h₁ (fun i s₂ h₂ => ?_) fun _ _ x => x) fun _ _ x => x)
  obtain ⟨hT, h₂⟩ := h₂
  unfold subscriptTail
  refine wpAny_bind ?_
  rw [getitemInPython_of_ne hT.not_modules]
  refine wpAny_bind (wpAny_specialOf hT hl ?_)
  have fin : wpAny (model prog w) A (subscripted slice false o i) (fun r s₃ => wpAny (model prog w) A (letTemporaryGo value o r >>= fun _ => pure r) Q E s₃) E s₂ := by
    rw [hs o i]
    exact wpAny_operating (wpAny_mono h₂ (fun r s₃ h₃ => wpAny_bind (wpAny_letTemporaryGo (wpAny_pure h₃))) fun _ _ x => x)
  first
    | exact wpAny_pure (wpAny_bind fin)
    | exact wpAny_bind (wpAny_pure (wpAny_bind fin))
    | exact wpAny_bind fin

theorem dict_typeIs {X : Cx} {pins : List (Addr × Obj)} {σ : St} {H : Hp} {s : Shared} {a : Addr} {y : V} {o : Option V} (I : Inv X pins σ H s) (g : DGet H a y o) : s.TypeIs (.ref a) "dict" := by
  rcases g with ⟨kvs, k, e, _, _⟩ | ⟨kvs, k, b, e, _, _, _⟩
  · obtain ⟨_, _, vs, _, dd⟩ := dk_rd I.hok e
    exact dd.typeIs
  · obtain ⟨_, _, xs, _, dd⟩ := dt_rd I.hok e
    exact dd.typeIs
/-- d[y] -/
def tDGet (td ty : TE) : TE := fun σ H Q => td σ H fun x H1 => ty σ H1 fun y H2 => ∃ a v, x = .ref a ∧ DGet H2 a y (some v) ∧ Q v H2
/-- y in d, y not in d -/
def tDIn (ty td : TE) : TE := fun σ H Q => ty σ H fun y H1 => td σ H1 fun x H2 => ∃ a o, x = .ref a ∧ DGet H2 a y o ∧ Q (.bl o.isSome) H2
def tDNotIn (ty td : TE) : TE := fun σ H Q => ty σ H fun y H1 => td σ H1 fun x H2 => ∃ a o, x = .ref a ∧ DGet H2 a y o ∧ Q (.bl (!o.isSome)) H2
/-- d[y] = v -/
def sDPut (td ty tv : TE) : TS := fun D σ H => tv σ H fun v H1 => td σ H1 fun x H2 => ty σ H2 fun y H3 => ∃ a H4, x = .ref a ∧ DPut H3 a y v H4 ∧ D.nx σ H4
section
variable {X : Cx} {o i e value : Expr} {pos pos' tpos : Pos} {td ty tv : TE}
theorem pe_dget (hu : X.A.units + 1 < cLine) (ho : PE X o td) (hi : PE X i ty) (hs : NoSl i) : PE X (.Subscript o i pos) (tDGet td ty) := by
  intro pins s σ H Q I h
  refine subD_of PySem.F.slot_dict_getitem.lookup hs (thn (ho pins s σ H _ I h) fun u s1 ⟨x, H1, I1, rx, q1⟩ => thn (hi pins s1 σ H1 _ I1 q1) fun iv s2 ⟨y, H2, I2, ry, a, v, ex, g, q2⟩ => ?_)
  subst ex
  obtain rfl : u = Value.ref a := rx
  exact ⟨dict_typeIs I2 g, d_getItem hu I2 g ry fun w' s3 I3 rw' => ⟨v, H2, I3, rw', q2⟩⟩
theorem pc_din (hu : X.A.units + 1 < cLine) (hi : PE X i ty) (ho : PE X o td) : PC X .In i o (tDIn ty td) := by
  intro pins s σ H Q I h
  refine thn (hi pins s σ H _ I h) fun iv s1 ⟨y, H1, I1, ry, q1⟩ => thn (ho pins s1 σ H1 _ I1 q1) fun u s2 ⟨x, H2, I2, rx, a, ov, ex, g, q2⟩ => ?_
  subst ex
  obtain rfl : u = Value.ref a := rx
  exact d_in hu I2 g ry fun s3 I3 => ⟨.bl ov.isSome, H2, I3, rfl, q2⟩
theorem pc_dnotin (hu : X.A.units + 1 < cLine) (hi : PE X i ty) (ho : PE X o td) : PC X .NotIn i o (tDNotIn ty td) := by
  intro pins s σ H Q I h
  refine thn (hi pins s σ H _ I h) fun iv s1 ⟨y, H1, I1, ry, q1⟩ => thn (ho pins s1 σ H1 _ I1 q1) fun u s2 ⟨x, H2, I2, rx, a, ov, ex, g, q2⟩ => ?_
  subst ex
  obtain rfl : u = Value.ref a := rx
  exact d_notIn hu I2 g ry fun s3 I3 => ⟨.bl (!ov.isSome), H2, I3, rfl, q2⟩
theorem ps_dput (hu : X.A.units + 1 < cLine) (ho : PE X o td) (hi : PE X i ty) (hv : PE X value tv) (hs : swapsWith value (some (.Subscript o i pos')) pos.line X.env = pure false) :
    PS X (.Assign [.Subscript o i pos'] value pos) (sDPut td ty tv) := by
  intro pins s σ H D I h
  refine wpAny_Assign_Subscript (thn (hv pins s σ H _ I h) fun r s1 ⟨v, H1, I1, rv, q1⟩ => thn (ho pins s1 σ H1 _ I1 q1) fun u s2 ⟨x, H2, I2, rx, q2⟩ => thn (hi pins s2 σ H2 _ I2 q2) fun iv s3 ⟨y, H3, I3, ry, a, H4, ex, g, q3⟩ => ?_) hs
  subst ex
  obtain rfl : u = Value.ref a := rx
  exact d_setItem hu I3 g ry rv fun s4 I4 => ⟨σ, H4, I4, q3⟩
end


theorem dk_empty {P : Program} {w : World} {H : Hp} (h : Heap) (hb : sysModules < h.objs.size) : ObjOk P w H (h.push { cls := .type "dict", data := .dict #[] }) h.objs.size (.dK []) :=
  ⟨Nat.zero_le _, beq_eq_false_iff_ne.mpr (Ne.symm (Nat.ne_of_lt hb)), [], .nil, Heap.DictOf.new h⟩
/-- {}, to be a dict of the kind that is wanted -/
def tDNewK : TE := fun _ H Q => ∀ p, H p = none → Q (.ref p) (upd H p (.dK []))
section
variable {X : Cx} {pos : Pos}
theorem pe_dnewK : PE X (.Dict [] [] pos) tDNewK := fun pins s σ H Q I h =>
  wpAny_Dict_empty ⟨.ref s.heap.objs.size, _, I.laid (a := s.heap.objs.size) (o := .dK []) (t' := s.toks) (fun _ _ q => Heap.get?_push_of_some _ q) (Nat.le_refl _) (dk_empty s.heap I.big), rfl, h _ (I.hok.fresh (Nat.le_refl _))⟩
end

/-- the pairs of a display, from the left -/
def tPairs : List (TE × TE) → St → Hp → (List (V × V) → Hp → Prop) → Prop
  | [], _, H, Q => Q [] H
  | (tk, tv) :: r, σ, H, Q => tk σ H fun x H1 => tv σ H1 fun y H2 => tPairs r σ H2 fun ps H3 => Q ((x, y) :: ps) H3
abbrev VV : List (V × V) → List (Value × Value) → Prop := Paired fun p q => RelV p.1 q.1 ∧ RelV p.2 q.2
def PPs (X : Cx) (pos : Pos) (keys : List (Option Expr)) (values : List Expr) (trs : List (TE × TE)) : Prop :=
  ∀ (pins : List (Addr × Obj)) (s : Shared) (σ : St) (H : Hp) (Q : List (V × V) → Hp → Prop), Inv X pins σ H s → tPairs trs σ H Q →
    wpAny (model X.prog X.w) X.A (evalPairs (pairTrees keys values X.env pos)) (fun vs s' => ∃ ps H', Inv X pins σ H' s' ∧ VV ps vs ∧ Q ps H') X.xe s
theorem pps_nil {X : Cx} {pos : Pos} : PPs X pos [] [] [] := fun pins s σ H Q I h => pairTrees_nil_walk ⟨[], H, I, .nil, h⟩
theorem pps_cons {X : Cx} {pos : Pos} {k v : Expr} {ks : List (Option Expr)} {vs : List Expr} {tk tv : TE} {trs : List (TE × TE)} (hk : PE X k tk) (hv : PE X v tv) (hr : PPs X pos ks vs trs) :
    PPs X pos (some k :: ks) (v :: vs) ((tk, tv) :: trs) := fun pins s σ H Q I h =>
  pairTrees_cons_walk (thn (hk pins s σ H _ I h) fun u s1 ⟨x, H1, I1, rx, q1⟩ => thn (hv pins s1 σ H1 _ I1 q1) fun w2 s2 ⟨y, H2, I2, ry, q2⟩ =>
    thn (hr pins s2 σ H2 _ I2 q2) fun ws s3 ⟨ps, H3, I3, rel, q3⟩ => ⟨(x, y) :: ps, H3, I3, .cons ⟨rx, ry⟩ rel, q3⟩)

def mergeK (kvs more : List (Key × V)) : List (Key × V) := more.foldl (fun acc kv => putK acc kv.1 kv.2) kvs
theorem KV.merge : ∀ {more : List (Key × V)} {rs : List (Key × Value)} {kvs : List (Key × V)} {vs : List (Key × Value)}, KV more rs → KV kvs vs → KV (mergeK kvs more) (merged vs rs) := by
  intro more rs kvs vs r
  unfold KV at r
  induction r generalizing kvs vs with
  | nil => intro q; exact q
  | @cons p q ps qs h t ih =>
    intro r0
    have e : KV (putK kvs p.1 p.2) (stored vs q.1 q.2) := by
      have := r0.put p.1 h.2
      rw [← h.1]; exact this
    exact ih e
theorem length_mergeK : ∀ (more kvs : List (Key × V)), (mergeK kvs more).length ≤ kvs.length + more.length
  | [], kvs => by show kvs.length ≤ kvs.length + 0; omega
  | p :: r, kvs => by
    have h1 := length_mergeK r (putK kvs p.1 p.2)
    have h2 := length_putK kvs p.1 p.2
    show (mergeK (putK kvs p.1 p.2) r).length ≤ _
    rw [List.length_cons]; omega
theorem carries_of {P : Program} {w : World} : ∀ {kvs : List (Key × V)} {ws : List (Value × Value)}, VV (kvs.map fun kv => (kV kv.1, kv.2)) ws → ∃ rs, Carries (mixKind P w) ws rs ∧ KV kvs rs
  | [], _, r => by rw [List.map_nil] at r; cases r; exact ⟨[], True.intro, .nil⟩
  | p :: kvs, _, r => by
    rw [List.map_cons] at r
    cases r with
    | @cons a b as bs h t =>
      obtain ⟨rs, c, q⟩ := carries_of (P := P) (w := w) t
      obtain ⟨b1, b2⟩ := b
      exact ⟨(p.1, b2) :: rs, ⟨kV_is h.1, rfl, c⟩, .cons ⟨rfl, h.2⟩ q⟩
/-- {k: v, ..} with keys ints and texts; the new dict stands empty while the pairs are made -/
def tDisp (trs : List (TE × TE)) : TE := fun σ H Q => ∀ p, H p = none → tPairs trs σ (upd H p (.dK [])) fun ps H2 => H2 p = some (.dK []) ∧ ∃ kvs : List (Key × V), ps = kvs.map (fun kv => (kV kv.1, kv.2)) ∧ kvs.length ≤ 15 ∧ Q (.ref p) (upd H2 p (.dK (mergeK [] kvs)))
theorem pe_disp {X : Cx} {pos : Pos} {keys : List (Option Expr)} {values : List Expr} {trs : List (TE × TE)} (h : PPs X pos keys values trs) (hall : keys.all (·.isSome) = true) (hl : keys.length = values.length) (h0 : keys ≠ [])
    (h15 : keys.length ≤ 15) : PE X (.Dict keys values pos) (tDisp trs) := by
  intro pins s σ H Q I q
  have hn := I.hok.fresh (Nat.le_refl s.heap.objs.size)
  have I1 := I.laid (a := s.heap.objs.size) (o := .dK []) (h' := s.heap.push { cls := .type "dict", data := .dict #[] }) (t' := s.toks) (fun _ _ q => Heap.get?_push_of_some _ q) (Nat.le_refl _) (dk_empty s.heap I.big)
  refine wpAny_Dict_walk (knd := mixKind X.prog X.w) hall hl h0 h15 (thn (h pins _ σ _ _ I1 (q _ hn)) fun ws s2 ⟨ps, H2, I2, rel, e, kvs, ep, lk, q2⟩ => ?_)
  subst ep
  obtain ⟨rs, c, rk⟩ := carries_of (P := X.prog) (w := X.w) rel
  obtain ⟨z, hd, vs0, r0, dd⟩ := dk_of I2.hok e
  cases r0
  refine ⟨rs, c, dd, fun h' dd' hs => ⟨.ref s.heap.objs.size, _, ?_, rfl, q2⟩⟩
  have hz : (mergeK [] kvs).length ≤ sizeLine := by
    have h1 := length_mergeK kvs []
    rw [List.length_nil] at h1
    rw [sizeLine_eq]; omega
  have he : ∃ q, h'.get? s.heap.objs.size = some q := let ⟨q, _, _, hq, _⟩ := dd'; ⟨q, hq⟩
  exact d_write I2 (by rw [e]; exact True.intro) hs he (dk_new hz hd (rk.merge .nil) dd')


section
variable {X : Cx} {pins : List (Addr × Obj)} {σ : St} {H : Hp} {s : Shared} {a : Addr} {y d : V} {u r : Value} {o : Option V} {A : Around} {E : Value → Shared → Prop}
end

section
variable {X : Cx} {o e f : Expr} {apos cpos : Pos} {td ty tx : TE}
end

section
variable {X : Cx} {pins : List (Addr × Obj)} {σ : St} {H : Hp} {s : Shared} {a : Addr} {kvs : List (Key × V)} {A : Around} {E : Value → Shared → Prop}
theorem d_copyOf {Q : Value → Shared → Prop} (I : Inv X pins σ H s) (e : Rd H a (.dK kvs)) (h : ∀ p s', H p = none → Inv X pins σ (upd H p (.dK kvs)) s' → Q (.ref p) s') : wpAny (model X.prog X.w) A (call (.type "dict") [.ref a]) Q E s := by
  obtain ⟨z, hd, vs, rel, dd⟩ := dk_rd I.hok e
  refine kt_call_dict hd dd (by rw [← rel.length]; exact z) fun h' dd' hs => ?_
  refine h _ _ (I.hok.fresh (Nat.le_refl _)) (I.laid (a := s.heap.objs.size) (o := .dK kvs) (t' := s.toks) (fun b q hq => ?_) (Nat.le_refl _) (dk_new z (beq_eq_false_iff_ne.mpr (Ne.symm (Nat.ne_of_lt I.big))) rel dd'))
  exact (hs.2 b (Nat.ne_of_lt (Heap.lt_size hq))).trans (Heap.get?_push_of_some _ hq)
end


section
variable {X : Cx} {pins : List (Addr × Obj)} {σ : St} {H : Hp} {s : Shared} {a : Addr} {y : V} {u : Value} {A : Around} {E : Value → Shared → Prop}
end
end L2

namespace L2
open PySem PySem.Spec PyProof.Rows
section
variable {X : Cx}
end
section
variable {κ : Type} [DecidableEq κ]
theorem nd_snoc : ∀ {l : List κ} {k : κ}, l.Nodup → ¬ k ∈ l → (l ++ [k]).Nodup
  | [], k, _, _ => by simp
  | a :: r, k, h, hk => by
    obtain ⟨h1, h2⟩ := List.nodup_cons.mp h
    show (a :: (r ++ [k])).Nodup
    refine List.nodup_cons.mpr ⟨fun m => ?_, nd_snoc h2 fun m => hk (List.mem_cons.mpr (Or.inr m))⟩
    rcases List.mem_append.mp m with q | q
    · exact h1 q
    · exact hk (List.mem_cons.mpr (Or.inl (List.mem_singleton.mp q).symm))
end
end L2

end

section
set_option Elab.async false
set_option linter.all false
set_option maxRecDepth 100000
set_option maxHeartbeats 4000000
namespace L2
open PySem PySem.Spec PyProof.Rows
section
variable {es : List Expr} {env : Env}
theorem star_dict {a b c} : starEach (.Dict a b c :: es) env = (false, eval (.Dict a b c) env) :: starEach es env := rfl
end
section
variable {X : Cx}
/-- dict(d): a copy -/
theorem call_dict1 : CallR X (.type "dict") (fun xs H Q => ∃ a kvs, xs = [V.ref a] ∧ H a = some (.dK kvs) ∧ ∀ p, H p = none → Q (.ref p) (upd H p (.dK kvs))) := by
  intro pins s σ H xs us Q I r h
  obtain ⟨a, kvs, rfl, ha, q⟩ := h
  obtain ⟨u, rfl, ru⟩ := vals1 r
  cases ru
  exact d_copyOf I (.inl ha) fun p s' hp I' => ⟨.ref p, _, I', rfl, q p hp⟩
end
section
variable {ix : Cap} {tt : TT} {te : TE} {g : TG} {σ : St} {H : Hp} {Q : VK}
/-- what a turn is to reach: an item more, none -/
def NxtG (Pv : Nat → List V → Hp → Prop) (n i : Nat) (ys : List V) : VK := fun y H2 => ∃ m', m' < n - i ∧ m' = n - (i + 1) ∧ i + 1 ≤ n ∧ (ys ++ [y]).length ≤ i + 1 ∧ Pv (i + 1) (ys ++ [y]) H2
def NxtN (Pv : Nat → List V → Hp → Prop) (n i : Nat) (ys : List V) : Hp → Prop := fun H2 => ∃ m', m' < n - i ∧ m' = n - (i + 1) ∧ i + 1 ≤ n ∧ ys.length ≤ i + 1 ∧ Pv (i + 1) ys H2
theorem nxtG {Pv : Nat → List V → Hp → Prop} {n i : Nat} {ys : List V} {y : V} {H2 : Hp} (hi : i < n) (hl : ys.length ≤ i) (h : Pv (i + 1) (ys ++ [y]) H2) : NxtG Pv n i ys y H2 :=
  ⟨n - (i + 1), by omega, rfl, hi, by rw [List.length_append, List.length_singleton]; omega, h⟩
theorem nxtN {Pv : Nat → List V → Hp → Prop} {n i : Nat} {ys : List V} {H2 : Hp} (hi : i < n) (hl : ys.length ≤ i) (h : Pv (i + 1) ys H2) : NxtN Pv n i ys H2 :=
  ⟨n - (i + 1), by omega, rfl, hi, by omega, h⟩
theorem comp_tupG {K : PySem.W.Frag} {a : Addr} {xs : List V} (Pv : Nat → List V → Hp → Prop) (h0 : Pv 0 [] H) (hn : xs.length < sizeLine) (hl' : ∀ i ys H, i ≤ xs.length → Pv i ys H → SqT K H a xs)
    (hs : ∀ i x ys H, xs[i]? = some x → i < xs.length → ys.length ≤ i → Pv i ys H → g x (capt ix σ) H fun σ2 H2 => Ext (capt ix σ) σ2 ∧ tt σ2 H2 fun b H3 => if b = true then te σ2 H3 (NxtG Pv xs.length i ys) else NxtN Pv xs.length i ys H3)
    (hd : ∀ ys H, ys.length ≤ xs.length → Pv xs.length ys H → ∀ D, H D = none → Q (.ref D) (upd H D (.lst ys))) : CompGo (Itt K a) ix g tt te σ H Q := by
  refine ⟨fun i m ys H => m = xs.length - i ∧ i ≤ xs.length ∧ ys.length ≤ i ∧ Pv i ys H, ⟨xs.length, by simp, Nat.zero_le _, Nat.le_refl _, h0⟩, ?_⟩
  rintro i m ys H ⟨rfl, hi, hl, p⟩
  have q := hl' i ys H hi p
  by_cases hlt : i < xs.length
  · refine .inr ⟨⟨xs, xs[i], q, by simp [hlt]⟩, by omega, fun v H' y => ?_⟩
    obtain ⟨e, y⟩ := y
    subst e
    exact hs i v ys _ (y xs q) hlt hl p
  · have e : i = xs.length := by omega
    subst e
    exact .inl ⟨⟨xs, q, Nat.le_refl _⟩, hd ys H hl p⟩
theorem comp_listG {K : PySem.W.Frag} {a : Addr} {xs : List V} (Pv : Nat → List V → Hp → Prop) (h0 : Pv 0 [] H) (hn : xs.length < sizeLine) (hl' : ∀ i ys H, i ≤ xs.length → Pv i ys H → SqL K H a xs)
    (hs : ∀ i x ys H, xs[i]? = some x → i < xs.length → ys.length ≤ i → Pv i ys H → g x (capt ix σ) H fun σ2 H2 => Ext (capt ix σ) σ2 ∧ tt σ2 H2 fun b H3 => if b = true then te σ2 H3 (NxtG Pv xs.length i ys) else NxtN Pv xs.length i ys H3)
    (hd : ∀ ys H, ys.length ≤ xs.length → Pv xs.length ys H → ∀ D, H D = none → Q (.ref D) (upd H D (.lst ys))) : CompGo (Itl K a) ix g tt te σ H Q := by
  refine ⟨fun i m ys H => m = xs.length - i ∧ i ≤ xs.length ∧ ys.length ≤ i ∧ Pv i ys H, ⟨xs.length, by simp, Nat.zero_le _, Nat.le_refl _, h0⟩, ?_⟩
  rintro i m ys H ⟨rfl, hi, hl, p⟩
  have q := hl' i ys H hi p
  by_cases hlt : i < xs.length
  · refine .inr ⟨⟨xs, xs[i], q, by simp [hlt]⟩, by omega, fun v H' y => ?_⟩
    obtain ⟨e, y⟩ := y
    subst e
    exact hs i v ys _ (y xs q) hlt hl p
  · have e : i = xs.length := by omega
    subst e
    exact .inl ⟨⟨xs, q, Nat.le_refl _⟩, hd ys H hl p⟩
theorem ext2 {σ : St} {i j : Nat} {v w : Option V} (h : σ[i]? = some none) (k : σ[j]? = some none) : Ext σ ((σ.set i v).set j w) := by
  refine ⟨by simp, fun n w' e => ?_⟩
  have h1 : i ≠ n := fun z => by subst z; rw [h] at e; cases e
  have h2 : j ≠ n := fun z => by subst z; rw [k] at e; cases e
  rw [List.getElem?_set_ne h2, List.getElem?_set_ne h1]
  exact e
end
section
variable {X : Cx}
def rIndex : V → List V → Hp → VK → Prop := fun x vs H Q => ∃ l, ∃ ys : List Str, ∃ z j, x = .ref l ∧ vs = [.str z] ∧ H l = some (.lst (ys.map V.str)) ∧ ys.findIdx? (fun y => decide (y = z)) = some j ∧ Q (.int (j : Nat)) H
theorem mt_index : MtM X "list.index" rIndex := by
  intro pins s σ H x vs v us Q I rx rv h
  obtain ⟨l, ys, z, j, rfl, rfl, hH, hj, q⟩ := h
  cases rx
  obtain ⟨u, rfl, ru⟩ := rv.one
  obtain ⟨z0, its, n, r, hl, e⟩ := I.lstM hH
  have fs : (ys.map V.str).all flatV = true := by
    rw [List.all_eq_true]
    intro y hy
    obtain ⟨y', _, rfl⟩ := List.mem_map.mp hy
    rfl
  obtain ⟨h1, h2, h3⟩ := List.findIdx?_eq_some_iff_getElem.mp hj
  rw [List.length_map] at hl z0
  have at' : ∀ i (hi : i < ys.length) (hi2 : i < its.toArray.size), eqU (.str z) its.toArray[i] = decide (ys[i] = z) := fun i hi hi2 => by
    obtain ⟨u', e', r'⟩ := r.get (i := i) (x := .str ys[i]) (by rw [List.getElem?_map, List.getElem?_eq_getElem hi]; rfl)
    have g : its.toArray[i] = u' := by
      have : its[i]? = some its[i] := List.getElem?_eq_getElem (by omega)
      rw [e'] at this
      simpa using (Option.some.inj this).symm
    rw [g, eqU_of r' rfl]
    show (ys[i] == z) = _
    rw [Bool.eq_iff_iff]
    simp
  refine call_meets F.slot_list_index ⟨_, e, rfl⟩ F.entry_list_index (F.args_list_index_2 _ _) (SeqAt.list_indexAt l its.toArray n none #[] u (eqU (.str z)) j (by simp; omega) ?_ ?_ ?_) ⟨e, fun y hy => mem_eqAt ru rfl r fs y (by simpa using hy), ⟨.int j, H, I.tok _, ⟨_, rfl⟩, q⟩⟩
  · rw [sizeLine_eq] at z0
    omega
  · rw [at' j h1 (by simp; omega)]
    exact h2
  · intro m hm hlt
    rw [at' m (by omega) hm]
    have := h3 m hlt
    simpa using this
end
end L2
namespace L2
open PySem PySem.Spec PyProof.Rows
theorem sum_bound : ∀ {ns : List Int}, (∀ n ∈ ns, 0 ≤ n ∧ n ≤ 1000000) → 0 ≤ ns.sum ∧ ns.sum ≤ 1000000 * (ns.length : Int)
  | [], _ => by simp
  | n :: ns, h => by
    have h1 := h n (by simp)
    have h2 := sum_bound (ns := ns) fun m hm => h m (List.mem_cons_of_mem _ hm)
    rw [List.sum_cons, List.length_cons]
    push_cast
    omega
section
variable {X : Cx}
theorem call_sumL (hc : X.calm = true) : CallR X (.builtin "sum") (fun xs H Q => ∃ p, ∃ ns : List Int, xs = [.ref p] ∧ SqL X.K H p (ns.map V.int) ∧ (∀ n ∈ ns, 0 ≤ n ∧ n ≤ 1000000) ∧ ns.length ≤ 1000 ∧ Q (.int ns.sum) H) := by
  intro pins s σ H xs us Q I r h
  obtain ⟨p, ns, rfl, hq, hb, hlen, q⟩ := h
  obtain ⟨u, rfl, ru⟩ := vals1 r
  cases ru
  obtain ⟨its, rv, pl, hz⟩ := I.list hq
  have hi := intsAre_of rv
  obtain ⟨xs, e⟩ := hi.allInts.items
  have hns : ns = xs.toList.map (·.1) := by rw [← hi.numsOf, ← nums_intItems, ← e]
  have hl := pl.isList
  rw [e] at hl
  have hsz : xs.size = ns.length := by rw [hns, List.length_map, Array.length_toList]
  refine sum_intList (I.ok.hd hc) hl (fun j hj => ?_) fun h' tk t' k => ⟨.int ns.sum, H, I.kept k, ?_, q⟩
  · have hm : numAt xs j ∈ ns := by
      rw [hns, numAt_eq]
      exact getD_mem (by rw [List.length_map, Array.length_toList]; exact hj)
    have h1 := hb _ hm
    have h2 := sum_bound (ns := ns.take (j + 1)) fun n hn => hb n (List.mem_of_mem_take hn)
    have h3 : (ns.take (j + 1)).length ≤ 1000 := Nat.le_trans (List.length_take_le _ _) (by omega)
    rw [preSum_eq, ← hns]
    unfold InLong
    omega
  · refine ⟨t', ?_⟩
    rw [preSum_eq, ← hns, List.take_of_length_le (by omega)]
theorem call_maxL (hc : X.calm = true) : CallR X (.builtin "max") (fun xs H Q => ∃ p, ∃ ns : List Int, xs = [.ref p] ∧ SqL X.K H p (ns.map V.int) ∧ ns ≠ [] ∧ ∀ m, m ∈ ns → (∀ n ∈ ns, n ≤ m) → Q (.int m) H) := by
  intro pins s σ H xs us Q I r h
  obtain ⟨p, ns, rfl, hq, hne, q⟩ := h
  obtain ⟨u, rfl, ru⟩ := vals1 r
  cases ru
  obtain ⟨its, rv, pl, hz⟩ := I.list hq
  have hi := intsAre_of rv
  obtain ⟨xs, e⟩ := hi.allInts.items
  have hns : ns = xs.toList.map (·.1) := by rw [← hi.numsOf, ← nums_intItems, ← e]
  have hl := pl.isList
  rw [e] at hl
  have hsz : xs.size = ns.length := by rw [hns, List.length_map, Array.length_toList]
  have hp : 0 < ns.length := List.length_pos_iff.mpr hne
  refine max_intList (I.ok.hd hc) hl (by omega) fun v h' tk hv k => ?_
  obtain ⟨t, rfl⟩ := intItems_at hv
  obtain ⟨h1, h2⟩ := argBest_gt (numAt xs) (xs.size - 1)
  refine ⟨.int _, H, I.kept k, ⟨t, rfl⟩, q _ ?_ fun a ha => ?_⟩
  · rw [hns, numAt_eq]
    exact getD_mem (by rw [List.length_map, Array.length_toList]; omega)
  · rw [hns] at ha
    obtain ⟨j, hj, rfl⟩ := mem_getD ha
    rw [List.length_map, Array.length_toList] at hj
    rw [← numAt_eq]
    exact h2 j (by omega)
end
end L2
namespace L2
open PySem PySem.Spec PyProof.Rows
section
variable {X : Cx} {K : PySem.W.Frag}
theorem ix_tupC (h : X.K = K) : IxR X (rIxT K) := by subst h; exact ix_tup
theorem ix_listC (h : X.K = K) : IxR X (rIxL K) := by subst h; exact ix_list
theorem pg_tupC {es : List Expr} {k : Nat} {t : TGs} {n : Nat} {pos : Pos} (hK : X.K = K) (hc : X.calm = true) (h : PGs X es t)
    (hn : (assignEach es X.env).length = n := by rfl) (hst : (assignEach es X.env).findIdx? (·.1) = none := by rfl) : PG X (.Tuple es k pos) (gTup K n t) := by subst hK; exact pg_tup hc h hn hst
end
end L2

end

section
set_option Elab.async false
set_option linter.all false
set_option maxRecDepth 100000
set_option maxHeartbeats 4000000
namespace Zt
open PySem PySem.Spec PyProof.Rows
section
variable {prog : Program} {w : World} {A : Around} {E : Value → Shared → Prop} {s : Shared}
/-- zip(t, u), what stands then -/
theorem call_zipN {l1 l2 : Addr} {xs ys : Array Value} {Q : Value → Shared → Prop} (hl1 : s.heap.IsTuple l1 xs) (hl2 : s.heap.IsTuple l2 ys)
    (h : ∀ h', IsZip h' (s.heap.objs.size + 4) (s.heap.objs.size + 2) (s.heap.objs.size + 3) .none → IsPair h' (s.heap.objs.size + 2) (.ref s.heap.objs.size) (.ref (s.heap.objs.size + 1)) → (∃ a b, IsPair h' (s.heap.objs.size + 3) a b) →
      h'.IsTupleIter s.heap.objs.size l1 0 → h'.IsTupleIter (s.heap.objs.size + 1) l2 0 → (∀ c o, s.heap.get? c = some o → h'.get? c = some o) → Q (.ref (s.heap.objs.size + 4)) { s with heap := h' }) :
    wpAny (model prog w) A (call (.type "zip") [.ref l1, .ref l2]) Q E s := by
  refine callType_new F.called_zip (by decide) (F.typeCall_zip_2 _ _) (F.newCall_zip_2 _ _) (fun obj => F.args_object_init_3 obj _ _) F.entry_zip_new
    (meets_new l1 l2 xs ys) ⟨hl1, hl2, ?_⟩
  have z1 : (zH1 s.heap l1).objs.size = s.heap.objs.size + 1 := Heap.size_push ..
  have z2 : (zH2 s.heap l1 l2).objs.size = s.heap.objs.size + 2 := by rw [Heap.size_push, z1]
  have z3 : (zH3 s.heap l1 l2).objs.size = s.heap.objs.size + 3 := by rw [Heap.size_push, z2]
  have z4 : (zH4 s.heap l1 l2).objs.size = s.heap.objs.size + 4 := by rw [Heap.size_push, z3]
  have g5 : (zH5 s.heap l1 l2).get? (zH4 s.heap l1 l2).objs.size = some _ := Heap.get?_push_size _ rfl
  have g4 : (zH5 s.heap l1 l2).get? (zH3 s.heap l1 l2).objs.size = some _ := Heap.get?_push_of_some _ (Heap.get?_push_size _ rfl)
  have g3 : (zH5 s.heap l1 l2).get? (zH2 s.heap l1 l2).objs.size = some _ := Heap.get?_push_of_some _ (Heap.get?_push_of_some _ (Heap.get?_push_size _ rfl))
  have g2 : (zH5 s.heap l1 l2).get? (zH1 s.heap l1).objs.size = some _ := Heap.get?_push_of_some _ (Heap.get?_push_of_some _ (Heap.get?_push_of_some _ (Heap.get?_push_size _ rfl)))
  have g1 : (zH5 s.heap l1 l2).get? s.heap.objs.size = some _ := Heap.get?_push_of_some _ (Heap.get?_push_of_some _ (Heap.get?_push_of_some _ (Heap.get?_push_of_some _ (Heap.get?_push_size _ rfl))))
  have kp : ∀ c o, s.heap.get? c = some o → (zH5 s.heap l1 l2).get? c = some o := fun c o e => Heap.get?_push_of_some _ (Heap.get?_push_of_some _ (Heap.get?_push_of_some _ (Heap.get?_push_of_some _ (Heap.get?_push_of_some _ e))))
  show _ ∧ _
  rw [z2, z3, z4] at g5
  rw [z1, z2] at g3
  rw [z3] at g4
  rw [z1] at g2
  rw [z4]
  exact ⟨⟨_, g5, rfl⟩, h _ g5 g3 ⟨_, _, g4⟩ ⟨_, g1, rfl, rfl⟩ ⟨_, g2, rfl, rfl⟩ kp⟩
end
end Zt
namespace L2
open PySem PySem.Spec PyProof.Rows
section
variable {X : Cx} {pins : List (Addr × Obj)} {σ : St} {H : Hp} {s : Shared} {h' : Heap}
/-- several untracked records of ours have turned -/
theorem Inv.turnedM {t' : Nat} {fp : List Addr} (I : Inv X pins σ H s) (k : ∀ b o, b ∉ fp → s.heap.get? b = some o → h'.get? b = some o) (hf : ∀ b ∈ fp, FpOk X pins H b) : Inv X pins σ H { s with heap := h', toks := t' } := by
  have nit : ∀ b u, H b = some u → b ∉ fp := fun b u e z => by rw [(hf b z).1] at e; cases e
  refine I.step (g' := s.gens) (d' := s.drawn) (ch := fp) (fun b hb => ?_) (fun b o _ _ hc e _ => k b o hc e) (fun b o _ _ hc e _ => ⟨o.slots, k b o hc e⟩) (fun _ _ _ _ n => n)
    (fun b o hc e => ⟨o, k b o hc e⟩) (fun _ _ e => e) (fun _ _ _ e => e) (fun b ps e => ⟨#[], by rw [e]; simp⟩) (fun m hm => ?_) (fun b u e => ?_) I.bare
  · obtain ⟨f0, f1, f2, f3, f4, f5⟩ := hf b hb
    exact ⟨f3, f1, f4, f5⟩
  · obtain ⟨o, es, ep, ho, r⟩ := hm
    exact ⟨o, es, ep, k _ o (fun z => (hf _ z).2.1 rfl) ho, r⟩
  · refine (I.hok b u e).stay (fun c v hc q => k c v ?_ q) (fun _ q => q) fun _ _ q => q
    rcases hc with z | z
    · rw [z]; exact nit b u e
    · exact nit c _ z

end
theorem get_push_no {h : Heap} {o u : Obj} {b : Addr} (e : (h.push o).get? b = some u) (q : b ≠ h.objs.size) : h.get? b = some u := by
  rwa [Heap.get?_push_ne h b o q] at e
section
variable {X : Cx}
/-- zip of the tuples at a and b, unpacked as it goes -/
def Itz (K : PySem.W.Frag) (a b : Addr) : It :=
  ⟨fun i H => ∃ xs ys x y, SqT K H a xs ∧ SqT K H b ys ∧ xs[i]? = some x ∧ ys[i]? = some y, fun i H x H' => ∃ p u v, x = .ref p ∧ H p = none ∧ H' = upd H p (.tup [u, v]) ∧ (∀ xs, SqT K H a xs → xs[i]? = some u) ∧ ∀ ys, SqT K H b ys → ys[i]? = some v,
   fun i H => ∃ xs ys, SqT K H a xs ∧ SqT K H b ys ∧ xs.length ≤ i⟩
theorem turn_zip {P : Program} {w : World} {K : PySem.W.Frag} {elts : List Expr} {x1} {pos : Pos} {a b z TI TO i1 i2 : Addr} (D : ZipApart z TI TO i1 i2 a b) :
    Turn P w K (.Tuple elts x1 pos) (Itz K a b) [z, TI, TO, i1, i2] z (fun i h => IsZip h z TI TO .none ∧ IsPair h TI (.ref i1) (.ref i2) ∧ (∃ u v, IsPair h TO u v) ∧ h.IsTupleIter i1 a i ∧ h.IsTupleIter i2 b i) where
  mem := by simp
  obj := fun i h st c hc => by
    obtain ⟨s1, s2, ⟨u, v, s3⟩, s4, s5⟩ := st
    simp only [List.mem_cons, List.not_mem_nil, or_false] at hc
    rcases hc with rfl | rfl | rfl | rfl | rfl
    · exact ⟨_, s1, fun v z => by cases z⟩
    · exact ⟨_, s2, fun v z => by cases z⟩
    · exact ⟨_, s3, fun v z => by cases z⟩
    · obtain ⟨o, e, c, d⟩ := s4
      exact ⟨o, e, fun v z => by rw [d] at z; cases z⟩
    · obtain ⟨o, e, c, d⟩ := s5
      exact ⟨o, e, fun v z => by rw [d] at z; cases z⟩
  keep := fun i h h' st k => by
    obtain ⟨s1, s2, ⟨u, v, s3⟩, s4, s5⟩ := st
    exact ⟨k z (by simp) _ s1, k TI (by simp) _ s2, ⟨u, v, k TO (by simp) _ s3⟩, s4.at fun o q => k i1 (by simp) o q, s5.at fun o q => k i2 (by simp) o q⟩
  item := by
    intro X hP hw hK hc i pins s σ H E I hf st hg
    subst hP hw hK
    obtain ⟨xs, ys, x, y, hq, hq', hx, hy⟩ := hg
    obtain ⟨its, rv, p, hz⟩ := I.tuple hq
    obtain ⟨its', rv', p', hz'⟩ := I.tuple hq'
    obtain ⟨u, hu, ru⟩ := rv.get hx
    obtain ⟨u', hu', ru'⟩ := rv'.get hy
    obtain ⟨s1, s2, ⟨_, _, s3⟩, s4, s5⟩ := st
    have hT : s.TypeIs (.ref z) "zip" := ⟨_, s1, rfl⟩
    unfold pyNext
    refine wpAny_bind (wpAny_attempt (wpAny_callSpecial?_slot (name := Str.ofString "__next__") hT F.slot_zip_next
      (wpAny_call_entry F.slot_zip_next hT F.entry_zip_next
        (Zt.item_first D s1 s2 s3 s4 s5 p p' (x := u) (y := u') (by simpa using hu) (by simpa using hu') fun h1 a1 a2 a3 a4 a5 a6 a7 => wpAny_pure ⟨_, rfl, wpAny_letOwnedTupleGo_zip a1 fun h2 b1 b2 => ?_⟩) (F.args_zip_next_1 _))))
    have hp0 : H s.heap.objs.size = none := I.hok.fresh (Nat.le_refl _)
    have g1 : (s.heap.push { cls := .type "tuple", data := .seq #[u, u'] }).get? s.heap.objs.size = some { cls := .type "tuple", data := .seq #[u, u'] } := Heap.get?_push_size _ rfl
    have I1 : Inv X pins σ (upd H s.heap.objs.size (.tup [x, y])) { s with heap := s.heap.push { cls := .type "tuple", data := .seq #[u, u'] }, toks := s.toks } :=
      I.laid (fun b o q => Heap.get?_push_of_some _ q) (Nat.le_refl _) ⟨by show 2 ≤ sizeLine; decide, [u, u'], .cons ru (.cons ru' .nil), ⟨_, g1, rfl, _, rfl, rfl⟩⟩
    have lt : ∀ c ∈ [z, TI, TO, i1, i2], c ≠ s.heap.objs.size := fun c hc => by
      simp only [List.mem_cons, List.not_mem_nil, or_false] at hc
      rcases hc with rfl | rfl | rfl | rfl | rfl
      · exact Nat.ne_of_lt (Heap.lt_size s1)
      · exact Nat.ne_of_lt (Heap.lt_size s2)
      · exact Nat.ne_of_lt (Heap.lt_size s3)
      · obtain ⟨o, q, _⟩ := s4
        exact Nat.ne_of_lt (Heap.lt_size q)
      · obtain ⟨o, q, _⟩ := s5
        exact Nat.ne_of_lt (Heap.lt_size q)
    have hf1 : ∀ c ∈ [z, TI, TO, i1, i2], FpOk X pins (upd H s.heap.objs.size (.tup [x, y])) c := fun c hc => by
      refine ⟨?_, (hf c hc).2⟩
      rw [upd_ne (lt c hc)]
      exact (hf c hc).1
    have I2 : Inv X pins σ (upd H s.heap.objs.size (.tup [x, y])) { s with heap := h2, toks := s.toks } :=
      I1.turnedM (t' := s.toks) (fun c o hb q => by
        have nb : c ≠ z ∧ c ≠ TI ∧ c ≠ TO ∧ c ≠ i1 ∧ c ≠ i2 := by simpa using hb
        have q1 : h1.get? c = some o := by
          by_cases e : c = s.heap.objs.size
          · subst e
            have q' : (s.heap.push { cls := .type "tuple", data := .seq #[u, u'] }).get? s.heap.objs.size = some o := q
            rw [g1] at q'
            cases q'
            exact a5
          · exact a7 c o nb.1 nb.2.2.1 nb.2.2.2.1 nb.2.2.2.2 (get_push_no q e)
        exact (b2.2 c nb.1).trans q1) hf1
    refine ⟨.ref s.heap.objs.size, _, I2, rfl, ⟨_, x, y, rfl, hp0, rfl, fun zs hy' => by rw [I.tuple_inj hy' hq]; exact hx, fun zs hy' => by rw [I.tuple_inj hy' hq']; exact hy⟩, ⟨b1, ?_, ⟨_, _, (b2.2 _ D.TOz).trans a2⟩, a3.at fun o q => (b2.2 _ D.i1z).trans q, a4.at fun o q => (b2.2 _ D.i2z).trans q⟩, fun c hc => (hf1 c hc).1⟩
    exact (b2.2 _ D.TIz).trans (a7 _ _ D.TIz D.TITO D.TIi1 D.TIi2 s2)
  done := by
    intro X hP hw hK hc i pins s σ H E I hf st hg
    subst hP hw hK
    obtain ⟨xs, ys, hq, hq', hx⟩ := hg
    obtain ⟨its, rv, p, hz⟩ := I.tuple hq
    obtain ⟨its', rv', p', hz'⟩ := I.tuple hq'
    obtain ⟨s1, s2, s3, s4, s5⟩ := st
    have hl := rv.length
    exact Zt.pyNext_end (I.ok.hd hc) D ⟨.inl s1, s2, s3, s4, s5, p, p'⟩ (by simp; omega) fun h' kk => ⟨rfl, I.turnedM (t' := s.toks) (fun c o hb q => by
      have nb : c ≠ z ∧ c ≠ TI ∧ c ≠ TO ∧ c ≠ i1 ∧ c ≠ i2 := by simpa using hb
      exact kk c o nb.1 nb.2.2.2.1 q) hf⟩
  self := fun _ _ _ _ _ st h => wpAny_pyIter_zip st.1 h
def iZip (K : PySem.W.Frag) (ta : TA) : TI := fun σ H R => ta σ H fun vs H1 => ∃ a b, vs = [.ref a, .ref b] ∧ (∃ xs, SqT K H1 a xs) ∧ (∃ ys, SqT K H1 b ys) ∧ R (Itz K a b) H1
theorem pi_zip {a b : Expr} {ta : TA} {p pos : Pos} {elts : List Expr} {x1} {tp : Pos} (hg : Gl X "zip") (hm : X.mg "zip" = none) (ha : PA X [a, b] ta) (hs : starEach [a, b] X.env = [(false, eval a X.env), (false, eval b X.env)] := by rfl) (hs2 : starEach [b] X.env = [(false, eval b X.env)] := by rfl) :
    PI X (.Tuple elts x1 tp) (.Call (.Name "zip" p) [a, b] [] pos) (iZip X.K ta) := by
  intro pins s σ H R I h
  refine Call_ (ld_blt I hg hm PyProof.Rows.boot_zip (PyProof.Rows.callWith_type1 (thn (ha pos pins s σ H _ I h) fun us s1 ⟨vs, H1, I1, r1, q1⟩ => ?_) (by rw [hs, hs2]) (by rw [hs2]; rfl)))
  obtain ⟨l1, l2, e, ⟨xs, hx⟩, ⟨ys, hy⟩, q⟩ := q1
  subst e
  obtain ⟨u1, u2, rfl, e1, e2⟩ := r1.two
  cases e1
  cases e2
  obtain ⟨its, rx, tx, hzx⟩ := I1.tuple hx
  obtain ⟨jts, ry, ty, hzy⟩ := I1.tuple hy
  have a1 : l1 < s1.heap.objs.size := by obtain ⟨_, e, _⟩ := tx; exact Heap.lt_size e
  have a2 : l2 < s1.heap.objs.size := by obtain ⟨_, e, _⟩ := ty; exact Heap.lt_size e
  have D := PyProof.Rows.zipApart_new a1 a2
  refine Zt.call_zipN tx ty fun h1 z1 z2 z3 z4 z5 kp => wpAny_pyIter_zip z1 ?_
  refine ⟨s1.heap.objs.size + 4, [s1.heap.objs.size + 4, s1.heap.objs.size + 2, s1.heap.objs.size + 3, s1.heap.objs.size, s1.heap.objs.size + 1], _, _, H1, rfl, I1.kept (t' := s1.toks) kp, turn_zip D, ⟨z1, z2, z3, z4, z5⟩, fun c hc => ?_, q⟩
  have hc' : s1.heap.objs.size ≤ c := by
    simp only [List.mem_cons, List.not_mem_nil, or_false] at hc
    rcases hc with z | z | z | z | z <;> subst z <;> first | exact Nat.le_add_right _ _ | exact Nat.le_refl _
  exact I1.fpOk hc' (I1.hok.fresh hc')
/-- for (x, y) in zip(t, u), tuples of one length -/
theorem for_zip {K : PySem.W.Frag} {a b : Addr} {xs ys : List V} {g : TG} {tb : TS} {D : Ends} {σ : St} {H : Hp} (hxy : xs.length = ys.length) (Pv : Nat → St → Hp → Prop) (h0 : Pv 0 σ H) (hl : ∀ i σ H, i ≤ xs.length → Pv i σ H → SqT K H a xs ∧ SqT K H b ys)
    (hs : ∀ i x y σ H p, xs[i]? = some x → ys[i]? = some y → Pv i σ H → H p = none → g (.ref p) σ (upd H p (.tup [x, y])) fun σ2 H2 => tb { D with nx := Pv (i + 1), ct := Pv (i + 1), bk := D.nx } σ2 H2) (hd : ∀ σ H, Pv xs.length σ H → D.nx σ H) :
    ∃ W : Nat → Nat → St → Hp → Prop, (∃ m, W 0 m σ H) ∧ ∀ i m σ H, W i m σ H →
      ((Itz K a b).stop i H ∧ D.nx σ H) ∨ ((Itz K a b).go i H ∧ ∃ N : St → Hp → Prop, (∀ σ' H', N σ' H' → ∃ m', m' < m ∧ W (i + 1) m' σ' H') ∧ ∀ x H', (Itz K a b).yld i H x H' → g x σ H' fun σ2 H2 => tb { D with nx := N, ct := N, bk := D.nx } σ2 H2) := by
  refine ⟨fun i m σ H => m = xs.length - i ∧ i ≤ xs.length ∧ Pv i σ H, ⟨xs.length, by simp, Nat.zero_le _, h0⟩, ?_⟩
  rintro i m σ H ⟨rfl, hi, p⟩
  have q := hl i σ H hi p
  by_cases hlt : i < xs.length
  · refine .inr ⟨⟨xs, ys, xs[i], ys[i]'(by omega), q.1, q.2, by simp [hlt], by simp [← hxy, hlt]⟩, Pv (i + 1), fun σ' H' p' => ⟨xs.length - (i + 1), by omega, rfl, hlt, p'⟩, fun x H' y => ?_⟩
    obtain ⟨pp, u, v, rfl, hp, rfl, hu, hv⟩ := y
    exact hs i u v σ H pp (hu xs q.1) (hv ys q.2) p hp
  · have e : i = xs.length := by omega
    subst e
    exact .inl ⟨⟨xs, ys, q.1, q.2, Nat.le_refl _⟩, hd σ H p⟩
end
section
variable {ix : Cap} {tt : TT} {te : TE} {g : TG} {σ : St} {H : Hp} {Q : VK}
theorem comp_zip {K : PySem.W.Frag} {a b : Addr} {xs zs : List V} (hxz : xs.length = zs.length) (Pv : Nat → List V → Hp → Prop) (h0 : Pv 0 [] H) (hn : xs.length < sizeLine) (hl' : ∀ i ys H, i ≤ xs.length → Pv i ys H → SqT K H a xs ∧ SqT K H b zs)
    (hs : ∀ i x z ys H p, xs[i]? = some x → zs[i]? = some z → i < xs.length → ys.length ≤ i → Pv i ys H → H p = none → g (.ref p) (capt ix σ) (upd H p (.tup [x, z])) fun σ2 H2 => Ext (capt ix σ) σ2 ∧ tt σ2 H2 fun b H3 => if b = true then te σ2 H3 (NxtG Pv xs.length i ys) else NxtN Pv xs.length i ys H3)
    (hd : ∀ ys H, ys.length ≤ xs.length → Pv xs.length ys H → ∀ D, H D = none → Q (.ref D) (upd H D (.lst ys))) : CompGo (Itz K a b) ix g tt te σ H Q := by
  refine ⟨fun i m ys H => m = xs.length - i ∧ i ≤ xs.length ∧ ys.length ≤ i ∧ Pv i ys H, ⟨xs.length, by simp, Nat.zero_le _, Nat.le_refl _, h0⟩, ?_⟩
  rintro i m ys H ⟨rfl, hi, hl, p⟩
  have q := hl' i ys H hi p
  by_cases hlt : i < xs.length
  · refine .inr ⟨⟨xs, zs, xs[i], zs[i]'(by omega), q.1, q.2, by simp [hlt], by simp [← hxz, hlt]⟩, by omega, fun v H' y => ?_⟩
    obtain ⟨pp, u, v, rfl, hp, rfl, hu, hv⟩ := y
    exact hs i u v ys _ pp (hu xs q.1) (hv zs q.2) hlt hl p hp
  · have e : i = xs.length := by omega
    subst e
    exact .inl ⟨⟨xs, zs, q.1, q.2, Nat.le_refl _⟩, hd ys H hl p⟩
end
end L2

end

section
set_option Elab.async false
set_option linter.all false
set_option maxRecDepth 100000
set_option maxHeartbeats 4000000
namespace M
open PySem L2
structure Kn where
  name : Str
  rc : Bool
  parts : List (Str × Str)
def Kn.sort (k : Kn) : Str := if k.rc = true then S "rec" else S "alt"
def dPart (p : Str × Str) : D := .tup [.str p.1, .str p.2]
def dParts (ps : List (Str × Str)) : D := .tup (ps.map dPart)
def Kn.d (k : Kn) : D := .tup [.str k.name, .str k.sort, dParts k.parts]
def dKinds (ks : List Kn) : D := .tup (ks.map Kn.d)
def kAt (ks : List Kn) (x : Str) : Option Kn := ks.find? fun k => decide (k.name = x)
def sortV : Option Kn → V
  | some k => .str k.sort
  | none => .non
def partsD : Option Kn → D
  | some k => dParts k.parts
  | none => .tup []
/-- kinds in a tuple at v -/
def KsAt (H : Hp) (v : V) (ks : List Kn) : Prop := RelD H v (dKinds ks) ∧ ks.length ≤ 100 ∧ ∀ k ∈ ks, k.parts.length ≤ 100
theorem KsAt.same {H H' : Hp} {v : V} {ks : List Kn} (h : KsAt H v ks) (s : Same H H') : KsAt H' v ks := ⟨h.1.same s _, h.2⟩
abbrev En := Str → Option D
def En.put (e : En) (x : Str) (d : D) : En := fun y => if y = x then some d else e y
def EnAt (H : Hp) (p : Addr) (m : Nat) (e : En) : Prop :=
  ∃ kvs, H p = some (.dK kvs) ∧ kvs.length ≤ m ∧ ∀ x, (e x = none → valV kvs (Sum.inr x) = none) ∧ ∀ d, e x = some d → ∃ v, valV kvs (Sum.inr x) = some v ∧ RelD H v d
theorem EnAt.same {H H' : Hp} {p : Addr} {m : Nat} {e : En} (h : EnAt H p m e) (s : Same H H') : EnAt H' p m e := by
  obtain ⟨kvs, h1, h2, h3⟩ := h
  refine ⟨kvs, s _ _ h1, h2, fun x => ⟨(h3 x).1, fun d hd => ?_⟩⟩
  obtain ⟨v, hv, r⟩ := (h3 x).2 d hd
  exact ⟨v, hv, r.same s _⟩
theorem EnAt.mono {H : Hp} {p : Addr} {m m' : Nat} {e : En} (h : EnAt H p m e) (l : m ≤ m') : EnAt H p m' e := by
  obtain ⟨kvs, h1, h2, h3⟩ := h
  exact ⟨kvs, h1, by omega, h3⟩
theorem EnAt.put {H H' : Hp} {p q : Addr} {m : Nat} {e : En} {kvs : List (Key × V)} (hp : H p = some (.dK kvs)) (hl : kvs.length ≤ m) (h : ∀ x, (e x = none → valV kvs (Sum.inr x) = none) ∧ ∀ d, e x = some d → ∃ v, valV kvs (Sum.inr x) = some v ∧ RelD H v d)
    (s : Same H H') {x : Str} {v : V} {d : D} (hv : RelD H' v d) (hq : H' q = some (.dK (putK kvs (Sum.inr x) v))) : EnAt H' q (m + 1) (e.put x d) := by
  refine ⟨_, hq, by have := length_putK kvs (Sum.inr x) v; omega, fun y => ?_⟩
  rw [valV_put]
  unfold En.put
  by_cases hy : y = x
  · subst hy
    rw [if_pos rfl, if_pos rfl]
    refine ⟨fun z => (by cases z), fun d' e' => ?_⟩
    cases e'
    exact ⟨v, rfl, hv⟩
  · have hy' : ¬ (Sum.inr y : Key) = Sum.inr x := fun z => hy (Sum.inr.inj z)
    rw [if_neg hy, if_neg hy']
    refine ⟨(h y).1, fun d' e' => ?_⟩
    obtain ⟨u, hu, r⟩ := (h y).2 d' e'
    exact ⟨u, hu, r.same s _⟩
def opV (s : Str) (x y : Int) : Int :=
  if s = S "+" then (x + y) % 4294967296 else if s = S "-" then (x - y) % 4294967296 else if s = S "*" then x * y % 4294967296 else if s = S "<" then (if x < y then 1 else 0) else (if x = y then 1 else 0)
def Nm (x : Int) : Prop := 0 ≤ x ∧ x < 4294967296
abbrev tNum (n : Int) : D := .tup [.str (S "num"), .int n]
abbrev tBox (x : Str) : D := .tup [.str (S "box"), .str x]
abbrev tOpD (s : Str) (a b : D) : D := .tup [.str (S "op"), .str s, a, b]
abbrev tRec (k : Str) (es : List D) : D := .tup [.str (S "rec"), .str k, .tup es]
abbrev tGet (a : D) (f : Str) : D := .tup [.str (S "get"), a, .str f]
abbrev tTag (k t : Str) (a : D) : D := .tup [.str (S "tag"), .str k, .str t, a]
abbrev dArm (r : Str × Str × D) : D := .tup [.str r.1, .str r.2.1, r.2.2]
abbrev tCase (a : D) (rs : List (Str × Str × D)) : D := .tup [.str (S "case"), a, .tup (rs.map dArm)]
abbrev tIfD (a b c : D) : D := .tup [.str (S "if"), a, b, c]
def LeafEv (env : En) (d v : D) : Prop := (∃ n, d = tNum n ∧ v = .int n) ∨ ∃ x, env x = some v ∧ d = tBox x
def NodeEv (ks : List Kn) (R : En → D → D → Prop) (env : En) (d v : D) : Prop :=
  (∃ s a b x y, R env a (.int x) ∧ R env b (.int y) ∧ Nm x ∧ Nm y ∧ d = tOpD s a b ∧ v = .int (opV s x y)) ∨
  (∃ k es vs, es.length ≤ 1000 ∧ All2 (R env) es vs ∧ d = tRec k es ∧ v = .tup [.str k, .tup vs]) ∨
  (∃ a k vs f kn i, R env a (.tup [.str k, .tup vs]) ∧ kAt ks k = some kn ∧ (kn.parts.map (·.1)).findIdx? (fun z => decide (z = f)) = some i ∧ vs[i]? = some v ∧ d = tGet a f) ∨
  (∃ k t a x, R env a x ∧ d = tTag k t a ∧ v = .tup [.str k, .str t, x]) ∨
  (∃ a rs k t x y e, rs.length ≤ 1000 ∧ R env a (.tup [.str k, .str t, x]) ∧ rs.find? (fun r => decide (r.1 = t)) = some (t, y, e) ∧ R (env.put y x) e v ∧ d = tCase a rs) ∨
  (∃ a b c x, R env a (.int x) ∧ R env (if x = 0 then c else b) v ∧ d = tIfD a b c)
/-- the value of a term, gone down at most so deep -/
def Ev (ks : List Kn) : Nat → En → D → D → Prop
  | 0 => LeafEv
  | n + 1 => fun env d v => LeafEv env d v ∨ NodeEv ks (Ev ks n) env d v
def LeafKd (env : En) (d : D) (k : Str) : Prop := (∃ n, Nm n ∧ d = tNum n ∧ k = S "num") ∨ ∃ x, env x = some (.str k) ∧ d = tBox x
def partOf (kn : Kn) (f : Str) : Option Str := (kn.parts.find? fun p => decide (p.1 = f)).map (·.2)
abbrev RKn := En → D → Str → Prop
def OpKd (R : RKn) : RKn := fun env d k => ∃ s a b, R env a (S "num") ∧ R env b (S "num") ∧ d = tOpD s a b ∧ k = S "num"
def RecKd (ks : List Kn) (R : RKn) : RKn := fun env d k => ∃ es kn, kAt ks k = some kn ∧ kn.rc = true ∧ All2 (fun e (p : Str × Str) => R env e p.2) es kn.parts ∧ d = tRec k es
def GetKd (ks : List Kn) (R : RKn) : RKn := fun env d k => ∃ a k1 f kn, R env a k1 ∧ kAt ks k1 = some kn ∧ kn.rc = true ∧ partOf kn f = some k ∧ d = tGet a f
def TagKd (ks : List Kn) (R : RKn) : RKn := fun env d k => ∃ t a kn k1, kAt ks k = some kn ∧ kn.rc = false ∧ partOf kn t = some k1 ∧ R env a k1 ∧ d = tTag k t a
def CaseKd (cs : Prop) (ks : List Kn) (R : RKn) : RKn := fun env d k => cs ∧ ∃ a, ∃ rs : List (Str × Str × D), ∃ k1 kn, R env a k1 ∧ kAt ks k1 = some kn ∧ kn.rc = false ∧ rs ≠ [] ∧ rs.length = kn.parts.length ∧ (rs.map (·.1)).Nodup ∧
    (∀ r ∈ rs, env r.2.1 = none ∧ ∃ k2, partOf kn r.1 = some k2 ∧ R (env.put r.2.1 (.str k2)) r.2.2 k) ∧ d = tCase a rs
def IfKd (R : RKn) : RKn := fun env d k => ∃ a b c, R env a (S "num") ∧ R env b k ∧ R env c k ∧ d = tIfD a b c
def NodeKd (cs : Prop) (ks : List Kn) (R : RKn) : RKn := fun env d k => OpKd R env d k ∨ RecKd ks R env d k ∨ GetKd ks R env d k ∨ TagKd ks R env d k ∨ CaseKd cs ks R env d k ∨ IfKd R env d k
def Kd (cs : Prop) (ks : List Kn) : Nat → En → D → Str → Prop
  | 0 => LeafKd
  | n + 1 => fun env d k => LeafKd env d k ∨ NodeKd cs ks (Kd cs ks n) env d k
theorem find_step {α : Type} {p : α → Bool} {xs : List α} {i : Nat} {a : α} (h : (xs.take i).find? p = none) (ha : xs[i]? = some a) : (p a = true → xs.find? p = some a) ∧ (p a = false → (xs.take (i + 1)).find? p = none) := by
  have hi : i < xs.length := (List.getElem?_eq_some_iff.mp ha).1
  have e : xs[i] = a := (List.getElem?_eq_some_iff.mp ha).2
  refine ⟨fun hp => ?_, fun hp => ?_⟩
  · have e2 : xs = xs.take i ++ a :: xs.drop (i + 1) := by
      rw [← e, ← List.drop_eq_getElem_cons hi, List.take_append_drop]
    rw [e2, List.find?_append, h]
    simp [hp]
  · rw [List.take_add_one, ha, List.find?_append, h]
    simp [hp]
theorem Same.new2 {H : Hp} {p : Addr} (h : H p = none) (o o' : HO) : Same H (upd (upd H p o) p o') := fun b u q => by
  have hb := ne_of_none q h
  rw [upd_ne hb, upd_ne hb]
  exact q
end M

end

section
set_option Elab.async false
set_option linter.all false
set_option maxRecDepth 100000
set_option maxHeartbeats 4000000
namespace K45
open PySem L2 M
seal L2.PE L2.PA L2.PS L2.PSs L2.PT L2.PW L2.PI L2.PG L2.PJ L2.PTs
def top (i : Nat) : Stmt := PySem.Challenge.pw_swapstride_k45_same_make_stays.main.body.getD i (.Pass ⟨0, 0, 0, 0⟩)
abbrev s_need_once : Stmt := top 8
theorem sc_need_once : FnScope ["names", "things"] ["names", "things"] (defScope s_need_once) := ⟨rfl, rfl, rfl, by decide +kernel, rfl, by decide +kernel, by decide +kernel⟩
abbrev s_sort_of : Stmt := top 9
theorem sc_sort_of : FnScope ["kinds", "K", "name", "sort", "parts"] ["kinds", "K"] (defScope s_sort_of) := ⟨rfl, rfl, rfl, by decide +kernel, rfl, by decide +kernel, by decide +kernel⟩
abbrev s_parts_of : Stmt := top 10
theorem sc_parts_of : FnScope ["kinds", "K", "name", "sort", "parts"] ["kinds", "K"] (defScope s_parts_of) := ⟨rfl, rfl, rfl, by decide +kernel, rfl, by decide +kernel, by decide +kernel⟩
abbrev s_need_there : Stmt := top 11
theorem sc_need_there : FnScope ["kinds", "kind"] ["kinds", "kind"] (defScope s_need_there) := ⟨rfl, rfl, rfl, by decide +kernel, rfl, by decide +kernel, by decide +kernel⟩
abbrev s_kind_of : Stmt := top 14
theorem sc_kind_of : FnScope ["kinds", "term", "boxes", "head"] ["kinds", "term", "boxes"] (defScope s_kind_of) := ⟨rfl, rfl, rfl, by decide +kernel, rfl, by decide +kernel, by decide +kernel⟩
abbrev s_num_kind : Stmt := top 15
theorem sc_num_kind : FnScope ["n"] ["n"] (defScope s_num_kind) := ⟨rfl, rfl, rfl, by decide +kernel, rfl, by decide +kernel, by decide +kernel⟩
abbrev s_box_kind : Stmt := top 16
theorem sc_box_kind : FnScope ["x", "boxes"] ["x", "boxes"] (defScope s_box_kind) := ⟨rfl, rfl, rfl, by decide +kernel, rfl, by decide +kernel, by decide +kernel⟩
abbrev s_op_kind : Stmt := top 17
theorem sc_op_kind : FnScope ["kinds", "term", "boxes"] ["kinds", "term", "boxes"] (defScope s_op_kind) := ⟨rfl, rfl, rfl, by decide +kernel, rfl, by decide +kernel, by decide +kernel⟩
abbrev s_rec_kind : Stmt := top 18
theorem sc_rec_kind : FnScope ["kinds", "term", "boxes", "name", "parts", "part", "inner"] ["kinds", "term", "boxes"] (defScope s_rec_kind) := ⟨rfl, rfl, rfl, by decide +kernel, rfl, by decide +kernel, by decide +kernel⟩
abbrev s_get_kind : Stmt := top 19
theorem sc_get_kind : FnScope ["kinds", "term", "boxes", "kind"] ["kinds", "term", "boxes"] (defScope s_get_kind) := ⟨rfl, rfl, rfl, by decide +kernel, rfl, by decide +kernel, by decide +kernel⟩
abbrev s_tag_kind : Stmt := top 20
theorem sc_tag_kind : FnScope ["kinds", "term", "boxes", "name"] ["kinds", "term", "boxes"] (defScope s_tag_kind) := ⟨rfl, rfl, rfl, by decide +kernel, rfl, by decide +kernel, by decide +kernel⟩
abbrev s_case_kind : Stmt := top 21
theorem sc_case_kind : FnScope ["kinds", "term", "boxes", "kind", "arms", "inner", "arm"] ["kinds", "term", "boxes"] (defScope s_case_kind) := ⟨rfl, rfl, rfl, by decide +kernel, rfl, by decide +kernel, by decide +kernel⟩
abbrev s_arm_kind : Stmt := top 22
theorem sc_arm_kind : FnScope ["kinds", "kind", "arm", "boxes", "x"] ["kinds", "kind", "arm", "boxes"] (defScope s_arm_kind) := ⟨rfl, rfl, rfl, by decide +kernel, rfl, by decide +kernel, by decide +kernel⟩
abbrev s_if_kind : Stmt := top 23
theorem sc_if_kind : FnScope ["kinds", "term", "boxes", "kind"] ["kinds", "term", "boxes"] (defScope s_if_kind) := ⟨rfl, rfl, rfl, by decide +kernel, rfl, by decide +kernel, by decide +kernel⟩
abbrev s_need_kind : Stmt := top 24
theorem sc_need_kind : FnScope ["kinds", "term", "boxes", "kind"] ["kinds", "term", "boxes", "kind"] (defScope s_need_kind) := ⟨rfl, rfl, rfl, by decide +kernel, rfl, by decide +kernel, by decide +kernel⟩
abbrev s_need_same : Stmt := top 25
theorem sc_need_same : FnScope ["found", "kind"] ["found", "kind"] (defScope s_need_same) := ⟨rfl, rfl, rfl, by decide +kernel, rfl, by decide +kernel, by decide +kernel⟩
abbrev s_need_sort : Stmt := top 26
theorem sc_need_sort : FnScope ["kinds", "name", "sort", "found"] ["kinds", "name", "sort"] (defScope s_need_sort) := ⟨rfl, rfl, rfl, by decide +kernel, rfl, by decide +kernel, by decide +kernel⟩
abbrev s_kind_of_sort : Stmt := top 27
theorem sc_kind_of_sort : FnScope ["kinds", "term", "boxes", "sort", "kind"] ["kinds", "term", "boxes", "sort"] (defScope s_kind_of_sort) := ⟨rfl, rfl, rfl, by decide +kernel, rfl, by decide +kernel, by decide +kernel⟩
abbrev s_part_kind : Stmt := top 28
theorem sc_part_kind : FnScope ["kinds", "kind", "name", "part"] ["kinds", "kind", "name"] (defScope s_part_kind) := ⟨rfl, rfl, rfl, by decide +kernel, rfl, by decide +kernel, by decide +kernel⟩
abbrev s_need_tags : Stmt := top 29
theorem sc_need_tags : FnScope ["kinds", "kind", "arms", "own", "tags", "tag"] ["kinds", "kind", "arms"] (defScope s_need_tags) := ⟨rfl, rfl, rfl, by decide +kernel, rfl, by decide +kernel, by decide +kernel⟩
abbrev s_with_box : Stmt := top 30
theorem sc_with_box : FnScope ["boxes", "x", "thing", "more"] ["boxes", "x", "thing"] (defScope s_with_box) := ⟨rfl, rfl, rfl, by decide +kernel, rfl, by decide +kernel, by decide +kernel⟩
abbrev s_nought_term : Stmt := top 31
abbrev s_goes_to : Stmt := top 33
theorem sc_goes_to : FnScope ["ways", "kind"] ["ways", "kind"] (defScope s_goes_to) := ⟨rfl, rfl, rfl, by decide +kernel, rfl, by decide +kernel, by decide +kernel⟩
abbrev s_boxes_over : Stmt := top 34
theorem sc_boxes_over : FnScope ["ways", "parts"] ["ways", "parts"] (defScope s_boxes_over) := ⟨rfl, rfl, rfl, by decide +kernel, rfl, by decide +kernel, by decide +kernel⟩
abbrev s_look_ways : Stmt := top 35
theorem sc_look_ways : FnScope ["first", "second", "ways", "K"] ["first", "second", "ways"] (defScope s_look_ways) := ⟨rfl, rfl, rfl, by decide +kernel, rfl, by decide +kernel, by decide +kernel⟩
abbrev s_look_ends : Stmt := top 36
theorem sc_look_ends : FnScope ["first", "second", "K", "K2"] ["first", "second", "K", "K2"] (defScope s_look_ends) := ⟨rfl, rfl, rfl, by decide +kernel, rfl, by decide +kernel, by decide +kernel⟩
abbrev s_look_form : Stmt := top 37
theorem sc_look_form : FnScope ["first", "K", "how", "right"] ["first", "K", "how"] (defScope s_look_form) := ⟨rfl, rfl, rfl, by decide +kernel, rfl, by decide +kernel, by decide +kernel⟩
abbrev s_is_term : Stmt := top 38
theorem sc_is_term : FnScope ["how"] ["how"] (defScope s_is_term) := ⟨rfl, rfl, rfl, by decide +kernel, rfl, by decide +kernel, by decide +kernel⟩
abbrev s_look_terms : Stmt := top 39
theorem sc_look_terms : FnScope ["first", "second", "ways", "K", "K2", "how", "parts", "part", "tagged"] ["first", "second", "ways", "K"] (defScope s_look_terms) := ⟨rfl, rfl, rfl, by decide +kernel, rfl, by decide +kernel, by decide +kernel⟩
abbrev s_made_ways : Stmt := top 40
theorem sc_made_ways : FnScope ["first", "second", "told", "ways", "lacking", "kind", "K", "how"] ["first", "second", "told"] (defScope s_made_ways) := ⟨rfl, rfl, rfl, by decide +kernel, rfl, by decide +kernel, by decide +kernel⟩
abbrev s_how_by_rules : Stmt := top 41
theorem sc_how_by_rules : FnScope ["kinds", "ways", "kind", "K", "terms"] ["kinds", "ways", "kind"] (defScope s_how_by_rules) := ⟨rfl, rfl, rfl, by decide +kernel, rfl, by decide +kernel, by decide +kernel⟩
abbrev s_terms_by_rules : Stmt := top 42
theorem sc_terms_by_rules : FnScope ["kinds", "ways", "olds", "news", "own", "terms", "x", "kind"] ["kinds", "ways", "olds", "news"] (defScope s_terms_by_rules) := ⟨rfl, rfl, rfl, by decide +kernel, rfl, by decide +kernel, by decide +kernel⟩
abbrev s_tags_by_rules : Stmt := top 43
theorem sc_tags_by_rules : FnScope ["kinds", "ways", "kind", "K", "theirs", "tag", "inner"] ["kinds", "ways", "kind"] (defScope s_tags_by_rules) := ⟨rfl, rfl, rfl, by decide +kernel, rfl, by decide +kernel, by decide +kernel⟩
abbrev s_field : Stmt := top 45
theorem sc_field : FnScope ["kinds", "value", "f", "names"] ["kinds", "value", "f"] (defScope s_field) := ⟨rfl, rfl, rfl, by decide +kernel, rfl, by decide +kernel, by decide +kernel⟩
abbrev s_worth : Stmt := top 47
theorem sc_worth : FnScope ["kinds", "term", "boxes", "head", "taken"] ["kinds", "term", "boxes"] (defScope s_worth) := ⟨rfl, rfl, rfl, by decide +kernel, rfl, by decide +kernel, by decide +kernel⟩
abbrev s_op_worth : Stmt := top 48
theorem sc_op_worth : FnScope ["sign", "a", "b"] ["sign", "a", "b"] (defScope s_op_worth) := ⟨rfl, rfl, rfl, by decide +kernel, rfl, by decide +kernel, by decide +kernel⟩
abbrev s_case_worth : Stmt := top 49
theorem sc_case_worth : FnScope ["kinds", "term", "boxes", "value", "arm"] ["kinds", "term", "boxes"] (defScope s_case_worth) := ⟨rfl, rfl, rfl, by decide +kernel, rfl, by decide +kernel, by decide +kernel⟩
abbrev s_turned : Stmt := top 51
theorem sc_turned : FnScope ["first", "second", "ways", "kind", "value", "how", "parts", "values", "tag", "it"] ["first", "second", "ways", "kind", "value"] (defScope s_turned) := ⟨rfl, rfl, rfl, by decide +kernel, rfl, by decide +kernel, by decide +kernel⟩
abbrev s_turned_boxes : Stmt := top 52
theorem sc_turned_boxes : FnScope ["first", "second", "ways", "parts", "values", "over"] ["first", "second", "ways", "parts", "values"] (defScope s_turned_boxes) := ⟨rfl, rfl, rfl, by decide +kernel, rfl, by decide +kernel, by decide +kernel⟩
abbrev s__law_feed : Stmt := top 54
theorem sc__law_feed : FnScope ["_law_script", "_law_k", "_law_cell"] ["_law_script", "_law_k"] (defScope s__law_feed) := ⟨rfl, rfl, rfl, by decide +kernel, rfl, by decide +kernel, by decide +kernel⟩
abbrev s__law_number : Stmt := top 55
theorem sc__law_number : FnScope ["_law_feed_here", "_law_form"] ["_law_feed_here"] (defScope s__law_number) := ⟨rfl, rfl, rfl, by decide +kernel, rfl, by decide +kernel, by decide +kernel⟩
abbrev s__law_take : Stmt := top 56
theorem sc__law_take : FnScope ["_law_feed_here", "_law_many", "_law_digit", "_law_one"] ["_law_feed_here", "_law_many"] (defScope s__law_take) := ⟨rfl, rfl, rfl, by decide +kernel, rfl, by decide +kernel, by decide +kernel⟩
abbrev s__law_names : Stmt := top 57
theorem sc__law_names : FnScope ["_law_cell", "_law_many", "_law_letters", "_law_size_here", "_law_at", "_law_common", "_law_found"] ["_law_cell", "_law_many"] (defScope s__law_names) := ⟨rfl, rfl, rfl, by decide +kernel, rfl, by decide +kernel, by decide +kernel⟩
abbrev s__law_sort_of : Stmt := top 58
theorem sc__law_sort_of : FnScope ["_law_kinds_here", "_law_kind", "_law_name", "_law_sort", "_law_parts_here"] ["_law_kinds_here", "_law_kind"] (defScope s__law_sort_of) := ⟨rfl, rfl, rfl, by decide +kernel, rfl, by decide +kernel, by decide +kernel⟩
abbrev s__law_size : Stmt := top 59
theorem sc__law_size : FnScope ["_law_kinds_here", "_law_kind", "_law_sort", "_law_parts_here", "_law_sizes"] ["_law_kinds_here", "_law_kind"] (defScope s__law_size) := ⟨rfl, rfl, rfl, by decide +kernel, rfl, by decide +kernel, by decide +kernel⟩
abbrev s__law_parts : Stmt := top 60
theorem sc__law_parts : FnScope ["_law_feed_here", "_law_kinds_here", "_law_sort", "_law_names_here", "_law_parts_here", "_law_left", "_law_j", "_law_kind"] ["_law_feed_here", "_law_kinds_here", "_law_sort", "_law_names_here"] (defScope s__law_parts) := ⟨rfl, rfl, rfl, by decide +kernel, rfl, by decide +kernel, by decide +kernel⟩
abbrev s__law_kinds : Stmt := top 61
theorem sc__law_kinds : FnScope ["_law_feed_here", "_law_names_here", "_law_kinds_here", "_law_k", "_law_sort"] ["_law_feed_here", "_law_names_here"] (defScope s__law_kinds) := ⟨rfl, rfl, rfl, by decide +kernel, rfl, by decide +kernel, by decide +kernel⟩
abbrev s__law_value : Stmt := top 62
theorem sc__law_value : FnScope ["_law_feed_here", "_law_kinds_here", "_law_kind", "_law_sort", "_law_parts_here", "_law_t", "_law_part"] ["_law_feed_here", "_law_kinds_here", "_law_kind"] (defScope s__law_value) := ⟨rfl, rfl, rfl, by decide +kernel, rfl, by decide +kernel, by decide +kernel⟩
abbrev s__law_hangs : Stmt := top 63
theorem sc__law_hangs : FnScope ["_law_kinds_here", "_law_name", "_law_found", "_law_row"] ["_law_kinds_here", "_law_name"] (defScope s__law_hangs) := ⟨rfl, rfl, rfl, by decide +kernel, rfl, by decide +kernel, by decide +kernel⟩
abbrev s_law : Stmt := top 64
theorem sc_law : FnScope ["_law_script", "_law_names_here", "_law_kinds_here", "_law_first", "_law_feed_here", "_law_more", "_law_second", "_law_ways", "_law_lacking", "_law_goes", "_law_k", "_law_kind", "_law_value_here", "_law_row", "_law_less"] ["_law_script"] (defScope s_law) := ⟨rfl, rfl, rfl, by decide +kernel, rfl, by decide +kernel, by decide +kernel⟩
structure Tx (K : PySem.W.Frag) (mg : Str → Option Value) : Prop where
  d_need_once : DefTx K mg "need_once" s_need_once ["names", "things"]
  d_sort_of : DefTx K mg "sort_of" s_sort_of ["kinds", "K"]
  d_parts_of : DefTx K mg "parts_of" s_parts_of ["kinds", "K"]
  d_need_there : DefTx K mg "need_there" s_need_there ["kinds", "kind"]
  d_kind_of : DefTx K mg "kind_of" s_kind_of ["kinds", "term", "boxes"]
  d_num_kind : DefTx K mg "num_kind" s_num_kind ["n"]
  d_box_kind : DefTx K mg "box_kind" s_box_kind ["x", "boxes"]
  d_op_kind : DefTx K mg "op_kind" s_op_kind ["kinds", "term", "boxes"]
  d_rec_kind : DefTx K mg "rec_kind" s_rec_kind ["kinds", "term", "boxes"]
  d_get_kind : DefTx K mg "get_kind" s_get_kind ["kinds", "term", "boxes"]
  d_tag_kind : DefTx K mg "tag_kind" s_tag_kind ["kinds", "term", "boxes"]
  d_case_kind : DefTx K mg "case_kind" s_case_kind ["kinds", "term", "boxes"]
  d_arm_kind : DefTx K mg "arm_kind" s_arm_kind ["kinds", "kind", "arm", "boxes"]
  d_if_kind : DefTx K mg "if_kind" s_if_kind ["kinds", "term", "boxes"]
  d_need_kind : DefTx K mg "need_kind" s_need_kind ["kinds", "term", "boxes", "kind"]
  d_need_same : DefTx K mg "need_same" s_need_same ["found", "kind"]
  d_need_sort : DefTx K mg "need_sort" s_need_sort ["kinds", "name", "sort"]
  d_kind_of_sort : DefTx K mg "kind_of_sort" s_kind_of_sort ["kinds", "term", "boxes", "sort"]
  d_part_kind : DefTx K mg "part_kind" s_part_kind ["kinds", "kind", "name"]
  d_need_tags : DefTx K mg "need_tags" s_need_tags ["kinds", "kind", "arms"]
  d_with_box : DefTx K mg "with_box" s_with_box ["boxes", "x", "thing"]
  d_nought_term : DefTx K mg "nought_term" s_nought_term ["kinds", "kind"]
  d_goes_to : DefTx K mg "goes_to" s_goes_to ["ways", "kind"]
  d_boxes_over : DefTx K mg "boxes_over" s_boxes_over ["ways", "parts"]
  d_look_ways : DefTx K mg "look_ways" s_look_ways ["first", "second", "ways"]
  d_look_ends : DefTx K mg "look_ends" s_look_ends ["first", "second", "K", "K2"]
  d_look_form : DefTx K mg "look_form" s_look_form ["first", "K", "how"]
  d_is_term : DefTx K mg "is_term" s_is_term ["how"]
  d_look_terms : DefTx K mg "look_terms" s_look_terms ["first", "second", "ways", "K"]
  d_made_ways : DefTx K mg "made_ways" s_made_ways ["first", "second", "told"]
  d_how_by_rules : DefTx K mg "how_by_rules" s_how_by_rules ["kinds", "ways", "kind"]
  d_terms_by_rules : DefTx K mg "terms_by_rules" s_terms_by_rules ["kinds", "ways", "olds", "news"]
  d_tags_by_rules : DefTx K mg "tags_by_rules" s_tags_by_rules ["kinds", "ways", "kind"]
  d_field : DefTx K mg "field" s_field ["kinds", "value", "f"]
  d_worth : DefTx K mg "worth" s_worth ["kinds", "term", "boxes"]
  d_op_worth : DefTx K mg "op_worth" s_op_worth ["sign", "a", "b"]
  d_case_worth : DefTx K mg "case_worth" s_case_worth ["kinds", "term", "boxes"]
  d_turned : DefTx K mg "turned" s_turned ["first", "second", "ways", "kind", "value"]
  d_turned_boxes : DefTx K mg "turned_boxes" s_turned_boxes ["first", "second", "ways", "parts", "values"]
  d__law_feed : DefTx K mg "_law_feed" s__law_feed ["_law_script", "_law_k"]
  d__law_number : DefTx K mg "_law_number" s__law_number ["_law_feed_here"]
  d__law_take : DefTx K mg "_law_take" s__law_take ["_law_feed_here", "_law_many"]
  d__law_names : DefTx K mg "_law_names" s__law_names ["_law_cell", "_law_many"]
  d__law_sort_of : DefTx K mg "_law_sort_of" s__law_sort_of ["_law_kinds_here", "_law_kind"]
  d__law_size : DefTx K mg "_law_size" s__law_size ["_law_kinds_here", "_law_kind"]
  d__law_parts : DefTx K mg "_law_parts" s__law_parts ["_law_feed_here", "_law_kinds_here", "_law_sort", "_law_names_here"]
  d__law_kinds : DefTx K mg "_law_kinds" s__law_kinds ["_law_feed_here", "_law_names_here"]
  d__law_value : DefTx K mg "_law_value" s__law_value ["_law_feed_here", "_law_kinds_here", "_law_kind"]
  d__law_hangs : DefTx K mg "_law_hangs" s__law_hangs ["_law_kinds_here", "_law_name"]
  d_law : DefTx K mg "law" s_law ["_law_script"]
  g_WIDE : ∃ t, mg "WIDE" = some (.int 4294967296 t)
  z_dict : mg "dict" = none
  z_int : mg "int" = none
  z_isinstance : mg "isinstance" = none
  z_len : mg "len" = none
  z_list : mg "list" = none
  z_max : mg "max" = none
  z_min : mg "min" = none
  z_range : mg "range" = none
  z_set : mg "set" = none
  z_str : mg "str" = none
  z_sum : mg "sum" = none
  z_tuple : mg "tuple" = none
  z_zip : mg "zip" = none
theorem fits {n : Nat} (h : n ≤ 4000000) : n ≤ sizeLine := Nat.le_trans h (by decide)
theorem fitsLt {n : Nat} (h : n ≤ 4000000) : n < sizeLine := Nat.lt_of_le_of_lt h (by decide)
end K45

end

section
set_option Elab.async false
set_option linter.all false
set_option maxRecDepth 100000
set_option maxHeartbeats 4000000
local macro_rules | `(tactic| walk_at "rd1") => `(tactic| first
  | refine ⟨_, rfl, ?_⟩
  | refine ⟨_, _, rfl, rfl, ?_⟩
  | refine ⟨_, _, _, _, rfl, rfl, (by assumption), (by first | rfl | assumption), ?_⟩
  | refine ⟨_, _, rfl, .inl (by assumption), ?_⟩
  | refine ⟨(by first | exact .inr ⟨by decide, by decide⟩ | exact .inl ⟨by decide, by decide⟩ | exact ⟨by decide, by decide, by decide⟩ | exact ⟨by decide, by decide⟩ | exact ⟨by assumption, by assumption⟩ | (show (0 : Int) < _; first | decide | assumption)), ?_⟩
  | refine ⟨rfl, ?_⟩)
local macro_rules | `(tactic| walk_at "rd") => `(tactic| repeat walk_at "rd1")
namespace K45
open PySem L2 M
seal L2.PE L2.PA L2.PS L2.PSs L2.PT L2.PW L2.PI L2.PG L2.PJ L2.PTs
def spFeed (K : PySem.W.Frag) : Sp := fun vs H Q _ => ∃ (a : Addr) (ns : List Int) (k : Int), vs = [.ref a, .int k] ∧ SqL K H a (ns.map V.int) ∧ ns.length ≤ 63 ∧ 0 ≤ k ∧ ∀ (r : Addr) (p q : Int), H r = none → Q (.ref r) (upd H r (.lst [.int p, .int q]))
def spTake : Sp := fun vs H Q _ => ∃ (a : Addr) (p q m : Int), vs = [.ref a, .int m] ∧ H a = some (.lst [.int p, .int q]) ∧ 0 < m ∧ m < 2 ^ 64 ∧ ∀ (r : Int) (H' : Hp), 0 ≤ r → r < m → Fed a H H' → Q (.int r) H'
section
variable {P : Program} {w : World} {K : PySem.W.Frag} {mg : Str → Option Value} {base : Heap} {n : Nat}
theorem at_ints {ns : List Int} {k : Int} (h0 : 0 ≤ k) (h : k < (ns.length : Int)) : ∃ v : Int, atI (ns.map V.int) k = some (.int v) := by
  have hk : k.toNat < ns.length := by omega
  have ek : k = ((k.toNat : Nat) : Int) := by omega
  refine ⟨ns[k.toNat], ?_⟩
  have q : atI (ns.map V.int) ((k.toNat : Nat) : Int) = some (.int ns[k.toNat]) := atI_nat (by rw [List.getElem?_map, List.getElem?_eq_getElem hk] <;> rfl)
  rw [← ek] at q
  exact q
theorem two_fits : 2 ≤ sizeLine := by decide
theorem ok__law_feed (T : Tx K mg) : DefIs P w K mg base (n + 1) "_law_feed" ["_law_script", "_law_k"] (spFeed K) := by
  refine DefIs.of T.d__law_feed sc__law_feed (fun vs H Q E h => ?_) (fun f cdv A outer s H vs Q E hr h => ?_)
  · obtain ⟨a, ns, k, rfl, _⟩ := h
    rfl
  obtain ⟨a, ns, k, rfl, hS, h63, hk, q⟩ := h
  have nd := sc__law_feed.nd
  have hl : (ns.map V.int).length = ns.length := List.length_map _
  refine ⟨_, (pss_cons (ps_set (i := 2) nd rfl (by first | exact Or.inl rfl | exact Or.inr rfl) pe_int)
      (pss_cons (ps_if (pt_cmpR op_lt (pv 1) (pe_callB call_len_seq rfl T.z_len PySem.boot_len (pa_cons (pv 0) pa_nil star_name)) (nomark _)) (pss_one (ps_set (i := 2) nd rfl (by first | exact Or.inl rfl | exact Or.inr rfl) (pe_ix ix_list (pv 0) (pv 1) (fun _ _ => rfl)))) pss_nil)
      (pss_cons (ps_if (PW.pt (pw_and (pt_cmpR op_gt (pe_callB call_len_seq rfl T.z_len PySem.boot_len (pa_cons (pv 0) pa_nil star_name)) pe_int (nomark _)) (pw_and1 (pt_cmpR op_eq (pe_op op_mod (pe_ix ix_list (pv 0) pe_int (fun _ _ => rfl)) pe_int) pe_int (nomark _))))) (pss_one (ps_ret (pe_lst (pa_cons (pv 2) (pa_cons (pe_op op_add (pe_op op_mod (pe_op op_add (pe_op op_mul (pe_op op_mod (pv 2) pe_int) pe_int) (pe_op op_mul pe_int (pv 1))) pe_int) pe_int) pa_nil star_bin) star_name)))) pss_nil)
      (pss_cons (ps_if (PW.pt (pw_and (pt_cmpR op_ge (pv 1) (pe_callB call_len_seq rfl T.z_len PySem.boot_len (pa_cons (pv 0) pa_nil star_name)) (nomark _)) (pw_and1 (pt_cmpR op_gt (pe_callB call_len_seq rfl T.z_len PySem.boot_len (pa_cons (pv 0) pa_nil star_name)) pe_int (nomark _))))) (pss_one (ps_set (i := 2) nd rfl (by first | exact Or.inl rfl | exact Or.inr rfl) (pe_op op_add (pe_ix ix_list (pv 0) (pe_op op_mod (pv 1) (pe_callB call_len_seq rfl T.z_len PySem.boot_len (pa_cons (pv 0) pa_nil star_name))) (fun _ _ => rfl)) (pe_op op_mul pe_int (pv 1))))) pss_nil)
      (pss_one (ps_ret (pe_lst (pa_cons pe_int (pa_cons (pe_op op_add (pe_op op_mod (pe_op op_add (pe_op op_mul (pe_op op_mod (pv 2) pe_int) pe_int) (pe_op op_mul pe_int (pv 1))) pe_int) pe_int) pa_nil star_bin) star_const)))))))), ?_⟩
  -- the first item, where there is one
  have h0 : 0 < ns.length → ∃ v : Int, atI (ns.map V.int) 0 = some (.int v) := fun h => at_ints (Int.le_refl 0) (by omega)
  walk_at "rd"
  refine ite2 (fun c => ?_) (fun c => ?_)
  · have c' := of_decide_eq_true c
    rw [hl] at c'
    obtain ⟨v, hv⟩ := at_ints (ns := ns) hk c'
    obtain ⟨v0, hv0⟩ := h0 (by omega)
    walk_at "rd"
    refine ite2 (fun c2 => ?_) (fun c2 => ?_)
    · walk_at "rd"
      refine ite2 (fun c3 => ?_) (fun c3 => ?_)
      · walk_at "rd"
        exact ⟨two_fits, fun l hl' => q l _ _ hl'⟩
      · walk_at "rd"
        refine ite2 (fun c4 => ?_) (fun c4 => ?_)
        · have c4' := of_decide_eq_true c4
          rw [hl] at c4'
          omega
        · refine iteF ?_
          walk_at "rd"
          exact ⟨two_fits, fun l hl' => q l _ _ hl'⟩
    · have c2' := of_decide_eq_false (Bool.eq_false_iff.mpr c2)
      rw [hl] at c2'
      omega
  · have c' := of_decide_eq_false (Bool.eq_false_iff.mpr c)
    rw [hl] at c'
    walk_at "rd"
    refine ite2 (fun c2 => ?_) (fun c2 => ?_)
    · have c2' := of_decide_eq_true c2
      rw [hl] at c2'
      obtain ⟨v0, hv0⟩ := h0 (by omega)
      walk_at "rd"
      refine ite2 (fun c3 => ?_) (fun c3 => ?_)
      · walk_at "rd"
        exact ⟨two_fits, fun l hl' => q l _ _ hl'⟩
      · walk_at "rd"
        refine ite2 (fun c4 => ?_) (fun c4 => ?_)
        · walk_at "rd"
          refine ite2 (fun c5 => ?_) (fun c5 => ?_)
          · obtain ⟨v, hv⟩ := at_ints (ns := ns) (k := k % (ns.length : Int)) (Int.emod_nonneg _ (by omega)) (Int.emod_lt_of_pos _ (by omega))
            rw [← hl] at hv
            have hp : (0 : Int) < ((ns.map V.int).length : Nat) := by rw [hl]; omega
            walk_at "rd"
            exact ⟨two_fits, fun l hl' => q l _ _ hl'⟩
          · walk_at "rd"
            exact ⟨two_fits, fun l hl' => q l _ _ hl'⟩
        · refine iteF ?_
          walk_at "rd"
          exact ⟨two_fits, fun l hl' => q l _ _ hl'⟩
    · refine iteF ?_
      walk_at "rd"
      refine ite2 (fun c4 => ?_) (fun c4 => ?_)
      · walk_at "rd"
        refine ite2 (fun c5 => ?_) (fun c5 => ?_)
        · have c2' := of_decide_eq_false (Bool.eq_false_iff.mpr c2)
          exact absurd (of_decide_eq_true c5) c2'
        · walk_at "rd"
          exact ⟨two_fits, fun l hl' => q l _ _ hl'⟩
      · refine iteF ?_
        walk_at "rd"
        exact ⟨two_fits, fun l hl' => q l _ _ hl'⟩
theorem ok__law_take (T : Tx K mg) : DefIs P w K mg base (n + 1) "_law_take" ["_law_feed_here", "_law_many"] spTake := by
  refine DefIs.of T.d__law_take sc__law_take (fun vs H Q E h => ?_) (fun f cdv A outer s H vs Q E hr h => ?_)
  · obtain ⟨a, p, q, m, rfl, _⟩ := h
    rfl
  obtain ⟨a, p, q, m, rfl, ha, m0, m1, k⟩ := h
  have nd := sc__law_take.nd
  have hS : SqL K H a [.int p, .int q] := SqL.of ha
  refine ⟨_, (pss_cons (ps_if (pt_cmpR op_gt (pe_ix ix_list (pv 0) pe_int (fun _ _ => rfl)) pe_int (nomark _)) (pss_cons (ps_set (i := 2) nd rfl (by first | exact Or.inl rfl | exact Or.inr rfl) (pe_op op_mod (pe_ix ix_list (pv 0) pe_int (fun _ _ => rfl)) (pv 1)))
      (pss_cons (ps_asg (pe_op op_fdivB (pe_ix ix_list (pv 0) pe_int (fun _ _ => rfl)) (pv 1)) (pg_sub (pv 0) pe_int set_list))
      (pss_one (ps_ret (pv 2))))) pss_nil)
      (pss_cons (ps_set (i := 3) nd rfl (by first | exact Or.inl rfl | exact Or.inr rfl) (pe_op op_mod (pe_op op_mul (pe_ix ix_list (pv 0) pe_int (fun _ _ => rfl)) pe_int) pe_int))
      (pss_cons (ps_asg (pe_op op_add (pe_op op_mod (pe_op op_add (pe_op op_mul (pv 3) pe_int) pe_int) pe_int) pe_int) (pg_sub (pv 0) pe_int set_list))
      (pss_one (ps_ret (pe_op op_mod (pe_op op_fdivB (pe_op op_add (pe_op op_mul (pv 3) pe_int) (pe_ix ix_list (pv 0) pe_int (fun _ _ => rfl))) pe_int) (pv 1))))))), ?_⟩
  walk_at "rd"
  refine ite2 (fun c => ?_) (fun c => ?_)
  · walk_at "rd"
    refine k _ _ (Int.emod_nonneg _ (by omega)) (Int.emod_lt_of_pos _ m0) Fed.of
  · walk_at "rd"
    refine ⟨_, _, _, _, rfl, rfl, SqL.of upd_same, rfl, ?_⟩
    walk_at "rd"
    refine k _ _ (Int.emod_nonneg _ (by omega)) (Int.emod_lt_of_pos _ m0) Fed.of
end
end K45

end

section
set_option Elab.async false
set_option linter.all false
set_option maxRecDepth 100000
set_option maxHeartbeats 4000000
namespace M
open PySem L2
mutual
def D.deep : D → Nat
  | .int _ => 0
  | .str _ => 0
  | .tup ds => deeps ds + 1
def deeps : List D → Nat
  | [] => 0
  | d :: ds => max d.deep (deeps ds)
end
theorem deeps_mem : ∀ {ds : List D} {d : D}, d ∈ ds → d.deep ≤ deeps ds
  | e :: ds, d, h => by
    show d.deep ≤ max e.deep (deeps ds)
    rcases List.mem_cons.mp h with rfl | h
    · omega
    · have := deeps_mem h
      omega
theorem deeps_le {n : Nat} : ∀ {ds : List D}, (∀ d ∈ ds, d.deep ≤ n) → deeps ds ≤ n
  | [], _ => Nat.zero_le _
  | e :: ds, h => by
    show max e.deep (deeps ds) ≤ n
    have h1 := h e (by simp)
    have h2 := deeps_le (ds := ds) fun d hd => h d (List.mem_cons_of_mem _ hd)
    omega
section
variable {X : Cx} {pins : List (Addr × Obj)} {σ : St} {H : Hp} {s : Shared}
theorem its_at {vs : List V} {its : List Value} (r : Vals vs its) {j : Nat} (h1 : j < its.toArray.size) : ∃ x, vs[j]? = some x ∧ RelV x its.toArray[j] := by
  have hl := r.length
  have h : j < its.length := by simpa using h1
  obtain ⟨u, e, q⟩ := r.get (i := j) (x := vs[j]'(by omega)) (List.getElem?_eq_getElem _)
  have g : its.toArray[j] = u := by
    have : its[j]? = some its[j] := List.getElem?_eq_getElem h
    rw [e] at this
    simpa using (Option.some.inj this).symm
  exact ⟨vs[j]'(by omega), List.getElem?_eq_getElem _, by rw [g]; exact q⟩
/-- the same data twice: they are equal -/
theorem eq_at (I : Inv X pins σ H s) : ∀ (n : Nat) (d : D) {x y : V} {u v : Value} {A : Around}, d.deep ≤ n → RelD H x d → RelD H y d → RelV x u → RelV y v → A.units + n < cLine → SeqAt.EqAt A s u v true
  | n, .int i, x, y, u, v, A, _, hx, hy, ru, rv, _ => by
    cases hx
    cases hy
    obtain ⟨t, rfl⟩ := ru
    obtain ⟨t', rfl⟩ := rv
    have := SeqAt.EqAt.int_int (A := A) (s := s) i t i t'
    rw [beq_self_eq_true] at this
    exact this
  | n, .str z, x, y, u, v, A, _, hx, hy, ru, rv, _ => by
    cases hx
    cases hy
    obtain ⟨t, rfl⟩ := ru
    obtain ⟨t', rfl⟩ := rv
    have := SeqAt.EqAt.str_str (A := A) (s := s) z t z t'
    rw [beq_self_eq_true] at this
    exact this
  | 0, .tup ds, x, y, u, v, A, h, _, _, _, _, _ => absurd h (Nat.not_succ_le_zero _)
  | n + 1, .tup ds, x, y, u, v, A, h, hx, hy, ru, rv, hA => by
    obtain ⟨a, vs, rfl, ha, rvs⟩ := hx
    obtain ⟨b, ws, rfl, hb, rws⟩ := hy
    obtain rfl : u = .ref a := ru
    obtain rfl : v = .ref b := rv
    by_cases hab : a = b
    · subst hab
      exact SeqAt.EqAt.same _
    · obtain ⟨its, r1, p1, _⟩ := I.tuple (SqT.of (K := X.K) ha)
      obtain ⟨its2, r2, p2, _⟩ := I.tuple (SqT.of (K := X.K) hb)
      have l1 := r1.length
      have l2 := r2.length
      have l3 := rvs.length
      have l4 := rws.length
      have := SeqAt.EqAt.of_refs hab (SeqAt.RcAt.tuples (A := A) (e := fun _ => true) p1 p2 (by omega) fun j h1 h2 => ?_)
      · have e : ((List.range (min its.toArray.size its2.toArray.size)).all (fun _ => true) && its.toArray.size == its2.toArray.size) = true := by
          rw [show its.toArray.size = its2.toArray.size by simp only [List.size_toArray]; omega]
          simp
        rw [e] at this
        exact this
      · obtain ⟨x1, e1, q1⟩ := its_at r1 h1
        obtain ⟨x2, e2, q2⟩ := its_at r2 h2
        obtain ⟨d1, f1, g1⟩ := rvs.get e1
        obtain ⟨d2, f2, g2⟩ := rws.get e2
        rw [f1] at f2
        cases f2
        refine eq_at I n d1 ?_ g1 g2 q1 q2 (by show A.units + 1 + n < cLine; omega)
        have := deeps_mem (List.mem_of_getElem? f1)
        have h' : deeps ds + 1 ≤ n + 1 := h
        omega
def rNeD : R2 := fun x y H Q => ∃ d : D, RelD H x d ∧ RelD H y d ∧ d.deep ≤ 190 ∧ Q (.bl false) H
theorem op_neD (hu : X.A.units + 200 < cLine) : OpR X (compareOp .NotEq) rNeD := by
  intro pins s σ H x y v u Q I rx ry h
  obtain ⟨d, hx, hy, hd, q⟩ := h
  cases d with
  | int i =>
    cases hx
    cases hy
    exact op_ne pins s σ H _ _ _ _ Q I rx ry ⟨rfl, by rw [decide_eq_true rfl]; exact q⟩
  | str z =>
    cases hx
    cases hy
    exact op_ne pins s σ H _ _ _ _ Q I rx ry ⟨rfl, by rw [decide_eq_true rfl]; exact q⟩
  | tup ds =>
    obtain ⟨a, vs, rfl, ha, rvs⟩ := hx
    obtain ⟨b, ws, rfl, hb, rws⟩ := hy
    obtain rfl : v = .ref a := rx
    obtain rfl : u = .ref b := ry
    obtain ⟨its, r1, p1, _⟩ := I.tuple (SqT.of (K := X.K) ha)
    obtain ⟨its2, r2, p2, _⟩ := I.tuple (SqT.of (K := X.K) hb)
    have l1 := r1.length
    have l2 := r2.length
    have l3 := rvs.length
    have l4 := rws.length
    refine PySem.EqBoolInt.of_rcne (SeqAt.RcNeAt.tuples (e := fun _ => true) p1 p2 (by omega) fun j h1 h2 => ?_) ⟨.bl false, H, I, ?_, q⟩
    · obtain ⟨x1, e1, q1⟩ := its_at r1 h1
      obtain ⟨x2, e2, q2⟩ := its_at r2 h2
      obtain ⟨d1, f1, g1⟩ := rvs.get e1
      obtain ⟨d2, f2, g2⟩ := rws.get e2
      rw [f1] at f2
      cases f2
      refine eq_at I 190 d1 ?_ g1 g2 q1 q2 (by show X.A.units + 1 + 190 < cLine; omega)
      have := deeps_mem (List.mem_of_getElem? f1)
      have h' : deeps ds + 1 ≤ 190 := hd
      omega
    · have e : ((List.range (min its.toArray.size its2.toArray.size)).all (fun _ => true) && its.toArray.size == its2.toArray.size) = true := by
        rw [show its.toArray.size = its2.toArray.size by simp only [List.size_toArray]; omega]
        simp
      rw [e]
      rfl
end
end M

end

section
set_option Elab.async false
set_option linter.all false
set_option maxRecDepth 100000
set_option maxHeartbeats 4000000
namespace M
open PySem L2
def five : List Nat := [113, 120, 122, 118, 119]
def nmA (cs : List Nat) (a : Nat) (b : Int) (k : Nat) : List Nat := cs.take a ++ (97 + ((b + 5 * (k : Int)) % 26).toNat) :: cs.drop a
def nmB (cs : List Nat) (a : Nat) (b : Int) (k : Nat) : List Nat := nmA cs a b (k - k % 2) ++ List.replicate (k % 2) 113
def NmsOk (nms : List Str) : Prop := nms.length = 26 ∧ nms.Nodup ∧ ∀ z ∈ nms, Name z
theorem nmA_len (cs : List Nat) (a : Nat) (b : Int) (k : Nat) : (nmA cs a b k).length = cs.length + 1 := by
  unfold nmA
  rw [List.length_append, List.length_cons, List.length_take, List.length_drop]
  omega
theorem nmB_len (cs : List Nat) (a : Nat) (b : Int) (k : Nat) : (nmB cs a b k).length = cs.length + 1 + k % 2 := by
  unfold nmB
  rw [List.length_append, nmA_len, List.length_replicate]
theorem nmA_inj {cs : List Nat} {a : Nat} {b : Int} {k j : Nat} (hk : k < 26) (hj : j < 26) (h : nmA cs a b k = nmA cs a b j) : k = j := by
  unfold nmA at h
  have h2 := List.append_cancel_left h
  have h3 := (List.cons.inj h2).1
  omega
theorem nmB_inj {cs : List Nat} {a : Nat} {b : Int} {k j : Nat} (hk : k < 26) (hj : j < 26) (h : nmB cs a b k = nmB cs a b j) : k = j := by
  have hl := congrArg List.length h
  rw [nmB_len, nmB_len] at hl
  have hm : k % 2 = j % 2 := by omega
  unfold nmB at h
  rw [hm] at h
  have h2 := List.append_cancel_right h
  have h3 := nmA_inj (by omega) (by omega) h2
  omega
theorem nodup_map {f : Nat → Str} (h : ∀ k j, k < 26 → j < 26 → f k = f j → k = j) : ((List.range 26).map f).Nodup := by
  refine List.pairwise_map.mpr (List.Pairwise.imp_of_mem (fun hi hj hlt e => ?_) (List.pairwise_lt_range (n := 26)))
  have := h _ _ (List.mem_range.mp hi) (List.mem_range.mp hj) e
  omega
theorem five_letter : ∀ c ∈ five, isLetter c = true := by decide
theorem letter_of (i : Int) : isLetter (97 + (i % 26).toNat) = true := by
  unfold isLetter
  have h1 : 0 ≤ i % 26 := Int.emod_nonneg _ (by decide)
  have h2 : i % 26 < 26 := Int.emod_lt_of_pos _ (by decide)
  rw [Bool.and_eq_true, decide_eq_true_eq, decide_eq_true_eq]
  omega
theorem name_of {l : List Nat} (h1 : 1 ≤ l.length) (h6 : l.length ≤ 6) (hl : ∀ c ∈ l, isLetter c = true) (h5 : l.length = 1 ∨ ∃ c ∈ l, c ∈ five) : Name (ofL l) := by
  show nameL l = true
  unfold nameL
  have ne : ∀ z : List Nat, z.length ≠ 1 → (∀ c ∈ z, c ∉ five) → (l != z) = true := fun z hz hc => by
    rw [bne_iff_ne]
    intro e
    subst e
    rcases h5 with h5 | ⟨c, hm, h5⟩
    · exact hz h5
    · exact hc c hm h5
  rw [ne [110, 117, 109] (by decide) (by decide), ne [105, 116] (by decide) (by decide), decide_eq_true h1, decide_eq_true h6, List.all_eq_true.mpr hl]
  rfl
theorem mem_nmA {cs : List Nat} {a : Nat} {b : Int} {k c : Nat} : c ∈ nmA cs a b k ↔ c ∈ cs ∨ c = 97 + ((b + 5 * (k : Int)) % 26).toNat := by
  unfold nmA
  rw [List.mem_append, List.mem_cons]
  have e : c ∈ cs ↔ c ∈ cs.take a ∨ c ∈ cs.drop a := by
    rw [← List.mem_append, List.take_append_drop]
  rw [e]
  constructor
  · rintro (h | h | h)
    · exact .inl (.inl h)
    · exact .inr h
    · exact .inl (.inr h)
  · rintro ((h | h) | h)
    · exact .inl h
    · exact .inr (.inr h)
    · exact .inr (.inl h)
theorem nmA_name {cs : List Nat} {a : Nat} {b : Int} {k : Nat} (hc : cs.length ≤ 4) (h5 : ∀ c ∈ cs, c ∈ five) : Name (ofL (nmA cs a b k)) := by
  refine name_of (by rw [nmA_len]; omega) (by rw [nmA_len]; omega) (fun c hm => ?_) ?_
  · rcases mem_nmA.mp hm with h | h
    · exact five_letter c (h5 c h)
    · rw [h]; exact letter_of _
  · cases cs with
    | nil => exact .inl (by rw [nmA_len]; rfl)
    | cons c r => exact .inr ⟨c, mem_nmA.mpr (.inl (by simp)), h5 c (by simp)⟩
theorem nmB_name {cs : List Nat} {a : Nat} {b : Int} {k : Nat} (hc : cs.length ≤ 4) (h5 : ∀ c ∈ cs, c ∈ five) : Name (ofL (nmB cs a b k)) := by
  refine name_of (by rw [nmB_len]; omega) (by rw [nmB_len]; omega) (fun c hm => ?_) ?_
  · unfold nmB at hm
    rcases List.mem_append.mp hm with hm | hm
    · rcases mem_nmA.mp hm with h | h
      · exact five_letter c (h5 c h)
      · rw [h]; exact letter_of _
    · rw [(List.mem_replicate.mp hm).2]; decide
  · by_cases hk : k % 2 = 0
    · cases cs with
      | nil => exact .inl (by rw [nmB_len, hk]; rfl)
      | cons c r => exact .inr ⟨c, by unfold nmB; exact List.mem_append_left _ (mem_nmA.mpr (.inl (by simp))), h5 c (by simp)⟩
    · refine .inr ⟨113, ?_, by decide⟩
      unfold nmB
      exact List.mem_append_right _ (List.mem_replicate.mpr ⟨by omega, rfl⟩)
theorem nmsA {cs : List Nat} {a : Nat} {b : Int} (hc : cs.length ≤ 4) (h5 : ∀ c ∈ cs, c ∈ five) : NmsOk ((List.range 26).map fun k => ofL (nmA cs a b k)) := by
  refine ⟨by simp, nodup_map fun k j hk hj e => nmA_inj hk hj (congrArg L e), fun z hz => ?_⟩
  obtain ⟨k, _, rfl⟩ := List.mem_map.mp hz
  exact nmA_name hc h5
theorem nmsB {cs : List Nat} {a : Nat} {b : Int} (hc : cs.length ≤ 4) (h5 : ∀ c ∈ cs, c ∈ five) : NmsOk ((List.range 26).map fun k => ofL (nmB cs a b k)) := by
  refine ⟨by simp, nodup_map fun k j hk hj e => nmB_inj hk hj (congrArg L e), fun z hz => ?_⟩
  obtain ⟨k, _, rfl⟩ := List.mem_map.mp hz
  exact nmB_name hc h5
theorem slice_to (x : Str) {j : Int} (h0 : 0 ≤ j) (h1 : j ≤ x.length) : Txt.slice x none (some j) = ofL ((L x).take j.toNat) := by
  have e : Txt.slice x none (some j) = StrLaws.sliceText x none (some j) := rfl
  rw [e, StrLaws.sliceText_to ⟨h0, by rw [show x.cps.toList.length = x.length by simp [Str.length]]; exact h1⟩]
  show ofL ((((L x).drop 0).take (j - 0).toNat)) = _
  rw [List.drop_zero, Int.sub_zero]
theorem slice_from (x : Str) {j : Int} (h0 : 0 ≤ j) (h1 : j ≤ x.length) : Txt.slice x (some j) none = ofL ((L x).drop j.toNat) := by
  have e : Txt.slice x (some j) none = StrLaws.sliceText x (some j) none := rfl
  rw [e, StrLaws.sliceText_from ⟨h0, by rw [show x.cps.toList.length = x.length by simp [Str.length]]; exact h1⟩]
  apply L_inj
  show ((L x).drop j.toNat).take _ = (L x).drop j.toNat
  refine List.take_of_length_le ?_
  rw [List.length_drop]
  show (L x).length - j.toNat ≤ (((L x).length : Int) - j).toNat
  omega
theorem letter_is {i : Int} (h0 : 0 ≤ i) (h : i < 26) : atI (S "abcdefghijklmnopqrstuvwxyz").cps.toList i = some (97 + i.toNat) := by
  have all : ∀ k, k < 26 → (S "abcdefghijklmnopqrstuvwxyz").cps.toList[k]? = some (97 + k) := by decide +kernel
  have ek : i = ((i.toNat : Nat) : Int) := by omega
  have q := atI_nat (all i.toNat (by omega))
  rw [← ek] at q
  exact q
theorem five_at {i : Int} (h0 : 0 ≤ i) (h : i < 5) : ∃ c ∈ five, atI (S "qxzvw").cps.toList i = some c := by
  have e : (S "qxzvw").cps.toList = five := by decide +kernel
  rw [e]
  exact at_codes h0 h
theorem name_text (cs : List Nat) (a ch : Nat) : ofL (cs.take a) ++ (⟨#[ch]⟩ : Str) ++ ofL (cs.drop a) = ofL (cs.take a ++ ch :: cs.drop a) := by
  apply L_inj
  rw [L_append, L_append, L_ofL, L_ofL, L_ofL]
  show cs.take a ++ [ch] ++ cs.drop a = _
  simp
end M
namespace L2
open PySem PySem.Spec PyProof.Rows
/-- text * 0, text * 1 -/
theorem op_mulS {X : Cx} : OpR X (binaryOp .Mult) (fun x y H Q => ∃ i n, x = .str i ∧ y = .int n ∧ (n = 0 ∨ n = 1) ∧ Q (.str (if n = 1 then i else Str.empty)) H) := by
  intro pins s σ H x y v u Q I rx ry h
  obtain ⟨i, n, rfl, rfl, hn, q⟩ := h
  obtain ⟨t, rfl⟩ := rx
  obtain ⟨t', rfl⟩ := ry
  refine SB.mul ?_ fun t' k => ⟨.str _, H, I.tok k, ⟨t', rfl⟩, ?_⟩
  · rcases hn with rfl | rfl
    · exact ⟨by decide, fun h => absurd (by decide) h, fun h => absurd (by decide) h⟩
    · exact ⟨by decide, fun _ h => by simp at h, fun _ h => by simp at h⟩
  · have e : Txt.mul i n = if n = 1 then i else Str.empty := by
      rcases hn with rfl | rfl
      · rfl
      · unfold Txt.mul
        rw [if_neg (by decide), if_pos (by simp), if_pos rfl]
    rw [e]
    exact q
end L2

end

section
set_option Elab.async false
set_option linter.all false
set_option maxRecDepth 100000
set_option maxHeartbeats 4000000
namespace M
open PySem L2
structure KWf (ks : List Kn) : Prop where
  nd : (ks.map Kn.name).Nodup
  nm : ∀ k ∈ ks, Name k.name
  ref : ∀ (i : Nat) (k : Kn), ks[i]? = some k → ∀ p ∈ k.parts, p.2 = S "num" ∨ ∃ j, ∃ k' : Kn, j < i ∧ ks[j]? = some k' ∧ k'.name = p.2
  alt : ∀ k ∈ ks, k.rc = false → k.parts ≠ []
  few : ks.length ≤ 6
  pts : ∀ k ∈ ks, k.parts.length ≤ 5
  pnd : ∀ k : Kn, k ∈ ks → (k.parts.map (fun p : Str × Str => p.1)).Nodup
  pnm : ∀ k : Kn, k ∈ ks → ∀ p ∈ k.parts, Name p.1
theorem name_ne_num {x : Str} (h : Name x) : x ≠ S "num" := fun e => by
  rw [e] at h
  exact absurd (show nameL (S "num").cps.toList = true from h) (by decide +kernel)
theorem KWf.nil : KWf [] := ⟨List.nodup_nil, (fun _ h => nomatch h), (fun i k h => by simp at h), (fun _ h => nomatch h), Nat.zero_le _, (fun _ h => nomatch h), (fun _ h => nomatch h), (fun _ h => nomatch h)⟩
theorem find_nodup {α : Type} {f : α → Str} : ∀ {xs : List α} {i : Nat} {a : α}, (xs.map f).Nodup → xs[i]? = some a → xs.find? (fun z => decide (f z = f a)) = some a
  | x :: xs, 0, a, nd, h => by
    simp at h
    subst h
    rw [List.find?_cons, decide_eq_true rfl]
  | x :: xs, i + 1, a, nd, h => by
    have h' : xs[i]? = some a := by simpa using h
    rw [List.map_cons, List.nodup_cons] at nd
    have hne : f x ≠ f a := fun e => nd.1 (by rw [e]; exact List.mem_map_of_mem (List.mem_of_getElem? h'))
    rw [List.find?_cons, decide_eq_false hne]
    exact find_nodup nd.2 h'
theorem KWf.at {ks : List Kn} (w : KWf ks) {i : Nat} {k : Kn} (h : ks[i]? = some k) : kAt ks k.name = some k := find_nodup (f := Kn.name) w.nd h
theorem KWf.no {ks : List Kn} {x : Str} (h : ∀ k ∈ ks, k.name ≠ x) : kAt ks x = none := by
  unfold kAt
  rw [List.find?_eq_none]
  intro k hk
  simpa using h k hk
theorem KWf.num {ks : List Kn} (w : KWf ks) : kAt ks (S "num") = none := KWf.no fun k hk => name_ne_num (w.nm k hk)
/-- x is num, or a kind among the first n -/
def KIn (ks : List Kn) (n : Nat) (x : Str) : Prop := x = S "num" ∨ ∃ j k, j < n ∧ ks[j]? = some k ∧ k.name = x
theorem KIn.mono {ks : List Kn} {n m : Nat} {x : Str} (h : KIn ks n x) (l : n ≤ m) : KIn ks m x := by
  rcases h with h | ⟨j, k, hj, h⟩
  · exact .inl h
  · exact .inr ⟨j, k, by omega, h⟩
theorem KIn.ap {ks more : List Kn} {n : Nat} {x : Str} (h : KIn ks n x) : KIn (ks ++ more) n x := by
  rcases h with h | ⟨j, k, hj, h1, h2⟩
  · exact .inl h
  · exact .inr ⟨j, k, hj, by rw [List.getElem?_append_left (List.getElem?_eq_some_iff.mp h1).1]; exact h1, h2⟩
theorem KIn.of {ks : List Kn} {x : Str} (h : x = S "num" ∨ ∃ k ∈ ks, k.name = x) : KIn ks ks.length x := by
  rcases h with h | ⟨k, hk, h⟩
  · exact .inl h
  · obtain ⟨j, hj, e⟩ := List.mem_iff_getElem.mp hk
    exact .inr ⟨j, k, hj, by rw [← e]; exact List.getElem?_eq_getElem hj, h⟩
theorem KWf.snoc {ks : List Kn} (w : KWf ks) {k : Kn} (h1 : k.name ∉ ks.map Kn.name) (h2 : Name k.name) (h3 : ∀ p ∈ k.parts, KIn ks ks.length p.2) (h4 : k.rc = false → k.parts ≠ []) (h5 : ks.length < 6) (h6 : k.parts.length ≤ 5)
    (h7 : (k.parts.map (·.1)).Nodup) (h8 : ∀ p ∈ k.parts, Name p.1) : KWf (ks ++ [k]) := by
  have mem : ∀ {q : Kn → Prop}, (∀ z ∈ ks, q z) → q k → ∀ z ∈ ks ++ [k], q z := fun a b z hz => by
    rcases List.mem_append.mp hz with hz | hz
    · exact a z hz
    · rw [List.mem_singleton.mp hz]; exact b
  refine ⟨?_, mem w.nm h2, ?_, mem w.alt h4, by rw [List.length_append, List.length_singleton]; omega, mem w.pts h6, mem w.pnd h7, mem w.pnm h8⟩
  · rw [List.map_append]
    exact nd_snoc w.nd h1
  · intro i z hz p hp
    by_cases hi : i < ks.length
    · rw [List.getElem?_append_left hi] at hz
      exact KIn.ap (w.ref i z hz p hp)
    · rw [List.getElem?_append_right (by omega)] at hz
      have hi0 : i - ks.length = 0 := by
        have := (List.getElem?_eq_some_iff.mp hz).1
        simp at this
        omega
      rw [hi0] at hz
      simp at hz
      subst hz
      exact (h3 p hp).ap.mono (by omega)
def maxD : List Int → Int
  | [] => 0
  | n :: ns => max n (maxD ns)
theorem maxD_ge : ∀ {ns : List Int} {n : Int}, n ∈ ns → n ≤ maxD ns
  | m :: ns, n, h => by
    show n ≤ max m (maxD ns)
    rcases List.mem_cons.mp h with rfl | h
    · omega
    · have := maxD_ge h
      omega
theorem maxD_mem : ∀ {ns : List Int}, ns ≠ [] → (∀ n ∈ ns, 0 ≤ n) → maxD ns ∈ ns
  | [n], _, h => by
    have h0 := h n (by simp)
    show max n 0 ∈ [n]
    rw [Int.max_eq_left h0]
    simp
  | n :: m :: ns, _, h => by
    have ih := maxD_mem (ns := m :: ns) (by simp) fun x hx => h x (List.mem_cons_of_mem _ hx)
    show max n (maxD (m :: ns)) ∈ n :: m :: ns
    rcases Int.le_total n (maxD (m :: ns)) with e | e
    · rw [Int.max_eq_right e]; exact List.mem_cons_of_mem _ ih
    · rw [Int.max_eq_left e]; simp
theorem maxD_is {ns : List Int} {m : Int} (hn : ns ≠ []) (h0 : ∀ n ∈ ns, 0 ≤ n) (hm : m ∈ ns) (h : ∀ n ∈ ns, n ≤ m) : m = maxD ns := by
  have h1 := maxD_ge hm
  have h2 := h _ (maxD_mem hn h0)
  omega
def szF : Nat → List Kn → Str → Int
  | 0, _, _ => 1
  | n + 1, ks, x => match kAt ks x with
    | none => 1
    | some k => 1 + (if k.rc = true then (k.parts.map fun p => szF n ks p.2).sum else maxD (k.parts.map fun p => szF n ks p.2))
theorem szF_bound {ks : List Kn} (hp : ∀ k ∈ ks, k.parts.length ≤ 5) : ∀ (n : Nat) (x : Str), 1 ≤ szF n ks x ∧ szF n ks x ≤ 6 ^ n
  | 0, x => by simp [szF]
  | n + 1, x => by
    unfold szF
    have p1 : (1 : Int) ≤ 6 ^ n := Int.pow_pos (by decide)
    have e6 : (6 : Int) ^ (n + 1) = 6 * 6 ^ n := by rw [Int.pow_succ, Int.mul_comm]
    cases hk : kAt ks x with
    | none => simp only; omega
    | some k =>
      simp only
      have hk5 := hp k (List.mem_of_find?_eq_some hk)
      have all : ∀ m ∈ k.parts.map (fun p => szF n ks p.2), 1 ≤ m ∧ m ≤ 6 ^ n := fun m hm => by
        obtain ⟨p, _, rfl⟩ := List.mem_map.mp hm
        exact szF_bound hp n p.2
      have hl : (k.parts.map (fun p => szF n ks p.2)).length ≤ 5 := by rw [List.length_map]; exact hk5
      generalize k.parts.map (fun p => szF n ks p.2) = ns at all hl ⊢
      have hs : ∀ (l : List Int), (∀ m ∈ l, 1 ≤ m ∧ m ≤ (6 : Int) ^ n) → 0 ≤ l.sum ∧ l.sum ≤ l.length * 6 ^ n := by
        intro l
        induction l with
        | nil => intro _; simp
        | cons a r ih =>
          intro h
          have h1 := h a (by simp)
          have h2 := ih fun m hm => h m (List.mem_cons_of_mem _ hm)
          rw [List.sum_cons, List.length_cons]
          push_cast
          rw [Int.add_mul]
          omega
      have hm : 0 ≤ maxD ns ∧ maxD ns ≤ 6 ^ n := by
        by_cases he : ns = []
        · subst he; simp [maxD]; omega
        · have := all _ (maxD_mem he fun m hm => by have := all m hm; omega)
          omega
      have h1 := hs ns all
      have h2 : (ns.length : Int) * 6 ^ n ≤ 5 * 6 ^ n := Int.mul_le_mul_of_nonneg_right (by omega) (by omega)
      split <;> omega
/-- kinds in a list or a tuple -/
def KsSeq (H : Hp) (v : V) (ks : List Kn) : Prop := ∃ a vs, v = .ref a ∧ (H a = some (.lst vs) ∨ H a = some (.tup vs)) ∧ RelDs H vs (ks.map Kn.d)
theorem KsSeq.same {H H' : Hp} {v : V} {ks : List Kn} (h : KsSeq H v ks) (s : Same H H') : KsSeq H' v ks := by
  obtain ⟨a, vs, e, h1, h2⟩ := h
  exact ⟨a, vs, e, h1.imp (s _ _) (s _ _), h2.same s _⟩
theorem KWf.ksAt {ks : List Kn} (w : KWf ks) {H : Hp} {v : V} (h : RelD H v (dKinds ks)) : KsAt H v ks := ⟨h, by have := w.few; omega, fun k hk => by have := w.pts k hk; omega⟩
theorem KsAt.seq {H : Hp} {v : V} {ks : List Kn} (h : KsAt H v ks) : KsSeq H v ks := by
  obtain ⟨a, vs, e, h1, h2⟩ := h.1
  exact ⟨a, vs, e, .inr h1, h2⟩
def sortS : Option Kn → Str
  | some k => k.sort
  | none => S "num"
end M
namespace L2
open PySem PySem.Spec PyProof.Rows
theorem pi_or {X : Cx} {tg it : Expr} {w1 w2 : TI} (h1 : PI X tg it w1) (h2 : PI X tg it w2) : PI X tg it (fun σ H R => w1 σ H R ∨ w2 σ H R) := fun pins s σ H R I h => by
  rcases h with h | h
  · exact h1 pins s σ H R I h
  · exact h2 pins s σ H R I h
end L2
namespace L2
theorem yes_go {σ : St} {H : Hp} {A B : Hp → Prop} (h : A H) : tYes σ H (fun b H3 => if b = true then A H3 else B H3) := by
  unfold tYes
  show if true = true then A H else B H
  rw [if_pos rfl]
  exact h
end L2
namespace M
open PySem L2
theorem Fed.put {f p : Addr} {H H' : Hp} (h : Fed f H H') (hp : H p = none) (hf : p ≠ f) (o : HO) : Fed f H (upd H' p o) := by
  obtain ⟨s, x, y, e⟩ := h
  refine ⟨fun b u hb nb => ?_, x, y, ?_⟩
  · rw [upd_ne (ne_of_none hb hp)]
    exact s b u hb nb
  · rw [upd_ne (Ne.symm hf)]
    exact e
theorem lst_tups {H : Hp} {p : Addr} {us : List V} (h : H p = some (.lst us)) (o : HO) : ∀ b vs, H b = some (.tup vs) → upd H p o b = some (.tup vs) := fun b vs hb => by
  rw [upd_ne fun e => by rw [e, h] at hb; cases hb]
  exact hb
theorem names_at {ks : List Kn} {r : Int} (h0 : 0 ≤ r) (h : r < 1 + (ks.length : Int)) : ∃ x, atI ([V.str (S "num")] ++ (ks.map Kn.name).map V.str) r = some (.str x) ∧ KIn ks ks.length x := by
  have e : [V.str (S "num")] ++ (ks.map Kn.name).map V.str = (S "num" :: ks.map Kn.name).map V.str := rfl
  obtain ⟨z, hz, hv⟩ := at_codes (cs := (S "num" :: ks.map Kn.name).map V.str) h0 (by rw [List.length_map, List.length_cons, List.length_map]; push_cast; omega)
  obtain ⟨y, hy, rfl⟩ := List.mem_map.mp hz
  refine ⟨y, by rw [e]; exact hv, ?_⟩
  rcases List.mem_cons.mp hy with rfl | hy
  · exact .inl rfl
  · obtain ⟨k, hk, rfl⟩ := List.mem_map.mp hy
    exact KIn.of (.inr ⟨k, hk, rfl⟩)
theorem strs_get {ys : List Str} {i : Nat} (h : i < ys.length) : atI (ys.map V.str) (0 + (i : Int)) = some (.str ys[i]) := by
  rw [Int.zero_add]
  exact atI_nat (by rw [List.getElem?_map, List.getElem?_eq_getElem h]; rfl)
end M
namespace M
open PySem L2
theorem cut812 {nms : List Str} (h : nms.length = 26) : cutV (nms.map V.str) (some 8) (some 12) = ((nms.drop 8).take 4).map V.str := by
  unfold cutV HT.sIx
  rw [List.length_map, h, List.map_take, List.map_drop]
  rfl
theorem part4 {nms : List Str} (h : NmsOk nms) (i : Nat) : (((nms.drop 8).take 4).take i).Nodup ∧ ∀ z ∈ ((nms.drop 8).take 4).take i, Name z := by
  have hs : (((nms.drop 8).take 4).take i).Sublist nms := ((List.take_sublist _ _).trans (List.take_sublist _ _)).trans (List.drop_sublist _ _)
  exact ⟨h.2.1.sublist hs, fun z hz => h.2.2 z (hs.subset hz)⟩
theorem not_ahead {nms : List Str} (h : nms.Nodup) {i : Nat} (hi : i < nms.length) : nms[i] ∉ nms.take i := fun hm => by
  obtain ⟨j, hj, e⟩ := List.mem_iff_getElem.mp hm
  rw [List.length_take] at hj
  rw [List.getElem_take] at e
  have := (List.getElem_inj h).mp e
  omega
/-- the kinds of a law over its names -/
def KOver (nms : List Str) (ks : List Kn) : Prop := KWf ks ∧ ks.length ≤ 4 ∧ ks.map Kn.name = nms.take ks.length ∧ ∀ k ∈ ks, k.parts.length ≤ 4 ∧ k.parts.map (·.1) = ((nms.drop 8).take 4).take k.parts.length
end M

end

section
set_option Elab.async false
set_option linter.all false
set_option maxRecDepth 100000
set_option maxHeartbeats 4000000
namespace St
open PySem PySem.Spec PyProof.Rows
/-- what was met, each once -/
def met (val : Nat → Str) (i : Nat) : List Str := ((List.range i).map val).foldl step_dedup []
theorem met_succ (val : Nat → Str) (i : Nat) : met val (i + 1) = step_dedup (met val i) (val i) := by
  unfold met
  rw [List.range_succ, List.map_append, List.foldl_append]
  rfl
theorem met_len (val : Nat → Str) : ∀ i, (met val i).length ≤ i
  | 0 => Nat.le_refl _
  | i + 1 => by
    have ih := met_len val i
    rw [met_succ]
    unfold step_dedup
    split
    · omega
    · rw [List.length_append, List.length_singleton]
      omega
theorem dd_any (l : List Str) (v k : Str) : (step_dedup l v).any (· == k) = (l.any (· == k) || decide (k = v)) := by
  unfold step_dedup
  split
  · rename_i h
    by_cases e : k = v
    · subst e
      rw [h, Bool.true_or]
    · rw [decide_eq_false e, Bool.or_false]
  · rw [List.any_append]
    congr 1
    rw [Bool.eq_iff_iff]
    simp
    exact eq_comm
theorem dd_len (l : List Str) (v : Str) : (step_dedup l v).length = if l.any (· == v) then l.length else l.length + 1 := by
  unfold step_dedup
  split <;> simp
theorem strs_at : ∀ {vs : List Value} {ns : List Str}, StrsAre vs ns → ∀ (i : Nat) (v : Value), vs[i]? = some v → ∃ t, v = .str (ns.getD i Str.empty) t
  | _, _, .nil, i, v, h => by simp at h
  | _, _, .cons n t r, 0, v, h => by
    simp at h
    exact ⟨t, h.symm⟩
  | _, _, .cons n t r, i + 1, v, h => by
    obtain ⟨t', e⟩ := strs_at r i v (by simpa using h)
    exact ⟨t', by simpa using e⟩
section
variable {prog : Program} {w : World} {A : Around} {R : Result → Shared → Prop} {I : Addr} {fp wr : List Addr} {G : Array GenState → Array GenState → Prop} {n : Nat} {P : Nat → Value → Prop} {St : Nat → Shared → Prop}
theorem upd_loop (W : WalksS prog w A.in1 I fp wr G n P St) (S : Addr) (hSf : S ∉ fp)
    (val : Nat → Str) (hval : ∀ i v, P i v → ∃ t, v = .str (val i) t) (hb : n + 1 < scanBound) :
    ∀ (k i : Nat) (s : Shared), n - i = k → i ≤ n → St i s →
      s.heap.SetOf (PySem.strKind prog w) S (fun k' => (met val i).any (· == k')) (met val i).length →
      (∀ s', Moved (S :: wr) G s s' → s'.heap.SetOf (PySem.strKind prog w) S (fun k' => (met val n).any (· == k')) (met val n).length → R (.ok (.ret .none)) s') →
      codeAny (model prog w) A (.builtin "set.update.loop" ⟨[.ref S, .ref I], []⟩) R s := by
  have hSw : S ∉ wr := fun h => hSf (W.sub _ h)
  have hsub : ∀ b ∈ wr, b ∈ S :: wr := fun b hb => List.mem_cons_of_mem _ hb
  intro k
  induction k with
  | zero =>
    intro i s hk hi hst hS hR
    have hin : i = n := by omega
    subst hin
    refine codeAny_builtin F.entry_set_update_loop ?_
    rw [Around.under_plainId F.plain_set_update_loop _]
    show wpAny _ A.in1 (pyNext (.ref I) >>= _) _ _ s
    refine wpAny_bind (W.done s _ _ hst fun s' hm => ?_)
    show wpAny _ A.in1 (ret Value.none) _ _ s'
    exact wpAny_pure (hR s' (hm.mono hsub) (by
      obtain ⟨o, es, ep, t, ho, rest⟩ := hS
      exact ⟨o, es, ep, t, hm.heap S _ hSw ho, rest⟩))
  | succ k ih =>
    intro i s hk hi hst hS hR
    have hlt : i < n := by omega
    refine codeAny_builtin F.entry_set_update_loop ?_
    rw [Around.under_plainId F.plain_set_update_loop _]
    show wpAny _ A.in1 (pyNext (.ref I) >>= _) _ _ s
    refine wpAny_bind (W.item i s _ _ hlt hst fun v s' hP hst' hm => ?_)
    obtain ⟨t, rfl⟩ := hval i v hP
    have hS' : s'.heap.SetOf (PySem.strKind prog w) S (fun k' => (met val i).any (· == k')) (met val i).length := by
      obtain ⟨o, es, ep, tb, ho, rest⟩ := hS
      exact ⟨o, es, ep, tb, hm.heap S _ hSw ho, rest⟩
    show wpAny _ A.in1 (holding [Value.str (val i) t] (setAdd S (.str (val i) t)) >>= _) _ _ s'
    refine wpAny_bind (wpAny_holding ?_)
    unfold setAdd
    refine wpAny_holding ?_
    refine wpAny_bind ((PySem.strKind prog w).pyHash (k := val i) (PySem.strKind_is _ _ _ _) ?_)
    have hroom : (met val i).length + 1 < scanBound := by have := met_len val i; omega
    refine wpAny_setAddHashed_of (knd := PySem.strKind prog w) (s := { s' with toks := s'.toks + 1 }) (PySem.strKind_is _ _ _ _) rfl hS' hroom fun h' hsb hS2 => ?_

    have hSi : h'.SetOf (PySem.strKind prog w) S (fun k' => (met val (i + 1)).any (· == k')) (met val (i + 1)).length :=
      SetOf_congr hS2 (fun k' => by rw [met_succ, dd_any]) (by rw [met_succ, dd_len])
    refine wpAny_pure ⟨plainId_quiet F.plain_set_update_loop _, ih (i + 1) _ (by omega) hlt (W.frame _ s' _ _ hst' (Nat.le_succ _) fun b hb o e => ?_) hSi fun s'' hm'' hS'' => ?_⟩
    · rw [hsb.2 b (fun h : b = S => hSf (by rw [← h]; exact hb))]; exact e
    · refine hR s'' (Moved.trans W.gtrans ((hm.mono hsub).then_heap (Nat.le_succ _) fun b o hb e => ?_) hm'') hS''
      rw [hsb.2 b (fun h : b = S => hb (by rw [h]; exact List.mem_cons_self))]; exact e
end
section
variable {prog : Program} {w : World} {A : Around} {E : Value → Shared → Prop} {s : Shared}
set_option maxRecDepth 100000 in
set_option maxHeartbeats 3200000 in
theorem call_set_strs {l : Addr} {items : Array Value} {ns : List Str} {Q : Value → Shared → Prop}
    (hh : A.handled = none) (hl : s.heap.IsList l items) (hi : StrsAre items.toList ns) (hb : items.size + 1 < scanBound)
    (h : ∀ (h' : Heap) (tk : Nat), h'.SetOf (PySem.strKind prog w) s.heap.objs.size (fun k' => (met (fun i => ns.getD i Str.empty) items.size).any (· == k')) (met (fun i => ns.getD i Str.empty) items.size).length →
      (∀ b o, b < s.heap.objs.size → s.heap.get? b = some o → h'.get? b = some o) → Q (.ref s.heap.objs.size) { s with heap := h', toks := tk }) :
    wpAny (model prog w) A (call (.type "set") [.ref l]) Q E s := by
  obtain ⟨c, tl, hmro⟩ := F.called_set.mro
  have hmade := F.called_set.made
  have hsub := F.called_set.sub
  refine wpAny_call (codeAny_of_tree ?_)
  show wpAny _ _ (callAny (.type "set") _) _ _ _
  refine wpAny_pure ⟨Code.quiet_builtin _ (by decide +kernel), codeAny_builtin F.entry_type_call ?_⟩
  rw [Around.under_plain (weight_type_call_type "set" [.ref l] []) rfl]
  have h1 := F.called_set.notType
  have h2 := F.called_set.canCreate
  have hct := F.typeCall_set_1 (.ref l)
  repeat (any_goals (first | assumption | wp_step))

  refine codeAny_mono (code_set_new_1 (.ref l) (E := E) (Q₁ := fun obj s₁ => ∃ led : Bool, obj = .ref s.heap.objs.size ∧ s₁ = { s with heap := s.heap.push { cls := .type "set", dict := none, data := .set #[] 0 (.fresh 0 0 led) } }) fun led => ⟨led, rfl, rfl⟩) fun r s₁ hr => ?_
  cases r with
  | error e => exact hr
  | ok fl =>
    cases fl with
    | ret obj =>
      obtain ⟨led, rfl, rfl⟩ := hr
      have hS : (s.heap.push { cls := .type "set", dict := none, data := .set #[] 0 (.fresh 0 0 led) }).get? s.heap.objs.size = some { cls := .type "set", dict := none, data := .set #[] 0 (.fresh 0 0 led) } := Heap.get?_push_size _ rfl
      have hT : Shared.TypeIs { s with heap := s.heap.push { cls := .type "set", dict := none, data := .set #[] 0 (.fresh 0 0 led) } } (.ref s.heap.objs.size) "set" := ⟨_, hS, rfl⟩
      have hli := F.called_set.init.lookup
      have hbi := F.called_set.init.bind (.ref s.heap.objs.size)
      repeat (any_goals (first | assumption | wp_step))

      refine codeAny_mono (codeAny_call_builtin (R := wants (fun r s₂ => r = .none ∧ ∃ h' tk, s₂ = { s with heap := h', toks := tk } ∧
          h'.SetOf (PySem.strKind prog w) s.heap.objs.size (fun k' => (met (fun i => ns.getD i Str.empty) items.size).any (· == k')) (met (fun i => ns.getD i Str.empty) items.size).length ∧
          (∀ b o, b < s.heap.objs.size → s.heap.get? b = some o → h'.get? b = some o)) E) F.called_set.init.plain F.entry_set_init (check_set_init_1 hT ?_)) fun r₂ s₂ hr₂ => ?_
      · obtain ⟨ol, hol, hcl, nl, hdl⟩ := hl
        obtain ⟨ocls, odict, odata, oslots⟩ := ol
        simp only at hcl hdl
        subst hcl; subst hdl
        have hol' : (s.heap.push { cls := .type "set", dict := none, data := .set #[] 0 (.fresh 0 0 led) }).get? l = some { cls := .type "list", dict := odict, data := .seq items nl, slots := oslots } := Heap.get?_push_of_some _ hol
        have hsls := F.sub_list_set
        have hslf := F.sub_list_frozenset
        have hne : (Value.type "list" == Value.type "dict") = false := by decide
        have hl1 : (s.heap.push { cls := .type "set", dict := none, data := .set #[] 0 (.fresh 0 0 led) }).IsList l items := ⟨_, hol', rfl, nl, rfl⟩
        unfold Builtin.«set.__init__» noKeywords Builtin.Frozenset.updateFrom
        generalize hPI : pyIter = PI
        wp_walk
        subst hPI

        refine wpAny_pyIter_list hl1 ?_
        refine wpAny_bind (wpAny_runValue ?_)
        have hlS : l < s.heap.objs.size := Heap.lt_size hol
        have hh3 : A.in1.in1.in1.handled = none := by simp [hh]
        have hneI : l ≠ (s.heap.push { cls := .type "set", dict := none, data := .set #[] 0 (.fresh 0 0 led) }).objs.size := by
          rw [Heap.size_push]; exact Nat.ne_of_lt (Nat.lt_succ_of_lt hlS)
        have hSf : s.heap.objs.size ∉ [(s.heap.push { cls := .type "set", dict := none, data := .set #[] 0 (.fresh 0 0 led) }).objs.size, l] := by
          rw [Heap.size_push]; simp only [List.mem_cons, List.mem_singleton, List.not_mem_nil, or_false, not_or]
          exact ⟨Nat.ne_of_lt (Nat.lt_succ_self _), Nat.ne_of_gt hlS⟩
        have hval : ∀ (i : Nat) (v : Value), items[i]? = some v → ∃ t, v = .str ((fun i => ns.getD i Str.empty) i) t := fun i v hv =>
          strs_at hi i v (by rw [Array.getElem?_toList]; exact hv)
        refine upd_loop ((Walks.list hh3 _ l hneI items).toS) s.heap.objs.size
          hSf (fun i => ns.getD i Str.empty) hval hb (items.size - 0) 0 _ (by omega) (Nat.zero_le _)
          ⟨⟨_, Heap.get?_push_size _ rfl, rfl, rfl⟩, (hl1.push _)⟩ ?hS0 ?hR
        case hS0 =>
          have hget : ((s.heap.push { cls := .type "set", dict := none, data := .set #[] 0 (.fresh 0 0 led) }).push { cls := .type "list_iterator", data := .fields #[.ref l, .int 0 0] }).get? s.heap.objs.size
              = some { cls := .type "set", dict := none, data := .set #[] 0 (.fresh 0 0 led) } := Heap.get?_push_of_some _ hS
          exact SetOf_congr ((setObjOf_fresh (knd := PySem.strKind prog w) led).setOf hget (by unfold scanBound; omega)) (fun _ => rfl) rfl
        case hR =>
          intro s' hm hS'
          obtain ⟨h', g', d', tk', os'⟩ := s'
          have eg : g' = s.gens := hm.gens
          have ed : d' = s.drawn := hm.drawn
          have eo : os' = s.os := hm.os
          subst eg; subst ed; subst eo
          show wpAny _ _ _ _ _ _
          refine wpAny_pure ?_
          show wpAny _ _ (ret Value.none) _ _ _
          refine wpAny_pure ⟨rfl, h', tk', rfl, hS', fun b o hb e => ?_⟩
          have hb1 : b ≠ s.heap.objs.size := Nat.ne_of_lt hb
          have hb2 : b ≠ (s.heap.push { cls := .type "set", dict := none, data := .set #[] 0 (.fresh 0 0 led) }).objs.size := by
            rw [Heap.size_push]; exact Nat.ne_of_lt (Nat.lt_succ_of_lt hb)
          exact hm.heap b o (by simp only [List.mem_cons, List.mem_singleton, List.not_mem_nil, or_false, not_or]; exact ⟨hb1, hb2⟩) (Heap.get?_push_of_some _ (Heap.get?_push_of_some _ e))

      · cases r₂ with
        | error e => exact hr₂
        | ok fl₂ =>
          cases fl₂ with
          | ret r =>
            obtain ⟨rfl, h', tk, rfl, hS', hk'⟩ := hr₂
            repeat (any_goals (first | assumption | wp_step))
            exact h _ _ hS' hk'
          | _ => exact hr₂.elim
    | _ => exact hr.elim
end
end St

end

section
set_option Elab.async false
set_option linter.all false
set_option maxRecDepth 100000
set_option maxHeartbeats 4000000
namespace St
open PySem PySem.Spec PyProof.Rows
section
variable {prog : Program} {w : World} {A : Around} {E : Value → Shared → Prop} {s : Shared} {a : Addr} {ep : Nat} {t : SetTable}
end
end St
namespace L2
open PySem PySem.Spec PyProof.Rows
end L2

end

section
set_option Elab.async false
set_option linter.all false
set_option maxRecDepth 100000
set_option maxHeartbeats 4000000
namespace M
open PySem L2
theorem hu2_of {A : Around} {k : Nat} (hr : Room k A) : A.units + 200 < cLine := by
  have := hr.un
  omega
theorem KIn.look {ks : List Kn} (wf : KWf ks) {m : Nat} {x : Str} (h : KIn ks m x) : (x = S "num" ∧ kAt ks x = none) ∨ ∃ j k, m = j + 1 ∧ kAt ks x = some k ∧ k.name = x ∧ k ∈ ks ∧ ∀ p ∈ k.parts, KIn ks j p.2 := by
  rcases h with rfl | ⟨j, k, hj, hk, rfl⟩
  · exact .inl ⟨rfl, wf.num⟩
  · refine .inr ⟨m - 1, k, by omega, wf.at hk, rfl, List.mem_of_getElem? hk, fun p hp => ?_⟩
    rcases wf.ref j k hk p hp with z | ⟨i, k2, hi, z⟩
    · exact .inl z
    · exact .inr ⟨i, k2, by omega, z⟩
end M

end

section
set_option Elab.async false
set_option linter.all false
set_option maxRecDepth 100000
set_option maxHeartbeats 4000000
namespace M
open PySem L2
end M

end

section
set_option Elab.async false
set_option linter.all false
set_option maxRecDepth 100000
set_option maxHeartbeats 4000000
namespace M
open PySem L2
theorem szF_eq {ks : List Kn} {k : Kn} {x : Str} (h : kAt ks x = some k) (n : Nat) : szF (n + 1) ks x = 1 + (if k.rc = true then (k.parts.map fun p => szF n ks p.2).sum else maxD (k.parts.map fun p => szF n ks p.2)) := by
  conv => lhs; unfold szF
  rw [h]
theorem szF_num {ks : List Kn} {x : Str} (h : kAt ks x = none) : ∀ n, szF n ks x = 1
  | 0 => rfl
  | n + 1 => by conv => lhs; unfold szF
                rw [h]
theorem szF_deep {ks : List Kn} (w : KWf ks) (j : Nat) : ∀ (x : Str), KIn ks j x → ∀ n, j + 1 ≤ n → szF n ks x = szF (j + 1) ks x := by
  induction j with
  | zero =>
    intro x h n hn
    rcases h.look w with ⟨rfl, e⟩ | ⟨i, k, e0, _⟩
    · rw [szF_num e, szF_num e]
    · cases e0
  | succ j ih =>
    intro x h n hn
    rcases h.look w with ⟨rfl, e⟩ | ⟨i, k, e0, e, _, _, hp⟩
    · rw [szF_num e, szF_num e]
    · cases e0
      obtain ⟨m, rfl⟩ : ∃ m, n = m + 1 := ⟨n - 1, by omega⟩
      have this : (k.parts.map fun p => szF m ks p.2) = k.parts.map fun p => szF (j + 1) ks p.2 := List.map_congr_left fun p hp' => ih p.2 (hp p hp') m (by omega)
      rw [szF_eq e, szF_eq e, this]
/-- the size of a kind -/
def sz (ks : List Kn) (x : Str) : Int := szF 7 ks x
theorem sz_num {ks : List Kn} (w : KWf ks) : sz ks (S "num") = 1 := szF_num w.num _
theorem sz_ge {ks : List Kn} (w : KWf ks) (x : Str) : 1 ≤ sz ks x := (szF_bound w.pts 7 x).1
def inSz (k : Kn) (f : Str → Int) : Int := if k.rc = true then (k.parts.map fun p => f p.2).sum else maxD (k.parts.map fun p => f p.2)
theorem inSz_congr {k : Kn} {f g : Str → Int} (h : ∀ p ∈ k.parts, f p.2 = g p.2) : inSz k f = inSz k g := by
  unfold inSz
  rw [List.map_congr_left (g := fun p => g p.2) h]
theorem sz_at {ks : List Kn} (w : KWf ks) {i : Nat} {k : Kn} (h : ks[i]? = some k) : sz ks k.name = 1 + inSz k (sz ks) := by
  have hf := w.few
  have hi : i < ks.length := (List.getElem?_eq_some_iff.mp h).1
  show szF 7 ks k.name = _
  rw [szF_eq (w.at h)]
  show 1 + inSz k (szF 6 ks) = _
  rw [inSz_congr (g := sz ks)]
  intro p hp
  have hin : KIn ks 5 p.2 := KIn.mono (n := i) (w.ref i k h p hp) (by omega)
  exact (szF_deep w 5 p.2 hin 7 (by omega)).symm
theorem kAt_ap {ks more : List Kn} {x : Str} {k : Kn} (h : kAt ks x = some k) : kAt (ks ++ more) x = some k := by
  unfold kAt at h ⊢
  rw [List.find?_append, h]
  rfl
theorem szF_ap {ks more : List Kn} (w : KWf ks) (w2 : KWf (ks ++ more)) : ∀ (n : Nat) (x : Str), KIn ks ks.length x → szF n (ks ++ more) x = szF n ks x
  | 0, _, _ => rfl
  | n + 1, x, h => by
    rcases h.look w with ⟨rfl, e⟩ | ⟨i, k, e0, e, _, _, hp⟩
    · rw [szF_num e, szF_num w2.num]
    · rw [szF_eq e, szF_eq (kAt_ap e), List.map_congr_left (g := fun p => szF n ks p.2) fun p hp' => szF_ap w w2 n p.2 ((hp p hp').mono (by omega))]
theorem sz_ap {ks more : List Kn} (w : KWf ks) (w2 : KWf (ks ++ more)) {x : Str} (h : KIn ks ks.length x) : sz (ks ++ more) x = sz ks x := szF_ap w w2 7 x h
/-- no kind too great -/
def Fit (ks : List Kn) : Prop := ∀ k ∈ ks, sz ks k.name ≤ 30
theorem Fit.nil : Fit [] := fun _ h => nomatch h
theorem Fit.snoc {ks : List Kn} {k : Kn} (w : KWf ks) (w2 : KWf (ks ++ [k])) (f : Fit ks) (hp : ∀ p ∈ k.parts, KIn ks ks.length p.2) (hb : inSz k (sz ks) ≤ 29) : Fit (ks ++ [k]) := by
  intro z hz
  rcases List.mem_append.mp hz with hz | hz
  · rw [sz_ap w w2 (KIn.of (.inr ⟨z, hz, rfl⟩))]
    exact f z hz
  · rw [List.mem_singleton.mp hz, sz_at w2 (i := ks.length) (by simp), inSz_congr (g := sz ks) fun p hp' => sz_ap w w2 (hp p hp')]
    omega
end M

end

section
set_option Elab.async false
set_option linter.all false
set_option maxRecDepth 100000
set_option maxHeartbeats 4000000
namespace M
open PySem L2
end M

end

section
set_option Elab.async false
set_option linter.all false
set_option maxRecDepth 100000
set_option maxHeartbeats 4000000
namespace M
open PySem L2
end M

end

section
set_option Elab.async false
set_option linter.all false
set_option maxRecDepth 100000
set_option maxHeartbeats 4000000
namespace M
open PySem L2
end M

end

section
set_option Elab.async false
set_option linter.all false
set_option maxRecDepth 100000
set_option maxHeartbeats 4000000
namespace Nt
open PySem
section
variable {prog : Program} {w : World} {A : Around} {E : Value → Shared → Prop} {s : Shared}
end
section
variable {prog : Program} {w : World} {A : Around} {E : Value → Shared → Prop} {s : Shared}
end
end Nt

end

section
set_option Elab.async false
set_option linter.all false
set_option maxRecDepth 100000
set_option maxHeartbeats 4000000
namespace L2
open PySem PySem.Spec PyProof.Rows
section
variable {X : Cx}
end
end L2

end

section
set_option Elab.async false
set_option linter.all false
set_option maxRecDepth 100000
set_option maxHeartbeats 1000000
namespace L2
open PySem PySem.Spec PySem.W PySem.Calls PyProof.Rows
open Builtin Builtin.ObjectAttr

section
variable {prog : Program} {w : World} {A : Around} {E : Value → Shared → Prop} {s : Shared} {K : Frag} {x C : Addr} {ox : Obj} {od : Option Obj} {name : Str}

end

section
variable {prog : Program} {w : World} {A : Around} {E : Value → Shared → Prop} {h : Heap} {g : Array GenState} {d : Drawn} {t : Nat} {os : OsState}
variable {nm q : Str} {C N : Addr} {bs bm bmB : List Value} {hdct : Bool} {sn : List Str} {sub : List Value} {ab : Bool} {col : Option Bool} {dd : Option Addr} {k0 k1 k2 k3 k5 : Option Value} {B newId initId : String}

end
end L2

end

section
set_option Elab.async false
set_option linter.all false
set_option maxRecDepth 100000
set_option maxHeartbeats 1000000
namespace L2
open PySem PySem.Spec PySem.W PySem.Calls PyProof.Rows
open Builtin Builtin.ObjectAttr

section
variable {prog : Program} {w : World} {A : Around} {E : Value → Shared → Prop} {h : Heap} {g : Array GenState} {d : Drawn} {t : Nat} {os : OsState} {K : Frag} {x C t0 : Addr} {name : Str} {v : Value} {bmB : List Value} {newId : String} {B sa owner : String}

end
end L2

end

section
set_option Elab.async false
set_option linter.all false
set_option maxRecDepth 100000
set_option maxHeartbeats 1000000
namespace L2
open PySem PySem.Spec PyProof.Rows

section
variable {X : Cx} {pins : List (Addr × Obj)} {σ : St} {H : Hp} {s : Shared} {C : Addr} {Q : VK} {us : List Value} {vs : List V} {CX : CXT} {k : Nat} {f : Addr} {fd : FuncData} {ps : List Str} {sp : Sp} {E : XK}

variable {x : Str} {p pos : Pos} {e : Expr} {es : List Expr} {t : TA}
variable {o value : Expr} {fl : Str} {pos' : Pos} {ta tv : TE}
end
end L2

end

section
set_option Elab.async false
set_option linter.all false
set_option maxRecDepth 100000
set_option maxHeartbeats 1000000
namespace L2
open PySem PySem.Spec PyProof.Rows
section
variable {X : Cx} {pins : List (Addr × Obj)} {σ : St} {H : Hp} {s : Shared} {h' : Heap}
end
end L2

end

section
set_option Elab.async false
set_option linter.all false
set_option maxRecDepth 100000
set_option maxHeartbeats 1000000
namespace L2
open PySem PySem.Spec PyProof.Rows
section
variable {X : Cx}
def rNeL (K : PySem.W.Frag) : R2 := fun x y H Q => ∃ a b xs ys, x = .ref a ∧ y = .ref b ∧ SqL K H a xs ∧ SqL K H b ys ∧ xs.all flatV = true ∧ ys.all flatV = true ∧ Q (.bl (!eqVs xs ys)) H
theorem op_neL (hu : X.A.units < cLine) : OpR X (compareOp .NotEq) (rNeL X.K) := by
  intro pins s σ H x y v u Q I rx ry h
  obtain ⟨a, b, xs, ys, rfl, rfl, ha, hb, fa, fb, q⟩ := h
  cases rx
  cases ry
  obtain ⟨its, r1, p1, _⟩ := I.list ha
  obtain ⟨its2, r2, p2, _⟩ := I.list hb
  have l1 := r1.length
  have l2 := r2.length
  by_cases hl : xs.length = ys.length
  · refine PySem.EqBoolInt.of_rcne (SeqAt.RcNeAt.lists (e := fun i => eqV (xs.getD i .non) (ys.getD i .non)) p1.isList p2.isList (by simp only [List.size_toArray]; omega) hu fun j h1 h2 => ?_) ⟨.bl _, H, I, rfl, ?_⟩
    · have j1 : j < xs.length := by simp only [List.size_toArray] at h1; omega
      have j2 : j < ys.length := by simp only [List.size_toArray] at h2; omega
      obtain ⟨u1, e1, q1⟩ := r1.get (i := j) (x := xs[j]) (List.getElem?_eq_getElem j1)
      obtain ⟨u2, e2, q2⟩ := r2.get (i := j) (x := ys[j]) (List.getElem?_eq_getElem j2)
      have g1 : its.toArray[j] = u1 := by
        have : its[j]? = some its[j] := List.getElem?_eq_getElem (by omega)
        rw [e1] at this
        simpa using (Option.some.inj this).symm
      have g2 : its2.toArray[j] = u2 := by
        have : its2[j]? = some its2[j] := List.getElem?_eq_getElem (by omega)
        rw [e2] at this
        simpa using (Option.some.inj this).symm
      rw [g1, g2, List.getD_eq_getElem?_getD, List.getD_eq_getElem?_getD, List.getElem?_eq_getElem j1, List.getElem?_eq_getElem j2]
      exact eqAt_V q1 q2 (List.all_eq_true.mp fa _ (List.getElem_mem j1)) (List.all_eq_true.mp fb _ (List.getElem_mem j2))
    · rw [List.size_toArray, ← l1, eqVs_range hl]
      exact q
  · refine PySem.EqBoolInt.of_rcne (SeqAt.RcNeAt.lists_lengths p1.isList p2.isList (by simp only [List.size_toArray]; simp; omega) hu) ⟨.bl _, H, I, rfl, ?_⟩
    rw [eqVs_len hl] at q
    exact q
end

section
variable {X : Cx} {n : Nat} {x : Str} {C : Addr} {ps : List Str} {sp : Sp} {e : Expr} {es : List Expr} {p pos : Pos} {t : TA}
end
end L2

end

section
set_option Elab.async false
set_option linter.all false
set_option maxRecDepth 100000
set_option maxHeartbeats 4000000
namespace L2
open PySem PySem.Spec PyProof.Rows M
section
variable {X : Cx}
/-- t + u, whatever is empty -/
def rCatT0 (K : PySem.W.Frag) : R2 := fun x y H Q => ∃ a b xs ys, x = .ref a ∧ y = .ref b ∧ SqT K H a xs ∧ SqT K H b ys ∧ xs.length + ys.length ≤ sizeLine ∧
  (xs = [] → Q (.ref b) H) ∧ (xs ≠ [] → ys = [] → Q (.ref a) H) ∧ (xs ≠ [] → ys ≠ [] → ∀ p, H p = none → Q (.ref p) (upd H p (.tup (xs ++ ys))))
theorem op_catT0 : OpR X (binaryOp .Add) (rCatT0 X.K) := by
  intro pins s σ H x y v u Q I rx ry h
  obtain ⟨a, b, xs, ys, rfl, rfl, ha, hb, hz, q0, q1, q2⟩ := h
  by_cases hx : xs = []
  · cases rx
    cases ry
    obtain ⟨its, r1, p1, _⟩ := I.tuple ha
    obtain ⟨its2, r2, p2, _⟩ := I.tuple hb
    obtain ⟨⟨cls, dd, data, sl⟩, ho, hc, n, hd⟩ := id p1
    obtain ⟨⟨cls2, dd2, data2, sl2⟩, ho2, hc2, n2, hd2⟩ := id p2
    simp only at hc hd hc2 hd2
    subst hc hd hc2 hd2
    exact concat_meets ⟨_, ho, rfl⟩ ⟨_, ho2, rfl⟩ noFill_tuple_add seq_tuple_add PySem.F.slot_tuple_add PySem.F.entry_tuple_add (PySem.F.args_tuple_add_2 _ _)
      (tuple_addW0 a b its.toArray its2.toArray n n2 dd dd2 sl sl2 (by rw [r1.nil_iff.mpr hx]; rfl)) ⟨ho, ho2, ⟨.ref b, H, I, rfl, q0 hx⟩⟩
  · exact op_catT pins s σ H _ _ v u Q I rx ry ⟨a, b, xs, ys, rfl, rfl, ha, hb, hx, hz, q1 hx, q2 hx⟩
end
section
variable {ix : Cap} {tt : TT} {te : TE} {g : TG} {σ : St} {H : Hp} {Q : VK}
end
end L2

end

section
set_option Elab.async false
set_option linter.all false
set_option maxRecDepth 100000
set_option maxHeartbeats 4000000
namespace L2
open PySem PySem.Spec PyProof.Rows
theorem is_kV {P : Program} {w : World} {k : Key} {v : Value} (h : (mixKind P w).is k v = true) : RelV (kV k) v := by
  cases k with
  | inl i =>
    have h' : Value.isInt i v = true := h
    unfold Value.isInt at h'
    split at h' <;> simp_all [RelV, kV]
  | inr x =>
    have h' : Value.isStrOf x v = true := h
    unfold Value.isStrOf at h'
    split at h' <;> simp_all [RelV, kV]
theorem vals_of : ∀ {xs : List V} {us : List Value}, xs.length = us.length → (∀ (i : Nat) x u, xs[i]? = some x → us[i]? = some u → RelV x u) → Vals xs us
  | [], [], _, _ => .nil
  | [], _ :: _, h, _ => by simp at h
  | _ :: _, [], h, _ => by simp at h
  | x :: xs, u :: us, h, k => .cons (k 0 x u rfl rfl) (vals_of (by simpa using h) fun i y w hy hw => k (i + 1) y w (by simpa using hy) (by simpa using hw))
theorem KV.get {κ : Type} {kvs : List (κ × V)} {vs : List (κ × Value)} (r : KV kvs vs) {i : Nat} {p : κ × V} {q : κ × Value} (hp : kvs[i]? = some p) (hq : vs[i]? = some q) : p.1 = q.1 := by
  unfold KV at r
  induction r generalizing i with
  | nil => simp at hp
  | cons h t ih =>
    cases i with
    | zero =>
      simp at hp hq
      subst hp hq
      exact h.1
    | succ i => exact ih (by simpa using hp) (by simpa using hq)
section
variable {X : Cx}
/-- list(d): its keys -/
theorem call_listD (hc : X.calm = true) : CallR X (.type "list") (fun xs H Q => ∃ a, ∃ kvs : List (Key × V), xs = [V.ref a] ∧ H a = some (.dK kvs) ∧ ∀ l, H l = none → Q (.ref l) (upd H l (.lst (kvs.map fun kv => kV kv.1)))) := by
  intro pins s σ H xs us Q I r h
  obtain ⟨a, kvs, rfl, ha, q⟩ := h
  obtain ⟨u, rfl, ru⟩ := vals1 r
  cases ru
  obtain ⟨z, hd, vs, rel, dd⟩ := dk_of I.hok ha
  obtain ⟨ep, hat⟩ := dd.dictAt
  have hl := rel.length
  refine PySem.W.kdl_call (PySem.W.kdl_dict hd) (I.ok.hd hc) hat (by rw [← hl]; exact z) fun h' tk acc' c' hk hD hacc => ?_
  refine ⟨.ref s.heap.objs.size, _, I.laid hk (Nat.le_refl _) (o := .lst (kvs.map fun kv => kV kv.1)) ⟨by rw [List.length_map]; exact z, acc'.toList, c', ?_, by simpa using hD⟩, rfl, q _ (I.hok.fresh (Nat.le_refl _))⟩
  refine vals_of (by have := hacc.1; rw [List.length_map]; simp only [Array.length_toList]; omega) fun i x u hx hu => ?_
  rw [List.getElem?_map] at hx
  obtain ⟨p, hp, rfl⟩ := Option.map_eq_some_iff.mp hx
  obtain ⟨k, y, hky, hk'⟩ := hacc.2 i u (by rw [← Array.getElem?_toList]; exact hu)
  have e : p.1 = k := KV.get rel hp hky
  rw [e]
  exact is_kV hk'
end
end L2

end

section
set_option Elab.async false
set_option linter.all false
set_option maxRecDepth 100000
set_option maxHeartbeats 4000000
namespace Rv
open PySem PySem.Spec PyProof.Rows PySem.W
section
variable {prog : Program} {w : World} {A : Around} {E : Value → Shared → Prop} {s : Shared} {I l S : Addr} {items : Array Value}
end
end Rv
namespace L2
open PySem PySem.Spec PyProof.Rows
end L2

end

section
set_option Elab.async false
set_option linter.all false
set_option maxRecDepth 100000
set_option maxHeartbeats 4000000
namespace St
open PySem PySem.Spec PyProof.Rows
theorem met_nodup {ns : List Str} (nd : ns.Nodup) : ∀ i, i ≤ ns.length → met (fun i => ns.getD i Str.empty) i = ns.take i
  | 0, _ => rfl
  | i + 1, h => by
    rw [met_succ, met_nodup nd i (by omega)]
    have e : ns.getD i Str.empty = ns[i] := by simp [List.getD, List.getElem?_eq_getElem (show i < ns.length by omega)]
    show step_dedup (ns.take i) (ns.getD i Str.empty) = _
    rw [e]
    unfold step_dedup
    rw [if_neg, List.take_add_one, List.getElem?_eq_getElem (show i < ns.length by omega)]
    · rfl
    · intro hc
      obtain ⟨x, hx, he⟩ := List.any_eq_true.mp hc
      have he' : x = ns[i] := by simpa using he
      subst he'
      obtain ⟨j, hj, hje⟩ := List.getElem_of_mem hx
      rw [List.length_take] at hj
      rw [List.getElem_take] at hje
      have := (List.getElem_inj nd).mp hje
      omega
end St
namespace L2
open PySem PySem.Spec PyProof.Rows
theorem strs_are : ∀ {ns : List Str} {us : List Value}, Vals (ns.map V.str) us → StrsAre us ns
  | [], _, h => by cases h; exact .nil
  | x :: r, _, h => by
    cases h with
    | cons a b =>
      obtain ⟨t, rfl⟩ := a
      constructor; exact strs_are b
/-- len(set(e)), e a list of texts, none twice -/
def tLenSet (te : TE) : TE := fun σ H Q => te σ H fun x H1 => ∃ p, ∃ ns : List Str, x = .ref p ∧ H1 p = some (.lst (ns.map V.str)) ∧ ns.Nodup ∧ ns.length ≤ 1000 ∧ Q (.int ns.length) H1
theorem pe_lenSet {X : Cx} {e : Expr} {te : TE} {p1 p2 q1 q2 : Pos} (hc : X.calm = true) (hg1 : Gl X "len") (hm1 : X.mg "len" = none) (hg2 : Gl X "set") (hm2 : X.mg "set" = none) (he : PE X e te)
    (hs2 : starEach [e] X.env = [(false, eval e X.env)] := by rfl)
    (hs1 : starEach [Expr.Call (.Name "set" p2) [e] [] q2] X.env = [(false, eval (.Call (.Name "set" p2) [e] [] q2) X.env)] := by rfl) :
    PE X (.Call (.Name "len" p1) [.Call (.Name "set" p2) [e] [] q2] [] q1) (tLenSet te) := by
  intro pins s σ H Q I h
  refine wpAny_Call_Name_kw (ld_blt I hg1 hm1 PySem.boot_len ?_ (by decide) (by decide))
  refine PyProof.Rows.callWith_builtin1 ?_ hs1 rfl
  rw [hs1]
  refine Calls.spliced_cons ?_
  refine wpAny_Call_Name_kw (ld_blt I hg2 hm2 PyProof.Rows.boot_set ?_ (by decide) (by decide))
  refine PyProof.Rows.callWith_type1 (thn ((pa_cons he pa_nil hs2) q2 pins s σ H (fun vs H1 => match vs with
    | [x] => ∃ p, ∃ ns : List Str, x = .ref p ∧ H1 p = some (.lst (ns.map V.str)) ∧ ns.Nodup ∧ ns.length ≤ 1000 ∧ Q (.int ns.length) H1
    | _ => False) I h) fun us s1 ⟨vs, H1, I1, r1, q⟩ => ?_) hs2 rfl
  match vs, r1, q with
  | [x], r1, q =>
    obtain ⟨p, ns, rfl, hp, hnd, hle, q⟩ := q
    obtain ⟨u, rfl, ru⟩ := vals1 r1
    cases ru
    obtain ⟨its, rv, pl, hz⟩ := I1.list (SqL.of (K := X.K) hp)
    have hlen : ns.length = its.length := by have := rv.length; rw [List.length_map] at this; exact this
    refine St.call_set_strs (ns := ns) (I.ok.hd hc) pl.isList (by simpa using strs_are rv) (by show its.toArray.size + 1 < 4096; rw [List.size_toArray]; omega) fun h2 tk hS hk => Calls.spliced_nil ?_
    obtain ⟨o, es, ep, t, ho, hex, hd, _, _, _, hf, hsz⟩ := hS
    have hsz' : es.size = ns.length := by
      rw [hsz]
      show (St.met _ _).length = _
      have : its.toArray.size = ns.length := by simp [hlen]
      rw [this, St.met_nodup hnd _ (Nat.le_refl _), List.take_length]
    refine call_len_set ho hex hd hf (by rw [hsz']; omega) ⟨.int ns.length, H1, ?_, ⟨_, by rw [hsz']⟩, q⟩
    exact I1.kept fun b u eb => hk b u (Heap.lt_size eb) eb
/-- is not True -/
theorem op_notT {X : Cx} : OpR X (compareOp .IsNot) (fun x y H Q => y = .bl true ∧ ∃ b, x = .bl b ∧ Q (.bl (!b)) H) := by
  intro pins s σ H x y v u Q I rx ry h
  obtain ⟨rfl, b, rfl, q⟩ := h
  cases rx
  cases ry
  cases b <;> exact wpAny_pure (fin_bl I q rfl)
end L2

end

section
set_option Elab.async false
set_option linter.all false
set_option maxRecDepth 100000
set_option maxHeartbeats 4000000
namespace L2
open PySem PySem.Spec PyProof.Rows M
section
variable {X : Cx}
end
end L2
namespace HT
open PySem PySem.Spec PyProof.Rows L2
section
variable {prog : Program} {w : World} {A : Around} {E : Value → Shared → Prop} {s : Shared}
end
end HT
namespace L2
open PySem PySem.Spec PyProof.Rows M
section
variable {X : Cx}
end
end L2

end

section
set_option Elab.async false
set_option linter.all false
set_option maxRecDepth 100000
set_option maxHeartbeats 4000000
namespace PySem
open Sem (wp)
section
variable {prog : Program} {w : World} {A : Around} {E : Value → Shared → Prop} {s : Shared}
/-- a list has no such attribute -/
theorem getAttrQ_miss_list {a : Addr} {xs : Array Value} {k : Nat} {sl : Array (Option Value)} {name : Str} {Q : Option Value → Shared → Prop}
    (hx : s.heap.get? a = some { cls := .type "list", dict := none, data := .seq xs k, slots := sl }) (hmiss : typeLookup (.type "list") name = pure none) (hname : (["__module__", "__name__", "__qualname__", "__doc__", "__annotations__"] : List Str).contains name = false) (hA : A.handled = none)
    (h : ∀ h' tk, (∀ b o, s.heap.get? b = some o → h'.get? b = some o) → Q none { s with heap := h', toks := tk }) (hsz : name.length + 100 ≤ sizeLine) :
    wpAny (model prog w) A (getAttr? (.ref a) name) Q E s := by
  obtain ⟨hp, g, d, tk, os⟩ := s
  have hT : ∀ tk', (⟨hp, g, d, tk', os⟩ : Shared).TypeIs (.ref a) "list" := fun _ => ⟨_, hx, rfl⟩
  have f1 := sub_AttributeError
  have f3 := F.slot_list_getattribute.lookup
  have f4 := F.slot_list_getattribute.bind (.ref a)
  have f5 := am_list_getattr_none
  unfold getAttr? getAttrBy? getAttrBy
  repeat (any_goals (first | assumption | exact hT _ | ((with_reducible show wpAny _ _ (call (Value.builtin "list.__getattribute__") _ _) _ _ _); refine call_meets F.slot_list_getattribute (hT _) am_entry_list_getattribute (F.args_list_getattribute_2 _ _) (meets_getattribute_miss_list a xs k sl name _ hmiss hname hsz) ⟨hx, hA, fun h' tk' e hx' => ?_⟩) | wp_step))
  obtain ⟨t', u', he⟩ := hx'.there
  show wpAny _ _ (getattributeRaised _ _ _ _ _ _ _) _ _ _
  unfold getattributeRaised
  repeat (any_goals (first | assumption | wp_step))
  all_goals first | exact h _ _ hx'.keeps | skip
end
end PySem
namespace L2
open PySem PySem.Spec PyProof.Rows
theorem plain_upd_loop : plainId "dict.update.loop" = true := by decide +kernel
theorem entry_upd_loop : entryFor table "dict.update.loop" = some Builtin.«dict.update.loop» := entryFor_of_fast (by kernel_rfl)
section
variable {prog : Program} {w : World} {A : Around} {K : Type} [DecidableEq K] {knd : KeyKind prog w K}
/-- items that are pairs: tuples of a key and a value -/
def PairsAt (knd : KeyKind prog w K) (h : Heap) : List Value → List (K × Value) → Prop
  | [], [] => True
  | it :: its, p :: ps => (∃ a key, it = .ref a ∧ h.IsTuple a #[key, p.2] ∧ knd.is p.1 key = true) ∧ PairsAt knd h its ps
  | _, _ => False
theorem PairsAt.keep {h h' : Heap} : ∀ {its : List Value} {ps : List (K × Value)}, PairsAt knd h its ps → (∀ a xs, h.IsTuple a xs → h'.IsTuple a xs) → PairsAt knd h' its ps
  | [], [], _, _ => trivial
  | it :: its, p :: ps, ⟨⟨a, key, e, ha, hk⟩, r⟩, k => ⟨⟨a, key, e, k _ _ ha, hk⟩, PairsAt.keep r k⟩
  | [], _ :: _, h, _ => h.elim
  | _ :: _, [], h, _ => h.elim
theorem tup_ne_dict {h : Heap} {a d : Addr} {xs : Array Value} {kvs : List (K × Value)} (ht : h.IsTuple a xs) (hd : h.DictOf knd d kvs) : a ≠ d := fun e => by
  subst e
  obtain ⟨o, ho, hc, _⟩ := ht
  obtain ⟨t, _, _, ht2, hx2, _⟩ := hd
  have hc2 := hx2.1
  have : o = t := Option.some.inj (ho.symm.trans ht2)
  subst this
  rw [hc] at hc2
  exact absurd (Value.type.inj hc2) (by decide)
theorem tup_ne_iter {h : Heap} {a I l : Addr} {i : Nat} {xs : Array Value} (ht : h.IsTuple a xs) (hd : h.IsListIter I l i) : a ≠ I := fun e => by
  subst e
  obtain ⟨o, ho, hc, _⟩ := ht
  obtain ⟨t, ht2, hc2, _⟩ := hd
  have : o = t := Option.some.inj (ho.symm.trans ht2)
  subst this
  rw [hc] at hc2
  exact absurd (Value.type.inj hc2) (by decide)
theorem upd_loop {R : Result → Shared → Prop} {I l d : Addr} {its : List Value} {ps : List (K × Value)} (hh : A.in1.handled = none) (hne : l ≠ I) (hdl : l ≠ d) (hdI : I ≠ d) :
    ∀ (k i : Nat) (s : Shared) (cur : List (K × Value)), its.length - i = k → i ≤ its.length → s.heap.IsListIter I l i → s.heap.IsList l its.toArray → s.heap.DictOf knd d cur → PairsAt knd s.heap (its.drop i) (ps.drop i) → cur.length + (its.length - i) ≤ sizeLine →
    (∀ h' tk, h'.DictOf knd d (merged cur (ps.drop i)) → (∀ b o, b ≠ d → b ≠ I → s.heap.get? b = some o → h'.get? b = some o) → R (.ok (.ret .none)) { s with heap := h', toks := tk }) →
    codeAny (model prog w) A (.builtin "dict.update.loop" ⟨[.ref d, .ref I, rawInt i, .none], []⟩) R s := by
  intro k
  induction k with
  | zero =>
    intro i s cur hk hi hit hl hd hp hsz hR
    have hin : i = its.length := by omega
    have W := Walks.list (prog := prog) (w := w) (A := A.in1) hh I l hne its.toArray
    refine codeAny_builtin entry_upd_loop ?_
    rw [Around.under_plainId plain_upd_loop _]
    show wpAny _ A.in1 (pyNext (.ref I) >>= _) _ _ s
    refine wpAny_bind (W.done s _ _ (by have e : its.toArray.size = i := by simp [hin]
                                        rw [e]; exact ⟨hit, hl⟩) fun h' tk hk' => ?_)
    show wpAny _ _ (Builtin.Dict.addKeywords d [] >>= _) _ _ _
    refine wpAny_bind (wpAny_pure (wpAny_pure ?_))
    have hps : ps.drop i = [] := by
      rw [hin, List.drop_length] at hp
      rw [hin]
      cases hq : ps.drop its.length with
      | nil => rfl
      | cons p r => rw [hq] at hp; exact hp.elim
    refine hR h' tk ?_ fun b o hb hbI e => hk' b o (by simpa using hbI) e
    rw [hps]
    exact hd.at fun o e => hk' d o (by simpa using (Ne.symm hdI)) e
  | succ k ih =>
    intro i s cur hk hi hit hl hd hp hsz hR
    have hlt : i < its.length := by omega
    have W := Walks.list (prog := prog) (w := w) (A := A.in1) hh I l hne its.toArray
    have hdi : its.drop i = its[i] :: its.drop (i + 1) := List.drop_eq_getElem_cons hlt
    rw [hdi] at hp
    obtain ⟨p, r, hpe⟩ : ∃ p r, ps.drop i = p :: r := by
      cases hq : ps.drop i with
      | nil => rw [hq] at hp; exact hp.elim
      | cons p r => exact ⟨p, r, rfl⟩
    have hpr : ps.drop (i + 1) = r := by rw [← List.tail_drop, hpe]; rfl
    rw [hpe] at hp
    obtain ⟨⟨a, key, ea, hta, hkey⟩, hrest⟩ := hp
    refine codeAny_builtin entry_upd_loop ?_
    rw [Around.under_plainId plain_upd_loop _]
    show wpAny _ A.in1 (pyNext (.ref I) >>= _) _ _ s
    refine wpAny_bind (W.item i s _ _ (by simpa using hlt) ⟨hit, hl⟩ fun v h' tk hP hst' hk' => ?_)
    have hv : v = .ref a := by
      have : its[i]? = some v := by simpa using hP
      rw [List.getElem?_eq_getElem hlt, ea] at this
      exact (Option.some.inj this).symm
    subst hv
    have hta' : h'.IsTuple a #[key, p.2] := hta.at fun o e => hk' a o (by simpa using tup_ne_iter hta hit) e
    have hd' : h'.DictOf knd d cur := hd.at fun o e => hk' d o (by simpa using (Ne.symm hdI)) e
    obtain ⟨oa, hoa, hca, na, hda⟩ := id hta'
    refine wpAny_bind (wpAny_holding (wpAny_bind (wpAny_tryCatch ?_)))
    unfold Builtin.Dict.pairItems
    refine wpAny_bind (wpAny_typeOf ⟨oa, hoa, hca⟩ ?_)
    rw [if_pos (by decide)]
    refine wpAny_bind (wpAny_seqItems hoa hda (wpAny_pure ?_))
    show wpAny _ _ (holding [key, p.2] (dictSet d key p.2)) _ _ _
    refine wpAny_holding (wpAny_dictSet_pairs hkey hd' (fun h2 hd2 hs2 => ?_) (by omega))
    have st2 : h2.IsListIter I l (i + 1) ∧ h2.IsList l its.toArray := ⟨hst'.1.at fun o e => (hs2.2 I hdI).trans e, hst'.2.at fun o e => (hs2.2 l hdl).trans e⟩
    refine wpAny_pure ⟨plainId_quiet plain_upd_loop _, ih (i + 1) _ _ (by omega) hlt st2.1 st2.2 hd2 ?_ ?_ fun h3 tk3 hd3 hk3 => ?_⟩
    · rw [hpr]
      exact hrest.keep fun b xs hb => by
        have h1 : h'.IsTuple b xs := hb.at fun o e => hk' b o (by simpa using tup_ne_iter hb hit) e
        exact h1.at fun o e => (hs2.2 b (tup_ne_dict h1 hd')).trans e
    · have := stored_length_le cur p.1 p.2
      omega
    · refine hR h3 tk3 ?_ fun b o hb hbI e => hk3 b o hb hbI ((hs2.2 b hb).trans (hk' b o (by simpa using hbI) e))
      rw [hpe]
      rw [hpr] at hd3
      exact hd3
end
end L2

namespace L2
open PySem PySem.Spec PyProof.Rows
theorem list_no_keys : typeLookup (.type "list") "keys" = pure none := am_miss_of_fast (by kernel_rfl)
section
variable {prog : Program} {w : World} {A : Around} {E : Value → Shared → Prop} {s : Shared} {K : Type} [DecidableEq K] {knd : KeyKind prog w K}
/-- dict(l), l a list of pairs -/
theorem dict_of_list {l : Addr} {its : List Value} {n : Nat} {ps : List (K × Value)} {Q : Value → Shared → Prop} (hh : A.handled = none) (hl : s.heap.get? l = some { cls := .type "list", data := .seq its.toArray n }) (hp : PairsAt knd s.heap its ps) (hsz : its.length ≤ sizeLine)
    (h : ∀ h' tk, h'.DictOf knd s.heap.objs.size (merged [] ps) → (∀ b o, s.heap.get? b = some o → h'.get? b = some o) → Q (.ref s.heap.objs.size) { s with heap := h', toks := tk }) :
    wpAny (model prog w) A (call (.type "dict") [.ref l]) Q E s := by
  refine callType_codes (Q₁ := fun obj s₁ => obj = .ref s.heap.objs.size ∧ s₁ = { s with heap := s.heap.push { cls := .type "dict", data := .dict #[] } }) F.kt_called_dict (F.kt_typeCall_dict_1 _) F.entry_dict_init (kt_code_dict_new _ ⟨rfl, rfl⟩) ?_
  rintro obj s₁ ⟨rfl, rfl⟩
  have hnew : (s.heap.push { cls := .type "dict", data := .dict #[] }).DictOf knd s.heap.objs.size [] := Heap.DictOf.new s.heap
  have ext0 : ∀ b o, s.heap.get? b = some o → (s.heap.push { cls := .type "dict", data := .dict #[] }).get? b = some o := fun b o e => Heap.get?_push_of_some _ e
  have hl0 := ext0 _ _ hl
  have hT : (⟨s.heap.push { cls := .type "dict", data := .dict #[] }, s.gens, s.drawn, s.toks, s.os⟩ : Shared).TypeIs (.ref l) "list" := ⟨_, hl0, rfl⟩
  have hdl : l ≠ s.heap.objs.size := fun e => absurd (Heap.lt_size hl) (by rw [e]; exact Nat.lt_irrefl _)
  refine ⟨hnew.typeIs, F.args_dict_init_2 _ _, ?_⟩
  unfold Builtin.«dict.__init__»
  refine wpAny_bind ?_
  unfold Builtin.Dict.selfAndRest
  refine wpAny_bind (wpAny_notOrdered_dict hnew.typeIs ?_)
  show wpAny _ _ (pure (s.heap.objs.size, [Value.ref l])) _ _ _
  refine wpAny_pure ?_
  show wpAny _ _ (Builtin.Dict.updateFrom "dict.__init__" s.heap.objs.size (.ref l) [] .none) _ _ _
  unfold Builtin.Dict.updateFrom
  refine wpAny_bind (wpAny_typeOf hT ?_)
  rw [if_pos (by decide)]
  refine wpAny_bind (getAttrQ_miss_list (sl := #[]) hl0 list_no_keys (by decide +kernel) hh (fun h1 tk1 k1 => ?_) (by decide +kernel))
  rw [if_pos (show (none : Option Value).isNone = true from rfl)]
  refine wpAny_bind (wpAny_rule ?_)
  have hl1 := k1 _ _ hl0
  have hL1 : h1.IsList l its.toArray := ⟨_, hl1, rfl, _, rfl⟩
  refine wpAny_bind (wpAny_pyIter_list hL1 (wpAny_pure ⟨plainId_quiet plain_upd_loop _, ?_⟩))
  have hsz1 : s.heap.objs.size < h1.objs.size := Heap.lt_size (k1 _ _ (Heap.get?_push_size _ rfl))
  have hlI : l < h1.objs.size := Heap.lt_size hl1
  have ext2 : ∀ b o, h1.get? b = some o → (h1.push { cls := .type "list_iterator", data := .fields #[.ref l, .int 0 0] }).get? b = some o := fun b o e => Heap.get?_push_of_some _ e
  refine upd_loop (knd := knd) (A := A.in1) (ps := ps) (l := l) (d := s.heap.objs.size) (its := its) hh (Nat.ne_of_lt hlI) hdl (Nat.ne_of_gt hsz1) its.length 0 _ [] (Nat.sub_zero _) (Nat.zero_le _) ⟨_, Heap.get?_push_size _ rfl, rfl, rfl⟩ (hL1.push _) (hnew.at fun o e => ext2 _ _ (k1 _ _ e)) (hp.keep fun a xs ha => ha.at fun o e => ext2 _ _ (k1 _ _ (ext0 _ _ e))) (by simpa using hsz) fun h3 tk3 hd3 hk3 => ?_
  refine ⟨rfl, h h3 tk3 hd3 fun b o e => hk3 b o ?_ ?_ (ext2 _ _ (k1 _ _ (ext0 _ _ e)))⟩
  · exact fun z => absurd (Heap.lt_size e) (by rw [z]; exact Nat.lt_irrefl _)
  · exact fun z => absurd (Heap.lt_size e) (by rw [z]; exact Nat.not_lt_of_gt hsz1)
end
end L2
namespace L2
open PySem PySem.Spec PyProof.Rows
/-- a list's items: pairs of a key and a thing -/
def PairsV (H : Hp) : List V → List (Key × V) → Prop
  | [], [] => True
  | y :: ys, kv :: kvs => (∃ b, y = .ref b ∧ H b = some (.tup [kV kv.1, kv.2])) ∧ PairsV H ys kvs
  | _, _ => False
theorem PairsV.length {H : Hp} : ∀ {ys : List V} {kvs : List (Key × V)}, PairsV H ys kvs → ys.length = kvs.length
  | [], [], _ => rfl
  | y :: ys, kv :: kvs, ⟨_, r⟩ => by rw [List.length_cons, List.length_cons, PairsV.length r]
  | [], _ :: _, h => h.elim
  | _ :: _, [], h => h.elim
section
variable {X : Cx}
theorem pairs_at {pins : List (Addr × Obj)} {σ : St} {H : Hp} {s : Shared} (I : Inv X pins σ H s) : ∀ {ys : List V} {its : List Value} {kvs : List (Key × V)}, Vals ys its → PairsV H ys kvs → ∃ ps, KV kvs ps ∧ PairsAt (mixKind X.prog X.w) s.heap its ps
  | [], _, [], r, _ => by cases r; exact ⟨[], .nil, trivial⟩
  | y :: ys, _, kv :: kvs, r, ⟨⟨b, eb, hb⟩, rest⟩ => by
    subst eb
    cases r with
    | cons h t =>
      obtain ⟨ps, hk, hp⟩ := pairs_at I t rest
      obtain ⟨its2, r2, p2, _⟩ := I.tuple (SqT.of (K := X.K) hb)
      obtain ⟨u1, u2, rfl, e1, e2⟩ := r2.two
      exact ⟨(kv.1, u2) :: ps, .cons ⟨rfl, e2⟩ hk, ⟨b, u1, h, p2, kV_is e1⟩, hp⟩
  | [], _, _ :: _, _, h => h.elim
  | _ :: _, _, [], _, h => h.elim
/-- dict(l), l a list of pairs -/
theorem call_dictL (hc : X.calm = true) : CallR X (.type "dict") (fun xs H Q => ∃ a ys, ∃ kvs : List (Key × V), xs = [.ref a] ∧ H a = some (.lst ys) ∧ PairsV H ys kvs ∧ ∀ p, H p = none → Q (.ref p) (upd H p (.dK (mergeK [] kvs)))) := by
  intro pins s σ H xs us Q I r h
  obtain ⟨a, ys, kvs, rfl, ha, hp, q⟩ := h
  obtain ⟨u, rfl, ru⟩ := vals1 r
  obtain rfl : u = .ref a := ru
  obtain ⟨hz, its, n, rv, hl⟩ := (show ObjOk X.prog X.w H s.heap a (.lst ys) from I.hok a _ ha)
  obtain ⟨ps, hk, hpa⟩ := pairs_at I rv hp
  have hyl := hp.length
  refine dict_of_list (knd := mixKind X.prog X.w) (I.ok.hd hc) hl hpa (by rw [← rv.length]; exact hz) fun h' tk dd' k' => ?_
  have hz' : (mergeK [] kvs).length ≤ sizeLine := by
    have := length_mergeK kvs []
    rw [List.length_nil] at this
    omega
  exact ⟨.ref s.heap.objs.size, _, I.laid (a := s.heap.objs.size) (o := .dK (mergeK [] kvs)) (t' := tk) k' (Nat.le_refl _) (dk_new hz' (beq_eq_false_iff_ne.mpr (Ne.symm (Nat.ne_of_lt I.big))) (hk.merge .nil) dd'), rfl, q _ (I.hok.fresh (Nat.le_refl _))⟩
end
end L2

end

section
set_option Elab.async false
set_option linter.all false
set_option maxRecDepth 100000
set_option maxHeartbeats 4000000
namespace L2
open PySem PySem.Spec PySem.W PyProof.Rows M
section
variable {X : Cx} {o : Expr} {td : TE} {p1 q1 q2 apos : Pos}
end
section
variable {X : Cx}
end
end L2

end

section
set_option Elab.async false
set_option linter.all false
set_option maxRecDepth 100000
set_option maxHeartbeats 4000000
namespace M
open PySem L2
inductive Vk (ks : List Kn) : Str → D → Prop
  | num (i : Int) (h : Nm i) : Vk ks (S "num") (.int i)
  | rc {x : Str} {k : Kn} {ws : List D} (hk : kAt ks x = some k) (hr : k.rc = true) (hl : ws.length = k.parts.length) (h : ∀ (i : Nat) (w : D) (p : Str × Str), ws[i]? = some w → k.parts[i]? = some p → Vk ks p.2 w) : Vk ks x (.tup [.str x, .tup ws])
  | al {x : Str} {k : Kn} {p : Str × Str} {w : D} (hk : kAt ks x = some k) (hr : k.rc = false) (hp : p ∈ k.parts) (h : Vk ks p.2 w) : Vk ks x (.tup [.str x, .str p.1, w])
theorem vk_num {ks : List Kn} (wf : KWf ks) {x : Str} {v : D} (hx : x = S "num") (h : Vk ks x v) : ∃ i, Nm i ∧ v = .int i := by
  cases h with
  | num i hi => exact ⟨i, hi, rfl⟩
  | rc hk => rw [hx, wf.num] at hk; cases hk
  | al hk => rw [hx, wf.num] at hk; cases hk
theorem vk_rec {ks : List Kn} (wf : KWf ks) {x : Str} {k : Kn} {v : D} (hx : kAt ks x = some k) (hr : k.rc = true) (h : Vk ks x v) : ∃ ws, ws.length = k.parts.length ∧ (∀ (i : Nat) w p, ws[i]? = some w → k.parts[i]? = some p → Vk ks p.2 w) ∧ v = .tup [.str x, .tup ws] := by
  cases h with
  | num i hi => rw [wf.num] at hx; cases hx
  | rc hk hr' hl h =>
    rw [hx] at hk
    cases hk
    exact ⟨_, hl, h, rfl⟩
  | al hk hr' =>
    rw [hx] at hk
    cases hk
    rw [hr] at hr'
    cases hr'
theorem vk_alt {ks : List Kn} (wf : KWf ks) {x : Str} {k : Kn} {v : D} (hx : kAt ks x = some k) (hr : k.rc = false) (h : Vk ks x v) : ∃ p ∈ k.parts, ∃ w, Vk ks p.2 w ∧ v = .tup [.str x, .str p.1, w] := by
  cases h with
  | num i hi => rw [wf.num] at hx; cases hx
  | rc hk hr' =>
    rw [hx] at hk
    cases hk
    rw [hr] at hr'
    cases hr'
  | @al _ _ p w hk hr' hp h =>
    rw [hx] at hk
    cases hk
    exact ⟨p, hp, w, h, rfl⟩
theorem vk_deep {ks : List Kn} (wf : KWf ks) : ∀ (m : Nat) (x : Str) (v : D), KIn ks m x → Vk ks x v → v.deep ≤ 2 * m
  | 0, x, v, hin, h => by
    rcases hin.look wf with ⟨e, _⟩ | ⟨j, k, e, _⟩
    · obtain ⟨i, _, rfl⟩ := vk_num wf e h
      exact Nat.zero_le _
    · cases e
  | m + 1, x, v, hin, h => by
    rcases hin.look wf with ⟨e, _⟩ | ⟨j, k, e, hkx, hn, hm, hp⟩
    · obtain ⟨i, _, rfl⟩ := vk_num wf e h
      exact Nat.zero_le _
    · cases e
      cases hc : k.rc with
      | true =>
        obtain ⟨ws, hl, hw, rfl⟩ := vk_rec wf hkx hc h
        have : deeps ws ≤ 2 * m := deeps_le fun d hd => by
          obtain ⟨i, hi, e⟩ := List.mem_iff_getElem.mp hd
          have hi2 : i < k.parts.length := by omega
          exact vk_deep wf m _ d (hp _ (List.getElem_mem hi2)) (hw i d k.parts[i] (by rw [← e]; exact List.getElem?_eq_getElem hi) (List.getElem?_eq_getElem hi2))
        show max 0 (max (deeps ws + 1) 0) + 1 ≤ 2 * (m + 1)
        omega
      | false =>
        obtain ⟨p, hpp, w, hw, rfl⟩ := vk_alt wf hkx hc h
        have := vk_deep wf m _ w (hp p hpp) hw
        show max 0 (max 0 (max w.deep 0)) + 1 ≤ 2 * (m + 1)
        omega
end M

end

section
set_option Elab.async false
set_option linter.all false
set_option maxRecDepth 100000
set_option maxHeartbeats 4000000
namespace L2
open PySem PySem.Spec PyProof.Rows M
section
variable {X : Cx}
end
section
variable {X : Cx} {a b : Expr} {ta : TA} {p1 p2 q1 q2 : Pos}
end
end L2

end

section
set_option Elab.async false
set_option linter.all false
set_option maxRecDepth 100000
set_option maxHeartbeats 4000000
namespace M
open PySem L2
def byN (j : Nat) : Str := ofL [98, 121, 97 + j]
/-- no name of these -/
def NoBy (x : Str) : Prop := ∀ j : Nat, x ≠ byN j
theorem nb_of {l : List Nat} (h : l[0]? ≠ some 98 ∨ l[1]? ≠ some 121) : NoBy (ofL l) := fun j e => by
  have := congrArg L e
  unfold byN at this
  rw [L_ofL, L_ofL] at this
  subst this
  simp at h
theorem five_ne {c : Nat} (h : c ∈ five) : c ≠ 98 ∧ c ≠ 121 := by
  revert h
  unfold five
  simp
  omega
theorem nmA_nb {cs : List Nat} (h5 : ∀ c ∈ cs, c ∈ five) (a : Nat) (b : Int) (k : Nat) (t : List Nat) (ht : ∀ c ∈ t, c ∈ five) : NoBy (ofL (nmA cs a b k ++ t)) := by
  apply nb_of
  unfold nmA
  cases hcs : cs.take a with
  | nil =>
    right
    rw [List.nil_append, List.cons_append, List.getElem?_cons_succ]
    intro e
    have hm := List.mem_of_getElem? e
    rcases List.mem_append.mp hm with hm | hm
    · exact (five_ne (h5 _ (List.mem_of_mem_drop hm))).2 rfl
    · exact (five_ne (ht _ hm)).2 rfl
  | cons c r =>
    left
    intro e
    simp at e
    have : c ∈ cs.take a := by rw [hcs]; simp
    exact (five_ne (h5 c (List.mem_of_mem_take this))).1 e
theorem nmsA_nb {cs : List Nat} {a : Nat} {b : Int} (h5 : ∀ c ∈ cs, c ∈ five) : ∀ z ∈ ((List.range 26).map fun k => ofL (nmA cs a b k)), NoBy z := fun z hz => by
  obtain ⟨k, _, rfl⟩ := List.mem_map.mp hz
  have := nmA_nb h5 a b k [] (fun _ h => nomatch h)
  rw [List.append_nil] at this
  exact this
theorem nmsB_nb {cs : List Nat} {a : Nat} {b : Int} (h5 : ∀ c ∈ cs, c ∈ five) : ∀ z ∈ ((List.range 26).map fun k => ofL (nmB cs a b k)), NoBy z := fun z hz => by
  obtain ⟨k, _, rfl⟩ := List.mem_map.mp hz
  unfold nmB
  exact nmA_nb h5 a b _ _ fun c hc => by rw [List.eq_of_mem_replicate hc]; decide
end M
namespace M
open PySem L2
end M

end

section
set_option Elab.async false
set_option linter.all false
set_option maxRecDepth 100000
set_option maxHeartbeats 4000000
namespace M
open PySem L2
theorem kd_leaf {ks : List Kn} {n : Nat} {env : En} {d : D} {x : Str} (h : LeafKd env d x) : Kd True ks n env d x := by
  cases n with
  | zero => exact h
  | succ n => exact .inl h
theorem part_at {k : Kn} {p : Str × Str} (nd : (k.parts.map (·.1)).Nodup) (hp : p ∈ k.parts) : partOf k p.1 = some p.2 := by
  unfold partOf
  obtain ⟨i, hi, e⟩ := List.mem_iff_getElem.mp hp
  have := find_nodup (f := fun r : Str × Str => r.1) (xs := k.parts) (i := i) (a := p) nd (by rw [← e]; exact List.getElem?_eq_getElem hi)
  rw [this]
  rfl
theorem NodeKd.mono {cs : Prop} {ks : List Kn} {R R' : RKn} (k : ∀ env d x, R env d x → R' env d x) {env : En} {d : D} {x : Str} (h : NodeKd cs ks R env d x) : NodeKd cs ks R' env d x := by
  rcases h with ⟨s, a, b, h1, h2, r⟩ | ⟨es, kn, h1, h2, h3, r⟩ | ⟨a, k1, f, kn, h1, r⟩ | ⟨t, a, kn, k1, h1, h2, h3, h4, r⟩ | ⟨hc, a, rs, k1, kn, h1, h2, h3, h4, h5, h6, h7, r⟩ | ⟨a, b, c, h1, h2, h3, r⟩
  · exact .inl ⟨s, a, b, k _ _ _ h1, k _ _ _ h2, r⟩
  · exact .inr (.inl ⟨es, kn, h1, h2, h3.imp fun _ _ h => k _ _ _ h, r⟩)
  · exact .inr (.inr (.inl ⟨a, k1, f, kn, k _ _ _ h1, r⟩))
  · exact .inr (.inr (.inr (.inl ⟨t, a, kn, k1, h1, h2, h3, k _ _ _ h4, r⟩)))
  · refine .inr (.inr (.inr (.inr (.inl ⟨hc, a, rs, k1, kn, k _ _ _ h1, h2, h3, h4, h5, h6, fun r hr => ?_, r⟩))))
    obtain ⟨g1, k2, g2, g3⟩ := h7 r hr
    exact ⟨g1, k2, g2, k _ _ _ g3⟩
  · exact .inr (.inr (.inr (.inr (.inr ⟨a, b, c, k _ _ _ h1, k _ _ _ h2, k _ _ _ h3, r⟩))))
def NoMo (x : Str) : Prop := x ≠ S "more"
theorem nm_of {l : List Nat} (h : l[0]? ≠ some 109 ∨ l[1]? ≠ some 111) : NoMo (ofL l) := fun e => by
  have := congrArg L e
  rw [L_ofL, show L (S "more") = [109, 111, 114, 101] by decide +kernel] at this
  subst this
  simp at h
theorem five_nm {c : Nat} (h : c ∈ five) : c ≠ 109 ∧ c ≠ 111 := by
  revert h
  unfold five
  simp
  omega
theorem nmA_nm {cs : List Nat} (h5 : ∀ c ∈ cs, c ∈ five) (a : Nat) (b : Int) (k : Nat) (t : List Nat) (ht : ∀ c ∈ t, c ∈ five) : NoMo (ofL (nmA cs a b k ++ t)) := by
  apply nm_of
  unfold nmA
  cases hcs : cs.take a with
  | nil =>
    right
    rw [List.nil_append, List.cons_append, List.getElem?_cons_succ]
    intro e
    have hm := List.mem_of_getElem? e
    rcases List.mem_append.mp hm with hm | hm
    · exact (five_nm (h5 _ (List.mem_of_mem_drop hm))).2 rfl
    · exact (five_nm (ht _ hm)).2 rfl
  | cons c r =>
    left
    intro e
    simp at e
    have : c ∈ cs.take a := by rw [hcs]; simp
    exact (five_nm (h5 c (List.mem_of_mem_take this))).1 e
theorem nmsA_nm {cs : List Nat} {a : Nat} {b : Int} (h5 : ∀ c ∈ cs, c ∈ five) : ∀ z ∈ ((List.range 26).map fun k => ofL (nmA cs a b k)), NoMo z := fun z hz => by
  obtain ⟨k, _, rfl⟩ := List.mem_map.mp hz
  have := nmA_nm h5 a b k [] (fun _ h => nomatch h)
  rw [List.append_nil] at this
  exact this
theorem nmsB_nm {cs : List Nat} {a : Nat} {b : Int} (h5 : ∀ c ∈ cs, c ∈ five) : ∀ z ∈ ((List.range 26).map fun k => ofL (nmB cs a b k)), NoMo z := fun z hz => by
  obtain ⟨k, _, rfl⟩ := List.mem_map.mp hz
  unfold nmB
  exact nmA_nm h5 a b _ _ fun c hc => by rw [List.eq_of_mem_replicate hc]; decide
end M

end

section
set_option Elab.async false
set_option linter.all false
set_option maxRecDepth 100000
set_option maxHeartbeats 4000000
namespace K45
open PySem L2 M
seal L2.PE L2.PA L2.PS L2.PSs L2.PT L2.PW L2.PI L2.PG L2.PJ L2.PTs
def spNames : Sp := fun vs H Q _ => ∃ c : Int, vs = [.int c, .int 26] ∧ ∀ (b : Addr) (H' : Hp) (nms : List Str), Same H H' → H b = none → H' b = some (.lst (nms.map V.str)) → NmsOk nms → (∀ z ∈ nms, NoBy z ∧ NoMo z) → Q (.ref b) H'
section
variable {P : Program} {w : World} {K : PySem.W.Frag} {mg : Str → Option Value} {base : Heap} {n m : Nat}
theorem ok__law_names (T : Tx K mg) : DefIs P w K mg base (n + 1) "_law_names" ["_law_cell", "_law_many"] spNames := by
  refine DefIs.of T.d__law_names sc__law_names (fun vs H Q E h => ?_) (fun f cdv A outer s H vs Q E hr h => ?_)
  · obtain ⟨_, rfl, _⟩ := h
    rfl
  obtain ⟨c, rfl, k⟩ := h
  have nd := sc__law_names.nd
  refine ⟨_, (pss_cons (ps_set (i := 2) nd rfl (by first | exact Or.inl rfl | exact Or.inr rfl) pe_str)
      (pss_cons (ps_set (i := 3) nd rfl (by first | exact Or.inl rfl | exact Or.inr rfl) (pe_op op_mod (pv 0) pe_int))
      (pss_cons (ps_set (i := 4) nd rfl (by first | exact Or.inl rfl | exact Or.inr rfl) (pe_op op_mod (pe_op op_fdivB (pv 0) pe_int) (pe_op op_add (pv 3) pe_int)))
      (pss_cons (ps_set (i := 5) nd rfl (by first | exact Or.inl rfl | exact Or.inr rfl) (pe_bm PySem.F.plainAttrs_str PySem.F.slot_str_join PySem.F.type_str_join mt_join pe_str (pa_cons (pe_comp ["_law_j", "_law_cell"] [none, some 0] rfl (by kernel_rfl) (pi_range1 rfl T.z_range (pa_cons (pv 3) pa_nil star_name)) (fun _ _ _ _ => (pg_name (i := 0) (by show List.Nodup (["_law_j", "_law_cell"] : List Str); decide +kernel) rfl (Or.inl rfl))) (fun _ _ _ _ => pts_nil) (fun _ _ _ _ => (pe_ix ix_str pe_str (pe_op op_mod (pe_op op_add (pe_op op_fdivB (pv 1) pe_int) (pv 0)) pe_int) (fun _ _ => rfl)))) pa_nil star_comp)))
      (pss_cons (ps_set (i := 6) nd rfl (by first | exact Or.inl rfl | exact Or.inr rfl) (pe_comp ["_law_k", "_law_common", "_law_letters", "_law_at", "_law_cell"] [none, some 5, some 2, some 4, some 0] rfl (by kernel_rfl) (pi_range1 rfl T.z_range (pa_cons (pv 1) pa_nil star_name)) (fun _ _ _ _ => (pg_name (i := 0) (by show List.Nodup (["_law_k", "_law_common", "_law_letters", "_law_at", "_law_cell"] : List Str); decide +kernel) rfl (Or.inl rfl))) (fun _ _ _ _ => pts_nil) (fun _ _ _ _ => (pe_op op_add_str (pe_op op_add_str (pe_slice sl_str (pv 1) po_none (po_some (pv 3))) (pe_ix ix_str (pv 2) (pe_op op_mod (pe_op op_add (pe_op op_fdivB (pv 4) pe_int) (pe_op op_mul pe_int (pv 0))) pe_int) (fun _ _ => rfl))) (pe_slice sl_str (pv 1) (po_some (pv 3)) po_none)))))
      (pss_cons (ps_if (pt_cmpR op_eq (pe_op op_mod (pe_op op_fdivB (pv 0) pe_int) pe_int) pe_int (nomark _)) (pss_one (ps_ret (pv 6))) pss_nil)
      (pss_one (ps_ret (pe_comp ["_law_k", "_law_found"] [none, some 6] rfl (by kernel_rfl) (pi_range1 rfl T.z_range (pa_cons (pv 1) pa_nil star_name)) (fun _ _ _ _ => (pg_name (i := 0) (by show List.Nodup (["_law_k", "_law_found"] : List Str); decide +kernel) rfl (Or.inl rfl))) (fun _ _ _ _ => pts_nil) (fun _ _ _ _ => (pe_op op_add_str (pe_ix (ix_listC (K := K) rfl) (pv 1) (pe_op op_sub (pv 0) (pe_op op_mod (pv 0) pe_int)) (fun _ _ => rfl)) (pe_op op_mulS pe_str (pe_op op_mod (pv 0) pe_int))))))))))))), ?_⟩
  have m0 : 0 ≤ c % 5 := Int.emod_nonneg _ (by decide)
  have m5 : c % 5 < 5 := Int.emod_lt_of_pos _ (by decide)
  refine ⟨_, rfl, _, _, rfl, rfl, (by show (0 : Int) < 5; decide), ?_⟩
  have hp : 0 < (c % 5) + 1 := by omega
  refine ⟨_, rfl, _, _, rfl, rfl, ⟨by decide, by decide⟩, _, rfl, _, _, rfl, rfl, _, _, rfl, rfl, hp, ?_⟩
  have a0 : 0 ≤ c / 5 % ((c % 5) + 1) := Int.emod_nonneg _ (by omega)
  have a1 : c / 5 % ((c % 5) + 1) < (c % 5) + 1 := Int.emod_lt_of_pos _ hp
  refine ⟨rfl, _, rfl, _, rfl, by omega, by omega, ?_⟩
  refine comp_range (j := 0) (fun i ys H' => H' = H ∧ ∃ cs : List Nat, ys = (cs.map single).map V.str ∧ ∀ c ∈ cs, c ∈ five) (by rfl) ⟨rfl, [], rfl, fun _ h => nomatch h⟩ (fitsLt (by omega)) ?_ ?_
  · rintro i ys H' hi hl ⟨rfl, cs, rfl, hcs⟩
    refine ⟨_, rfl, _, _, rfl, rfl, ⟨by decide, by decide⟩, _, rfl, _, _, rfl, rfl, _, _, rfl, rfl, (by show (0 : Int) < 5; decide), ?_⟩
    obtain ⟨ch, hch, hat⟩ := five_at (Int.emod_nonneg (c / 25 + (0 + (i : Int))) (by decide : (5 : Int) ≠ 0)) (Int.emod_lt_of_pos _ (by decide))
    refine ⟨_, _, ch, rfl, rfl, by decide +kernel, hat, ?_⟩
    exact nxt hi hl ⟨rfl, cs ++ [ch], by simp [single], fun x hx => by
      rcases List.mem_append.mp hx with hx | hx
      · exact hcs x hx
      · rw [List.mem_singleton.mp hx]; exact hch⟩
  · rintro ys H' hl ⟨rfl, cs, rfl, hcs⟩ D hD
    rw [List.length_map, List.length_map] at hl
    refine ⟨S "", D, cs.map single, rfl, rfl, SqL.of upd_same, ?_, ?_⟩
    · rw [sum_singles, show (S "").length = 0 by decide +kernel]
      omega
    rw [join_singles]
    have sD := Same.new hD (.lst ((cs.map single).map V.str))
    generalize upd H' D (.lst ((cs.map single).map V.str)) = H1 at sD ⊢
    have hlen : (ofL cs).length = cs.length := by rw [← L_length, L_ofL]
    have c4 : cs.length ≤ 4 := by omega
    -- the names
    refine ⟨_, rfl, _, rfl, by decide, by decide, ?_⟩
    refine comp_range (j := 0) (fun i ys H2 => H2 = H1 ∧ ys = ((List.range i).map fun k => ofL (nmA cs (c / 5 % (c % 5 + 1)).toNat (c / 125) k)).map V.str) (by rfl) ⟨rfl, rfl⟩ (fitsLt (by decide)) ?_ ?_
    · rintro i ys H2 hi hl2 ⟨rfl, rfl⟩
      have e0 : (0 + (i : Int)) = (i : Int) := by omega
      have li0 : 0 ≤ (c / 125 + 5 * (0 + (i : Int))) % 26 := Int.emod_nonneg _ (by decide)
      have li1 : (c / 125 + 5 * (0 + (i : Int))) % 26 < 26 := Int.emod_lt_of_pos _ (by decide)
      refine ⟨_, rfl, _, rfl, _, rfl, _, rfl, fits (by rw [hlen]; omega), ?_⟩
      refine ⟨_, rfl, _, rfl, _, _, rfl, rfl, ⟨by decide, by decide⟩, _, rfl, _, _, rfl, rfl, .inl ⟨by decide, by decide⟩, _, _, rfl, rfl, _, _, rfl, rfl, (by show (0 : Int) < 26; decide), ?_⟩
      refine ⟨_, _, _, rfl, rfl, by decide +kernel, letter_is li0 li1, ?_⟩
      rw [slice_to (ofL cs) a0 (by rw [hlen]; omega)]
      refine ⟨_, _, rfl, rfl, ?_, ?_⟩
      · refine fits ?_
        rw [show (ofL ((L (ofL cs)).take (c / 5 % (c % 5 + 1)).toNat)).length = (cs.take (c / 5 % (c % 5 + 1)).toNat).length by rw [← L_length, L_ofL, L_ofL], List.length_take]
        show _ + 1 ≤ _
        omega
      refine ⟨_, rfl, _, rfl, _, rfl, _, rfl, fits (by rw [hlen]; omega), ?_⟩
      rw [slice_from (ofL cs) a0 (by rw [hlen]; omega), L_ofL]
      refine ⟨_, _, rfl, rfl, ?_, ?_⟩
      · refine fits ?_
        rw [Str.length_append, show (ofL (cs.take (c / 5 % (c % 5 + 1)).toNat)).length = (cs.take (c / 5 % (c % 5 + 1)).toNat).length by rw [← L_length, L_ofL], show (ofL (cs.drop (c / 5 % (c % 5 + 1)).toNat)).length = (cs.drop (c / 5 % (c % 5 + 1)).toNat).length by rw [← L_length, L_ofL], List.length_take, List.length_drop]
        show _ + 1 + _ ≤ _
        omega
      rw [name_text]
      refine nxt hi hl2 ⟨rfl, ?_⟩
      rw [List.range_succ, List.map_append, List.map_append, e0]
      rfl
    · rintro ys H2 hl2 ⟨rfl, rfl⟩ D2 hD2
      have sD2 := Same.new hD2 (.lst (((List.range 26).map fun k => ofL (nmA cs (c / 5 % (c % 5 + 1)).toNat (c / 125) k)).map V.str))
      refine ⟨_, rfl, _, _, rfl, rfl, ⟨by decide, by decide⟩, _, _, rfl, rfl, (by show (0 : Int) < 3; decide), rfl, _, rfl, ite2 (fun cc => ?_) (fun cc => ?_)⟩
      · exact ⟨_, rfl, k D2 _ _ (sD.trans sD2) (none_of_same sD hD2) upd_same (nmsA c4 hcs) (fun z hz => ⟨nmsA_nb hcs z hz, nmsA_nm hcs z hz⟩)⟩
      · refine ⟨_, rfl, _, rfl, by decide, by decide, ?_⟩
        obtain ⟨H3, hH3⟩ : ∃ H3, H3 = upd H2 D2 (.lst (((List.range 26).map fun k => ofL (nmA cs (c / 5 % (c % 5 + 1)).toNat (c / 125) k)).map V.str)) := ⟨_, rfl⟩
        have hb : H3 D2 = some (.lst (((List.range 26).map fun k => ofL (nmA cs (c / 5 % (c % 5 + 1)).toNat (c / 125) k)).map V.str)) := by rw [hH3]; exact upd_same
        rw [← hH3] at sD2
        refine comp_range (j := 0) (fun i ys H4 => H4 = H3 ∧ ys = ((List.range i).map fun k => ofL (nmB cs (c / 5 % (c % 5 + 1)).toNat (c / 125) k)).map V.str) (by rfl) ⟨hH3.symm, rfl⟩ (fitsLt (by decide)) ?_ ?_
        · rintro i ys H4 hi hl3 ⟨rfl, rfl⟩
          have hi' : i < 26 := hi
          have er : (0 + (i : Int)) % 2 = ((i % 2 : Nat) : Int) := by omega
          have es : (0 + (i : Int)) - (0 + (i : Int)) % 2 = ((i - i % 2 : Nat) : Int) := by omega
          refine ⟨_, rfl, _, rfl, _, rfl, _, _, rfl, rfl, (by show (0 : Int) < 2; decide), _, _, rfl, rfl, D2, _, _, .str (ofL (nmA cs (c / 5 % (c % 5 + 1)).toNat (c / 125) (i - i % 2))), rfl, rfl, SqL.of hb, ?_, ?_⟩
          · rw [es]
            refine atI_nat ?_
            rw [List.getElem?_map, List.getElem?_map, List.getElem?_range (by omega)]
            rfl
          refine ⟨_, rfl, _, _, rfl, rfl, (by show (0 : Int) < 2; decide), _, _, rfl, rfl, by omega, ?_⟩
          refine ⟨_, _, rfl, rfl, ?_, ?_⟩
          · refine fits ?_
            rw [show (ofL (nmA cs (c / 5 % (c % 5 + 1)).toNat (c / 125) (i - i % 2))).length = cs.length + 1 by rw [← L_length, L_ofL, nmA_len]]
            have : (if (0 + (i : Int)) % 2 = 1 then S "q" else Str.empty).length ≤ 1 := by split <;> decide +kernel
            show _ + (if (0 + (i : Int)) % 2 = 1 then S "q" else Str.empty).length ≤ _
            omega
          refine nxt hi hl3 ⟨rfl, ?_⟩
          rw [List.range_succ, List.map_append, List.map_append]
          congr 1
          show [V.str _] = [V.str _]
          congr 2
          apply L_inj
          rw [L_append, L_ofL, L_ofL]
          unfold nmB
          congr 1
          rw [er]
          rcases Nat.mod_two_eq_zero_or_one i with e | e
          · rw [e]; decide +kernel
          · rw [e]; decide +kernel
        · rintro ys H4 hl3 ⟨rfl, rfl⟩ D4 hD4
          have sD4 := Same.new hD4 (.lst (((List.range 26).map fun k => ofL (nmB cs (c / 5 % (c % 5 + 1)).toNat (c / 125) k)).map V.str))
          exact k D4 _ _ (sD.trans (sD2.trans sD4)) (none_of_same (sD.trans sD2) hD4) upd_same (nmsB c4 hcs) (fun z hz => ⟨nmsB_nb hcs z hz, nmsB_nm hcs z hz⟩)
end
end K45

end

section
set_option Elab.async false
set_option linter.all false
set_option maxRecDepth 100000
set_option maxHeartbeats 4000000
namespace K45
open PySem L2 M
seal L2.PE L2.PA L2.PS L2.PSs L2.PT L2.PW L2.PI L2.PG L2.PJ L2.PTs
def spLSort : Sp := fun vs H Q _ => ∃ v ks x, vs = [v, .str x] ∧ KsSeq H v ks ∧ ∀ t pv H', Same H H' → H' t = some (.tup [.str (sortS (kAt ks x)), pv]) → RelD H' pv (partsD (kAt ks x)) → Q (.ref t) H'
def spSize (m : Nat) : Sp := fun vs H Q _ => ∃ v ks x, vs = [v, .str x] ∧ KsSeq H v ks ∧ KWf ks ∧ KIn ks m x ∧ ∀ H', Same H H' → Q (.int (szF (m + 1) ks x)) H'
section
variable {P : Program} {w : World} {K : PySem.W.Frag} {mg : Str → Option Value} {base : Heap} {n m : Nat}
theorem ok__law_sort_of (T : Tx K mg) : DefIs P w K mg base (n + 1) "_law_sort_of" ["_law_kinds_here", "_law_kind"] spLSort := by
  refine DefIs.of T.d__law_sort_of sc__law_sort_of (fun vs H Q E h => ?_) (fun f cdv A outer s H vs Q E hr h => ?_)
  · obtain ⟨_, _, _, rfl, _⟩ := h
    rfl
  obtain ⟨v, ks, x, rfl, ⟨a, us, rfl, hau, hR⟩, q⟩ := h
  have nd := sc__law_sort_of.nd
  refine ⟨_, (pss_cons (ps_for PassesOwn.never rfl (pi_or (pi_list (pv 0)) (pi_tup (pv 0))) (pg_tup rfl (pgs_cons (pg_name (i := 2) nd rfl (by first | exact Or.inl rfl | exact Or.inr rfl)) (pgs_cons (pg_name (i := 3) nd rfl (by first | exact Or.inl rfl | exact Or.inr rfl)) (pgs_cons (pg_name (i := 4) nd rfl (by first | exact Or.inl rfl | exact Or.inr rfl)) pgs_nil))))
      (pss_one (ps_if (pt_cmpR op_eq (pv 2) (pv 1) (nomark _)) (pss_one (ps_ret (pe_tup (pa_cons (pv 3) (pa_cons (pv 4) pa_nil star_name) star_name)))) pss_nil)))
      (pss_one (ps_ret (pe_tup (pa_cons pe_str (pa_cons (pe_tup pa_nil) pa_nil star_tup) star_const))))), ?_⟩
  have hl := hR.length
  rw [List.length_map] at hl
  have turn : ∀ (i : Nat) (v : V), us[i]? = some v → (ks.take i).find? (fun k => decide (k.name = x)) = none → ∃ k b pv, ks[i]? = some k ∧ v = .ref b ∧ H b = some (.tup [.str k.name, .str k.sort, pv]) ∧ RelD H pv (dParts k.parts) := fun i v hv hn => by
    obtain ⟨d, hd, rd⟩ := hR.get hv
    rw [List.getElem?_map] at hd
    obtain ⟨k, hk', rfl⟩ := Option.map_eq_some_iff.mp hd
    obtain ⟨b, ws, rfl, hb, _, _, rfl, rfl, _, _, rfl, rfl, v3, _, rfl, r3, rfl⟩ := rd
    exact ⟨k, b, v3, hk', rfl, hb, r3⟩
  rcases hau with ha | ha
  case' inl =>
    refine .inl ⟨_, rfl, a, rfl, ⟨_, SqL.of ha⟩, ?_⟩
    refine for_list (xs := us) (fun i σ H' => ∃ o2 o3 o4, σ = [some (.ref a), some (.str x), o2, o3, o4] ∧ H' = H ∧ (ks.take i).find? (fun k => decide (k.name = x)) = none) ⟨none, none, none, rfl, rfl, rfl⟩ (fun i σ H' _ p => by obtain ⟨_, _, _, _, rfl, _⟩ := p; exact SqL.of ha) ?_ ?_
  case' inr =>
    refine .inr ⟨_, rfl, a, rfl, ⟨_, SqT.of ha⟩, ?_⟩
    refine for_tup (xs := us) (fun i σ H' => ∃ o2 o3 o4, σ = [some (.ref a), some (.str x), o2, o3, o4] ∧ H' = H ∧ (ks.take i).find? (fun k => decide (k.name = x)) = none) ⟨none, none, none, rfl, rfl, rfl⟩ (fun i σ H' _ p => by obtain ⟨_, _, _, _, rfl, _⟩ := p; exact SqT.of ha) ?_ ?_
  all_goals first
    | (rintro i v σ H' hv ⟨o2, o3, o4, rfl, rfl, hn⟩
       obtain ⟨k, b, pv, hk', rfl, hb, r3⟩ := turn i v hv hn
       refine ⟨b, _, rfl, SqT.of hb, rfl, _, _, rfl, _, _, rfl, _, _, rfl, rfl, ?_⟩
       refine ⟨_, rfl, _, rfl, rfl, _, rfl, ite2 (fun c => ?_) (fun c => ?_)⟩
       · have e : k.name = x := V.str.inj (of_decide_eq_true c)
         have e2 : kAt ks x = some k := (find_step hn hk').1 (decide_eq_true e)
         refine ⟨_, rfl, _, rfl, (by show 2 ≤ sizeLine; decide), fun t ht => ?_⟩
         have st := Same.new ht (.tup [.str k.sort, pv])
         rw [e2] at q
         exact q t pv _ st upd_same (r3.same st _)
       · have e : ¬ k.name = x := fun z => c (decide_eq_true (congrArg V.str z))
         exact ⟨_, _, _, rfl, rfl, (find_step hn hk').2 (decide_eq_false e)⟩)
    | (rintro σ H' ⟨o2, o3, o4, rfl, rfl, hn⟩
       rw [List.take_of_length_le (by omega)] at hn
       rw [show kAt ks x = none from hn] at q
       refine ⟨(by show 0 ≤ sizeLine; decide), fun e he => ⟨(by show 2 ≤ sizeLine; decide), fun t ht => ?_⟩⟩
       have se := Same.new he (.tup [])
       have st := Same.new ht (.tup [.str (S "num"), .ref e])
       exact q t (.ref e) _ (se.trans st) upd_same ⟨e, [], rfl, st _ _ upd_same, rfl⟩)
theorem ok__law_size (T : Tx K mg) (spc : Sp) (D__law_sort_of : DefIs P w K mg base n "_law_sort_of" ["_law_kinds_here", "_law_kind"] spLSort) (D__law_size : DefIs P w K mg base n "_law_size" ["_law_kinds_here", "_law_kind"] spc) (hspc : ∀ j, m = j + 1 → spc = spSize j) (hm : m ≤ 6) :
    DefIs P w K mg base (n + 1) "_law_size" ["_law_kinds_here", "_law_kind"] (spSize m) := by
  refine DefIs.of T.d__law_size sc__law_size (fun vs H Q E h => ?_) (fun f cdv A outer s H vs Q E hr h => ?_)
  · obtain ⟨_, _, _, rfl, _⟩ := h
    rfl
  obtain ⟨v, ks, x, rfl, hk, wf, hin, q⟩ := h
  have nd := sc__law_size.nd
  refine ⟨_, (pss_cons (ps_asg (pe_dcall D__law_sort_of hr (pa_cons (pv 0) (pa_cons (pv 1) pa_nil star_name) star_name)) (pg_tup rfl (pgs_cons (pg_name (i := 2) nd rfl (by first | exact Or.inl rfl | exact Or.inr rfl)) (pgs_cons (pg_name (i := 3) nd rfl (by first | exact Or.inl rfl | exact Or.inr rfl)) pgs_nil))))
      (pss_cons (ps_setComp (i := 4) ["_law_name", "_law_part", "_law_kinds_here"] [none, none, some 0] rfl (by kernel_rfl) nd rfl (by first | exact Or.inl rfl | exact Or.inr rfl) (pi_tup (pv 3)) (fun _ _ _ _ => (pg_tupC (K := K) (n := 2) rfl rfl (pgs_cons (pg_name (i := 0) (by show List.Nodup (["_law_name", "_law_part", "_law_kinds_here"] : List Str); decide +kernel) rfl (Or.inl rfl)) (pgs_cons (pg_name (i := 1) (by show List.Nodup (["_law_name", "_law_part", "_law_kinds_here"] : List Str); decide +kernel) rfl (Or.inl rfl)) pgs_nil)))) (fun _ _ _ _ => pts_nil) (fun _ _ _ _ => (pe_dcall D__law_size hr (pa_cons (pv 2) (pa_cons (pv 1) pa_nil star_name) star_name))))
      (pss_cons (ps_if (pt_cmpR op_eq (pv 2) pe_str (nomark _)) (pss_one (ps_ret (pe_op op_add pe_int (pe_callB (call_maxL rfl) rfl T.z_max PyProof.Rows.boot_max (pa_cons (pv 4) pa_nil star_name))))) pss_nil)
      (pss_one (ps_ret (pe_op op_add pe_int (pe_callB (call_sumL rfl) rfl T.z_sum PyProof.Rows.boot_sum (pa_cons (pv 4) pa_nil star_name)))))))), ?_⟩
  refine ⟨_, rfl, _, rfl, v, ks, x, rfl, hk, fun t pv H1 s1 ht rp => ?_⟩
  refine ⟨t, _, rfl, SqT.of ht, rfl, _, _, rfl, _, _, rfl, rfl, ?_⟩
  -- the parts
  have key : ∃ ps : List (Str × Str), partsD (kAt ks x) = dParts ps ∧ ps.length ≤ 5 ∧ (∀ p ∈ ps, ∃ j, m = j + 1 ∧ KIn ks j p.2) ∧ (sortS (kAt ks x) = S "alt" → ps ≠ [] ∧ szF (m + 1) ks x = 1 + maxD (ps.map fun p => szF m ks p.2)) ∧
      (sortS (kAt ks x) ≠ S "alt" → szF (m + 1) ks x = 1 + (ps.map fun p => szF m ks p.2).sum) := by
    cases hx : kAt ks x with
    | none =>
      refine ⟨[], rfl, by decide, (fun _ h => nomatch h), (fun h => absurd h (by decide +kernel)), fun _ => ?_⟩
      unfold szF
      rw [hx]
      rfl
    | some k =>
      have hmem : k ∈ ks := List.mem_of_find?_eq_some hx
      have hname : k.name = x := by
        have := List.find?_some hx
        simpa using this
      refine ⟨k.parts, rfl, wf.pts k hmem, fun p hp => ?_, fun h => ?_, fun h => ?_⟩
      · rcases hin with rfl | ⟨j, k', hj, hk', e⟩
        · exact absurd hname (name_ne_num (wf.nm k hmem))
        · have e2 : kAt ks k'.name = some k' := wf.at hk'
          rw [e, hx] at e2
          cases e2
          refine ⟨m - 1, by omega, ?_⟩
          rcases wf.ref j k hk' p hp with z | ⟨i, k2, hi, z⟩
          · exact .inl z
          · exact .inr ⟨i, k2, by omega, z⟩
      · have hrc : k.rc = false := by
          cases hc : k.rc with
          | false => rfl
          | true =>
            have : k.sort = S "alt" := h
            unfold Kn.sort at this
            rw [hc, if_pos rfl] at this
            exact absurd this (by decide +kernel)
        refine ⟨wf.alt k hmem hrc, ?_⟩
        conv => lhs; unfold szF
        rw [hx]
        show 1 + (if k.rc = true then _ else _) = _
        rw [if_neg (by rw [hrc]; decide)]
      · have hrc : k.rc = true := by
          cases hc : k.rc with
          | true => rfl
          | false =>
            refine absurd ?_ h
            show k.sort = S "alt"
            unfold Kn.sort
            rw [hc, if_neg (by decide)]
        conv => lhs; unfold szF
        rw [hx]
        show 1 + (if k.rc = true then _ else _) = _
        rw [if_pos hrc]
  obtain ⟨ps, eps, h5, hpin, halt, hrec⟩ := key
  rw [eps] at rp
  obtain ⟨e, us, rfl, he, hus⟩ := rp
  have hl := hus.length
  rw [List.length_map] at hl
  refine ⟨_, rfl, e, rfl, ⟨_, SqT.of he⟩, ?_⟩
  refine comp_tupG (xs := us) (fun i ys H' => Same H1 H' ∧ ys = ((ps.take i).map fun p => szF m ks p.2).map V.int) ⟨Same.refl _, rfl⟩ (fitsLt (by omega)) (fun i ys H' _ p => SqT.of (p.1 _ _ he)) ?_ ?_
  · rintro i z ys H' hz hi hly ⟨sm, rfl⟩
    obtain ⟨d, hd, rd⟩ := hus.get hz
    rw [List.getElem?_map] at hd
    obtain ⟨p, hp, rfl⟩ := Option.map_eq_some_iff.mp hd
    obtain ⟨b, ws, rfl, hb, _, _, rfl, rfl, _, _, rfl, rfl, rfl⟩ := rd
    obtain ⟨j, rfl, hj⟩ := hpin p (List.mem_of_getElem? hp)
    have D' := hspc j rfl
    subst D'
    refine ⟨b, _, rfl, SqT.of (sm _ _ hb), rfl, _, _, rfl, _, _, rfl, rfl, ext2 rfl rfl, yes_go ?_⟩
    refine ⟨_, rfl, _, rfl, _, ks, p.2, rfl, hk.same (s1.trans sm), wf, hj, fun H2 s2 => nxtG hi hly ⟨sm.trans s2, ?_⟩⟩
    rw [List.take_add_one, hp]
    simp
  · rintro ys H' hly ⟨sm, rfl⟩ D hD
    rw [List.take_of_length_le (by omega)]
    have sD := Same.new hD (.lst ((ps.map fun p => szF m ks p.2).map V.int))
    have sAll := s1.trans (sm.trans sD)
    have hb : ∀ n ∈ ps.map (fun p => szF m ks p.2), 0 ≤ n ∧ n ≤ 1000000 := fun n hn => by
      obtain ⟨p, _, rfl⟩ := List.mem_map.mp hn
      have h1 := szF_bound wf.pts m p.2
      have h2 : (6 : Int) ^ m ≤ 6 ^ 6 := by
        rcases (show m = 0 ∨ m = 1 ∨ m = 2 ∨ m = 3 ∨ m = 4 ∨ m = 5 ∨ m = 6 by omega) with h | h | h | h | h | h | h <;> subst h <;> decide
      have h3 : (6 : Int) ^ 6 = 46656 := by decide
      omega
    refine ⟨_, rfl, rfl, _, rfl, ite2 (fun c => ?_) (fun c => ?_)⟩
    · obtain ⟨hne, ez⟩ := halt (V.str.inj (of_decide_eq_true c))
      refine ⟨_, rfl, D, _, rfl, SqL.of upd_same, (fun z => hne (List.map_eq_nil_iff.mp z)), fun mx h1 h2 => ⟨_, _, rfl, rfl, ?_⟩⟩
      have := q _ sAll
      rw [ez, ← maxD_is (fun z => hne (List.map_eq_nil_iff.mp z)) (fun n hn => (hb n hn).1) h1 h2] at this
      exact this
    · have ez := hrec (fun z => c (decide_eq_true (congrArg V.str z)))
      refine ⟨_, rfl, D, _, rfl, SqL.of upd_same, hb, by rw [List.length_map]; omega, _, _, rfl, rfl, ?_⟩
      have := q _ sAll
      rw [ez] at this
      exact this
theorem size_is (T : Tx K mg) : ∀ m, m ≤ 6 → DefIs P w K mg base (m + 2) "_law_size" ["_law_kinds_here", "_law_kind"] (spSize m)
  | 0, h => ok__law_size (n := 1) T (fun _ _ _ _ => False) (ok__law_sort_of T) (DefIs.none T.d__law_size fun _ _ _ _ h => h) (fun j e => by cases e) h
  | m + 1, h => ok__law_size (n := m + 2) T (spSize m) (ok__law_sort_of T) (size_is T m (by omega)) (fun j e => by cases e; rfl) h
end
end K45

end

section
set_option Elab.async false
set_option linter.all false
set_option maxRecDepth 100000
set_option maxHeartbeats 4000000
namespace K45
open PySem L2 M
seal L2.PE L2.PA L2.PS L2.PSs L2.PT L2.PW L2.PI L2.PG L2.PJ L2.PTs
def spParts : Sp := fun vs H Q _ => ∃ (f l nb : Addr) (srt : Str) (p q : Int) (ws : List V) (ks : List Kn) (n4 : List Str), vs = [.ref f, .ref l, .str srt, .ref nb] ∧ H f = some (.lst [.int p, .int q]) ∧ H l = some (.lst ws) ∧ RelDs H ws (ks.map Kn.d) ∧ KWf ks ∧
  H nb = some (.lst (n4.map V.str)) ∧ n4.length = 4 ∧ (srt = S "rec" ∨ srt = S "alt") ∧ l ≠ f ∧ nb ≠ f ∧
  ∀ v ps (H' : Hp), Fed f H H' → RelD H' v (dParts ps) → ps.length ≤ 4 → ps.map (·.1) = n4.take ps.length → (srt = S "alt" → ps ≠ []) → (∀ p ∈ ps, KIn ks ks.length p.2) → (ps.map fun p => sz ks p.2).sum ≤ 29 → Q v H'
theorem if_asg {D : Ends} {σ : St} {H : Hp} {c : Bool} {B : Prop} {i : Nat} {v x : V} (σk : V → St) (h1 : σ.set i (some v) = σk v) (h2 : σ = σk x) (hB : D.nx σ H → B) (h : ∀ y, (y = v ∨ (y = x ∧ c = false)) → D.nx (σk y) H) : if c = true then tAsg (tC v) (gName i) D σ H else B := by
  cases c with
  | false => exact hB (by rw [h2]; exact h x (.inr ⟨rfl, rfl⟩))
  | true =>
    show D.nx (σ.set i (some v)) H
    rw [h1]
    exact h v (.inl rfl)
theorem and2 {tb : TE} {σ : St} {H : Hp} {Q : VK} {c cA : Bool} (hA : Q (.bl cA) H → tb σ H Q) (h : ∀ b : Bool, (b = true → cA = true) → Q (.bl b) H) : if c = true then tb σ H Q else Q (.bl false) H := by
  cases c with
  | false => exact h false (fun e => by cases e)
  | true => exact hA (h cA id)
theorem maxD_sum : ∀ {ns : List Int}, (∀ n ∈ ns, 0 ≤ n) → maxD ns ≤ ns.sum ∧ 0 ≤ ns.sum
  | [], _ => ⟨Int.le_refl _, Int.le_refl _⟩
  | n :: ns, h => by
    have h1 := h n (by simp)
    have h2 := maxD_sum (ns := ns) fun m hm => h m (by simp [hm])
    rw [List.sum_cons]
    show max n (maxD ns) ≤ _ ∧ _
    omega
theorem inSz_sum {ks : List Kn} (wf : KWf ks) {x : Str} {b : Bool} {ps : List (Str × Str)} (h : (ps.map fun p => sz ks p.2).sum ≤ 29) : inSz (Kn.mk x b ps) (sz ks) ≤ 29 := by
  have := maxD_sum (ns := ps.map fun p => sz ks p.2) fun n hn => by
    obtain ⟨p, _, rfl⟩ := List.mem_map.mp hn
    have := sz_ge wf p.2
    omega
  unfold inSz
  show (if b = true then (ps.map fun p => sz ks p.2).sum else maxD (ps.map fun p => sz ks p.2)) ≤ 29
  split <;> omega
section
variable {P : Program} {w : World} {K : PySem.W.Frag} {mg : Str → Option Value} {base : Heap} {n m : Nat}
theorem ok__law_parts (T : Tx K mg) (D__law_take : DefIs P w K mg base n "_law_take" ["_law_feed_here", "_law_many"] spTake) (D__law_size : DefIs P w K mg base n "_law_size" ["_law_kinds_here", "_law_kind"] (spSize 6)) : DefIs P w K mg base (n + 1) "_law_parts" ["_law_feed_here", "_law_kinds_here", "_law_sort", "_law_names_here"] spParts := by
  refine DefIs.of T.d__law_parts sc__law_parts (fun vs H Q E h => ?_) (fun f cdv A outer s H vs Q E hr h => ?_)
  · obtain ⟨_, _, _, _, _, _, _, _, _, rfl, _⟩ := h
    rfl
  obtain ⟨f', l, nb, srt, p, q, ws, ks, n4, rfl, hf, hl, hws, wf, hnb, h4, hs, lf, nf, k⟩ := h
  have nd := sc__law_parts.nd
  refine ⟨_, (pss_cons (ps_set (i := 4) nd rfl (by first | exact Or.inl rfl | exact Or.inr rfl) (pe_lst pa_nil))
      (pss_cons (ps_set (i := 5) nd rfl (by first | exact Or.inl rfl | exact Or.inr rfl) pe_int)
      (pss_cons (ps_for PassesOwn.never rfl (pi_range1 rfl T.z_range (pa_cons (pe_op op_add (pe_op op_add (pe_dcall D__law_take hr (pa_cons (pv 0) (pa_cons pe_int pa_nil star_const) star_name)) (pe_callTy call_int1 rfl T.z_int PyProof.Rows.boot_int (pa_cons (pe_cmpR op_eq (pv 2) pe_str (nomark _)) pa_nil star_cmp))) (pe_callTy call_int1 rfl T.z_int PyProof.Rows.boot_int (pa_cons (pe_and (pe_cmpR op_eq (pe_dcall D__law_take hr (pa_cons (pv 0) (pa_cons pe_int pa_nil star_const) star_name)) pe_int (nomark _)) (pe_one (pe_cmpR op_eq (pv 2) pe_str (nomark _)))) pa_nil star_bool))) pa_nil star_bin)) (pg_name (i := 6) nd rfl (by first | exact Or.inl rfl | exact Or.inr rfl))
      (pss_cons (ps_set (i := 7) nd rfl (by first | exact Or.inl rfl | exact Or.inr rfl) (pe_ix ix_list (pe_op op_cat (pe_lst (pa_cons pe_str pa_nil star_const)) (pe_comp ["_law_row"] [none] rfl (by kernel_rfl) (pi_list (pv 1)) (fun _ _ _ _ => (pg_name (i := 0) (by show List.Nodup (["_law_row"] : List Str); decide +kernel) rfl (Or.inl rfl))) (fun _ _ _ _ => pts_nil) (fun _ _ _ _ => (pe_ix (ix_tupC (K := K) rfl) (pv 0) pe_int (fun _ _ => rfl))))) (pe_dcall D__law_take hr (pa_cons (pv 0) (pa_cons (pe_op op_add pe_int (pe_callB call_len_seq rfl T.z_len PySem.boot_len (pa_cons (pv 1) pa_nil star_name))) pa_nil star_bin) star_name)) (fun _ _ => rfl)))
      (pss_cons (ps_if (pt_cmpR op_gt (pe_dcall D__law_size hr (pa_cons (pv 1) (pa_cons (pv 7) pa_nil star_name) star_name)) (pv 5) (nomark _)) (pss_one (ps_set (i := 7) nd rfl (by first | exact Or.inl rfl | exact Or.inr rfl) pe_str)) pss_nil)
      (pss_cons (ps_set (i := 5) nd rfl (by first | exact Or.inl rfl | exact Or.inr rfl) (pe_op op_sub (pv 5) (pe_dcall D__law_size hr (pa_cons (pv 1) (pa_cons (pv 7) pa_nil star_name) star_name))))
      (pss_one (ps_expr (pe_bm PySem.F.plainAttrs_list PySem.F.slot_list_append PySem.F.type_list_append mt_append (pv 4) (pa_cons (pe_tup (pa_cons (pe_ix ix_list (pv 3) (pv 6) (fun _ _ => rfl)) (pa_cons (pv 7) pa_nil star_name) star_sub)) pa_nil star_tup))))))))
      (pss_one (ps_ret (pe_callTy call_tuple_of rfl T.z_tuple PyProof.Rows.boot_tuple (pa_cons (pe_slice sl_list (pv 4) po_none (po_some pe_int)) pa_nil star_sub))))))), ?_⟩
  refine ⟨(by show 0 ≤ sizeLine; decide), fun pl hpl => ?_⟩
  have s0 := Same.new hpl (.lst [])
  have plf : pl ≠ f' := Ne.symm (ne_of_none hf hpl)
  have hfew := wf.few
  have hwl := hws.length
  rw [List.length_map] at hwl
  refine ⟨_, rfl, f', p, q, 4, rfl, s0 _ _ hf, by decide, by decide, fun r1 H1 r10 r11 f1 => ?_⟩
  obtain ⟨p1, q1, h1⟩ := f1.2
  have F1 : Fed f' H H1 := ⟨s0.but.trans f1.1, f1.2⟩
  have hp1 : H1 pl = some (.lst []) := f1.1 _ _ upd_same plf
  have hAB : ∃ cA cB : Bool, decide (V.str srt = V.str (S "rec")) = cA ∧ decide (V.str srt = V.str (S "alt")) = cB ∧ 0 ≤ (if cA = true then (1 : Int) else 0) ∧ 0 ≤ (if cB = true then (1 : Int) else 0) ∧ (if cA = true then (1 : Int) else 0) + (if cB = true then (1 : Int) else 0) ≤ 1 ∧ (srt = S "alt" → (if cB = true then (1 : Int) else 0) = 1) := by
    rcases hs with rfl | rfl
    · exact ⟨true, false, by decide +kernel, by decide +kernel, by decide, by decide, by decide, fun e => absurd e (by decide +kernel)⟩
    · exact ⟨false, true, by decide +kernel, by decide +kernel, by decide, by decide, by decide, fun _ => rfl⟩
  obtain ⟨cA, cB, eA, eB, hb0, hb1, hb2, hbA⟩ := hAB
  refine ⟨_, rfl, rfl, .inr ⟨cB, congrArg (fun b => [V.bl b]) eB, r1, (if cB = true then 1 else 0), rfl, rfl, ?_⟩⟩
  refine ⟨_, rfl, f', p1, q1, 9, rfl, h1, by decide, by decide, fun r2 H2 r20 r21 f2 => ⟨rfl, _, rfl, and2 (cA := decide (V.str srt = V.str (S "rec"))) (fun z => ⟨_, rfl, rfl, z⟩) (fun b hb => ?_)⟩⟩
  rw [eA] at hb
  have hbb : 0 ≤ (if b = true then (1 : Int) else 0) ∧ (if b = true then (1 : Int) else 0) ≤ (if cA = true then (1 : Int) else 0) := by
    cases b with
    | false => exact ⟨Int.le_refl _, hb0⟩
    | true => rw [hb rfl]; exact ⟨by decide, by decide⟩
  refine .inr ⟨b, rfl, _, (if b = true then 1 else 0), rfl, rfl, _, rfl, by omega, by omega, ?_⟩
  all_goals
      have F2 : Fed f' H H2 := F1.trans f2
      have hp2 : H2 pl = some (.lst []) := f2.1 _ _ hp1 plf
      refine for_range (fun i σ H' => ∃ us, ∃ ps : List (Str × Str), ∃ left o6 o7, σ = [some (.ref f'), some (.ref l), some (.str _), some (.ref nb), some (.ref pl), some (.int left), o6, o7] ∧ Fed f' H H' ∧ H' pl = some (.lst us) ∧ RelDs H' us (ps.map dPart) ∧ ps.length = i ∧ ps.map (·.1) = n4.take i ∧ (∀ p ∈ ps, KIn ks ks.length p.2) ∧ (ps.map fun p => sz ks p.2).sum + left = 25 ∧ -(i : Int) ≤ left)
        ⟨[], [], 25, none, none, rfl, F2, hp2, rfl, rfl, rfl, (fun _ h => nomatch h), rfl, by decide⟩ ?_ ?_
      · rintro i σ H3 hi ⟨us, ps, left, o6, o7, rfl, F, hpu, hus, hpl', hpn, hin, hsum, hleft⟩
        have hi4 : i < 4 := by omega
        obtain ⟨p3, q3, h3⟩ := F.2
        have hl3 := F.1 l _ hl lf
        have hn3 := F.1 nb _ hnb nf
        have hws3 := hws.tups (fed_tups ⟨p, q, hf⟩ F) _
        refine ⟨(by show 1 ≤ sizeLine; decide), fun l1 hl1 => ?_⟩
        have s1 := Same.new hl1 (.lst [.str (S "num")])
        refine ⟨_, rfl, l, rfl, ⟨_, SqL.of (s1 _ _ hl3)⟩, ?_⟩
        refine comp_list (j := 0) (xs := ws) (fun i ys H' => H' = upd H3 l1 (.lst [.str (S "num")]) ∧ ys = ((ks.take i).map Kn.name).map V.str) (by rfl) ⟨rfl, rfl⟩ (fitsLt (by omega)) (fun i ys H' _ p => by obtain ⟨rfl, _⟩ := p; exact SqL.of (s1 _ _ hl3)) ?_ ?_
        · rintro i' x ys H' hx hly ⟨rfl, rfl⟩
          obtain ⟨d, hd, rd⟩ := (hws3.same s1 _).get hx
          rw [List.getElem?_map] at hd
          obtain ⟨k', hk', rfl⟩ := Option.map_eq_some_iff.mp hd
          obtain ⟨b, vs', rfl, hb, _, _, rfl, rfl, _, _, rfl, rfl, v3, _, rfl, r3, rfl⟩ := rd
          have hi' : i' < ws.length := (List.getElem?_eq_some_iff.mp hx).1
          refine ⟨_, rfl, b, _, _, _, rfl, rfl, SqT.of hb, rfl, nxt hi' hly ⟨rfl, ?_⟩⟩
          rw [List.take_add_one, hk']
          simp
        rintro ys H' hly ⟨rfl, rfl⟩ D2 hD2
        rw [List.take_of_length_le (by omega)]
        have s2 := Same.new hD2 (.lst ((ks.map Kn.name).map V.str))
        refine ⟨l1, D2, _, _, rfl, rfl, s2 _ _ upd_same, upd_same, fits (by rw [List.length_map, List.length_map]; show 1 + _ ≤ _; omega), fun l3 hl3' => ?_⟩
        have s3 := Same.new hl3' (.lst ([.str (S "num")] ++ (ks.map Kn.name).map V.str))
        have s13 := s1.trans (s2.trans s3)
        have l3f : l3 ≠ f' := Ne.symm (ne_of_none (s2 _ _ (s1 _ _ h3)) hl3')
        refine ⟨_, rfl, _, rfl, l, _, rfl, .inl (SqL.of (s13 _ _ hl3)), _, _, rfl, rfl, ?_⟩
        refine ⟨f', p3, q3, _, rfl, s13 _ _ h3, by omega, by omega, fun r H4 r0 r1' f4 => ?_⟩
        rw [hwl] at r1'
        obtain ⟨x, hx, hxin⟩ := names_at r0 r1'
        have hl34 : H4 l3 = some (.lst ([.str (S "num")] ++ (ks.map Kn.name).map V.str)) := f4.1 _ _ upd_same l3f
        refine ⟨l3, _, _, _, rfl, rfl, SqL.of hl34, hx, ?_⟩
        have F4 : Fed f' H H4 := (F.same s13).trans f4
        have hpu4 := f4.1 _ _ (s13 _ _ hpu) plf
        have hus4 := (hus.same s13 _).tups (fed_tups ⟨p3, q3, s13 _ _ h3⟩ f4) _
        have hl4 := F4.1 l _ hl lf
        have hn4 := F4.1 nb _ hnb nf
        have hws4 := hws.tups (fed_tups ⟨p, q, hf⟩ F4) _
        have seq4 : KsSeq H4 (.ref l) ks := ⟨l, ws, rfl, .inl hl4, hws4⟩
        refine ⟨_, rfl, _, rfl, _, ks, x, rfl, seq4, wf, hxin.mono hfew, fun H5 s5 => ⟨_, rfl, _, _, rfl, rfl, _, rfl, if_asg (x := .str x) (fun y => [some (.ref f'), some (.ref l), some (.str srt), some (.ref nb), some (.ref pl), some (.int left), some (.int (0 + (i : Int))), some y]) rfl rfl id (fun y hy => ?_)⟩⟩
        obtain ⟨kd, rfl, hx', hkl⟩ : ∃ kd, y = .str kd ∧ KIn ks ks.length kd ∧ -((i : Int) + 1) ≤ left - sz ks kd := by
          rcases hy with rfl | ⟨rfl, hcf⟩
          · exact ⟨S "num", rfl, .inl rfl, by have h1 : sz ks (S "num") = 1 := sz_num wf
                                              omega⟩
          · refine ⟨_, rfl, hxin, ?_⟩
            have h0 : ¬ left < sz ks x := of_decide_eq_false hcf
            omega
        · refine ⟨_, rfl, _, rfl, _, rfl, _, ks, kd, rfl, seq4.same s5, wf, hx'.mono hfew, fun H6 s6 => ⟨_, _, rfl, rfl, ?_⟩⟩
          have s56 := s5.trans s6
          have hpu6 := s56 _ _ hpu4
          have hi4' : i < n4.length := by omega
          refine ⟨_, rfl, .inl ⟨rfl, _, SqL.of hpu6⟩, _, rfl, _, rfl, nb, _, _, _, rfl, rfl, SqL.of (s56 _ _ hn4), strs_get hi4', _, rfl, (by show 2 ≤ sizeLine; decide), fun t ht => ?_⟩
          have s47 : ∀ o, Same H4 (upd H6 t o) := fun o => s56.trans (Same.new ht o)
          have hul := hus.length
          rw [List.length_map] at hul
          refine ⟨pl, us, _, rfl, rfl, s47 _ _ _ hpu4, fitsLt (by omega), ?_⟩
          refine ⟨_, ps ++ [(n4[i], kd)], _, _, _, rfl, Fed.put (F4.same (s47 _)) hpl plf _, upd_same, ?_, by rw [List.length_append, List.length_singleton, hpl'], ?_, fun z hz => ?_, ?_, by push_cast; exact hkl⟩
          · rw [List.map_append]
            refine RelDs.append ((hus4.same (s47 _) _).tups (lst_tups (s47 _ _ _ hpu4) _) _) ?_
            exact ⟨_, [], rfl, ⟨t, _, rfl, lst_tups (s47 _ _ _ hpu4) _ _ _ upd_same, _, _, rfl, rfl, _, _, rfl, rfl, rfl⟩, rfl⟩
          · rw [List.map_append, hpn, List.take_add_one, List.getElem?_eq_getElem hi4']
            rfl
          · rcases List.mem_append.mp hz with hz | hz
            · exact hin z hz
            · rw [List.mem_singleton.mp hz]; exact hx'
          · show ((ps ++ [(n4[i], kd)]).map fun p => sz ks p.2).sum + (left - sz ks kd) = 25
            rw [List.map_append, List.sum_append]
            simp only [List.map_cons, List.map_nil, List.sum_cons, List.sum_nil]
            omega
      · rintro σ H3 ⟨us, ps, left, o6, o7, rfl, F, hpu, hus, hpl', hpn, hin, hsum, hleft⟩
        have hul := hus.length
        rw [List.length_map] at hul
        refine ⟨_, rfl, _, rfl, pl, us, rfl, SqL.of hpu, fun c2 hc2 => ?_⟩
        have ecut : cutV us none (some 4) = us := by
          unfold cutV
          rw [show HT.sIx us.length 0 none = 0 from rfl, List.drop_zero, Nat.sub_zero]
          refine List.take_of_length_le ?_
          unfold HT.sIx
          simp
          omega
        have s1 := Same.new hc2 (.lst (cutV us none (some 4)))
        refine ⟨c2, _, rfl, .inl ⟨SqL.of upd_same, fun t ht => ?_⟩⟩
        have s2 := Same.new ht (.tup (cutV us none (some 4)))
        refine k _ ps _ (F.same (s1.trans s2)) ⟨t, us, rfl, by rw [ecut]; exact upd_same, hus.same (s1.trans s2) _⟩ (by omega) (by rw [hpl']; exact hpn) ?_ hin (by omega)
        intro ha e
        have h9 := hbA ha
        rw [e] at hpl'
        simp only [List.length_nil] at hpl'
        omega
def spKinds : Sp := fun vs H Q _ => ∃ (f nb : Addr) (p q : Int) (nms : List Str), vs = [.ref f, .ref nb] ∧ H f = some (.lst [.int p, .int q]) ∧ H nb = some (.lst (nms.map V.str)) ∧ NmsOk nms ∧ nb ≠ f ∧ ∀ v ks (H' : Hp), Fed f H H' → RelD H' v (dKinds ks) → KOver nms ks → Fit ks → Q v H'
theorem ok__law_kinds (T : Tx K mg) (D__law_take : DefIs P w K mg base n "_law_take" ["_law_feed_here", "_law_many"] spTake) (D__law_parts : DefIs P w K mg base n "_law_parts" ["_law_feed_here", "_law_kinds_here", "_law_sort", "_law_names_here"] spParts) : DefIs P w K mg base (n + 1) "_law_kinds" ["_law_feed_here", "_law_names_here"] spKinds := by
  refine DefIs.of T.d__law_kinds sc__law_kinds (fun vs H Q E h => ?_) (fun f cdv A outer s H vs Q E hr h => ?_)
  · obtain ⟨_, _, _, _, _, rfl, _⟩ := h
    rfl
  obtain ⟨f', nb, p, q, nms, rfl, hf, hnb, hok, nf, k⟩ := h
  have nd := sc__law_kinds.nd
  refine ⟨_, (pss_cons (ps_set (i := 2) nd rfl (by first | exact Or.inl rfl | exact Or.inr rfl) (pe_lst pa_nil))
      (pss_cons (ps_for PassesOwn.never rfl (pi_range1 rfl T.z_range (pa_cons (pe_dcall D__law_take hr (pa_cons (pv 0) (pa_cons pe_int pa_nil star_const) star_name)) pa_nil star_call)) (pg_name (i := 3) nd rfl (by first | exact Or.inl rfl | exact Or.inr rfl))
      (pss_cons (ps_set (i := 4) nd rfl (by first | exact Or.inl rfl | exact Or.inr rfl) (pe_ix ix_list (pe_lst (pa_cons pe_str (pa_cons pe_str pa_nil star_const) star_const)) (pe_dcall D__law_take hr (pa_cons (pv 0) (pa_cons pe_int pa_nil star_const) star_name)) (fun _ _ => rfl)))
      (pss_one (ps_expr (pe_bm PySem.F.plainAttrs_list PySem.F.slot_list_append PySem.F.type_list_append mt_append (pv 2) (pa_cons (pe_tup (pa_cons (pe_ix ix_list (pv 1) (pv 3) (fun _ _ => rfl)) (pa_cons (pv 4) (pa_cons (pe_dcall D__law_parts hr (pa_cons (pv 0) (pa_cons (pv 2) (pa_cons (pv 4) (pa_cons (pe_slice sl_list (pv 1) (po_some pe_int) (po_some pe_int)) pa_nil star_sub) star_name) star_name) star_name)) pa_nil star_call) star_name) star_sub)) pa_nil star_tup))))))
      (pss_one (ps_ret (pe_callTy call_tuple_of rfl T.z_tuple PyProof.Rows.boot_tuple (pa_cons (pv 2) pa_nil star_name)))))), ?_⟩
  refine ⟨(by show 0 ≤ sizeLine; decide), fun l hl => ?_⟩
  have s0 := Same.new hl (.lst [])
  have lf : l ≠ f' := Ne.symm (ne_of_none hf hl)
  have hlen := hok.1
  refine ⟨_, rfl, f', p, q, 5, rfl, s0 _ _ hf, by decide, by decide, fun r1 H1 r10 r11 f1 => ⟨_, rfl, by omega, by omega, ?_⟩⟩
  have F1 : Fed f' H H1 := ⟨s0.but.trans f1.1, f1.2⟩
  have hp1 : H1 l = some (.lst []) := f1.1 _ _ upd_same lf
  refine for_range (fun i σ H' => ∃ us, ∃ ks : List Kn, ∃ o3 o4, σ = [some (.ref f'), some (.ref nb), some (.ref l), o3, o4] ∧ Fed f' H H' ∧ H' l = some (.lst us) ∧ RelDs H' us (ks.map Kn.d) ∧ ks.length = i ∧ Fit ks ∧ KOver nms ks)
    ⟨[], [], none, none, rfl, F1, hp1, rfl, rfl, Fit.nil, KWf.nil, Nat.zero_le _, rfl, fun _ h => nomatch h⟩ ?_ ?_
  · rintro i σ H2 hi ⟨us, ks, o3, o4, rfl, F, hlu, hus, hki, hfit, wf, hk4, hkn, hkp⟩
    have hi4 : i < 4 := by omega
    have hul := hus.length
    rw [List.length_map] at hul
    obtain ⟨p2, q2, h2⟩ := F.2
    refine ⟨(by show 2 ≤ sizeLine; decide), fun l1 hl1 => ?_⟩
    have s1 := Same.new hl1 (.lst [.str (S "rec"), .str (S "alt")])
    have l1f : l1 ≠ f' := Ne.symm (ne_of_none h2 hl1)
    refine ⟨_, rfl, f', p2, q2, 2, rfl, s1 _ _ h2, by decide, by decide, fun r H3 r0 r1' f3 => ?_⟩
    have key : ∃ srt : Str, atI [V.str (S "rec"), V.str (S "alt")] r = some (.str srt) ∧ (srt = S "rec" ∨ srt = S "alt") := by
      rcases (show r = 0 ∨ r = 1 by omega) with rfl | rfl
      · exact ⟨S "rec", rfl, .inl rfl⟩
      · exact ⟨S "alt", rfl, .inr rfl⟩
    obtain ⟨srt, hat, hsrt⟩ := key
    refine ⟨l1, _, _, _, rfl, rfl, SqL.of (f3.1 _ _ upd_same l1f), hat, ?_⟩
    have F3 : Fed f' H H3 := (F.same s1).trans f3
    obtain ⟨p3, q3, h3⟩ := f3.2
    have hlu3 := f3.1 _ _ (s1 _ _ hlu) lf
    have hus3 := (hus.same s1 _).tups (fed_tups ⟨p2, q2, s1 _ _ h2⟩ f3) _
    have hn3 := F3.1 nb _ hnb nf
    have hin : i < nms.length := by omega
    refine ⟨_, rfl, .inl ⟨rfl, _, SqL.of hlu3⟩, _, rfl, _, rfl, nb, _, _, _, rfl, rfl, SqL.of hn3, strs_get hin, _, rfl, ?_⟩
    refine ⟨_, rfl, _, rfl, _, rfl, _, rfl, _, rfl, _, rfl, nb, _, rfl, SqL.of hn3, fun c hc => ?_⟩
    rw [cut812 hlen]
    have sc := Same.new hc (.lst (((nms.drop 8).take 4).map V.str))
    have cf : c ≠ f' := Ne.symm (ne_of_none h3 hc)
    refine ⟨f', l, c, srt, p3, q3, us, ks, (nms.drop 8).take 4, rfl, sc _ _ h3, sc _ _ hlu3, hus3.same sc _, wf, upd_same, by rw [List.length_take, List.length_drop, hlen]; rfl, hsrt, lf, cf, fun v ps H4 f4 rv h4 hpn halt hpin hsum => ?_⟩
    have F4 : Fed f' H H4 := (F3.same sc).trans f4
    have hlu4 := f4.1 _ _ (sc _ _ hlu3) lf
    have hus4 := (hus3.same sc _).tups (fed_tups ⟨p3, q3, sc _ _ h3⟩ f4) _
    refine ⟨(by show 3 ≤ sizeLine; decide), fun t ht => ?_⟩
    have s5 : ∀ o, Same H4 (upd H4 t o) := fun o => Same.new ht o
    refine ⟨l, us, _, rfl, rfl, s5 _ _ _ hlu4, fitsLt (by omega), ?_⟩
    have hP4 := part4 hok ps.length
    have hsort : (Kn.mk nms[i] (decide (srt = S "rec")) ps).sort = srt := by
      unfold Kn.sort
      rcases hsrt with rfl | rfl
      · rfl
      · show (if decide (S "alt" = S "rec") = true then _ else _) = _
        rw [if_neg (by decide +kernel)]
    have hname : ks.map Kn.name = nms.take i := by rw [hkn, hki]
    have w2 : KWf (ks ++ [Kn.mk nms[i] (decide (srt = S "rec")) ps]) := by
      refine wf.snoc ?_ (hok.2.2 _ (List.getElem_mem hin)) hpin ?_ (by omega) (by show ps.length ≤ 5; omega) (by show (ps.map (·.1)).Nodup; rw [hpn]; exact hP4.1) (fun z hz => hP4.2 z.1 (by rw [← hpn]; exact List.mem_map_of_mem hz))
      · show nms[i] ∉ ks.map Kn.name
        rw [hname]
        exact not_ahead hok.2.1 hin
      · intro hrc
        refine halt ?_
        rcases hsrt with e | e
        · exact absurd hrc (by show ¬ decide (srt = S "rec") = false; rw [e]; decide +kernel)
        · exact e
    refine ⟨_, ks ++ [Kn.mk nms[i] (decide (srt = S "rec")) ps], _, _, rfl, Fed.put (F4.same (s5 _)) hl lf _, upd_same, ?_, by rw [List.length_append, List.length_singleton, hki], hfit.snoc wf w2 hpin (inSz_sum wf hsum), ?_⟩
    · rw [List.map_append]
      refine RelDs.append ((hus4.same (s5 _) _).tups (lst_tups (s5 _ _ _ hlu4) _) _) ?_
      refine ⟨_, [], rfl, ⟨t, _, rfl, lst_tups (s5 _ _ _ hlu4) _ _ _ upd_same, _, _, rfl, rfl, _, _, rfl, ?_, _, _, rfl, (rv.same (s5 _) _).tups (lst_tups (s5 _ _ _ hlu4) _) _, rfl⟩, rfl⟩
      show V.str srt = V.str _
      rw [hsort]
    · refine ⟨w2, by rw [List.length_append, List.length_singleton]; omega, ?_, ?_⟩
      · rw [List.map_append, hname, List.length_append, List.length_singleton, hki, List.take_add_one, List.getElem?_eq_getElem hin]
        rfl
      · intro z hz
        rcases List.mem_append.mp hz with hz | hz
        · exact hkp z hz
        · rw [List.mem_singleton.mp hz]
          exact ⟨h4, hpn⟩
  · rintro σ H2 ⟨us, ks, o3, o4, rfl, F, hlu, hus, hki, hfit, hK⟩
    refine ⟨_, rfl, l, us, rfl, .inl ⟨SqL.of hlu, fun t ht => ?_⟩⟩
    have s1 := Same.new ht (.tup us)
    exact k _ ks _ (F.same s1) ⟨t, us, rfl, upd_same, hus.same s1 _⟩ hK hfit
end
end K45

end

section
set_option Elab.async false
set_option linter.all false
set_option maxRecDepth 100000
set_option maxHeartbeats 4000000
namespace K45
open PySem L2 M
seal L2.PE L2.PA L2.PS L2.PSs L2.PT L2.PW L2.PI L2.PG L2.PJ L2.PTs
def spLNum : Sp := fun vs H Q _ => ∃ (a : Addr) (p q : Int), vs = [.ref a] ∧ H a = some (.lst [.int p, .int q]) ∧ ∀ (i : Int) (H' : Hp), Nm i → Fed a H H' → Q (.int i) H'
section
variable {P : Program} {w : World} {K : PySem.W.Frag} {mg : Str → Option Value} {base : Heap} {n m : Nat}
theorem ok__law_number (T : Tx K mg) (D__law_take : DefIs P w K mg base n "_law_take" ["_law_feed_here", "_law_many"] spTake) : DefIs P w K mg base (n + 1) "_law_number" ["_law_feed_here"] spLNum := by
  refine DefIs.of T.d__law_number sc__law_number (fun vs H Q E h => ?_) (fun f cdv A outer s H vs Q E hr h => ?_)
  · obtain ⟨a, p, q, rfl, _⟩ := h
    rfl
  obtain ⟨a, p, q, rfl, ha, k⟩ := h
  have nd := sc__law_number.nd
  have e2 : (2 : Int) ^ (32 : Int).toNat = 4294967296 := by decide
  refine ⟨_, (pss_cons (ps_set (i := 1) nd rfl (by first | exact Or.inl rfl | exact Or.inr rfl) (pe_dcall D__law_take hr (pa_cons (pv 0) (pa_cons pe_int pa_nil star_const) star_name)))
      (pss_cons (ps_if (pt_cmpR op_lt (pv 1) pe_int (nomark _)) (pss_one (ps_ret (pe_dcall D__law_take hr (pa_cons (pv 0) (pa_cons pe_int pa_nil star_const) star_name)))) pss_nil)
      (pss_cons (ps_if (pt_cmpR op_eq (pv 1) pe_int (nomark _)) (pss_one (ps_ret (pe_op op_sub (pe_op op_sub (pe_op op_pow pe_int pe_int) pe_int) (pe_dcall D__law_take hr (pa_cons (pv 0) (pa_cons pe_int pa_nil star_const) star_name))))) pss_nil)
      (pss_one (ps_ret (pe_dcall D__law_take hr (pa_cons (pv 0) (pa_cons (pe_op op_pow pe_int pe_int) pa_nil star_bin) star_name))))))), ?_⟩
  refine ⟨_, rfl, a, p, q, 4, rfl, ha, by decide, by decide, fun r1 H1 r10 r11 f1 => ?_⟩
  obtain ⟨p1, q1, h1⟩ := f1.2
  refine ⟨_, rfl, _, _, rfl, rfl, _, rfl, ?_⟩
  refine ite2 (fun c => ?_) (fun c => ?_)
  · exact ⟨_, rfl, a, p1, q1, 6, rfl, h1, by decide, by decide, fun r2 H2 r20 r21 f2 => k _ _ ⟨r20, by omega⟩ (f1.trans f2)⟩
  refine ⟨_, rfl, rfl, _, rfl, ?_⟩
  refine ite2 (fun c => ?_) (fun c => ?_)
  · refine ⟨_, _, rfl, rfl, ⟨by decide, by decide, by decide⟩, _, _, rfl, rfl, _, rfl, a, p1, q1, 6, rfl, h1, by decide, by decide, fun r2 H2 r20 r21 f2 => ⟨_, _, rfl, rfl, k _ _ ⟨by omega, by omega⟩ (f1.trans f2)⟩⟩
  · refine ⟨_, rfl, _, _, rfl, rfl, ⟨by decide, by decide, by decide⟩, a, p1, q1, _, rfl, h1, by omega, by omega, fun r2 H2 r20 r21 f2 => k _ _ ⟨r20, by omega⟩ (f1.trans f2)⟩
end
end K45

end

section
set_option Elab.async false
set_option linter.all false
set_option maxRecDepth 100000
set_option maxHeartbeats 4000000
namespace K45
open PySem L2 M
seal L2.PE L2.PA L2.PS L2.PSs L2.PT L2.PW L2.PI L2.PG L2.PJ L2.PTs
def spSortOf : Sp := fun vs H Q _ => ∃ v ks x, vs = [v, .str x] ∧ KsAt H v ks ∧ Q (sortV (kAt ks x)) H
def spPartsOf : Sp := fun vs H Q _ => ∃ v ks x, vs = [v, .str x] ∧ KsAt H v ks ∧ ∀ u H', Same H H' → RelD H' u (partsD (kAt ks x)) → Q u H'
section
variable {P : Program} {w : World} {K : PySem.W.Frag} {mg : Str → Option Value} {base : Heap} {n : Nat}
theorem ok_sort_of (T : Tx K mg) : DefIs P w K mg base (n + 1) "sort_of" ["kinds", "K"] spSortOf := by
  refine DefIs.of T.d_sort_of sc_sort_of (fun vs H Q E h => ?_) (fun f cdv A outer s H vs Q E hr h => ?_)
  · obtain ⟨_, _, _, rfl, _⟩ := h
    rfl
  obtain ⟨v, ks, x, rfl, hk, q⟩ := h
  have nd := sc_sort_of.nd
  refine ⟨_, (pss_cons (ps_for PassesOwn.never rfl (pi_tup (pv 0)) (pg_tup rfl (pgs_cons (pg_name (i := 2) nd rfl (by first | exact Or.inl rfl | exact Or.inr rfl)) (pgs_cons (pg_name (i := 3) nd rfl (by first | exact Or.inl rfl | exact Or.inr rfl)) (pgs_cons (pg_name (i := 4) nd rfl (by first | exact Or.inl rfl | exact Or.inr rfl)) pgs_nil))))
      (pss_one (ps_if (pt_cmpR op_eq (pv 2) (pv 1) (nomark _)) (pss_one (ps_ret (pv 3))) pss_nil)))
      (pss_one (ps_ret pe_non))), ?_⟩
  obtain ⟨a, us, rfl, ha, hR⟩ := hk.1
  refine ⟨_, rfl, a, rfl, ⟨_, SqT.of ha⟩, ?_⟩
  have hl := hR.length
  rw [List.length_map] at hl
  refine for_tup (xs := us) (fun i σ H' => ∃ o2 o3 o4, σ = [some (.ref a), some (.str x), o2, o3, o4] ∧ H' = H ∧ (ks.take i).find? (fun k => decide (k.name = x)) = none) ⟨none, none, none, rfl, rfl, rfl⟩ (fun i σ H' _ p => ?_) ?_ ?_
  · obtain ⟨_, _, _, _, rfl, _⟩ := p
    exact SqT.of ha
  · rintro i v σ H' hv ⟨o2, o3, o4, rfl, rfl, hn⟩
    obtain ⟨d, hd, rd⟩ := hR.get hv
    rw [List.getElem?_map] at hd
    obtain ⟨k, hk', rfl⟩ := Option.map_eq_some_iff.mp hd
    obtain ⟨b, ws, rfl, hb, _, _, rfl, rfl, _, _, rfl, rfl, v3, _, rfl, r3, rfl⟩ := rd
    refine ⟨b, _, rfl, SqT.of hb, rfl, _, _, rfl, _, _, rfl, _, _, rfl, rfl, ?_⟩
    refine ⟨_, rfl, _, rfl, rfl, _, rfl, ite2 (fun c => ?_) (fun c => ?_)⟩
    · have e : k.name = x := V.str.inj (of_decide_eq_true c)
      have e2 : kAt ks x = some k := (find_step hn hk').1 (decide_eq_true e)
      refine ⟨_, rfl, ?_⟩
      rw [e2] at q
      exact q
    · have e : ¬ k.name = x := fun z => c (decide_eq_true (congrArg V.str z))
      exact ⟨_, _, _, rfl, rfl, (find_step hn hk').2 (decide_eq_false e)⟩
  · rintro σ H' ⟨o2, o3, o4, rfl, rfl, hn⟩
    rw [List.take_of_length_le (by omega)] at hn
    rw [show kAt ks x = none from hn] at q
    exact q
theorem ok_parts_of (T : Tx K mg) : DefIs P w K mg base (n + 1) "parts_of" ["kinds", "K"] spPartsOf := by
  refine DefIs.of T.d_parts_of sc_parts_of (fun vs H Q E h => ?_) (fun f cdv A outer s H vs Q E hr h => ?_)
  · obtain ⟨_, _, _, rfl, _⟩ := h
    rfl
  obtain ⟨v, ks, x, rfl, hk, q⟩ := h
  have nd := sc_parts_of.nd
  refine ⟨_, (pss_cons (ps_for PassesOwn.never rfl (pi_tup (pv 0)) (pg_tup rfl (pgs_cons (pg_name (i := 2) nd rfl (by first | exact Or.inl rfl | exact Or.inr rfl)) (pgs_cons (pg_name (i := 3) nd rfl (by first | exact Or.inl rfl | exact Or.inr rfl)) (pgs_cons (pg_name (i := 4) nd rfl (by first | exact Or.inl rfl | exact Or.inr rfl)) pgs_nil))))
      (pss_one (ps_if (pt_cmpR op_eq (pv 2) (pv 1) (nomark _)) (pss_one (ps_ret (pv 4))) pss_nil)))
      (pss_one (ps_ret (pe_tup pa_nil)))), ?_⟩
  obtain ⟨a, us, rfl, ha, hR⟩ := hk.1
  refine ⟨_, rfl, a, rfl, ⟨_, SqT.of ha⟩, ?_⟩
  have hl := hR.length
  rw [List.length_map] at hl
  refine for_tup (xs := us) (fun i σ H' => ∃ o2 o3 o4, σ = [some (.ref a), some (.str x), o2, o3, o4] ∧ H' = H ∧ (ks.take i).find? (fun k => decide (k.name = x)) = none) ⟨none, none, none, rfl, rfl, rfl⟩ (fun i σ H' _ p => ?_) ?_ ?_
  · obtain ⟨_, _, _, _, rfl, _⟩ := p
    exact SqT.of ha
  · rintro i v σ H' hv ⟨o2, o3, o4, rfl, rfl, hn⟩
    obtain ⟨d, hd, rd⟩ := hR.get hv
    rw [List.getElem?_map] at hd
    obtain ⟨k, hk', rfl⟩ := Option.map_eq_some_iff.mp hd
    obtain ⟨b, ws, rfl, hb, _, _, rfl, rfl, _, _, rfl, rfl, v3, _, rfl, r3, rfl⟩ := rd
    refine ⟨b, _, rfl, SqT.of hb, rfl, _, _, rfl, _, _, rfl, _, _, rfl, rfl, ?_⟩
    refine ⟨_, rfl, _, rfl, rfl, _, rfl, ite2 (fun c => ?_) (fun c => ?_)⟩
    · have e : k.name = x := V.str.inj (of_decide_eq_true c)
      have e2 : kAt ks x = some k := (find_step hn hk').1 (decide_eq_true e)
      refine ⟨_, rfl, ?_⟩
      rw [e2] at q
      exact q _ _ (Same.refl _) r3
    · have e : ¬ k.name = x := fun z => c (decide_eq_true (congrArg V.str z))
      exact ⟨_, _, _, rfl, rfl, (find_step hn hk').2 (decide_eq_false e)⟩
  · rintro σ H' ⟨o2, o3, o4, rfl, rfl, hn⟩
    rw [List.take_of_length_le (by omega)] at hn
    rw [show kAt ks x = none from hn] at q
    exact ⟨(by show 0 ≤ sizeLine; decide), fun p hp => q _ _ (Same.new hp _) ⟨p, [], rfl, upd_same, rfl⟩⟩
end
end K45

end

section
set_option Elab.async false
set_option linter.all false
set_option maxRecDepth 100000
set_option maxHeartbeats 4000000
namespace L2
open PySem PySem.Spec PyProof.Rows
section
variable {X : Cx}
/-- a tracked thing told otherwise: the heap itself stays -/
theorem Inv.reH {pins : List (Addr × Obj)} {σ : St} {H : Hp} {s : Shared} {a : Addr} {o u : HO} (I : Inv X pins σ H s) (ha : H a = some o) (n1 : ∀ xs, o ≠ .tup xs) (n2 : ∀ ps, o ≠ .tbl ps) (n3 : ∀ x, o ≠ .own x) (nz : ∀ ob v, X.H₀ a ≠ some (.frz ob v))
    (new : ObjOk X.prog X.w (upd H a u) s.heap a u) : Inv X pins σ (upd H a u) s := by
  have hn : ∀ {b : Addr}, H b = none → upd H a u b = none := fun {b} e => by
    rw [upd_ne fun z => by rw [z, ha] at e; cases e]
    exact e
  have hs : ∀ {b : Addr} {v : HO}, H b = some v → v ≠ o → upd H a u b = some v := fun {b v} e ne => by
    rw [upd_ne fun z => by rw [z, ha] at e; exact ne (Option.some.inj e).symm]
    exact e
  refine ⟨I.ok, I.os, I.bare, ⟨I.base.keep, I.base.slot, fun b ob e n hx => hn (I.base.free b ob e n hx), I.base.there, fun b xs e => hs (I.base.tups b xs e) fun z => n1 xs z.symm, fun b ob v e => ?_, fun b ps e => ?_⟩, I.loc, I.cell, hn I.free, fun x c e => hn (I.freeC x c e), fun p hp => ?_, fun b v e => ?_, I.len⟩
  · rw [upd_ne fun z => by subst z; exact nz ob v e]
    exact I.base.frzs b ob v e
  · obtain ⟨more, e'⟩ := I.base.tbls b ps e
    exact ⟨more, hs e' fun z => n2 _ z.symm⟩
  · obtain ⟨q1, q2, q3⟩ := I.pin p hp
    exact ⟨q1, hn q2, q3⟩
  · by_cases hb : b = a
    · subst hb
      rw [upd_same] at e
      cases e
      exact new
    · rw [upd_ne hb] at e
      exact (I.hok b v e).stay (fun _ _ _ q => q) (fun c q => hs q fun z => n3 _ z.symm) fun c xs q => hs q fun z => n1 _ z.symm
def NoFz (H0 : Hp) (a : Addr) : Prop := ∀ ob u, H0 a ≠ some (.frz ob u)
theorem Inv.noFz {pins : List (Addr × Obj)} {σ : St} {H : Hp} {s : Shared} {a : Addr} {kvs : List (Key × V)} (I : Inv X pins σ H s) (ha : H a = some (.dK kvs)) : NoFz X.H₀ a := fun ob u e => by
  have := I.base.frzs a ob u e
  rw [ha] at this
  cases this
/-- while a loop walks it -/
theorem Inv.freeze {pins : List (Addr × Obj)} {σ : St} {H : Hp} {s : Shared} {a : Addr} {ob : Obj} {kvs : List (Key × V)} (I : Inv X pins σ H s) (ha : H a = some (.dK kvs)) (e : s.heap.get? a = some ob) : Inv X pins σ (upd H a (.frz ob (.dK kvs))) s := by
  refine I.reH ha (fun _ z => by cases z) (fun _ z => by cases z) (fun _ z => by cases z) (I.noFz ha) ⟨e, ?_⟩
  obtain ⟨z, y, r⟩ := (show ObjOk X.prog X.w H s.heap a (.dK kvs) from I.hok a _ ha)
  exact ⟨z, y, r⟩
theorem Inv.thaw {pins : List (Addr × Obj)} {σ : St} {H : Hp} {s : Shared} {a : Addr} {ob : Obj} {kvs : List (Key × V)} (I : Inv X pins σ H s) (ha : H a = some (.frz ob (.dK kvs))) (nz : NoFz X.H₀ a) : Inv X pins σ (upd H a (.dK kvs)) s := by
  obtain ⟨_, z, y, r⟩ := (show ObjOk X.prog X.w H s.heap a (.frz ob (.dK kvs)) from I.hok a _ ha)
  exact I.reH ha (fun _ z => by cases z) (fun _ z => by cases z) (fun _ z => by cases z) nz ⟨z, y, r⟩
/-- a dict's keys, the dict being as it was -/
def Itd (a : Addr) (o : Obj) (kvs : List (Key × V)) : It :=
  ⟨fun i H => H a = some (.frz o (.dK kvs)) ∧ i < kvs.length, fun i H x H' => H' = H ∧ ∃ kv, kvs[i]? = some kv ∧ x = kV kv.1, fun i H => H a = some (.frz o (.dK kvs)) ∧ kvs.length ≤ i⟩
theorem frz_at {P : Program} {w : World} {H : Hp} {h : Heap} {a : Addr} {o : Obj} {kvs : List (Key × V)} {es : Array DictEntry} {ep : Nat} (ok : HOk P w H h) (e : H a = some (.frz o (.dK kvs))) (hd : o.data = .dict es ep) : ∃ vs, KV kvs vs ∧ h.DictAt (mixKind P w) a vs ep := by
  obtain ⟨e1, _, _, vs, r, ob, es', ep', e2, c, d, q⟩ := (show ObjOk P w H h a (.frz o (.dK kvs)) from ok a _ e)
  rw [e1] at e2
  cases e2
  rw [hd] at d
  cases d
  exact ⟨vs, r, o, es, e1, c, hd, q⟩
theorem turn_dict {P : Program} {w : World} {K : PySem.W.Frag} {tg : Expr} {a it : Addr} {o : Obj} {kvs : List (Key × V)} {es : Array DictEntry} {ep : Nat} (hne : a ≠ it) (hd : o.data = .dict es ep) : Turn P w K tg (Itd a o kvs) [it] it (fun i h => h.IsKeyIter it a i kvs.length ep) where
  mem := by simp
  obj := fun i h st b hb => by
    have e : b = it := by simpa using hb
    subst e
    obtain ⟨o, e, c, d⟩ := st
    exact ⟨o, e, fun v z => by rw [d] at z; cases z⟩
  keep := fun i h h' st k => st.at fun o e => k it (by simp) o e
  item := by
    intro X hP hw hK hc i pins s σ H E I hf st hg
    subst hP hw hK
    obtain ⟨ha, hi⟩ := hg
    obtain ⟨vs, rel, dat⟩ := frz_at I.hok ha hd
    have hl := rel.length
    obtain ⟨f0, f1, f2, f3, f4, f5⟩ := hf it (by simp)
    have hi' : i < vs.length := by omega
    refine wpAny_pyNext_dict_item (kvs := vs) (k := vs[i].1) (v := vs[i].2) (by rw [← hl]; exact st) dat (by rw [List.getElem?_eq_getElem hi']) fun key h' hkey st' sb => ?_
    have I1 : Inv X pins σ H { s with heap := h' } := I.turned (t' := s.toks) (fun b o hb e => (sb.2 b hb).trans e) f0 f1 f3 f4 f5
    rw [← hl] at st'
    obtain ⟨o', e, c, d⟩ := id st'
    have ek := KV.get rel (List.getElem?_eq_getElem hi) (List.getElem?_eq_getElem hi')
    exact ⟨key, rfl, go_of (s := { s with heap := h' }) e c d (by decide) ⟨kV kvs[i].1, H, I1, by rw [ek]; exact is_kV hkey, ⟨rfl, _, List.getElem?_eq_getElem hi, rfl⟩, st', fun b hb => (hf b hb).1⟩⟩
  done := by
    intro X hP hw hK hc i pins s σ H E I hf st hg
    subst hP hw hK
    obtain ⟨ha, hi⟩ := hg
    obtain ⟨vs, rel, dat⟩ := frz_at I.hok ha hd
    have hl := rel.length
    obtain ⟨f0, f1, f2, f3, f4, f5⟩ := hf it (by simp)
    exact wpAny_pyNext_dict_end (I.ok.hd hc) (kvs := vs) (by rw [← hl]; exact st) dat (List.getElem?_eq_none (by omega)) fun h' eb => ⟨rfl, I.turned (t' := s.toks) (fun b o hb e => eb b o hb e) f0 f1 f3 f4 f5⟩
  self := fun _ _ _ _ _ st h => wpAny_pyIter_keyiter st h
def iDict (H0 : Hp) (td : TE) : TI := fun σ H R => td σ H fun x H1 => ∃ a, ∃ kvs : List (Key × V), x = .ref a ∧ H1 a = some (.dK kvs) ∧ ∀ o, NoFz H0 a → R (Itd a o kvs) (upd H1 a (.frz o (.dK kvs)))
/-- for k in d -/
theorem pi_dict {tg l : Expr} {tl : TE} (hl : PE X l tl) : PI X tg l (iDict X.H₀ tl) := by
  intro pins s σ H R I h
  refine thn (hl pins s σ H _ I h) fun v s1 ⟨x, H1, I1, r1, q1⟩ => ?_
  obtain ⟨a, kvs, e, ha, q⟩ := q1
  subst e
  cases r1
  obtain ⟨hz, hsys, vs, rel, dd⟩ := dk_of I1.hok ha
  obtain ⟨ep, dat⟩ := dd.dictAt
  obtain ⟨o, es, ho, hx, hdat, _⟩ := id dat
  have hlen := rel.length
  refine wpAny_pyIter_dict hsys dat ?_
  have I2 := I1.freeze ha ho
  have hn : upd H1 a (.frz o (.dK kvs)) s1.heap.objs.size = none := I2.hok.fresh (Nat.le_refl _)
  refine ⟨s1.heap.objs.size, [s1.heap.objs.size], _, _, _, rfl, I2.kept (t' := s1.toks) fun b o e => Heap.get?_push_of_some _ e, turn_dict (fun z => ?_) hdat, ⟨_, Heap.get?_push_size _ rfl, rfl, by rw [hlen]; rfl⟩, fun b hb => ?_, q o (I1.noFz ha)⟩
  · rw [← z, upd_same] at hn
    cases hn
  · have e : b = s1.heap.objs.size := by simpa using hb
    subst e
    exact I2.fpOk (Nat.le_refl _) hn
def thawN (H0 : Hp) (N : St → Hp → Prop) : St → Hp → Prop := fun σ H => ∃ a o, ∃ kvs : List (Key × V), H a = some (.frz o (.dK kvs)) ∧ NoFz H0 a ∧ N σ (upd H a (.dK kvs))
theorem ps_thaw {st : Stmt} {t : TS} (h : PS X st t) : PS X st (fun D σ H => t { D with nx := thawN X.H₀ D.nx } σ H) := by
  intro pins s σ H D I hh
  refine thn (h pins s σ H _ I hh) fun f s' q => ?_
  cases f with
  | next =>
    obtain ⟨σ', H', I', a, o, kvs, e, nz, q'⟩ := q
    exact ⟨σ', _, I'.thaw e nz, q'⟩
  | cont => exact q
  | brk => exact q
  | ret v => exact q
theorem for_dict {a : Addr} {o : Obj} {kvs : List (Key × V)} {g : TG} {tb : TS} {D : Ends} {σ : St} {H : Hp} (Pv : Nat → St → Hp → Prop) (h0 : Pv 0 σ H) (hl : ∀ i σ H, i ≤ kvs.length → Pv i σ H → H a = some (.frz o (.dK kvs)))
    (hs : ∀ i kv σ H, kvs[i]? = some kv → Pv i σ H → g (kV kv.1) σ H fun σ2 H2 => tb { D with nx := Pv (i + 1), ct := Pv (i + 1), bk := D.nx } σ2 H2) (hd : ∀ σ H, Pv kvs.length σ H → D.nx σ H) :
    ∃ W : Nat → Nat → St → Hp → Prop, (∃ m, W 0 m σ H) ∧ ∀ i m σ H, W i m σ H →
      ((Itd a o kvs).stop i H ∧ D.nx σ H) ∨ ((Itd a o kvs).go i H ∧ ∃ N : St → Hp → Prop, (∀ σ' H', N σ' H' → ∃ m', m' < m ∧ W (i + 1) m' σ' H') ∧ ∀ x H', (Itd a o kvs).yld i H x H' → g x σ H' fun σ2 H2 => tb { D with nx := N, ct := N, bk := D.nx } σ2 H2) := by
  refine ⟨fun i m σ H => m = kvs.length - i ∧ i ≤ kvs.length ∧ Pv i σ H, ⟨kvs.length, by simp, Nat.zero_le _, h0⟩, ?_⟩
  rintro i m σ H ⟨rfl, hi, p⟩
  have q := hl i σ H hi p
  by_cases hlt : i < kvs.length
  · refine .inr ⟨⟨q, hlt⟩, Pv (i + 1), fun σ' H' p' => ⟨kvs.length - (i + 1), by omega, rfl, hlt, p'⟩, fun x H' y => ?_⟩
    obtain ⟨e, kv, hk, e2⟩ := y
    subst e e2
    exact hs i kv σ _ hk p
  · have e : i = kvs.length := by omega
    subst e
    exact .inl ⟨⟨q, Nat.le_refl _⟩, hd σ H p⟩
end
end L2

end

section
set_option Elab.async false
set_option linter.all false
set_option maxRecDepth 100000
set_option maxHeartbeats 4000000
namespace PySem
open Sem (wp)
section
variable {prog : Program} {w : World} {A : Around} {E : Value → Shared → Prop} {s : Shared}
/-- a tuple has no such attribute -/
theorem getAttrQ_miss_tup {a : Addr} {xs : Array Value} {k : Nat} {sl : Array (Option Value)} {name : Str} {Q : Option Value → Shared → Prop}
    (hx : s.heap.get? a = some { cls := .type "tuple", dict := none, data := .seq xs k, slots := sl }) (hmiss : typeLookup (.type "tuple") name = pure none) (hname : (["__module__", "__name__", "__qualname__", "__doc__", "__annotations__"] : List Str).contains name = false) (hA : A.handled = none)
    (h : ∀ h' tk, (∀ b o, s.heap.get? b = some o → h'.get? b = some o) → Q none { s with heap := h', toks := tk }) (hsz : name.length + 100 ≤ sizeLine) :
    wpAny (model prog w) A (getAttr? (.ref a) name) Q E s := by
  obtain ⟨hp, g, d, tk, os⟩ := s
  have hT : ∀ tk', (⟨hp, g, d, tk', os⟩ : Shared).TypeIs (.ref a) "tuple" := fun _ => ⟨_, hx, rfl⟩
  have f1 := sub_AttributeError
  have f3 := F.slot_tuple_getattribute.lookup
  have f4 := F.slot_tuple_getattribute.bind (.ref a)
  have f5 := am_tuple_getattr_none
  unfold getAttr? getAttrBy? getAttrBy
  repeat (any_goals (first | assumption | exact hT _ | ((with_reducible show wpAny _ _ (call (Value.builtin "tuple.__getattribute__") _ _) _ _ _); refine call_meets F.slot_tuple_getattribute (hT _) am_entry_tuple_getattribute (F.args_tuple_getattribute_2 _ _) (meets_getattribute_miss_tuple a xs k sl name _ hmiss hname hsz) ⟨hx, hA, fun h' tk' e hx' => ?_⟩) | wp_step))
  obtain ⟨t', u', he⟩ := hx'.there
  show wpAny _ _ (getattributeRaised _ _ _ _ _ _ _) _ _ _
  unfold getattributeRaised
  repeat (any_goals (first | assumption | wp_step))
  all_goals first | exact h _ _ hx'.keeps | skip
end
end PySem
namespace L2
open PySem PySem.Spec PyProof.Rows
section
variable {prog : Program} {w : World} {A : Around} {K : Type} [DecidableEq K] {knd : KeyKind prog w K}
theorem tup_ne_iterT {h : Heap} {a I l : Addr} {i : Nat} {xs : Array Value} (ht : h.IsTuple a xs) (hd : h.IsTupleIter I l i) : a ≠ I := fun e => by
  subst e
  obtain ⟨o, ho, hc, _⟩ := ht
  obtain ⟨t, ht2, hc2, _⟩ := hd
  have : o = t := Option.some.inj (ho.symm.trans ht2)
  subst this
  rw [hc] at hc2
  exact absurd (Value.type.inj hc2) (by decide)
theorem upd_loopT {R : Result → Shared → Prop} {I l d : Addr} {its : List Value} {ps : List (K × Value)} (hh : A.in1.handled = none) (hne : l ≠ I) (hdl : l ≠ d) (hdI : I ≠ d) :
    ∀ (k i : Nat) (s : Shared) (cur : List (K × Value)), its.length - i = k → i ≤ its.length → s.heap.IsTupleIter I l i → s.heap.IsTuple l its.toArray → s.heap.DictOf knd d cur → PairsAt knd s.heap (its.drop i) (ps.drop i) → cur.length + (its.length - i) ≤ sizeLine →
    (∀ h' tk, h'.DictOf knd d (merged cur (ps.drop i)) → (∀ b o, b ≠ d → b ≠ I → s.heap.get? b = some o → h'.get? b = some o) → R (.ok (.ret .none)) { s with heap := h', toks := tk }) →
    codeAny (model prog w) A (.builtin "dict.update.loop" ⟨[.ref d, .ref I, rawInt i, .none], []⟩) R s := by
  intro k
  induction k with
  | zero =>
    intro i s cur hk hi hit hl hd hp hsz hR
    have hin : i = its.length := by omega
    have W := Walks.tuple (prog := prog) (w := w) (A := A.in1) hh I l hne its.toArray
    refine codeAny_builtin entry_upd_loop ?_
    rw [Around.under_plainId plain_upd_loop _]
    show wpAny _ A.in1 (pyNext (.ref I) >>= _) _ _ s
    refine wpAny_bind (W.done s _ _ (by have e : its.toArray.size = i := by simp [hin]
                                        rw [e]; exact ⟨hit, hl⟩) fun h' tk hk' => ?_)
    show wpAny _ _ (Builtin.Dict.addKeywords d [] >>= _) _ _ _
    refine wpAny_bind (wpAny_pure (wpAny_pure ?_))
    have hps : ps.drop i = [] := by
      rw [hin, List.drop_length] at hp
      rw [hin]
      cases hq : ps.drop its.length with
      | nil => rfl
      | cons p r => rw [hq] at hp; exact hp.elim
    refine hR h' tk ?_ fun b o hb hbI e => hk' b o (by simpa using hbI) e
    rw [hps]
    exact hd.at fun o e => hk' d o (by simpa using (Ne.symm hdI)) e
  | succ k ih =>
    intro i s cur hk hi hit hl hd hp hsz hR
    have hlt : i < its.length := by omega
    have W := Walks.tuple (prog := prog) (w := w) (A := A.in1) hh I l hne its.toArray
    have hdi : its.drop i = its[i] :: its.drop (i + 1) := List.drop_eq_getElem_cons hlt
    rw [hdi] at hp
    obtain ⟨p, r, hpe⟩ : ∃ p r, ps.drop i = p :: r := by
      cases hq : ps.drop i with
      | nil => rw [hq] at hp; exact hp.elim
      | cons p r => exact ⟨p, r, rfl⟩
    have hpr : ps.drop (i + 1) = r := by rw [← List.tail_drop, hpe]; rfl
    rw [hpe] at hp
    obtain ⟨⟨a, key, ea, hta, hkey⟩, hrest⟩ := hp
    refine codeAny_builtin entry_upd_loop ?_
    rw [Around.under_plainId plain_upd_loop _]
    show wpAny _ A.in1 (pyNext (.ref I) >>= _) _ _ s
    refine wpAny_bind (W.item i s _ _ (by simpa using hlt) ⟨hit, hl⟩ fun v h' tk hP hst' hk' => ?_)
    have hv : v = .ref a := by
      have : its[i]? = some v := by simpa using hP
      rw [List.getElem?_eq_getElem hlt, ea] at this
      exact (Option.some.inj this).symm
    subst hv
    have hta' : h'.IsTuple a #[key, p.2] := hta.at fun o e => hk' a o (by simpa using tup_ne_iterT hta hit) e
    have hd' : h'.DictOf knd d cur := hd.at fun o e => hk' d o (by simpa using (Ne.symm hdI)) e
    obtain ⟨oa, hoa, hca, na, hda⟩ := id hta'
    refine wpAny_bind (wpAny_holding (wpAny_bind (wpAny_tryCatch ?_)))
    unfold Builtin.Dict.pairItems
    refine wpAny_bind (wpAny_typeOf ⟨oa, hoa, hca⟩ ?_)
    rw [if_pos (by decide)]
    refine wpAny_bind (wpAny_seqItems hoa hda (wpAny_pure ?_))
    show wpAny _ _ (holding [key, p.2] (dictSet d key p.2)) _ _ _
    refine wpAny_holding (wpAny_dictSet_pairs hkey hd' (fun h2 hd2 hs2 => ?_) (by omega))
    have st2 : h2.IsTupleIter I l (i + 1) ∧ h2.IsTuple l its.toArray := ⟨hst'.1.at fun o e => (hs2.2 I hdI).trans e, hst'.2.at fun o e => (hs2.2 l hdl).trans e⟩
    refine wpAny_pure ⟨plainId_quiet plain_upd_loop _, ih (i + 1) _ _ (by omega) hlt st2.1 st2.2 hd2 ?_ ?_ fun h3 tk3 hd3 hk3 => ?_⟩
    · rw [hpr]
      exact hrest.keep fun b xs hb => by
        have h1 : h'.IsTuple b xs := hb.at fun o e => hk' b o (by simpa using tup_ne_iterT hb hit) e
        exact h1.at fun o e => (hs2.2 b (tup_ne_dict h1 hd')).trans e
    · have := stored_length_le cur p.1 p.2
      omega
    · refine hR h3 tk3 ?_ fun b o hb hbI e => hk3 b o hb hbI ((hs2.2 b hb).trans (hk' b o (by simpa using hbI) e))
      rw [hpe]
      rw [hpr] at hd3
      exact hd3
end
end L2

namespace L2
open PySem PySem.Spec PyProof.Rows
theorem tup_no_keys : typeLookup (.type "tuple") "keys" = pure none := am_miss_of_fast (by kernel_rfl)
section
variable {prog : Program} {w : World} {A : Around} {E : Value → Shared → Prop} {s : Shared} {K : Type} [DecidableEq K] {knd : KeyKind prog w K}
/-- dict(t), t a tuple of pairs -/
theorem dict_of_tup {l : Addr} {its : List Value} {n : Nat} {sl : Array (Option Value)} {ps : List (K × Value)} {Q : Value → Shared → Prop} (hh : A.handled = none) (hl : s.heap.get? l = some { cls := .type "tuple", data := .seq its.toArray n, dict := none, slots := sl }) (hp : PairsAt knd s.heap its ps) (hsz : its.length ≤ sizeLine)
    (h : ∀ h' tk, h'.DictOf knd s.heap.objs.size (merged [] ps) → (∀ b o, s.heap.get? b = some o → h'.get? b = some o) → Q (.ref s.heap.objs.size) { s with heap := h', toks := tk }) :
    wpAny (model prog w) A (call (.type "dict") [.ref l]) Q E s := by
  refine callType_codes (Q₁ := fun obj s₁ => obj = .ref s.heap.objs.size ∧ s₁ = { s with heap := s.heap.push { cls := .type "dict", data := .dict #[] } }) F.kt_called_dict (F.kt_typeCall_dict_1 _) F.entry_dict_init (kt_code_dict_new _ ⟨rfl, rfl⟩) ?_
  rintro obj s₁ ⟨rfl, rfl⟩
  have hnew : (s.heap.push { cls := .type "dict", data := .dict #[] }).DictOf knd s.heap.objs.size [] := Heap.DictOf.new s.heap
  have ext0 : ∀ b o, s.heap.get? b = some o → (s.heap.push { cls := .type "dict", data := .dict #[] }).get? b = some o := fun b o e => Heap.get?_push_of_some _ e
  have hl0 := ext0 _ _ hl
  have hT : (⟨s.heap.push { cls := .type "dict", data := .dict #[] }, s.gens, s.drawn, s.toks, s.os⟩ : Shared).TypeIs (.ref l) "tuple" := ⟨_, hl0, rfl⟩
  have hdl : l ≠ s.heap.objs.size := fun e => absurd (Heap.lt_size hl) (by rw [e]; exact Nat.lt_irrefl _)
  refine ⟨hnew.typeIs, F.args_dict_init_2 _ _, ?_⟩
  unfold Builtin.«dict.__init__»
  refine wpAny_bind ?_
  unfold Builtin.Dict.selfAndRest
  refine wpAny_bind (wpAny_notOrdered_dict hnew.typeIs ?_)
  show wpAny _ _ (pure (s.heap.objs.size, [Value.ref l])) _ _ _
  refine wpAny_pure ?_
  show wpAny _ _ (Builtin.Dict.updateFrom "dict.__init__" s.heap.objs.size (.ref l) [] .none) _ _ _
  unfold Builtin.Dict.updateFrom
  refine wpAny_bind (wpAny_typeOf hT ?_)
  rw [if_pos (by decide)]
  refine wpAny_bind (getAttrQ_miss_tup (sl := sl) hl0 tup_no_keys (by decide +kernel) hh (fun h1 tk1 k1 => ?_) (by decide +kernel))
  rw [if_pos (show (none : Option Value).isNone = true from rfl)]
  refine wpAny_bind (wpAny_rule ?_)
  have hl1 := k1 _ _ hl0
  have hL1 : h1.IsTuple l its.toArray := ⟨_, hl1, rfl, _, rfl⟩
  refine wpAny_bind (wpAny_pyIter_tuple hL1 (wpAny_pure ⟨plainId_quiet plain_upd_loop _, ?_⟩))
  have hsz1 : s.heap.objs.size < h1.objs.size := Heap.lt_size (k1 _ _ (Heap.get?_push_size _ rfl))
  have hlI : l < h1.objs.size := Heap.lt_size hl1
  have ext2 : ∀ b o, h1.get? b = some o → (h1.push { cls := .type "tuple_iterator", data := .fields #[.ref l, .int 0 0] }).get? b = some o := fun b o e => Heap.get?_push_of_some _ e
  refine upd_loopT (knd := knd) (A := A.in1) (ps := ps) (l := l) (d := s.heap.objs.size) (its := its) hh (Nat.ne_of_lt hlI) hdl (Nat.ne_of_gt hsz1) its.length 0 _ [] (Nat.sub_zero _) (Nat.zero_le _) ⟨_, Heap.get?_push_size _ rfl, rfl, rfl⟩ (hL1.push _) (hnew.at fun o e => ext2 _ _ (k1 _ _ e)) (hp.keep fun a xs ha => ha.at fun o e => ext2 _ _ (k1 _ _ (ext0 _ _ e))) (by simpa using hsz) fun h3 tk3 hd3 hk3 => ?_
  refine ⟨rfl, h h3 tk3 hd3 fun b o e => hk3 b o ?_ ?_ (ext2 _ _ (k1 _ _ (ext0 _ _ e)))⟩
  · exact fun z => absurd (Heap.lt_size e) (by rw [z]; exact Nat.lt_irrefl _)
  · exact fun z => absurd (Heap.lt_size e) (by rw [z]; exact Nat.not_lt_of_gt hsz1)
end
end L2
namespace L2
open PySem PySem.Spec PyProof.Rows
section
variable {X : Cx}
/-- dict(t), t a tuple of pairs -/
theorem call_dictT (hc : X.calm = true) : CallR X (.type "dict") (fun xs H Q => ∃ a ys, ∃ kvs : List (Key × V), xs = [.ref a] ∧ H a = some (.tup ys) ∧ PairsV H ys kvs ∧ ∀ p, H p = none → Q (.ref p) (upd H p (.dK (mergeK [] kvs)))) := by
  intro pins s σ H xs us Q I r h
  obtain ⟨a, ys, kvs, rfl, ha, hp, q⟩ := h
  obtain ⟨u, rfl, ru⟩ := vals1 r
  obtain rfl : u = .ref a := ru
  obtain ⟨hz, its, rv, ⟨oc, od, dt, sl⟩, ho, h1, n, h2, h3⟩ := (show ObjOk X.prog X.w H s.heap a (.tup ys) from I.hok a _ ha)
  simp only at h1 h2 h3
  subst h1 h2 h3
  obtain ⟨ps, hk, hpa⟩ := pairs_at I rv hp
  have hyl := hp.length
  refine dict_of_tup (knd := mixKind X.prog X.w) (I.ok.hd hc) ho hpa (by rw [← rv.length]; exact hz) fun h' tk dd' k' => ?_
  have hz' : (mergeK [] kvs).length ≤ sizeLine := by
    have := length_mergeK kvs []
    rw [List.length_nil] at this
    omega
  exact ⟨.ref s.heap.objs.size, _, I.laid (a := s.heap.objs.size) (o := .dK (mergeK [] kvs)) (t' := tk) k' (Nat.le_refl _) (dk_new hz' (beq_eq_false_iff_ne.mpr (Ne.symm (Nat.ne_of_lt I.big))) (hk.merge .nil) dd'), rfl, q _ (I.hok.fresh (Nat.le_refl _))⟩
end
end L2

end

section
set_option Elab.async false
set_option linter.all false
set_option maxRecDepth 100000
set_option maxHeartbeats 4000000
namespace M
open PySem L2
abbrev Wy := Str × Str × D
def wyD (y : Wy) : D := .tup [.str y.2.1, y.2.2]
def WAll (H : Hp) : List (Key × V) → List Wy → Prop
  | [], [] => True
  | kv :: kvs, y :: ys => (kv.1 = Sum.inr y.1 ∧ RelD H kv.2 (wyD y)) ∧ WAll H kvs ys
  | _, _ => False
theorem WAll.len {H : Hp} : ∀ {kvs : List (Key × V)} {ys : List Wy}, WAll H kvs ys → kvs.length = ys.length
  | [], [], _ => rfl
  | kv :: kvs, y :: ys, h => by rw [List.length_cons, List.length_cons, WAll.len h.2]
theorem WAll.tups {H H' : Hp} (s : ∀ b us, H b = some (.tup us) → H' b = some (.tup us)) : ∀ {kvs : List (Key × V)} {ys : List Wy}, WAll H kvs ys → WAll H' kvs ys
  | [], [], _ => trivial
  | kv :: kvs, y :: ys, h => ⟨⟨h.1.1, h.1.2.tups s _⟩, WAll.tups s h.2⟩
theorem WAll.snoc {H : Hp} {kv : Key × V} {y : Wy} (h : kv.1 = Sum.inr y.1 ∧ RelD H kv.2 (wyD y)) : ∀ {kvs : List (Key × V)} {ys : List Wy}, WAll H kvs ys → WAll H (kvs ++ [kv]) (ys ++ [y])
  | [], [], _ => ⟨h, trivial⟩
  | kv' :: kvs, y' :: ys, g => ⟨g.1, WAll.snoc h g.2⟩
theorem WAll.get {H : Hp} : ∀ {kvs : List (Key × V)} {ys : List Wy}, WAll H kvs ys → ∀ {i : Nat} {kv : Key × V}, kvs[i]? = some kv → ∃ y, ys[i]? = some y ∧ kv.1 = Sum.inr y.1 ∧ RelD H kv.2 (wyD y)
  | kv' :: kvs, y :: ys, g, 0, kv, e => by
    simp at e
    subst e
    exact ⟨y, rfl, g.1⟩
  | kv' :: kvs, y :: ys, g, i + 1, kv, e => WAll.get g.2 (by simpa using e)
def wyAt (ys : List Wy) (x : Str) : Option Wy := ys.find? fun y => decide (y.1 = x)
/-- where a kind goes -/
def goesTo (ys : List Wy) (x : Str) : Option Str := if x = S "num" then some (S "num") else (wyAt ys x).map fun y => y.2.1
def optV : Option Str → V
  | some x => .str x
  | none => .non
def WaysAt (H : Hp) (a : Addr) (ys : List Wy) : Prop := ∃ kvs : List (Key × V), Rd H a (.dK kvs) ∧ WAll H kvs ys
theorem WAll.val {H : Hp} {x : Str} : ∀ {kvs : List (Key × V)} {ys : List Wy}, WAll H kvs ys → (wyAt ys x = none → valV kvs (Sum.inr x : Key) = none) ∧ ∀ y, wyAt ys x = some y → ∃ v, valV kvs (Sum.inr x : Key) = some v ∧ RelD H v (wyD y)
  | [], [], _ => ⟨fun _ => rfl, fun y e => (by cases e)⟩
  | kv :: kvs, y :: ys, h => by
    have ih := WAll.val (x := x) h.2
    unfold wyAt valV at *
    rw [List.find?_cons, List.find?_cons]
    by_cases c : y.1 = x
    · have c' : kv.1 = Sum.inr x := by rw [h.1.1, c]
      rw [decide_eq_true c, decide_eq_true c']
      exact ⟨fun e => (by cases e), fun z e => by cases e; exact ⟨kv.2, rfl, h.1.2⟩⟩
    · have c' : ¬ kv.1 = Sum.inr x := fun z => c (Sum.inr.inj (h.1.1.symm.trans z))
      rw [decide_eq_false c, decide_eq_false c']
      exact ih
theorem Rd.same {H H' : Hp} {a : Addr} {u : HO} (h : Rd H a u) (s : Same H H') : Rd H' a u := by
  rcases h with h | ⟨o, h⟩
  · exact .inl (s _ _ h)
  · exact .inr ⟨o, s _ _ h⟩
theorem WaysAt.same {H H' : Hp} {a : Addr} {ys : List Wy} (h : WaysAt H a ys) (s : Same H H') : WaysAt H' a ys := by
  obtain ⟨kvs, h1, h2⟩ := h
  exact ⟨kvs, Rd.same h1 s, h2.tups fun b us e => s _ _ e⟩
theorem DGet.rd {H : Hp} {a : Addr} {kvs : List (Key × V)} {k : Key} (e : Rd H a (.dK kvs)) : DGet H a (kV k) (valV kvs k) := .inl ⟨kvs, k, e, rfl, rfl⟩
def howD (k : Kn) : D := if k.rc = true then tRec k.name (k.parts.map fun p => tBox p.1) else .tup (k.parts.map fun p => .tup [.str p.1, tTag k.name p.1 (tBox (S "it"))])
def wyK (k : Kn) : Wy := (k.name, k.name, howD k)
theorem wyAt_K {gs : List Kn} {x : Str} : wyAt (gs.map wyK) x = (kAt gs x).map wyK := by
  unfold wyAt kAt
  induction gs with
  | nil => rfl
  | cons k gs ih =>
    rw [List.map_cons, List.find?_cons, List.find?_cons]
    by_cases c : k.name = x
    · rw [show decide ((wyK k).1 = x) = true from decide_eq_true c, decide_eq_true c]
      rfl
    · rw [show decide ((wyK k).1 = x) = false from decide_eq_false c, decide_eq_false c]
      exact ih
theorem goes_self {gs : List Kn} {x : Str} (h : x = S "num" ∨ ∃ k ∈ gs, k.name = x) : goesTo (gs.map wyK) x = some x := by
  unfold goesTo
  by_cases c : x = S "num"
  · rw [if_pos c, c]
  · rw [if_neg c, wyAt_K]
    rcases h with h | ⟨k, hk, e⟩
    · exact absurd h c
    · cases q : kAt gs x with
      | none =>
        have := List.find?_eq_none.mp q k hk
        simp [e] at this
      | some k' =>
        have : k'.name = x := by
          have := List.find?_some q
          exact of_decide_eq_true this
        show some (wyK k').2.1 = some x
        rw [← this]
        rfl
end M

end

section
set_option Elab.async false
set_option linter.all false
set_option maxRecDepth 100000
set_option maxHeartbeats 4000000
namespace K45
open PySem L2 M
seal L2.PE L2.PA L2.PS L2.PSs L2.PT L2.PW L2.PI L2.PG L2.PJ L2.PTs
def bKV (bs : List (Str × Str)) : List (Key × V) := bs.map fun b => (Sum.inr b.1, V.str b.2)
theorem pairs_bs {H : Hp} : ∀ {us : List V} {bs : List (Str × Str)}, RelDs H us (bs.map dPart) → PairsV H us (bKV bs)
  | us, [], h => by rw [show us = [] from h]; trivial
  | us, b :: bs, ⟨v, r, e, h1, h2⟩ => by
    subst e
    obtain ⟨a, ws, rfl, ha, _, _, rfl, rfl, _, _, rfl, rfl, rfl⟩ := h1
    exact ⟨⟨a, rfl, ha⟩, pairs_bs h2⟩
theorem merge_out {y : Str} : ∀ (bs : List (Str × Str)) (acc : List (Key × V)), (∀ b ∈ bs, b.1 ≠ y) → valV (mergeK acc (bKV bs)) (Sum.inr y) = valV acc (Sum.inr y)
  | [], acc, _ => rfl
  | b :: bs, acc, h => by
    show valV (mergeK (putK acc (Sum.inr b.1) (.str b.2)) (bKV bs)) (Sum.inr y) = _
    rw [merge_out bs _ fun c hc => h c (by simp [hc]), valV_put, if_neg fun e => h b (by simp) (Sum.inr.inj e).symm]
theorem merge_in : ∀ (bs : List (Str × Str)) (acc : List (Key × V)), (bs.map (·.1)).Nodup → ∀ p ∈ bs, valV (mergeK acc (bKV bs)) (Sum.inr p.1) = some (.str p.2)
  | [], acc, _, p, hp => nomatch hp
  | b :: bs, acc, nd, p, hp => by
    rw [List.map_cons, List.nodup_cons] at nd
    show valV (mergeK (putK acc (Sum.inr b.1) (.str b.2)) (bKV bs)) (Sum.inr p.1) = _
    rcases List.mem_cons.mp hp with rfl | hp
    · rw [merge_out bs _ fun c hc e => nd.1 (by rw [← e]; exact List.mem_map_of_mem hc), valV_put, if_pos rfl]
    · exact merge_in bs _ nd.2 p hp
theorem none_back {H H1 : Hp} {c : Addr} (s : Same H H1) (n : H1 c = none) : H c = none := by
  cases h : H c with
  | none => rfl
  | some o =>
    rw [s _ _ h] at n
    cases n
theorem same_upd {H H1 : Hp} {c : Addr} (s : Same H H1) (n : H c = none) (o : HO) : Same H (upd H1 c o) := fun b u hb => by
  rw [upd_ne (ne_of_none hb n)]
  exact s b u hb
theorem lst_tups {H : Hp} {p : Addr} {xs : List V} (h : H p = some (.lst xs)) (o : HO) : ∀ b vs, H b = some (.tup vs) → upd H p o b = some (.tup vs) := fun b vs hb => by
  rw [upd_ne fun e => by rw [e, h] at hb; cases hb]
  exact hb
theorem dk_tupsP {H : Hp} {p : Addr} {kvs : List (Key × V)} (h : H p = some (.dK kvs)) (o : HO) : ∀ b vs, H b = some (.tup vs) → upd H p o b = some (.tup vs) := fun b vs hb => by
  rw [upd_ne fun e => by rw [e, h] at hb; cases hb]
  exact hb
theorem rec_sortP {k : Kn} (h : k.rc = true) : k.sort = S "rec" := by unfold Kn.sort; rw [if_pos h]
theorem alt_sortP {k : Kn} (h : k.rc = false) : k.sort = S "alt" := by unfold Kn.sort; rw [if_neg (by rw [h]; decide)]
theorem put_new {k : Key} {v : V} : ∀ {kvs : List (Key × V)}, valV kvs k = none → putK kvs k v = kvs ++ [(k, v)] := fun {kvs} h => by
  unfold putK
  rw [if_neg fun z => ?_]
  obtain ⟨e, he, ek⟩ := List.any_eq_true.mp z
  unfold valV at h
  have := List.find?_eq_none.mp (Option.map_eq_none_iff.mp h) e he
  exact this ek
theorem not_yet {ks : List Kn} {i : Nat} {k : Kn} {G : Str → Bool} (nd : (ks.map Kn.name).Nodup) (hk : ks[i]? = some k) : kAt ((ks.take i).filter fun k => G k.name) k.name = none := by
  unfold kAt
  refine List.find?_eq_none.mpr fun k' hk' => ?_
  have hm := (List.mem_filter.mp hk').1
  obtain ⟨j, hj, e⟩ := List.mem_iff_getElem.mp hm
  rw [List.length_take] at hj
  intro c
  have c' : k'.name = k.name := of_decide_eq_true c
  have hi : i < ks.length := (List.getElem?_eq_some_iff.mp hk).1
  have h1 : (ks.map Kn.name)[j]? = some k.name := by
    rw [List.getElem?_map, List.getElem?_eq_getElem (by omega : j < ks.length)]
    rw [List.getElem_take] at e
    rw [e, ← c']
    rfl
  have h2 : (ks.map Kn.name)[i]? = some k.name := by rw [List.getElem?_map, hk]; rfl
  have := (List.getElem?_inj (l := ks.map Kn.name) (i := j) (j := i) (by rw [List.length_map]; omega) nd).mp (h1.trans h2.symm)
  omega
def spGoes : Sp := fun vs H Q _ => ∃ (a : Addr) (ys : List Wy) (x : Str), vs = [.ref a, .str x] ∧ WaysAt H a ys ∧ Q (optV (goesTo ys x)) H
def spTermsBy : Sp := fun vs H Q _ => ∃ (kv : V) (wa : Addr) (ov nv : V) (ys : List Wy) (ps : List (Str × Str)), vs = [kv, .ref wa, ov, nv] ∧ WaysAt H wa ys ∧ RelD H ov (dParts ps) ∧ RelD H nv (dParts ps) ∧ (ps.map (·.1)).Nodup ∧ ps.length ≤ 100 ∧ (∀ p ∈ ps, goesTo ys p.2 = some p.2) ∧ ∀ u H', Same H H' → RelD H' u (.tup (ps.map fun p => tBox p.1)) → Q u H'
def spTagsBy : Sp := fun vs H Q _ => ∃ (kv : V) (wa : Addr) (dv : V) (ks : List Kn) (ys : List Wy) (k : Kn), vs = [kv, .ref wa, dv] ∧ KsAt H kv ks ∧ WaysAt H wa ys ∧ RelD H dv k.d ∧ kAt ks k.name = some k ∧ (k.parts.map (·.1)).Nodup ∧ k.parts.length ≤ 100 ∧ (∀ p ∈ k.parts, goesTo ys p.2 = some p.2) ∧
  ∀ u H', Same H H' → RelD H' u (.tup (k.parts.map fun p => .tup [.str p.1, tTag k.name p.1 (tBox (S "it"))])) → Q u H'
def spHow : Sp := fun vs H Q _ => ∃ (kv : V) (wa : Addr) (dv : V) (ks : List Kn) (ys : List Wy) (k : Kn), vs = [kv, .ref wa, dv] ∧ KsAt H kv ks ∧ WaysAt H wa ys ∧ RelD H dv k.d ∧
  ((kAt ks k.name = none ∧ Q .non H) ∨ (kAt ks k.name = some k ∧ (k.parts.map (·.1)).Nodup ∧ k.parts.length ≤ 100 ∧ (∀ p ∈ k.parts, goesTo ys p.2 = some p.2) ∧ ∀ u H', Same H H' → RelD H' u (howD k) → Q u H'))
def spMade : Sp := fun vs H Q _ => ∃ (fa sa ta : Addr) (kv1 kv2 : V) (r1 r2 : List V) (ks ks2 : List Kn) (G : Str → Bool), vs = [.ref fa, .ref sa, .ref ta] ∧ H fa = some (.tup (kv1 :: r1)) ∧ H sa = some (.tup (kv2 :: r2)) ∧ H ta = some (.dK []) ∧ RelD H kv1 (dKinds ks) ∧ KWf ks ∧ KsAt H kv2 ks2 ∧
  (∀ k ∈ ks, kAt ks2 k.name = if G k.name = true then some k else none) ∧ (∀ (i : Nat) k, ks[i]? = some k → G k.name = true → ∀ p ∈ k.parts, p.2 = S "num" ∨ ∃ j k', j < i ∧ ks[j]? = some k' ∧ k'.name = p.2 ∧ G k'.name = true) ∧
  ∀ r wa la kvs H', Same H H' → H r = none → H wa = none → H la = none → H' r = some (.tup [.ref wa, .ref la]) → H' wa = some (.dK kvs) → WAll H' kvs ((ks.filter fun k => G k.name).map wyK) → H' la = some (.lst ((ks.filter fun k => !G k.name).map fun k => V.str k.name)) → Q (.ref r) H'
section
variable {P : Program} {w : World} {K : PySem.W.Frag} {mg : Str → Option Value} {base : Heap} {n m : Nat}
theorem ok_goes_to (T : Tx K mg) : DefIs P w K mg base (n + 1) "goes_to" ["ways", "kind"] spGoes := by
  refine DefIs.of T.d_goes_to sc_goes_to (fun vs H Q E h => ?_) (fun f cdv A outer s H vs Q E hr h => ?_)
  · obtain ⟨_, _, _, rfl, _⟩ := h
    rfl
  obtain ⟨a, ys, x, rfl, ⟨kvs, hd, hw⟩, q⟩ := h
  have nd := sc_goes_to.nd
  have hu := hu_of hr
  refine ⟨_, (pss_cons (ps_if (pt_cmpR op_eq (pv 1) pe_str (nomark _)) (pss_one (ps_ret pe_str)) pss_nil)
      (pss_cons (ps_if (pt_cmp (pc_din hu (pv 1) (pv 0))) (pss_one (ps_ret (pe_ix ix_tup (pe_dget hu (pv 0) (pv 1) (fun _ _ => rfl)) pe_int (fun _ _ => rfl)))) pss_nil)
      (pss_one (ps_ret pe_non)))), ?_⟩
  unfold goesTo at q
  refine ⟨_, rfl, rfl, _, rfl, ite2 (fun c => ?_) (fun c => ?_)⟩
  · have e : x = S "num" := V.str.inj (of_decide_eq_true c)
    rw [if_pos e] at q
    exact q
  · have e : ¬ x = S "num" := fun z => c (decide_eq_true (congrArg V.str z))
    rw [if_neg e] at q
    have hv := hw.val (x := x)
    cases hy : wyAt ys x with
    | none =>
      rw [hy] at q
      have h0 := hv.1 hy
      refine ⟨_, rfl, _, rfl, a, _, rfl, DGet.rd (k := Sum.inr x) hd, _, rfl, iteBF (by rw [h0]; rfl) ?_⟩
      exact q
    | some y =>
      rw [hy] at q
      obtain ⟨v, h1, h2⟩ := hv.2 y hy
      refine ⟨_, rfl, _, rfl, a, _, rfl, DGet.rd (k := Sum.inr x) hd, _, rfl, iteBT (by rw [h1]; rfl) ?_⟩
      obtain ⟨b, us, rfl, hb, v0, _, rfl, r0, v1, _, rfl, r1, rfl⟩ := h2
      obtain rfl : v0 = .str y.2.1 := r0
      have g : DGet H a (.str x) (some (.ref b)) := by
        have := DGet.rd (k := Sum.inr x) hd
        rw [h1] at this
        exact this
      exact ⟨_, rfl, _, rfl, a, _, rfl, g, b, _, _, _, rfl, rfl, SqT.of hb, rfl, q⟩
theorem ok_terms_by_rules (T : Tx K mg) (spn : Sp) (D_goes_to : DefIs P w K mg base n "goes_to" ["ways", "kind"] spGoes) (D_nought_term : DefIs P w K mg base n "nought_term" ["kinds", "kind"] spn) : DefIs P w K mg base (n + 1) "terms_by_rules" ["kinds", "ways", "olds", "news"] spTermsBy := by
  refine DefIs.of T.d_terms_by_rules sc_terms_by_rules (fun vs H Q E h => ?_) (fun f cdv A outer s H vs Q E hr h => ?_)
  · obtain ⟨_, _, _, _, _, _, rfl, _⟩ := h
    rfl
  obtain ⟨kv, wa, ov, nv, ys, ps, rfl, hw, ho, hv, hnd, hl, hg, q⟩ := h
  have nd := sc_terms_by_rules.nd
  have hu := hu_of hr
  obtain ⟨oa, ous, rfl, hoa, hou⟩ := ho
  obtain ⟨na, nus, rfl, hna, hnu⟩ := hv
  have hnl := hnu.length
  rw [List.length_map] at hnl
  refine ⟨_, (pss_cons (ps_set (i := 4) nd rfl (by first | exact Or.inl rfl | exact Or.inr rfl) (pe_callTy (call_dictT rfl) rfl T.z_dict PyProof.Rows.boot_dict (pa_cons (pv 2) pa_nil star_name)))
      (pss_cons (ps_set (i := 5) nd rfl (by first | exact Or.inl rfl | exact Or.inr rfl) (pe_lst pa_nil))
      (pss_cons (ps_for PassesOwn.never rfl (pi_tup (pv 3)) (pg_tup rfl (pgs_cons (pg_name (i := 6) nd rfl (by first | exact Or.inl rfl | exact Or.inr rfl)) (pgs_cons (pg_name (i := 7) nd rfl (by first | exact Or.inl rfl | exact Or.inr rfl)) pgs_nil)))
      (pss_one (ps_if (pt_cmp (pc_dnotin hu (pv 6) (pv 4))) (pss_one (ps_expr (pe_bm PySem.F.plainAttrs_list PySem.F.slot_list_append PySem.F.type_list_append mt_append (pv 5) (pa_cons (pe_dcall D_nought_term hr (pa_cons (pv 0) (pa_cons (pv 7) pa_nil star_name) star_name)) pa_nil star_call)))) (pss_one (ps_if (pt_cmpR op_eq (pe_dcall D_goes_to hr (pa_cons (pv 1) (pa_cons (pe_dget hu (pv 4) (pv 6) (fun _ _ => rfl)) pa_nil star_sub) star_name)) (pv 7) (nomark _)) (pss_one (ps_expr (pe_bm PySem.F.plainAttrs_list PySem.F.slot_list_append PySem.F.type_list_append mt_append (pv 5) (pa_cons (pe_tup (pa_cons pe_str (pa_cons (pv 6) pa_nil star_name) star_const)) pa_nil star_tup)))) (pss_one (ps_ret pe_non)))))))
      (pss_one (ps_ret (pe_callTy call_tuple_of rfl T.z_tuple PyProof.Rows.boot_tuple (pa_cons (pv 5) pa_nil star_name))))))), ?_⟩
  refine ⟨_, rfl, oa, ous, bKV ps, rfl, hoa, pairs_bs hou, fun dp hdp => ?_⟩
  have y1 := Same.new hdp (.dK (mergeK [] (bKV ps)))
  refine ⟨(by show 0 ≤ sizeLine; decide), fun l hl' => ?_⟩
  have y2 := Same.new hl' (.lst [])
  have ne1 : dp ≠ l := ne_of_none upd_same hl'
  refine ⟨_, rfl, na, rfl, ⟨_, SqT.of (y2 _ _ (y1 _ _ hna))⟩, ?_⟩
  refine for_tup (xs := nus) (fun i σ H' => ∃ o6 o7 us, σ = [some kv, some (.ref wa), some (.ref oa), some (.ref na), some (.ref dp), some (.ref l), o6, o7] ∧ Same H H' ∧ H' dp = some (.dK (mergeK [] (bKV ps))) ∧ H' l = some (.lst us) ∧ RelDs H' us ((ps.take i).map fun p => tBox p.1)) ⟨none, none, [], rfl, y1.trans y2, y2 _ _ upd_same, upd_same, rfl⟩ (fun i σ H' _ p => ?_) ?_ ?_
  · obtain ⟨_, _, _, _, sm, _⟩ := p
    exact SqT.of (sm _ _ hna)
  · rintro i v σ H' hv ⟨o6, o7, us, rfl, sm, hd, hll, hus⟩
    obtain ⟨d, hd', rd⟩ := (hnu.same sm _).get hv
    rw [List.getElem?_map] at hd'
    obtain ⟨pr, hpr, rfl⟩ := Option.map_eq_some_iff.mp hd'
    obtain ⟨b, ws, rfl, hb, _, _, rfl, rfl, _, _, rfl, rfl, rfl⟩ := rd
    have hpm := List.mem_of_getElem? hpr
    have hval := merge_in ps [] hnd pr hpm
    have hlen := hus.length
    rw [List.length_map, List.length_take] at hlen
    have g : DGet H' dp (.str pr.1) (some (.str pr.2)) := by
      have := DGet.k (H := H') (a := dp) (k := Sum.inr pr.1) hd
      rw [hval] at this
      exact this
    refine ⟨b, _, rfl, SqT.of hb, rfl, _, _, rfl, _, _, rfl, rfl, ?_⟩
    refine ⟨_, rfl, _, rfl, dp, _, rfl, g, _, rfl, iteF ?_⟩
    refine ⟨_, rfl, _, rfl, _, rfl, dp, _, rfl, g, wa, ys, pr.2, rfl, hw.same sm, ?_⟩
    rw [hg pr hpm]
    refine ⟨_, rfl, rfl, _, rfl, iteKT (decide_eq_true rfl) ?_⟩
    refine ⟨_, rfl, .inl ⟨rfl, _, SqL.of hll⟩, _, rfl, (by show 2 ≤ sizeLine; decide), fun t ht => ⟨l, us, _, rfl, rfl, (Same.new ht _) _ _ hll, fitsLt (by omega), ?_⟩⟩
    have y3 := Same.new ht (.tup [.str (S "box"), .str pr.1])
    have ltl : l ≠ t := ne_of_none hll ht
    have ltd : dp ≠ l := ne1
    have nl : H l = none := none_back (y1) hl'
    refine ⟨_, _, us ++ [.ref t], rfl, same_upd (sm.trans y3) nl _, ?_, upd_same, ?_⟩
    · rw [upd_ne ltd]
      exact y3 _ _ hd
    · have tp := lst_tups (y3 _ _ hll) (.lst (us ++ [.ref t]))
      rw [List.take_add_one, hpr]
      show RelDs _ _ ((ps.take i ++ [pr]).map _)
      rw [List.map_append]
      have hb1 : RelDs (upd H' t (.tup [.str (S "box"), .str pr.1])) [.ref t] [tBox pr.1] := ⟨_, [], rfl, ⟨t, _, rfl, upd_same, _, _, rfl, rfl, _, _, rfl, rfl, rfl⟩, rfl⟩
      exact ((hus.same y3 _).append hb1).tups tp _
  · rintro σ H' ⟨o6, o7, us, rfl, sm, hd, hll, hus⟩
    rw [List.take_of_length_le (by omega)] at hus
    refine ⟨_, rfl, l, us, rfl, .inl ⟨SqL.of hll, fun t ht => ?_⟩⟩
    have y3 := Same.new ht (.tup us)
    exact q _ _ (sm.trans y3) ⟨t, us, rfl, upd_same, hus.same y3 _⟩
theorem ok_tags_by_rules (T : Tx K mg) (D_goes_to : DefIs P w K mg base n "goes_to" ["ways", "kind"] spGoes) (D_parts_of : DefIs P w K mg base n "parts_of" ["kinds", "K"] spPartsOf) : DefIs P w K mg base (n + 1) "tags_by_rules" ["kinds", "ways", "kind"] spTagsBy := by
  refine DefIs.of T.d_tags_by_rules sc_tags_by_rules (fun vs H Q E h => ?_) (fun f cdv A outer s H vs Q E hr h => ?_)
  · obtain ⟨_, _, _, _, _, _, rfl, _⟩ := h
    rfl
  obtain ⟨kv, wa, dv, ks, ys, k, rfl, hk, hw, hdv, hkx, hnd, hl, hg, q⟩ := h
  have nd := sc_tags_by_rules.nd
  have hu := hu_of hr
  obtain ⟨da, _, rfl, hda, _, _, rfl, rfl, _, _, rfl, rfl, pv', _, rfl, ⟨pa, pus, rfl, hpa, hpu⟩, rfl⟩ := hdv
  have hpl := hpu.length
  rw [List.length_map] at hpl
  refine ⟨_, (pss_cons (ps_set (i := 3) nd rfl (by first | exact Or.inl rfl | exact Or.inr rfl) (pe_ix ix_tup (pv 2) pe_int (fun _ _ => rfl)))
      (pss_cons (ps_set (i := 4) nd rfl (by first | exact Or.inl rfl | exact Or.inr rfl) (pe_callTy (call_dictT rfl) rfl T.z_dict PyProof.Rows.boot_dict (pa_cons (pe_dcall D_parts_of hr (pa_cons (pv 0) (pa_cons (pv 3) pa_nil star_name) star_name)) pa_nil star_call)))
      (pss_cons (ps_for PassesOwn.never rfl (pi_tup (pe_ix ix_tup (pv 2) pe_int (fun _ _ => rfl))) (pg_tup rfl (pgs_cons (pg_name (i := 5) nd rfl (by first | exact Or.inl rfl | exact Or.inr rfl)) (pgs_cons (pg_name (i := 6) nd rfl (by first | exact Or.inl rfl | exact Or.inr rfl)) pgs_nil)))
      (pss_one (ps_if (PW.pt (pw_or (pt_cmp (pc_dnotin hu (pv 5) (pv 4))) (pw_or1 (pt_cmpR op_ne (pe_dget hu (pv 4) (pv 5) (fun _ _ => rfl)) (pe_dcall D_goes_to hr (pa_cons (pv 1) (pa_cons (pv 6) pa_nil star_name) star_name)) (nomark _))))) (pss_one (ps_ret pe_non)) pss_nil)))
      (pss_one (ps_ret (pe_callTy call_tuple_of rfl T.z_tuple PyProof.Rows.boot_tuple (pa_cons (pe_comp ["tag", "inner", "K"] [none, none, some 3] rfl (by kernel_rfl) (pi_tup (pe_ix ix_tup (pv 2) pe_int (fun _ _ => rfl))) (fun _ _ _ _ => (pg_tupC (K := K) (n := 2) rfl rfl (pgs_cons (pg_name (i := 0) (by show List.Nodup (["tag", "inner", "K"] : List Str); decide +kernel) rfl (Or.inl rfl)) (pgs_cons (pg_name (i := 1) (by show List.Nodup (["tag", "inner", "K"] : List Str); decide +kernel) rfl (Or.inl rfl)) pgs_nil)))) (fun _ _ _ _ => pts_nil) (fun _ _ _ _ => (pe_tup (pa_cons (pv 0) (pa_cons (pe_tup (pa_cons pe_str (pa_cons (pv 2) (pa_cons (pv 0) (pa_cons (pe_tup (pa_cons pe_str (pa_cons pe_str pa_nil star_const) star_const)) pa_nil star_tup) star_name) star_name) star_const)) pa_nil star_tup) star_name)))) pa_nil star_comp))))))), ?_⟩
  refine ⟨_, rfl, da, _, _, _, rfl, rfl, SqT.of hda, rfl, ?_⟩
  refine ⟨_, rfl, _, rfl, kv, ks, k.name, rfl, hk, fun u H1 s1 ru => ?_⟩
  rw [hkx] at ru
  obtain ⟨ta, tus, rfl, hta, htu⟩ := ru
  refine ⟨ta, tus, bKV k.parts, rfl, hta, pairs_bs htu, fun dp hdp => ?_⟩
  have y1 := Same.new hdp (.dK (mergeK [] (bKV k.parts)))
  have s2 := s1.trans y1
  have hda2 := s2 _ _ hda
  have hpa2 := s2 _ _ hpa
  have hd2 : upd H1 dp (.dK (mergeK [] (bKV k.parts))) dp = some (.dK (mergeK [] (bKV k.parts))) := upd_same
  have hpu2 := hpu.same s2 _
  have hw2 := hw.same s2
  generalize upd H1 dp (.dK (mergeK [] (bKV k.parts))) = H2 at s2 hda2 hpa2 hd2 hpu2 hw2 ⊢
  refine ⟨_, rfl, da, _, _, _, rfl, rfl, SqT.of hda2, rfl, pa, rfl, ⟨_, SqT.of hpa2⟩, ?_⟩
  refine for_tup (xs := pus) (fun i σ H' => ∃ o5 o6, σ = [some kv, some (.ref wa), some (.ref da), some (.str k.name), some (.ref dp), o5, o6] ∧ H' = H2) ⟨none, none, rfl, rfl⟩ (fun i σ H' _ p => by obtain ⟨_, _, _, rfl⟩ := p; exact SqT.of hpa2) ?_ ?_
  · rintro i v σ H' hv ⟨o5, o6, rfl, rfl⟩
    obtain ⟨d, hd', rd⟩ := hpu2.get hv
    rw [List.getElem?_map] at hd'
    obtain ⟨pr, hpr, rfl⟩ := Option.map_eq_some_iff.mp hd'
    obtain ⟨b, ws, rfl, hb, _, _, rfl, rfl, _, _, rfl, rfl, rfl⟩ := rd
    have hpm := List.mem_of_getElem? hpr
    have hval := merge_in k.parts [] hnd pr hpm
    have g : DGet H' dp (.str pr.1) (some (.str pr.2)) := by
      have := DGet.k (H := H') (a := dp) (k := Sum.inr pr.1) hd2
      rw [hval] at this
      exact this
    refine ⟨b, _, rfl, SqT.of hb, rfl, _, _, rfl, _, _, rfl, rfl, ?_⟩
    refine ⟨_, rfl, _, rfl, dp, _, rfl, g, _, rfl, iteF ?_⟩
    refine ⟨_, rfl, _, rfl, dp, _, rfl, g, _, rfl, _, rfl, wa, ys, pr.2, rfl, hw2, ?_⟩
    rw [hg pr hpm]
    exact ⟨rfl, _, rfl, iteNS rfl ⟨_, _, rfl, rfl⟩⟩
  · rintro σ H' ⟨o5, o6, rfl, rfl⟩
    refine ⟨_, rfl, da, _, _, _, rfl, rfl, SqT.of hda2, rfl, pa, rfl, ⟨_, SqT.of hpa2⟩, ?_⟩
    refine comp_tupG (xs := pus) (fun i zs H3 => Same H' H3 ∧ zs.length = i ∧ RelDs H3 zs ((k.parts.take i).map fun p => .tup [.str p.1, tTag k.name p.1 (tBox (S "it"))])) ⟨Same.refl _, rfl, rfl⟩ (fitsLt (by omega)) (fun i zs H3 _ p => SqT.of (p.1 _ _ hpa2)) ?_ ?_
    · rintro i y zs H3 hy hi hly ⟨sm, hzl, hzs⟩
      obtain ⟨d, hd', rd⟩ := (hpu2.same sm _).get hy
      rw [List.getElem?_map] at hd'
      obtain ⟨pr, hpr, rfl⟩ := Option.map_eq_some_iff.mp hd'
      obtain ⟨b, ws, rfl, hb, _, _, rfl, rfl, _, _, rfl, rfl, rfl⟩ := rd
      refine ⟨b, _, rfl, SqT.of hb, rfl, _, _, rfl, _, _, rfl, rfl, ext2 rfl rfl, yes_go ?_⟩
      refine ⟨_, rfl, _, rfl, _, rfl, (by show 2 ≤ sizeLine; decide), fun t1 ht1 => ⟨(by show 4 ≤ sizeLine; decide), fun t2 ht2 => ⟨(by show 2 ≤ sizeLine; decide), fun t3 ht3 => ?_⟩⟩⟩
      have y1 := Same.new ht1 (.tup [.str (S "box"), .str (S "it")])
      have y2 := Same.new ht2 (.tup [.str (S "tag"), .str k.name, .str pr.1, .ref t1])
      have y3 := Same.new ht3 (.tup [.str pr.1, .ref t2])
      have y23 := y2.trans y3
      have y := y1.trans y23
      refine nxtG hi hly ⟨sm.trans y, by rw [List.length_append, List.length_singleton, hzl], ?_⟩
      rw [List.take_add_one, hpr]
      show RelDs _ _ ((k.parts.take i ++ [pr]).map _)
      rw [List.map_append]
      exact (hzs.same y _).append ⟨_, [], rfl, ⟨t3, _, rfl, upd_same, _, _, rfl, rfl, _, _, rfl, ⟨t2, _, rfl, y3 _ _ upd_same, _, _, rfl, rfl, _, _, rfl, rfl, _, _, rfl, rfl, _, _, rfl, ⟨t1, _, rfl, y23 _ _ upd_same, _, _, rfl, rfl, _, _, rfl, rfl, rfl⟩, rfl⟩, rfl⟩, rfl⟩
    · rintro zs H3 hly ⟨sm, hzl, hzs⟩ D hD
      rw [List.take_of_length_le (by omega)] at hzs
      have y1 := Same.new hD (.lst zs)
      refine ⟨D, zs, rfl, .inl ⟨SqL.of upd_same, fun t ht => ?_⟩⟩
      have y2 := Same.new ht (.tup zs)
      have y := y1.trans y2
      exact q _ _ (s2.trans (sm.trans y)) ⟨t, zs, rfl, upd_same, hzs.same y _⟩
theorem ok_how_by_rules (T : Tx K mg) (D_sort_of : DefIs P w K mg base n "sort_of" ["kinds", "K"] spSortOf) (D_parts_of : DefIs P w K mg base n "parts_of" ["kinds", "K"] spPartsOf) (D_tags_by_rules : DefIs P w K mg base n "tags_by_rules" ["kinds", "ways", "kind"] spTagsBy) (D_terms_by_rules : DefIs P w K mg base n "terms_by_rules" ["kinds", "ways", "olds", "news"] spTermsBy) : DefIs P w K mg base (n + 1) "how_by_rules" ["kinds", "ways", "kind"] spHow := by
  refine DefIs.of T.d_how_by_rules sc_how_by_rules (fun vs H Q E h => ?_) (fun f cdv A outer s H vs Q E hr h => ?_)
  · obtain ⟨_, _, _, _, _, _, rfl, _⟩ := h
    rfl
  obtain ⟨kv, wa, dv, ks, ys, k, rfl, hk, hw, hdv, hq⟩ := h
  have nd := sc_how_by_rules.nd
  have hdv' := hdv
  obtain ⟨da, _, rfl, hda, _, _, rfl, rfl, _, _, rfl, rfl, pv', _, rfl, hpv, rfl⟩ := hdv'
  refine ⟨_, (pss_cons (ps_set (i := 3) nd rfl (by first | exact Or.inl rfl | exact Or.inr rfl) (pe_ix ix_tup (pv 2) pe_int (fun _ _ => rfl)))
      (pss_cons (ps_if (pt_cmpR op_ne (pe_dcall D_sort_of hr (pa_cons (pv 0) (pa_cons (pv 3) pa_nil star_name) star_name)) (pe_ix ix_tup (pv 2) pe_int (fun _ _ => rfl)) (nomark _)) (pss_one (ps_ret pe_non)) pss_nil)
      (pss_cons (ps_if (pt_cmpR op_eq (pe_ix ix_tup (pv 2) pe_int (fun _ _ => rfl)) pe_str (nomark _)) (pss_one (ps_ret (pe_dcall D_tags_by_rules hr (pa_cons (pv 0) (pa_cons (pv 1) (pa_cons (pv 2) pa_nil star_name) star_name) star_name)))) pss_nil)
      (pss_cons (ps_set (i := 4) nd rfl (by first | exact Or.inl rfl | exact Or.inr rfl) (pe_dcall D_terms_by_rules hr (pa_cons (pv 0) (pa_cons (pv 1) (pa_cons (pe_ix ix_tup (pv 2) pe_int (fun _ _ => rfl)) (pa_cons (pe_dcall D_parts_of hr (pa_cons (pv 0) (pa_cons (pv 3) pa_nil star_name) star_name)) pa_nil star_call) star_sub) star_name) star_name)))
      (pss_cons (ps_if (pt_cmpR op_isN (pv 4) pe_non (nomark _)) (pss_one (ps_ret pe_non)) pss_nil)
      (pss_one (ps_ret (pe_tup (pa_cons pe_str (pa_cons (pv 3) (pa_cons (pv 4) pa_nil star_name) star_name) star_const))))))))), ?_⟩
  refine ⟨_, rfl, da, _, _, _, rfl, rfl, SqT.of hda, rfl, ?_⟩
  refine ⟨_, rfl, _, rfl, kv, ks, k.name, rfl, hk, ?_⟩
  rcases hq with ⟨hkx, q⟩ | ⟨hkx, hnd, hl, hg, q⟩
  · rw [hkx]
    refine ⟨_, rfl, da, _, _, _, rfl, rfl, SqT.of hda, rfl, rfl, _, rfl, iteBT (by show (!decide (V.non = V.str k.sort)) = true; rw [decide_eq_false (fun z => by cases z)]; rfl) ?_⟩
    exact q
  · rw [hkx]
    refine ⟨_, rfl, da, _, _, _, rfl, rfl, SqT.of hda, rfl, rfl, _, rfl, iteNS rfl ?_⟩
    unfold howD at q
    cases hc : k.rc with
    | false =>
      rw [if_neg (by rw [hc]; decide)] at q
      refine ⟨_, rfl, da, _, _, _, rfl, rfl, SqT.of hda, rfl, rfl, _, rfl, iteKT (decide_eq_true (by rw [alt_sortP hc]; rfl)) ?_⟩
      exact ⟨_, rfl, _, rfl, _, rfl, kv, wa, _, ks, ys, k, rfl, hk, hw, hdv, hkx, hnd, hl, hg, q⟩
    | true =>
      rw [if_pos hc] at q
      refine ⟨_, rfl, da, _, _, _, rfl, rfl, SqT.of hda, rfl, rfl, _, rfl, iteKF (decide_eq_false (by rw [rec_sortP hc]; decide +kernel)) ?_⟩
      refine ⟨_, rfl, _, rfl, _, rfl, da, _, _, _, rfl, rfl, SqT.of hda, rfl, _, rfl, _, rfl, kv, ks, k.name, rfl, hk, fun u H1 s1 ru => ?_⟩
      rw [hkx] at ru
      refine ⟨kv, wa, _, u, ys, k.parts, rfl, hw.same s1, hpv.same s1 _, ru, hnd, hl, hg, fun u2 H2 s2 ru2 => ?_⟩
      obtain ⟨b, us, rfl, hb, hus⟩ := id ru2
      refine ⟨_, rfl, rfl, _, rfl, iteF ?_⟩
      refine ⟨_, rfl, _, rfl, (by show 3 ≤ sizeLine; decide), fun t ht => ?_⟩
      have y := Same.new ht (.tup [.str (S "rec"), .str k.name, .ref b])
      exact q _ _ (s1.trans (s2.trans y)) ⟨t, _, rfl, upd_same, _, _, rfl, rfl, _, _, rfl, rfl, _, _, rfl, ru2.same y _, rfl⟩
theorem ok_made_ways (T : Tx K mg) (D_how_by_rules : DefIs P w K mg base n "how_by_rules" ["kinds", "ways", "kind"] spHow) : DefIs P w K mg base (n + 1) "made_ways" ["first", "second", "told"] spMade := by
  refine DefIs.of T.d_made_ways sc_made_ways (fun vs H Q E h => ?_) (fun f cdv A outer s H vs Q E hr h => ?_)
  · obtain ⟨_, _, _, _, _, _, _, _, _, _, rfl, _⟩ := h
    rfl
  obtain ⟨fa, sa, ta, kv1, kv2, r1, r2, ks, ks2, G, rfl, hfa, hsa, hta, hk1, wf, hk2, hG, hcl, q⟩ := h
  have nd := sc_made_ways.nd
  have hu := hu_of hr
  have hk1' := hk1
  obtain ⟨ka, kus, rfl, hka, hku⟩ := hk1'
  have hkl := hku.length
  rw [List.length_map] at hkl
  have hfew := wf.few
  refine ⟨_, (pss_cons (ps_set (i := 3) nd rfl (by first | exact Or.inl rfl | exact Or.inr rfl) (pe_callTy call_dict1 rfl T.z_dict PyProof.Rows.boot_dict (pa_cons (pv 2) pa_nil star_name)))
      (pss_cons (ps_set (i := 4) nd rfl (by first | exact Or.inl rfl | exact Or.inr rfl) (pe_lst pa_nil))
      (pss_cons (ps_for PassesOwn.never rfl (pi_tup (pe_ix ix_tup (pv 0) pe_int (fun _ _ => rfl))) (pg_name (i := 5) nd rfl (by first | exact Or.inl rfl | exact Or.inr rfl))
      (pss_cons (ps_set (i := 6) nd rfl (by first | exact Or.inl rfl | exact Or.inr rfl) (pe_ix ix_tup (pv 5) pe_int (fun _ _ => rfl)))
      (pss_one (ps_if (pt_cmp (pc_dnotin hu (pv 6) (pv 3))) (pss_cons (ps_set (i := 7) nd rfl (by first | exact Or.inl rfl | exact Or.inr rfl) (pe_dcall D_how_by_rules hr (pa_cons (pe_ix ix_tup (pv 1) pe_int (fun _ _ => rfl)) (pa_cons (pv 3) (pa_cons (pv 5) pa_nil star_name) star_name) star_sub)))
      (pss_one (ps_if (pt_cmpR op_isN (pv 7) pe_non (nomark _)) (pss_one (ps_expr (pe_bm PySem.F.plainAttrs_list PySem.F.slot_list_append PySem.F.type_list_append mt_append (pv 4) (pa_cons (pv 6) pa_nil star_name)))) (pss_one (ps_dput hu (pv 3) (pv 6) (pe_tup (pa_cons (pv 6) (pa_cons (pv 7) pa_nil star_name) star_name)) rfl))))) pss_nil))))
      (pss_one (ps_ret (pe_tup (pa_cons (pv 3) (pa_cons (pv 4) pa_nil star_name) star_name))))))), ?_⟩
  refine ⟨_, rfl, ta, [], rfl, hta, fun wa hwa => ?_⟩
  have y1 := Same.new hwa (.dK [])
  refine ⟨(by show 0 ≤ sizeLine; decide), fun la hla => ?_⟩
  have y2 := Same.new hla (.lst [])
  have wl : wa ≠ la := ne_of_none upd_same hla
  have nla : H la = none := none_back y1 hla
  have y12 := y1.trans y2
  refine ⟨_, rfl, fa, _, _, _, rfl, rfl, SqT.of (y12 _ _ hfa), atI_nat (j := 0) rfl, ka, rfl, ⟨_, SqT.of (y12 _ _ hka)⟩, ?_⟩
  refine for_tup (xs := kus) (fun i σ H' => ∃ o5 o6 o7 kvs, σ = [some (.ref fa), some (.ref sa), some (.ref ta), some (.ref wa), some (.ref la), o5, o6, o7] ∧ Same H H' ∧ H' wa = some (.dK kvs) ∧ WAll H' kvs (((ks.take i).filter fun k => G k.name).map wyK) ∧ H' la = some (.lst (((ks.take i).filter fun k => !G k.name).map fun k => V.str k.name)))
    ⟨none, none, none, [], rfl, y12, y2 _ _ upd_same, trivial, upd_same⟩ (fun i σ H' _ p => ?_) ?_ ?_
  · obtain ⟨_, _, _, _, _, sm, _⟩ := p
    exact SqT.of (sm _ _ hka)
  · rintro i v σ H' hv ⟨o5, o6, o7, kvs, rfl, sm, hw, hwl, hll⟩
    obtain ⟨d, hd', rd⟩ := (hku.same sm _).get hv
    rw [List.getElem?_map] at hd'
    obtain ⟨k, hk, rfl⟩ := Option.map_eq_some_iff.mp hd'
    have hkm := List.mem_of_getElem? hk
    have rd' := rd
    obtain ⟨da, _, rfl, hda, _, _, rfl, rfl, _, _, rfl, rfl, pv', _, rfl, hpv, rfl⟩ := rd'
    have hny := not_yet (G := G) wf.nd hk
    have hnv : valV kvs (Sum.inr k.name : Key) = none := (hwl.val (x := k.name)).1 (by rw [wyAt_K, hny]; rfl)
    have hil : i < ks.length := (List.getElem?_eq_some_iff.mp hk).1
    have hlen := hwl.len
    have hwn : kvs.length ≤ 100 := by
      have h1 := List.length_filter_le (fun k : Kn => G k.name) (ks.take i)
      rw [List.length_map] at hlen
      rw [List.length_take] at h1
      omega
    refine ⟨_, rfl, da, _, _, _, rfl, rfl, SqT.of hda, rfl, ?_⟩
    have g0 : DGet H' wa (.str k.name) none := by
      have := DGet.k (H := H') (a := wa) (k := Sum.inr k.name) hw
      rw [hnv] at this
      exact this
    refine ⟨_, rfl, _, rfl, wa, _, rfl, g0, _, rfl, iteT ?_⟩
    refine ⟨_, rfl, sa, _, _, _, rfl, rfl, SqT.of (sm _ _ hsa), atI_nat (j := 0) rfl, _, rfl, _, rfl, kv2, wa, _, ks2, _, k, rfl, hk2.same sm, ⟨kvs, .inl hw, hwl⟩, rd, ?_⟩
    have hGk := hG k hkm
    have tk : ∀ F : Kn → Bool, (ks.take (i + 1)).filter F = (ks.take i).filter F ++ (if F k = true then [k] else []) := fun F => by
      rw [List.take_add_one, hk]
      show (ks.take i ++ [k]).filter F = _
      rw [List.filter_append, List.filter_cons]
      cases F k <;> rfl
    cases hgk : G k.name with
    | false =>
      rw [hgk] at hGk
      refine .inl ⟨hGk, ?_⟩
      refine ⟨_, rfl, rfl, _, rfl, iteT ?_⟩
      refine ⟨_, rfl, .inl ⟨rfl, _, SqL.of hll⟩, _, rfl, la, _, _, rfl, rfl, hll, fitsLt ?_, ?_⟩
      · rw [List.length_map]
        have h1 := List.length_filter_le (fun k : Kn => !G k.name) (ks.take i)
        rw [List.length_take] at h1
        omega
      have tp := lst_tups hll (.lst ((((ks.take i).filter fun k => !G k.name).map fun k => V.str k.name) ++ [.str k.name]))
      refine ⟨_, _, _, kvs, rfl, same_upd sm nla _, by rw [upd_ne wl]; exact hw, ?_, ?_⟩
      · rw [tk, if_neg (by rw [hgk]; decide), List.append_nil]
        exact hwl.tups tp
      · rw [tk, if_pos (by rw [hgk]; rfl), List.map_append]
        exact upd_same
    | true =>
      rw [hgk] at hGk
      refine .inr ⟨hGk, wf.pnd k hkm, by have := wf.pts k hkm; omega, fun p hp => goes_self ?_, fun u H1 s1 ru => ?_⟩
      · rcases hcl i k hk hgk p hp with h | ⟨j, k', hj, hkj, e, hg'⟩
        · exact .inl h
        · refine .inr ⟨k', List.mem_filter.mpr ⟨?_, hg'⟩, e⟩
          exact List.mem_of_getElem? (i := j) (by rw [List.getElem?_take_of_lt hj]; exact hkj)
      · obtain ⟨hb, rfl⟩ : ∃ b, u = .ref b := by
          unfold howD at ru
          split at ru <;> (obtain ⟨b, _, z, _⟩ := ru; exact ⟨b, z⟩)
        refine ⟨_, rfl, rfl, _, rfl, iteF ?_⟩
        refine ⟨_, rfl, _, rfl, (by show 2 ≤ sizeLine; decide), fun t ht => ?_⟩
        have y := Same.new ht (.tup [.str k.name, .ref hb])
        have s3 := s1.trans y
        have hw3 := s3 _ _ hw
        refine ⟨_, rfl, _, rfl, wa, _, rfl, DPut.k (k := Sum.inr k.name) hw3 (fitsLt (by omega)), ?_⟩
        rw [put_new hnv]
        have tp := dk_tupsP hw3 (.dK (kvs ++ [(Sum.inr k.name, .ref t)]))
        have hway : RelD (upd H1 t (.tup [.str k.name, .ref hb])) (.ref t) (wyD (wyK k)) := ⟨t, _, rfl, upd_same, _, _, rfl, rfl, _, _, rfl, ru.same y _, rfl⟩
        refine ⟨_, _, _, _, rfl, same_upd (sm.trans s3) hwa _, upd_same, ?_, ?_⟩
        · rw [tk, if_pos hgk, List.map_append]
          exact ((hwl.tups fun b us e => s3 _ _ e).snoc (kv := (Sum.inr k.name, .ref t)) (y := wyK k) ⟨rfl, hway⟩).tups tp
        · rw [tk, if_neg (by rw [hgk]; decide), List.append_nil, upd_ne (Ne.symm wl)]
          exact s3 _ _ hll
  · rintro σ H' ⟨o5, o6, o7, kvs, rfl, sm, hw, hwl, hll⟩
    rw [List.take_of_length_le (by omega)] at hwl hll
    refine ⟨_, rfl, _, rfl, (by show 2 ≤ sizeLine; decide), fun r hr' => ?_⟩
    have y := Same.new hr' (.tup [.ref wa, .ref la])
    exact q r wa la kvs _ (sm.trans y) (none_back sm hr') hwa nla upd_same (y _ _ hw) (hwl.tups fun b us e => y _ _ e) (y _ _ hll)
end
end K45

end

section
set_option Elab.async false
set_option linter.all false
set_option maxRecDepth 100000
set_option maxHeartbeats 4000000
local macro_rules | `(tactic| walk_at "rd1") => `(tactic| first
  | refine ⟨_, rfl, ?_⟩
  | refine ⟨_, _, rfl, rfl, ?_⟩
  | refine ⟨_, _, _, _, rfl, rfl, (by assumption), (by first | rfl | assumption), ?_⟩
  | refine ⟨rfl, ?_⟩
  | refine M.iteKF (by decide +kernel) ?_
  | refine M.iteKT (by decide +kernel) ?_)
local macro_rules | `(tactic| walk_at "rd") => `(tactic| repeat walk_at "rd1")
namespace K45
open PySem L2 M
seal L2.PE L2.PA L2.PS L2.PSs L2.PT L2.PW L2.PI L2.PG L2.PJ L2.PTs
abbrev RW := List Kn → En → D → D → Prop
def spWorth (R : RW) (m : Nat) : Sp := fun vs H Q _ => ∃ kv tv p ks d env val, vs = [kv, tv, .ref p] ∧ KsAt H kv ks ∧ RelD H tv d ∧ EnAt H p m env ∧ R ks env d val ∧ ∀ u H', Same H H' → RelD H' u val → Q u H'
def spOpWorth : Sp := fun vs H Q _ => ∃ s x y, vs = [.str s, .int x, .int y] ∧ Nm x ∧ Nm y ∧ Q (.int (opV s x y)) H
section
variable {P : Program} {w : World} {K : PySem.W.Frag} {mg : Str → Option Value} {base : Heap} {n m : Nat}
theorem ok_op_worth (T : Tx K mg) : DefIs P w K mg base (n + 1) "op_worth" ["sign", "a", "b"] spOpWorth := by
  refine DefIs.of T.d_op_worth sc_op_worth (fun vs H Q E h => ?_) (fun f cdv A outer s H vs Q E hr h => ?_)
  · obtain ⟨_, _, _, rfl, _⟩ := h
    rfl
  obtain ⟨s, x, y, rfl, hx, hy, q⟩ := h
  refine ⟨_, (pss_cons (ps_if (pt_cmpR op_eq (pv 0) pe_str (nomark _)) (pss_one (ps_ret (pe_op op_mod (pe_op op_add (pv 1) (pv 2)) (pe_gint T.g_WIDE)))) pss_nil)
      (pss_cons (ps_if (pt_cmpR op_eq (pv 0) pe_str (nomark _)) (pss_one (ps_ret (pe_op op_mod (pe_op op_sub (pv 1) (pv 2)) (pe_gint T.g_WIDE)))) pss_nil)
      (pss_cons (ps_if (pt_cmpR op_eq (pv 0) pe_str (nomark _)) (pss_one (ps_ret (pe_op op_mod (pe_op op_mul (pv 1) (pv 2)) (pe_gint T.g_WIDE)))) pss_nil)
      (pss_cons (ps_if (pt_cmpR op_eq (pv 0) pe_str (nomark _)) (pss_one (ps_ret (pe_ifExp (pt_cmpR op_lt (pv 1) (pv 2) (nomark _)) pe_int pe_int))) pss_nil)
      (pss_one (ps_ret (pe_ifExp (pt_cmpR op_eq (pv 1) (pv 2) (nomark _)) pe_int pe_int))))))), ?_⟩
  have pos : (0 : Int) < 4294967296 := by decide
  unfold opV at q
  refine ⟨_, rfl, rfl, _, rfl, ite2 (fun c => ?_) (fun c => ?_)⟩
  · rw [if_pos (show s = S "+" from V.str.inj (of_decide_eq_true c))] at q
    exact ⟨_, rfl, _, rfl, _, _, rfl, rfl, _, _, rfl, rfl, pos, q⟩
  rw [if_neg (show ¬ s = S "+" from fun z => c (decide_eq_true (congrArg V.str z)))] at q
  refine ⟨_, rfl, rfl, _, rfl, ite2 (fun c => ?_) (fun c => ?_)⟩
  · rw [if_pos (show s = S "-" from V.str.inj (of_decide_eq_true c))] at q
    exact ⟨_, rfl, _, rfl, _, _, rfl, rfl, _, _, rfl, rfl, pos, q⟩
  rw [if_neg (show ¬ s = S "-" from fun z => c (decide_eq_true (congrArg V.str z)))] at q
  refine ⟨_, rfl, rfl, _, rfl, ite2 (fun c => ?_) (fun c => ?_)⟩
  · rw [if_pos (show s = S "*" from V.str.inj (of_decide_eq_true c))] at q
    obtain ⟨x0, x1⟩ := hx
    exact ⟨_, rfl, _, rfl, _, _, rfl, rfl, .inl ⟨by omega, by omega⟩, _, _, rfl, rfl, pos, q⟩
  rw [if_neg (show ¬ s = S "*" from fun z => c (decide_eq_true (congrArg V.str z)))] at q
  refine ⟨_, rfl, rfl, _, rfl, ite2 (fun c => ?_) (fun c => ?_)⟩
  · rw [if_pos (show s = S "<" from V.str.inj (of_decide_eq_true c))] at q
    refine ⟨_, rfl, _, rfl, _, _, rfl, rfl, _, rfl, ite2 (fun c2 => ?_) (fun c2 => ?_)⟩
    · rw [if_pos (of_decide_eq_true c2)] at q
      exact q
    · rw [if_neg (fun z => c2 (decide_eq_true z))] at q
      exact q
  rw [if_neg (show ¬ s = S "<" from fun z => c (decide_eq_true (congrArg V.str z)))] at q
  refine ⟨_, rfl, _, rfl, rfl, _, rfl, ite2 (fun c2 => ?_) (fun c2 => ?_)⟩
  · rw [if_pos (V.int.inj (of_decide_eq_true c2))] at q
    exact q
  · rw [if_neg (fun z => c2 (decide_eq_true (congrArg V.int z)))] at q
    exact q
def spWithBox (m : Nat) : Sp := fun vs H Q _ => ∃ p x v d env, vs = [.ref p, .str x, v] ∧ EnAt H p m env ∧ RelD H v d ∧ m ≤ 1000 ∧ ∀ p' H', Same H H' → EnAt H' p' (m + 1) (env.put x d) → Q (.ref p') H'
theorem ok_with_box (T : Tx K mg) : DefIs P w K mg base (n + 1) "with_box" ["boxes", "x", "thing"] (spWithBox m) := by
  refine DefIs.of T.d_with_box sc_with_box (fun vs H Q E h => ?_) (fun f cdv A outer s H vs Q E hr h => ?_)
  · obtain ⟨_, _, _, _, _, rfl, _⟩ := h
    rfl
  obtain ⟨p, x, v, d, env, rfl, ⟨kvs, hp, hl, he⟩, hv, hm, q⟩ := h
  have nd := sc_with_box.nd
  have hu := hu_of hr
  refine ⟨_, (pss_cons (ps_set (i := 3) nd rfl (by first | exact Or.inl rfl | exact Or.inr rfl) (pe_callTy call_dict1 rfl T.z_dict PyProof.Rows.boot_dict (pa_cons (pv 0) pa_nil star_name)))
      (pss_cons (ps_dput hu (pv 3) (pv 1) (pv 2) rfl)
      (pss_one (ps_ret (pv 3))))), ?_⟩
  refine ⟨_, rfl, p, kvs, rfl, hp, fun c hc => ?_⟩
  have s1 := Same.new hc (.dK kvs)
  refine ⟨_, rfl, _, rfl, _, rfl, c, _, rfl, DPut.k (k := Sum.inr x) upd_same (fitsLt (by omega)), _, rfl, ?_⟩
  have s2 := Same.new2 hc (.dK kvs) (.dK (putK kvs (Sum.inr x) v))
  exact q c _ s2 (EnAt.put hp hl he s2 (hv.same s2 _) upd_same)
def spField : Sp := fun vs H Q _ => ∃ kv vv ks k kn ws f i d, vs = [kv, vv, .str f] ∧ KsAt H kv ks ∧ RelD H vv (.tup [.str k, .tup ws]) ∧ kAt ks k = some kn ∧ (kn.parts.map (·.1)).findIdx? (fun z => decide (z = f)) = some i ∧ ws[i]? = some d ∧ ∀ u H', Same H H' → RelD H' u d → Q u H'
theorem ok_field (T : Tx K mg) (D_parts_of : DefIs P w K mg base n "parts_of" ["kinds", "K"] spPartsOf) : DefIs P w K mg base (n + 1) "field" ["kinds", "value", "f"] spField := by
  refine DefIs.of T.d_field sc_field (fun vs H Q E h => ?_) (fun f cdv A outer s H vs Q E hr h => ?_)
  · obtain ⟨_, _, _, _, _, _, _, _, _, rfl, _⟩ := h
    rfl
  obtain ⟨kv, vv, ks, k, kn, ws, f', i, d, rfl, hk, hv, hkn, hi, hw, q⟩ := h
  have nd := sc_field.nd
  refine ⟨_, (pss_cons (ps_setComp (i := 3) ["part"] [none] rfl (by kernel_rfl) nd rfl (by first | exact Or.inl rfl | exact Or.inr rfl) (pi_tup (pe_dcall D_parts_of hr (pa_cons (pv 0) (pa_cons (pe_ix ix_tup (pv 1) pe_int (fun _ _ => rfl)) pa_nil star_sub) star_name))) (fun _ _ _ _ => (pg_name (i := 0) (by show List.Nodup (["part"] : List Str); decide +kernel) rfl (Or.inl rfl))) (fun _ _ _ _ => pts_nil) (fun _ _ _ _ => (pe_ix (ix_tupC (K := K) rfl) (pv 0) pe_int (fun _ _ => rfl))))
      (pss_one (ps_ret (pe_ix ix_tup (pe_ix ix_tup (pv 1) pe_int (fun _ _ => rfl)) (pe_bm PySem.F.plainAttrs_list PySem.F.slot_list_index PySem.F.type_list_index mt_index (pv 3) (pa_cons (pv 2) pa_nil star_name)) (fun _ _ => rfl))))), ?_⟩
  obtain ⟨l, us, rfl, ha, _, _, rfl, rfl, vw, _, rfl, rw', rfl⟩ := hv
  obtain ⟨c, zs, rfl, hc, hzs⟩ := rw'
  refine ⟨_, rfl, _, rfl, l, _, _, _, rfl, rfl, SqT.of ha, rfl, _, ks, k, rfl, hk, fun u H1 s1 r1 => ?_⟩
  rw [hkn] at r1
  obtain ⟨e, ps, rfl, he, hps⟩ := r1
  have hl := hps.length
  rw [List.length_map] at hl
  have hkm : kn.parts.length ≤ 100 := hk.2.2 kn (List.mem_of_find?_eq_some hkn)
  refine ⟨e, rfl, ⟨_, SqT.of he⟩, ?_⟩
  refine comp_tup (j := 0) (xs := ps) (fun i ys H' => H' = H1 ∧ ys = ((kn.parts.take i).map (·.1)).map V.str) (by rfl) ⟨rfl, rfl⟩ (fitsLt (by omega)) (fun i ys H' _ p => by obtain ⟨rfl, _⟩ := p; exact SqT.of he) ?_ ?_
  · rintro i x ys H' hx hly ⟨rfl, rfl⟩
    obtain ⟨d', hd', rd'⟩ := hps.get hx
    rw [List.getElem?_map] at hd'
    obtain ⟨pt, hpt, rfl⟩ := Option.map_eq_some_iff.mp hd'
    obtain ⟨b, ws', rfl, hb, _, _, rfl, rfl, _, _, rfl, rfl, rfl⟩ := rd'
    have hi : i < ps.length := (List.getElem?_eq_some_iff.mp hx).1
    refine ⟨_, rfl, b, _, _, _, rfl, rfl, SqT.of hb, rfl, nxt hi hly ⟨rfl, ?_⟩⟩
    rw [List.take_add_one, hpt]
    simp
  · rintro ys H' hly ⟨rfl, rfl⟩ D hD
    rw [List.take_of_length_le (by omega)]
    rw [List.take_of_length_le (by omega)] at hly
    have sD := Same.new hD (.lst ((kn.parts.map (·.1)).map V.str))
    have sHD := s1.trans sD
    have hwi : ∃ v, zs[i]? = some v ∧ RelD H v d := by
      have hil : i < ws.length := (List.getElem?_eq_some_iff.mp hw).1
      have hzl := hzs.length
      obtain ⟨d', hd', rd'⟩ := hzs.get (i := i) (v := zs[i]) (List.getElem?_eq_getElem (by omega))
      rw [hw] at hd'
      cases hd'
      exact ⟨zs[i], List.getElem?_eq_getElem (by omega), rd'⟩
    obtain ⟨v, hv, rv⟩ := hwi
    refine ⟨_, rfl, l, _, _, _, rfl, rfl, SqT.of (sHD _ _ ha), rfl, ?_⟩
    refine ⟨_, rfl, .inl ⟨rfl, _, SqL.of upd_same⟩, _, rfl, D, _, f', i, rfl, rfl, upd_same, hi, ?_⟩
    exact ⟨c, _, _, v, rfl, rfl, SqT.of (sHD _ _ hc), atI_nat hv, q _ _ sHD (rv.same sHD _)⟩
def spCaseWorth (R : RW) (m : Nat) : Sp := fun vs H Q _ => ∃ kv tv p ks env a rs k t x y e val, vs = [kv, tv, .ref p] ∧ KsAt H kv ks ∧ RelD H tv (tCase a rs) ∧ EnAt H p m env ∧ rs.length ≤ 1000 ∧ R ks env a (.tup [.str k, .str t, x]) ∧ rs.find? (fun r => decide (r.1 = t)) = some (t, y, e) ∧ R ks (env.put y x) e val ∧
  ∀ u H', Same H H' → RelD H' u val → Q u H'
theorem ok_case_worth (T : Tx K mg) (R : RW) (hm : m ≤ 1000) (D_worth : DefIs P w K mg base n "worth" ["kinds", "term", "boxes"] (spWorth R (m + 1))) (D_with_box : DefIs P w K mg base n "with_box" ["boxes", "x", "thing"] (spWithBox m)) : DefIs P w K mg base (n + 1) "case_worth" ["kinds", "term", "boxes"] (spCaseWorth R m) := by
  refine DefIs.of T.d_case_worth sc_case_worth (fun vs H Q E h => ?_) (fun f cdv A outer s H vs Q E hr h => ?_)
  · obtain ⟨_, _, _, _, _, _, _, _, _, _, _, _, _, rfl, _⟩ := h
    rfl
  obtain ⟨kv, tv, p, ks, env, a, rs, k, t, x, y, e, val, rfl, hk, hv, he, hl, h1, hf, h2, q⟩ := h
  have nd := sc_case_worth.nd
  refine ⟨_, (pss_cons (ps_set (i := 3) nd rfl (by first | exact Or.inl rfl | exact Or.inr rfl) (pe_dcall D_worth hr (pa_cons (pv 0) (pa_cons (pe_ix ix_tup (pv 1) pe_int (fun _ _ => rfl)) (pa_cons (pv 2) pa_nil star_name) star_sub) star_name)))
      (pss_cons (ps_set (i := 4) nd rfl (by first | exact Or.inl rfl | exact Or.inr rfl) (pe_ix ix_list (pe_comp ["each", "value"] [none, some 3] rfl (by kernel_rfl) (pi_tup (pe_ix ix_tup (pv 1) pe_int (fun _ _ => rfl))) (fun _ _ _ _ => (pg_name (i := 0) (by show List.Nodup (["each", "value"] : List Str); decide +kernel) rfl (Or.inl rfl))) (fun _ _ _ _ => (pts_one (pt_cmpR op_eq (pe_ix (ix_tupC (K := K) rfl) (pv 0) pe_int (fun _ _ => rfl)) (pe_ix (ix_tupC (K := K) rfl) (pv 1) pe_int (fun _ _ => rfl)) (nomark _)))) (fun _ _ _ _ => (pv 0))) pe_int (fun _ _ => rfl)))
      (pss_one (ps_ret (pe_dcall D_worth hr (pa_cons (pv 0) (pa_cons (pe_ix ix_tup (pv 4) pe_int (fun _ _ => rfl)) (pa_cons (pe_dcall D_with_box hr (pa_cons (pv 2) (pa_cons (pe_ix ix_tup (pv 4) pe_int (fun _ _ => rfl)) (pa_cons (pe_ix ix_tup (pv 3) pe_int (fun _ _ => rfl)) pa_nil star_sub) star_sub) star_name)) pa_nil star_call) star_sub) star_name)))))), ?_⟩
  obtain ⟨b, us, rfl, hb, _, _, rfl, rfl, va, _, rfl, ra, vr, _, rfl, rr, rfl⟩ := hv
  obtain ⟨c, ws, rfl, hc, hws⟩ := rr
  refine ⟨_, rfl, _, rfl, b, _, _, _, rfl, rfl, SqT.of hb, rfl, _, rfl, ?_⟩
  refine ⟨_, _, _, ks, _, env, _, rfl, hk, ra, he.mono (by omega), h1, fun u H1 s1 r1 => ?_⟩
  obtain ⟨g, zs, rfl, hg, _, _, rfl, rfl, _, _, rfl, rfl, vx, _, rfl, rx, rfl⟩ := r1
  refine ⟨_, rfl, b, _, _, _, rfl, rfl, SqT.of (s1 _ _ hb), rfl, c, rfl, ⟨_, SqT.of (s1 _ _ hc)⟩, ?_⟩
  have hln := hws.length
  rw [List.length_map] at hln
  refine comp_tupG (xs := ws) (fun i ys H' => H' = H1 ∧ ∃ ds : List (Str × Str × D), ds = (rs.take i).filter (fun r => decide (r.1 = t)) ∧ RelDs H1 ys (ds.map dArm)) ⟨rfl, [], rfl, rfl⟩ (fitsLt (by omega)) (fun i ys H' _ p => by obtain ⟨rfl, _⟩ := p; exact SqT.of (s1 _ _ hc)) ?_ ?_
  · rintro i z ys H' hz hi hly ⟨rfl, ds, rfl, hds⟩
    obtain ⟨d, hd, rd⟩ := (hws.same s1 _).get hz
    rw [List.getElem?_map] at hd
    obtain ⟨r, hr', rfl⟩ := Option.map_eq_some_iff.mp hd
    have rd' := rd
    obtain ⟨l, zs, rfl, hl', _, _, rfl, rfl, _, _, rfl, rfl, _, _, rfl, re, rfl⟩ := rd
    refine ⟨ext_set rfl, ?_⟩
    refine ⟨_, rfl, l, _, _, _, rfl, rfl, SqT.of hl', rfl, _, rfl, g, _, _, _, rfl, rfl, SqT.of hg, rfl, rfl, _, rfl, ite2 (fun cc => ?_) (fun cc => ?_)⟩
    · have ee : r.1 = t := V.str.inj (of_decide_eq_true cc)
      refine ⟨_, rfl, nxtG hi hly ⟨rfl, _, rfl, ?_⟩⟩
      rw [List.take_add_one, hr', List.filter_append, List.map_append]
      refine hds.append ?_
      simp only [Option.toList, List.filter_cons, decide_eq_true ee, if_true, List.filter_nil, List.map_cons, List.map_nil]
      exact ⟨_, [], rfl, rd', rfl⟩
    · have ee : ¬ r.1 = t := fun z => cc (decide_eq_true (congrArg V.str z))
      refine nxtN hi hly ⟨rfl, _, rfl, ?_⟩
      rw [List.take_add_one, hr', List.filter_append, List.map_append]
      simp only [Option.toList, List.filter_cons, decide_eq_false ee, Bool.false_eq_true, if_false, List.filter_nil, List.map_nil, List.append_nil]
      exact hds
  · rintro ys H' hly ⟨rfl, ds, rfl, hds⟩ D hD
    rw [List.take_of_length_le (by omega)] at hds
    have hh : (rs.filter (fun r => decide (r.1 = t))).head? = some (t, y, e) := by rw [List.head?_filter, hf]
    obtain ⟨rest, hrest⟩ : ∃ rest, rs.filter (fun r => decide (r.1 = t)) = (t, y, e) :: rest := by
      cases hq : rs.filter (fun r => decide (r.1 = t)) with
      | nil => rw [hq] at hh; cases hh
      | cons z zs => rw [hq] at hh; exact ⟨zs, by rw [Option.some.inj hh]⟩
    rw [hrest] at hds
    obtain ⟨va', rest', rfl, r0, _⟩ := hds
    have sD := Same.new hD (.lst (va' :: rest'))
    refine ⟨D, _, 0, va', rfl, rfl, SqL.of upd_same, atI_nat (j := 0) rfl, ?_⟩
    obtain ⟨l, zs, rfl, hl', _, _, rfl, rfl, _, _, rfl, rfl, ve, _, rfl, re, rfl⟩ := r0
    have sHD := s1.trans sD
    have hSl : SqT K (upd H' D (.lst (.ref l :: rest'))) l [.str t, .str y, ve] := SqT.of (sD _ _ hl')
    refine ⟨_, rfl, _, rfl, l, _, _, _, rfl, rfl, hSl, rfl, _, rfl, _, rfl, l, _, _, _, rfl, rfl, hSl, rfl, _, rfl, g, _, _, _, rfl, rfl, SqT.of (sD _ _ hg), rfl, ?_⟩
    refine ⟨p, y, vx, x, env, rfl, he.same sHD, rx.same sD _, hm, fun p' H2 s2 he2 => ?_⟩
    exact ⟨_, _, _, ks, _, _, _, rfl, hk.same (sHD.trans s2), re.same (sD.trans s2) _, he2, h2, fun u H3 s3 r3 => q u H3 (sHD.trans (s2.trans s3)) r3⟩
theorem ok_worth (T : Tx K mg) (R : RW) (D_worth : DefIs P w K mg base n "worth" ["kinds", "term", "boxes"] (spWorth R m)) (D_op_worth : DefIs P w K mg base n "op_worth" ["sign", "a", "b"] spOpWorth)
    (D_field : DefIs P w K mg base n "field" ["kinds", "value", "f"] spField) (D_case_worth : DefIs P w K mg base n "case_worth" ["kinds", "term", "boxes"] (spCaseWorth R m)) :
    DefIs P w K mg base (n + 1) "worth" ["kinds", "term", "boxes"] (spWorth (fun ks env d v => LeafEv env d v ∨ NodeEv ks (R ks) env d v) m) := by
  refine DefIs.of T.d_worth sc_worth (fun vs H Q E h => ?_) (fun f cdv A outer s H vs Q E hr h => ?_)
  · obtain ⟨_, _, _, _, _, _, _, rfl, _⟩ := h
    rfl
  obtain ⟨kv, tv, p, ks, d, env, val, rfl, hk, hv, he, hR, q⟩ := h
  have nd := sc_worth.nd
  have hu := hu_of hr
  refine ⟨_, (pss_cons (ps_set (i := 3) nd rfl (by first | exact Or.inl rfl | exact Or.inr rfl) (pe_ix ix_tup (pv 1) pe_int (fun _ _ => rfl)))
      (pss_cons (ps_if (pt_cmpR op_eq (pv 3) pe_str (nomark _)) (pss_one (ps_ret (pe_ix ix_tup (pv 1) pe_int (fun _ _ => rfl)))) pss_nil)
      (pss_cons (ps_if (pt_cmpR op_eq (pv 3) pe_str (nomark _)) (pss_one (ps_ret (pe_dget hu (pv 2) (pe_ix ix_tup (pv 1) pe_int (fun _ _ => rfl)) (fun _ _ => rfl)))) pss_nil)
      (pss_cons (ps_if (pt_cmpR op_eq (pv 3) pe_str (nomark _)) (pss_one (ps_ret (pe_dcall D_op_worth hr (pa_cons (pe_ix ix_tup (pv 1) pe_int (fun _ _ => rfl)) (pa_cons (pe_dcall D_worth hr (pa_cons (pv 0) (pa_cons (pe_ix ix_tup (pv 1) pe_int (fun _ _ => rfl)) (pa_cons (pv 2) pa_nil star_name) star_sub) star_name)) (pa_cons (pe_dcall D_worth hr (pa_cons (pv 0) (pa_cons (pe_ix ix_tup (pv 1) pe_int (fun _ _ => rfl)) (pa_cons (pv 2) pa_nil star_name) star_sub) star_name)) pa_nil star_call) star_call) star_sub)))) pss_nil)
      (pss_cons (ps_if (pt_cmpR op_eq (pv 3) pe_str (nomark _)) (pss_one (ps_ret (pe_tup (pa_cons (pe_ix ix_tup (pv 1) pe_int (fun _ _ => rfl)) (pa_cons (pe_callTy call_tuple_of rfl T.z_tuple PyProof.Rows.boot_tuple (pa_cons (pe_comp ["inner", "kinds", "boxes"] [none, some 0, some 2] rfl (by kernel_rfl) (pi_tup (pe_ix ix_tup (pv 1) pe_int (fun _ _ => rfl))) (fun _ _ _ _ => (pg_name (i := 0) (by show List.Nodup (["inner", "kinds", "boxes"] : List Str); decide +kernel) rfl (Or.inl rfl))) (fun _ _ _ _ => pts_nil) (fun _ _ _ _ => (pe_dcall D_worth hr (pa_cons (pv 1) (pa_cons (pv 0) (pa_cons (pv 2) pa_nil star_name) star_name) star_name)))) pa_nil star_comp)) pa_nil star_call) star_sub)))) pss_nil)
      (pss_cons (ps_if (pt_cmpR op_eq (pv 3) pe_str (nomark _)) (pss_one (ps_ret (pe_dcall D_field hr (pa_cons (pv 0) (pa_cons (pe_dcall D_worth hr (pa_cons (pv 0) (pa_cons (pe_ix ix_tup (pv 1) pe_int (fun _ _ => rfl)) (pa_cons (pv 2) pa_nil star_name) star_sub) star_name)) (pa_cons (pe_ix ix_tup (pv 1) pe_int (fun _ _ => rfl)) pa_nil star_sub) star_call) star_name)))) pss_nil)
      (pss_cons (ps_if (pt_cmpR op_eq (pv 3) pe_str (nomark _)) (pss_one (ps_ret (pe_tup (pa_cons (pe_ix ix_tup (pv 1) pe_int (fun _ _ => rfl)) (pa_cons (pe_ix ix_tup (pv 1) pe_int (fun _ _ => rfl)) (pa_cons (pe_dcall D_worth hr (pa_cons (pv 0) (pa_cons (pe_ix ix_tup (pv 1) pe_int (fun _ _ => rfl)) (pa_cons (pv 2) pa_nil star_name) star_sub) star_name)) pa_nil star_call) star_sub) star_sub)))) pss_nil)
      (pss_cons (ps_if (pt_cmpR op_eq (pv 3) pe_str (nomark _)) (pss_one (ps_ret (pe_dcall D_case_worth hr (pa_cons (pv 0) (pa_cons (pv 1) (pa_cons (pv 2) pa_nil star_name) star_name) star_name)))) pss_nil)
      (pss_cons (ps_set (i := 4) nd rfl (by first | exact Or.inl rfl | exact Or.inr rfl) (pe_ifExp (pt_cmpR op_eq (pe_dcall D_worth hr (pa_cons (pv 0) (pa_cons (pe_ix ix_tup (pv 1) pe_int (fun _ _ => rfl)) (pa_cons (pv 2) pa_nil star_name) star_sub) star_name)) pe_int (nomark _)) (pe_ix ix_tup (pv 1) pe_int (fun _ _ => rfl)) (pe_ix ix_tup (pv 1) pe_int (fun _ _ => rfl))))
      (pss_one (ps_ret (pe_dcall D_worth hr (pa_cons (pv 0) (pa_cons (pv 4) (pa_cons (pv 2) pa_nil star_name) star_name) star_name))))))))))))), ?_⟩
  rcases hR with (⟨i, rfl, rfl⟩ | ⟨x, hx, rfl⟩) | ⟨sg, a, b, x, y, h1, h2, nx, ny, rfl, rfl⟩ | ⟨k, es, ws, hl, h1, rfl, rfl⟩ | ⟨a, k, ws, f', kn, i, h1, hk1, hi, hw, rfl⟩ | ⟨k, t, a, x, h1, rfl, rfl⟩ | ⟨a, rs, k, t, x, y, e, hl, h1, hf, h2, rfl⟩ | ⟨a, b, c, x, h1, h2, rfl⟩
  · obtain ⟨a, us, rfl, ha, _, _, rfl, rfl, _, _, rfl, rfl, rfl⟩ := hv
    have hS : SqT K H a [.str (S "num"), .int i] := SqT.of ha
    walk_at "rd"
    exact q _ _ (Same.refl _) rfl
  · obtain ⟨a, us, rfl, ha, _, _, rfl, rfl, _, _, rfl, rfl, rfl⟩ := hv
    have hS : SqT K H a [.str (S "box"), .str x] := SqT.of ha
    obtain ⟨kvs, hp, hl, hh⟩ := he
    obtain ⟨v, hv, rv⟩ := (hh x).2 _ hx
    walk_at "rd"
    exact ⟨p, v, rfl, hv ▸ DGet.k (k := Sum.inr x) hp, q _ _ (Same.refl _) rv⟩
  · obtain ⟨l, us, rfl, ha, _, _, rfl, rfl, _, _, rfl, rfl, va, _, rfl, ra, vb, _, rfl, rb, rfl⟩ := hv
    have hS : SqT K H l [.str (S "op"), .str sg, va, vb] := SqT.of ha
    walk_at "rd"
    refine ⟨_, _, _, ks, _, env, _, rfl, hk, ra, he, h1, fun u H1 s1 r1 => ?_⟩
    obtain rfl : u = .int x := r1
    have hS1 : SqT K H1 l [.str (S "op"), .str sg, va, vb] := SqT.of (s1 _ _ ha)
    refine ⟨_, rfl, _, rfl, l, _, _, _, rfl, rfl, hS1, rfl, _, rfl, ?_⟩
    refine ⟨_, _, _, ks, _, env, _, rfl, hk.same s1, rb.same s1 _, he.same s1, h2, fun u H2 s2 r2 => ?_⟩
    obtain rfl : u = .int y := r2
    exact ⟨sg, x, y, rfl, nx, ny, q _ _ (s1.trans s2) rfl⟩
  · obtain ⟨l, us, rfl, ha, _, _, rfl, rfl, _, _, rfl, rfl, va, _, rfl, ra, rfl⟩ := hv
    obtain ⟨c, vs', rfl, hc, hvs⟩ := ra
    have hS : SqT K H l [.str (S "rec"), .str k, .ref c] := SqT.of ha
    walk_at "rd"
    refine ⟨⟨_, SqT.of hc⟩, ?_⟩
    have l1 := hvs.length
    have l2 := h1.length
    refine comp_tup (j := 0) (xs := vs') (fun i ys H' => Same H H' ∧ RelDs H' ys (ws.take i)) (by rfl) ⟨Same.refl _, rfl⟩ (fitsLt (by omega)) (fun i ys H' _ p => SqT.of (p.1 _ _ hc)) ?_ ?_
    · rintro i x ys H' hx hly ⟨sm, hys⟩
      obtain ⟨d', hd', rd'⟩ := hvs.get hx
      obtain ⟨v', hv', rv'⟩ := h1.get hd'
      have hi : i < vs'.length := (List.getElem?_eq_some_iff.mp hx).1
      refine ⟨_, rfl, _, rfl, _, rfl, _, _, _, ks, _, env, _, rfl, hk.same sm, rd'.same sm _, he.same sm, rv', fun u H2 s2 r2 => nxt hi hly ⟨sm.trans s2, ?_⟩⟩
      rw [List.take_add_one, hv']
      exact (hys.same s2 _).append ⟨u, [], rfl, r2, rfl⟩
    · rintro ys H' hly ⟨sm, hys⟩ D hD
      rw [List.take_of_length_le (by omega)] at hys
      refine ⟨D, ys, rfl, .inl ⟨SqL.of upd_same, fun l' hl' => ?_⟩⟩
      have s1 := Same.new hD (.lst ys)
      have s2 := Same.new hl' (.tup ys)
      refine ⟨(by show 2 ≤ sizeLine; decide), fun t ht => ?_⟩
      have s3 := Same.new ht (.tup [.str k, .ref l'])
      exact q _ _ (sm.trans (s1.trans (s2.trans s3))) ⟨t, _, rfl, upd_same, _, _, rfl, rfl, _, _, rfl, ⟨l', ys, rfl, s3 _ _ upd_same, hys.same (s1.trans (s2.trans s3)) _⟩, rfl⟩
  · obtain ⟨l, us, rfl, ha, _, _, rfl, rfl, va, _, rfl, ra, _, _, rfl, rfl, rfl⟩ := hv
    have hS : SqT K H l [.str (S "get"), va, .str f'] := SqT.of ha
    walk_at "rd"
    refine ⟨_, _, _, ks, _, env, _, rfl, hk, ra, he, h1, fun u H1 s1 r1 => ?_⟩
    have hS1 : SqT K H1 l [.str (S "get"), va, .str f'] := SqT.of (s1 _ _ ha)
    refine ⟨_, rfl, l, _, _, _, rfl, rfl, hS1, rfl, ?_⟩
    exact ⟨_, _, ks, k, kn, ws, f', i, val, rfl, hk.same s1, r1, hk1, hi, hw, fun u H2 s2 r2 => q _ _ (s1.trans s2) r2⟩
  · obtain ⟨l, us, rfl, ha, _, _, rfl, rfl, _, _, rfl, rfl, _, _, rfl, rfl, va, _, rfl, ra, rfl⟩ := hv
    have hS : SqT K H l [.str (S "tag"), .str k, .str t, va] := SqT.of ha
    walk_at "rd"
    refine ⟨_, _, _, ks, _, env, _, rfl, hk, ra, he, h1, fun u H1 s1 r1 => ?_⟩
    refine ⟨(by show 3 ≤ sizeLine; decide), fun c hc => ?_⟩
    have s2 := Same.new hc (.tup [.str k, .str t, u])
    exact q _ _ (s1.trans s2) ⟨c, _, rfl, upd_same, _, _, rfl, rfl, _, _, rfl, rfl, _, _, rfl, r1.same s2 _, rfl⟩
  · have hv' := hv
    obtain ⟨l, us, rfl, ha, _, _, rfl, rfl, va, _, rfl, ra, vr, _, rfl, rr, rfl⟩ := hv
    have hS : SqT K H l [.str (S "case"), va, vr] := SqT.of ha
    walk_at "rd"
    exact ⟨_, _, p, ks, env, a, rs, k, t, x, y, e, val, rfl, hk, hv', he, hl, h1, hf, h2, q⟩
  · obtain ⟨l, us, rfl, ha, _, _, rfl, rfl, va, _, rfl, ra, vb, _, rfl, rb, vc, _, rfl, rc, rfl⟩ := hv
    have hS : SqT K H l [.str (S "if"), va, vb, vc] := SqT.of ha
    walk_at "rd"
    refine ⟨_, _, _, ks, _, env, _, rfl, hk, ra, he, h1, fun u H1 s1 r1 => ?_⟩
    obtain rfl : u = .int x := r1
    have hS1 : SqT K H1 l [.str (S "if"), va, vb, vc] := SqT.of (s1 _ _ ha)
    refine ⟨rfl, _, rfl, ite2 (fun c' => ?_) (fun c' => ?_)⟩
    · have e : x = 0 := V.int.inj (of_decide_eq_true c')
      rw [if_pos e] at h2
      refine ⟨_, rfl, l, _, _, _, rfl, rfl, hS1, rfl, _, rfl, _, rfl, _, rfl, ?_⟩
      exact ⟨_, _, _, ks, _, env, _, rfl, hk.same s1, rc.same s1 _, he.same s1, h2, fun u H2 s2 r2 => q _ _ (s1.trans s2) r2⟩
    · have e : ¬ x = 0 := fun z => c' (decide_eq_true (congrArg V.int z))
      rw [if_neg e] at h2
      refine ⟨_, rfl, l, _, _, _, rfl, rfl, hS1, rfl, _, rfl, _, rfl, _, rfl, ?_⟩
      exact ⟨_, _, _, ks, _, env, _, rfl, hk.same s1, rb.same s1 _, he.same s1, h2, fun u H2 s2 r2 => q _ _ (s1.trans s2) r2⟩
theorem worth_step (T : Tx K mg) (R : RW) (hm : m ≤ 1000) (D : DefIs P w K mg base (n + 1) "worth" ["kinds", "term", "boxes"] (spWorth R (m + 1))) : DefIs P w K mg base (n + 3) "worth" ["kinds", "term", "boxes"] (spWorth (fun ks env d v => LeafEv env d v ∨ NodeEv ks (R ks) env d v) m) := by
  have D' : DefIs P w K mg base (n + 1) "worth" ["kinds", "term", "boxes"] (spWorth R m) := D.imp (by
    rintro vs H Q E ⟨kv, tv, p, ks, d, env, val, h1, h2, h3, h4, h5, h6⟩
    exact ⟨kv, tv, p, ks, d, env, val, h1, h2, h3, h4.mono (by omega), h5, h6⟩)
  exact ok_worth T R (D'.mono (by omega)) (ok_op_worth T) (ok_field T (ok_parts_of T)) (ok_case_worth T R hm D (ok_with_box T))
theorem worth_is (T : Tx K mg) : ∀ n m, n + m ≤ 1000 → DefIs P w K mg base (2 * n + 3) "worth" ["kinds", "term", "boxes"] (spWorth (fun ks => Ev ks n) m)
  | 0, m, h => by
    refine (worth_step (P := P) (w := w) (base := base) (n := 0) (m := m) T (fun _ _ _ _ => False) (by omega) (DefIs.none T.d_worth ?_)).imp ?_
    · rintro vs H Q E ⟨_, _, _, _, _, _, _, _, _, _, _, h, _⟩
      exact h
    · rintro vs H Q E ⟨kv, tv, p, ks, d, env, k, h1, h2, h3, h4, h5, h6⟩
      exact ⟨kv, tv, p, ks, d, env, k, h1, h2, h3, h4, .inl h5, h6⟩
  | n + 1, m, h => worth_step (n := 2 * n + 2) (m := m) T (fun ks => Ev ks n) (by omega) (worth_is T n (m + 1) (by omega))
end
end K45

end

section
set_option Elab.async false
set_option linter.all false
set_option maxRecDepth 100000
set_option maxHeartbeats 4000000
local macro_rules | `(tactic| walk_at "rd1") => `(tactic| first
  | refine ⟨_, rfl, ?_⟩
  | refine ⟨_, _, rfl, rfl, ?_⟩
  | refine ⟨_, _, _, _, rfl, rfl, (by assumption), (by first | rfl | assumption), ?_⟩
  | refine ⟨rfl, ?_⟩
  | refine M.iteKF (by decide +kernel) ?_
  | refine M.iteKT (by decide +kernel) ?_)
local macro_rules | `(tactic| walk_at "rd") => `(tactic| repeat walk_at "rd1")
namespace K45
open PySem L2 M
seal L2.PE L2.PA L2.PS L2.PSs L2.PT L2.PW L2.PI L2.PG L2.PJ L2.PTs
abbrev RK := List Kn → En → D → Str → Prop
def spKindOf (R : RK) (m : Nat) : Sp := fun vs H Q _ => ∃ kv tv p ks d env k, vs = [kv, tv, .ref p] ∧ KsAt H kv ks ∧ RelD H tv d ∧ EnAt H p m env ∧ R ks env d k ∧ ∀ H', Same H H' → Q (.str k) H'
def spNeedKind (R : RK) (m : Nat) : Sp := fun vs H Q _ => ∃ kv tv p ks d env k, vs = [kv, tv, .ref p, .str k] ∧ KsAt H kv ks ∧ RelD H tv d ∧ EnAt H p m env ∧ R ks env d k ∧ ∀ H', Same H H' → Q .non H'
def spNeedSame : Sp := fun vs H Q _ => ∃ k, vs = [.str k, .str k] ∧ Q .non H
def spNeedSort : Sp := fun vs H Q _ => ∃ kv ks k kn, vs = [kv, .str k, .str kn.sort] ∧ KsAt H kv ks ∧ kAt ks k = some kn ∧ Q .non H
def spKindSort (R : RK) (m : Nat) : Sp := fun vs H Q _ => ∃ kv tv p ks d env k kn, vs = [kv, tv, .ref p, .str kn.sort] ∧ KsAt H kv ks ∧ RelD H tv d ∧ EnAt H p m env ∧ R ks env d k ∧ kAt ks k = some kn ∧ ∀ H', Same H H' → Q (.str k) H'
def spPartKind : Sp := fun vs H Q _ => ∃ kv ks k kn f k2, vs = [kv, .str k, .str f] ∧ KsAt H kv ks ∧ kAt ks k = some kn ∧ partOf kn f = some k2 ∧ ∀ H', Same H H' → Q (.str k2) H'
def spNumKind : Sp := fun vs H Q _ => ∃ i, vs = [.int i] ∧ Nm i ∧ Q (.str (S "num")) H
def spBoxKind (m : Nat) : Sp := fun vs H Q _ => ∃ x p env k, vs = [.str x, .ref p] ∧ EnAt H p m env ∧ env x = some (.str k) ∧ Q (.str k) H
section
variable {P : Program} {w : World} {K : PySem.W.Frag} {mg : Str → Option Value} {base : Heap} {n m : Nat}
theorem ok_need_same (T : Tx K mg) : DefIs P w K mg base (n + 1) "need_same" ["found", "kind"] spNeedSame := by
  refine DefIs.of T.d_need_same sc_need_same (fun vs H Q E h => ?_) (fun f cdv A outer s H vs Q E hr h => ?_)
  · obtain ⟨_, rfl, _⟩ := h
    rfl
  obtain ⟨k, rfl, q⟩ := h
  refine ⟨_, (pss_one (ps_if (pt_cmpR op_ne (pv 0) (pv 1) (nomark _)) (pss_one ps_never) pss_nil)), ?_⟩
  refine ⟨_, rfl, _, rfl, rfl, _, rfl, iteNS rfl ?_⟩
  exact q
theorem ok_need_kind (T : Tx K mg) (R : RK) (D_kind_of : DefIs P w K mg base n "kind_of" ["kinds", "term", "boxes"] (spKindOf R m)) (D_need_same : DefIs P w K mg base n "need_same" ["found", "kind"] spNeedSame) : DefIs P w K mg base (n + 1) "need_kind" ["kinds", "term", "boxes", "kind"] (spNeedKind R m) := by
  refine DefIs.of T.d_need_kind sc_need_kind (fun vs H Q E h => ?_) (fun f cdv A outer s H vs Q E hr h => ?_)
  · obtain ⟨_, _, _, _, _, _, _, rfl, _⟩ := h
    rfl
  obtain ⟨kv, tv, p, ks, d, env, k, rfl, hk, hv, he, hR, q⟩ := h
  refine ⟨_, (pss_one (ps_expr (pe_dcall D_need_same hr (pa_cons (pe_dcall D_kind_of hr (pa_cons (pv 0) (pa_cons (pv 1) (pa_cons (pv 2) pa_nil star_name) star_name) star_name)) (pa_cons (pv 3) pa_nil star_name) star_call)))), ?_⟩
  refine ⟨_, rfl, _, rfl, _, rfl, _, _, _, ks, d, env, k, rfl, hk, hv, he, hR, fun H1 s1 => ?_⟩
  exact ⟨_, rfl, k, rfl, q H1 s1⟩
theorem ok_need_sort (T : Tx K mg) (D_sort_of : DefIs P w K mg base n "sort_of" ["kinds", "K"] spSortOf) : DefIs P w K mg base (n + 1) "need_sort" ["kinds", "name", "sort"] spNeedSort := by
  refine DefIs.of T.d_need_sort sc_need_sort (fun vs H Q E h => ?_) (fun f cdv A outer s H vs Q E hr h => ?_)
  · obtain ⟨_, _, _, _, rfl, _⟩ := h
    rfl
  obtain ⟨kv, ks, k, kn, rfl, hk, hkn, q⟩ := h
  have nd := sc_need_sort.nd
  refine ⟨_, (pss_cons (ps_set (i := 3) nd rfl (by first | exact Or.inl rfl | exact Or.inr rfl) (pe_dcall D_sort_of hr (pa_cons (pv 0) (pa_cons (pv 1) pa_nil star_name) star_name)))
      (pss_cons (ps_if (pt_cmpR op_isN (pv 3) pe_non (nomark _)) (pss_one ps_never) pss_nil)
      (pss_one (ps_if (pt_cmpR op_ne (pv 3) (pv 2) (nomark _)) (pss_one ps_never) pss_nil)))), ?_⟩
  refine ⟨_, rfl, _, rfl, _, ks, k, rfl, hk, ?_⟩
  rw [hkn]
  refine ⟨_, rfl, rfl, _, rfl, iteKF (decide_eq_false (fun z => by cases z)) ?_⟩
  exact ⟨_, rfl, _, rfl, rfl, _, rfl, iteNS rfl q⟩
theorem ok_kind_of_sort (T : Tx K mg) (R : RK) (D_kind_of : DefIs P w K mg base n "kind_of" ["kinds", "term", "boxes"] (spKindOf R m)) (D_sort_of : DefIs P w K mg base n "sort_of" ["kinds", "K"] spSortOf) : DefIs P w K mg base (n + 1) "kind_of_sort" ["kinds", "term", "boxes", "sort"] (spKindSort R m) := by
  refine DefIs.of T.d_kind_of_sort sc_kind_of_sort (fun vs H Q E h => ?_) (fun f cdv A outer s H vs Q E hr h => ?_)
  · obtain ⟨_, _, _, _, _, _, _, _, rfl, _⟩ := h
    rfl
  obtain ⟨kv, tv, p, ks, d, env, k, kn, rfl, hk, hv, he, hR, hkn, q⟩ := h
  have nd := sc_kind_of_sort.nd
  refine ⟨_, (pss_cons (ps_set (i := 4) nd rfl (by first | exact Or.inl rfl | exact Or.inr rfl) (pe_dcall D_kind_of hr (pa_cons (pv 0) (pa_cons (pv 1) (pa_cons (pv 2) pa_nil star_name) star_name) star_name)))
      (pss_cons (ps_if (pt_cmpR op_ne (pe_dcall D_sort_of hr (pa_cons (pv 0) (pa_cons (pv 4) pa_nil star_name) star_name)) (pv 3) (nomark _)) (pss_one ps_never) pss_nil)
      (pss_one (ps_ret (pv 4))))), ?_⟩
  refine ⟨_, rfl, _, rfl, _, rfl, _, _, _, ks, d, env, k, rfl, hk, hv, he, hR, fun H1 s1 => ?_⟩
  refine ⟨_, rfl, _, rfl, _, ks, k, rfl, hk.same s1, ?_⟩
  rw [hkn]
  exact ⟨_, rfl, rfl, _, rfl, iteNS rfl ⟨_, rfl, q H1 s1⟩⟩
theorem ok_part_kind (T : Tx K mg) (D_parts_of : DefIs P w K mg base n "parts_of" ["kinds", "K"] spPartsOf) : DefIs P w K mg base (n + 1) "part_kind" ["kinds", "kind", "name"] spPartKind := by
  refine DefIs.of T.d_part_kind sc_part_kind (fun vs H Q E h => ?_) (fun f cdv A outer s H vs Q E hr h => ?_)
  · obtain ⟨_, _, _, _, _, _, rfl, _⟩ := h
    rfl
  obtain ⟨kv, ks, k, kn, f', k2, rfl, hk, hkn, hp, q⟩ := h
  have nd := sc_part_kind.nd
  refine ⟨_, (pss_cons (ps_for PassesOwn.never rfl (pi_tup (pe_dcall D_parts_of hr (pa_cons (pv 0) (pa_cons (pv 1) pa_nil star_name) star_name))) (pg_name (i := 3) nd rfl (by first | exact Or.inl rfl | exact Or.inr rfl))
      (pss_one (ps_if (pt_cmpR op_eq (pe_ix ix_tup (pv 3) pe_int (fun _ _ => rfl)) (pv 2) (nomark _)) (pss_one (ps_ret (pe_ix ix_tup (pv 3) pe_int (fun _ _ => rfl)))) pss_nil)))
      (pss_one ps_never)), ?_⟩
  refine ⟨_, rfl, _, rfl, _, ks, k, rfl, hk, fun u H1 s1 r1 => ?_⟩
  rw [hkn] at r1
  obtain ⟨e, ps, rfl, he, hps⟩ := r1
  have hl := hps.length
  rw [List.length_map] at hl
  refine ⟨e, rfl, ⟨_, SqT.of he⟩, ?_⟩
  obtain ⟨pt, hpt, rfl⟩ := Option.map_eq_some_iff.mp hp
  refine for_tup (xs := ps) (fun i σ H' => ∃ o3, σ = [some kv, some (.str k), some (.str f'), o3] ∧ H' = H1 ∧ (kn.parts.take i).find? (fun p => decide (p.1 = f')) = none) ⟨none, rfl, rfl, rfl⟩ (fun i σ H' _ p => ?_) ?_ ?_
  · obtain ⟨_, _, rfl, _⟩ := p
    exact SqT.of he
  · rintro i v σ H' hv ⟨o3, rfl, rfl, hn⟩
    obtain ⟨d, hd, rd⟩ := hps.get hv
    rw [List.getElem?_map] at hd
    obtain ⟨p, hp', rfl⟩ := Option.map_eq_some_iff.mp hd
    obtain ⟨b, ws, rfl, hb, _, _, rfl, rfl, _, _, rfl, rfl, rfl⟩ := rd
    refine ⟨_, rfl, b, _, _, _, rfl, rfl, SqT.of hb, rfl, _, rfl, rfl, _, rfl, ite2 (fun c => ?_) (fun c => ?_)⟩
    · have e' : p.1 = f' := V.str.inj (of_decide_eq_true c)
      have e2 := (find_step hn hp').1 (decide_eq_true e')
      rw [hpt] at e2
      cases e2
      exact ⟨_, rfl, b, _, _, _, rfl, rfl, SqT.of hb, rfl, q _ s1⟩
    · have e' : ¬ p.1 = f' := fun z => c (decide_eq_true (congrArg V.str z))
      exact ⟨_, rfl, rfl, (find_step hn hp').2 (decide_eq_false e')⟩
  · rintro σ H' ⟨o3, rfl, rfl, hn⟩
    rw [List.take_of_length_le (by omega), hpt] at hn
    cases hn
theorem ok_num_kind (T : Tx K mg) : DefIs P w K mg base (n + 1) "num_kind" ["n"] spNumKind := by
  refine DefIs.of T.d_num_kind sc_num_kind (fun vs H Q E h => ?_) (fun f cdv A outer s H vs Q E hr h => ?_)
  · obtain ⟨_, rfl, _⟩ := h
    rfl
  obtain ⟨i, rfl, ⟨h0, h1⟩, q⟩ := h
  refine ⟨_, (pss_cons (ps_if (pt_not (pt_chain op_le op_lt pe_int (pv 0) (pe_gint T.g_WIDE))) (pss_one ps_never) pss_nil)
      (pss_one (ps_ret pe_str))), ?_⟩
  refine ⟨_, rfl, _, _, rfl, rfl, _, rfl, iteKT (decide_eq_true h0) ⟨_, _, rfl, rfl, _, rfl, ?_⟩⟩
  rw [decide_eq_true h1]
  exact q
theorem ok_box_kind (T : Tx K mg) : DefIs P w K mg base (n + 1) "box_kind" ["x", "boxes"] (spBoxKind m) := by
  refine DefIs.of T.d_box_kind sc_box_kind (fun vs H Q E h => ?_) (fun f cdv A outer s H vs Q E hr h => ?_)
  · obtain ⟨_, _, _, _, rfl, _⟩ := h
    rfl
  obtain ⟨x, p, env, k, rfl, ⟨kvs, hp, hl, hh⟩, hx, q⟩ := h
  have hu := hu_of hr
  refine ⟨_, (pss_cons (ps_if (pt_cmp (pc_dnotin hu (pv 0) (pv 1))) (pss_one ps_never) pss_nil)
      (pss_one (ps_ret (pe_dget hu (pv 1) (pv 0) (fun _ _ => rfl))))), ?_⟩
  obtain ⟨v, hv, rv⟩ := (hh x).2 _ hx
  obtain rfl : v = .str k := rv
  have g : DGet H p (.str x) (some (.str k)) := hv ▸ DGet.k (k := Sum.inr x) hp
  refine ⟨_, rfl, _, rfl, p, _, rfl, g, _, rfl, iteF ?_⟩
  exact ⟨_, rfl, _, rfl, p, _, rfl, g, q⟩
theorem ok_op_kind (T : Tx K mg) (R : RK) (D_need_kind : DefIs P w K mg base n "need_kind" ["kinds", "term", "boxes", "kind"] (spNeedKind R m)) :
    DefIs P w K mg base (n + 1) "op_kind" ["kinds", "term", "boxes"] (spKindOf (fun ks => OpKd (R ks)) m) := by
  refine DefIs.of T.d_op_kind sc_op_kind (fun vs H Q E h => ?_) (fun f cdv A outer s H vs Q E hr h => ?_)
  · obtain ⟨_, _, _, _, _, _, _, rfl, _⟩ := h
    rfl
  obtain ⟨kv, tv, p, ks, d, env, k, rfl, hk, hv, he, ⟨sg, a, b, h1, h2, rfl, rfl⟩, q⟩ := h
  refine ⟨_, (pss_cons (ps_expr (pe_dcall D_need_kind hr (pa_cons (pv 0) (pa_cons (pe_ix ix_tup (pv 1) pe_int (fun _ _ => rfl)) (pa_cons (pv 2) (pa_cons pe_str pa_nil star_const) star_name) star_sub) star_name)))
      (pss_cons (ps_expr (pe_dcall D_need_kind hr (pa_cons (pv 0) (pa_cons (pe_ix ix_tup (pv 1) pe_int (fun _ _ => rfl)) (pa_cons (pv 2) (pa_cons pe_str pa_nil star_const) star_name) star_sub) star_name)))
      (pss_one (ps_ret pe_str)))), ?_⟩
  obtain ⟨l, us, rfl, ha, _, _, rfl, rfl, _, _, rfl, rfl, va, _, rfl, ra, vb, _, rfl, rb, rfl⟩ := hv
  refine ⟨_, rfl, _, rfl, l, _, _, _, rfl, rfl, SqT.of ha, rfl, _, rfl, ?_⟩
  refine ⟨_, _, _, ks, _, env, _, rfl, hk, ra, he, h1, fun H1 s1 => ?_⟩
  refine ⟨_, rfl, _, rfl, l, _, _, _, rfl, rfl, SqT.of (s1 _ _ ha), rfl, _, rfl, ?_⟩
  exact ⟨_, _, _, ks, _, env, _, rfl, hk.same s1, rb.same s1 _, he.same s1, h2, fun H2 s2 => q H2 (s1.trans s2)⟩
theorem ok_if_kind (T : Tx K mg) (R : RK) (D_kind_of : DefIs P w K mg base n "kind_of" ["kinds", "term", "boxes"] (spKindOf R m)) (D_need_kind : DefIs P w K mg base n "need_kind" ["kinds", "term", "boxes", "kind"] (spNeedKind R m)) :
    DefIs P w K mg base (n + 1) "if_kind" ["kinds", "term", "boxes"] (spKindOf (fun ks => IfKd (R ks)) m) := by
  refine DefIs.of T.d_if_kind sc_if_kind (fun vs H Q E h => ?_) (fun f cdv A outer s H vs Q E hr h => ?_)
  · obtain ⟨_, _, _, _, _, _, _, rfl, _⟩ := h
    rfl
  obtain ⟨kv, tv, p, ks, d, env, k, rfl, hk, hv, he, ⟨a, b, c, h1, h2, h3, rfl⟩, q⟩ := h
  have nd := sc_if_kind.nd
  refine ⟨_, (pss_cons (ps_expr (pe_dcall D_need_kind hr (pa_cons (pv 0) (pa_cons (pe_ix ix_tup (pv 1) pe_int (fun _ _ => rfl)) (pa_cons (pv 2) (pa_cons pe_str pa_nil star_const) star_name) star_sub) star_name)))
      (pss_cons (ps_set (i := 3) nd rfl (by first | exact Or.inl rfl | exact Or.inr rfl) (pe_dcall D_kind_of hr (pa_cons (pv 0) (pa_cons (pe_ix ix_tup (pv 1) pe_int (fun _ _ => rfl)) (pa_cons (pv 2) pa_nil star_name) star_sub) star_name)))
      (pss_cons (ps_expr (pe_dcall D_need_kind hr (pa_cons (pv 0) (pa_cons (pe_ix ix_tup (pv 1) pe_int (fun _ _ => rfl)) (pa_cons (pv 2) (pa_cons (pv 3) pa_nil star_name) star_name) star_sub) star_name)))
      (pss_one (ps_ret (pv 3)))))), ?_⟩
  obtain ⟨l, us, rfl, ha, _, _, rfl, rfl, va, _, rfl, ra, vb, _, rfl, rb, vc, _, rfl, rc, rfl⟩ := hv
  refine ⟨_, rfl, _, rfl, l, _, _, _, rfl, rfl, SqT.of ha, rfl, _, rfl, ?_⟩
  refine ⟨_, _, _, ks, _, env, _, rfl, hk, ra, he, h1, fun H1 s1 => ?_⟩
  refine ⟨_, rfl, _, rfl, l, _, _, _, rfl, rfl, SqT.of (s1 _ _ ha), rfl, _, rfl, ?_⟩
  refine ⟨_, _, _, ks, _, env, _, rfl, hk.same s1, rb.same s1 _, he.same s1, h2, fun H2 s2 => ?_⟩
  have s12 := s1.trans s2
  refine ⟨_, rfl, _, rfl, l, _, _, _, rfl, rfl, SqT.of (s12 _ _ ha), rfl, _, rfl, _, rfl, ?_⟩
  exact ⟨_, _, _, ks, _, env, _, rfl, hk.same s12, rc.same s12 _, he.same s12, h3, fun H3 s3 => ⟨_, rfl, q H3 (s12.trans s3)⟩⟩
theorem ok_get_kind (T : Tx K mg) (R : RK) (D_kind_of_sort : DefIs P w K mg base n "kind_of_sort" ["kinds", "term", "boxes", "sort"] (spKindSort R m)) (D_part_kind : DefIs P w K mg base n "part_kind" ["kinds", "kind", "name"] spPartKind) :
    DefIs P w K mg base (n + 1) "get_kind" ["kinds", "term", "boxes"] (spKindOf (fun ks => GetKd ks (R ks)) m) := by
  refine DefIs.of T.d_get_kind sc_get_kind (fun vs H Q E h => ?_) (fun f cdv A outer s H vs Q E hr h => ?_)
  · obtain ⟨_, _, _, _, _, _, _, rfl, _⟩ := h
    rfl
  obtain ⟨kv, tv, p, ks, d, env, k, rfl, hk, hv, he, ⟨a, k1, f', kn, h1, h2, h3, h4, rfl⟩, q⟩ := h
  have nd := sc_get_kind.nd
  refine ⟨_, (pss_cons (ps_set (i := 3) nd rfl (by first | exact Or.inl rfl | exact Or.inr rfl) (pe_dcall D_kind_of_sort hr (pa_cons (pv 0) (pa_cons (pe_ix ix_tup (pv 1) pe_int (fun _ _ => rfl)) (pa_cons (pv 2) (pa_cons pe_str pa_nil star_const) star_name) star_sub) star_name)))
      (pss_one (ps_ret (pe_dcall D_part_kind hr (pa_cons (pv 0) (pa_cons (pv 3) (pa_cons (pe_ix ix_tup (pv 1) pe_int (fun _ _ => rfl)) pa_nil star_sub) star_name) star_name))))), ?_⟩
  have hs : kn.sort = S "rec" := by unfold Kn.sort; rw [if_pos h3]
  obtain ⟨l, us, rfl, ha, _, _, rfl, rfl, va, _, rfl, ra, _, _, rfl, rfl, rfl⟩ := hv
  refine ⟨_, rfl, _, rfl, l, _, _, _, rfl, rfl, SqT.of ha, rfl, _, rfl, ?_⟩
  refine ⟨_, _, _, ks, _, env, k1, kn, by rw [hs]; rfl, hk, ra, he, h1, h2, fun H1 s1 => ?_⟩
  refine ⟨_, rfl, _, rfl, _, rfl, l, _, _, _, rfl, rfl, SqT.of (s1 _ _ ha), rfl, ?_⟩
  exact ⟨_, ks, k1, kn, f', k, rfl, hk.same s1, h2, h4, fun H2 s2 => q H2 (s1.trans s2)⟩
theorem ok_tag_kind (T : Tx K mg) (R : RK) (D_need_sort : DefIs P w K mg base n "need_sort" ["kinds", "name", "sort"] spNeedSort) (D_need_kind : DefIs P w K mg base n "need_kind" ["kinds", "term", "boxes", "kind"] (spNeedKind R m)) (D_part_kind : DefIs P w K mg base n "part_kind" ["kinds", "kind", "name"] spPartKind) :
    DefIs P w K mg base (n + 1) "tag_kind" ["kinds", "term", "boxes"] (spKindOf (fun ks => TagKd ks (R ks)) m) := by
  refine DefIs.of T.d_tag_kind sc_tag_kind (fun vs H Q E h => ?_) (fun f cdv A outer s H vs Q E hr h => ?_)
  · obtain ⟨_, _, _, _, _, _, _, rfl, _⟩ := h
    rfl
  obtain ⟨kv, tv, p, ks, d, env, k, rfl, hk, hv, he, ⟨t, a, kn, k1, h1, h2, h3, h4, rfl⟩, q⟩ := h
  have nd := sc_tag_kind.nd
  refine ⟨_, (pss_cons (ps_set (i := 3) nd rfl (by first | exact Or.inl rfl | exact Or.inr rfl) (pe_ix ix_tup (pv 1) pe_int (fun _ _ => rfl)))
      (pss_cons (ps_expr (pe_dcall D_need_sort hr (pa_cons (pv 0) (pa_cons (pv 3) (pa_cons pe_str pa_nil star_const) star_name) star_name)))
      (pss_cons (ps_expr (pe_dcall D_need_kind hr (pa_cons (pv 0) (pa_cons (pe_ix ix_tup (pv 1) pe_int (fun _ _ => rfl)) (pa_cons (pv 2) (pa_cons (pe_dcall D_part_kind hr (pa_cons (pv 0) (pa_cons (pv 3) (pa_cons (pe_ix ix_tup (pv 1) pe_int (fun _ _ => rfl)) pa_nil star_sub) star_name) star_name)) pa_nil star_call) star_name) star_sub) star_name)))
      (pss_one (ps_ret (pv 3)))))), ?_⟩
  have hs : kn.sort = S "alt" := by unfold Kn.sort; rw [if_neg (by rw [h2]; decide)]
  obtain ⟨l, us, rfl, ha, _, _, rfl, rfl, _, _, rfl, rfl, _, _, rfl, rfl, va, _, rfl, ra, rfl⟩ := hv
  have hS : SqT K H l [.str (S "tag"), .str k, .str t, va] := SqT.of ha
  refine ⟨_, rfl, l, _, _, _, rfl, rfl, hS, rfl, ?_⟩
  refine ⟨_, rfl, _, rfl, _, ks, k, kn, by rw [hs]; rfl, hk, h1, ?_⟩
  refine ⟨_, rfl, _, rfl, l, _, _, _, rfl, rfl, hS, rfl, _, rfl, _, rfl, _, rfl, _, rfl, l, _, _, _, rfl, rfl, hS, rfl, ?_⟩
  refine ⟨_, ks, k, kn, t, k1, rfl, hk, h1, h3, fun H1 s1 => ?_⟩
  exact ⟨_, _, _, ks, _, env, k1, rfl, hk.same s1, ra.same s1 _, he.same s1, h4, fun H2 s2 => ⟨_, rfl, q H2 (s1.trans s2)⟩⟩
theorem ok_rec_kind (T : Tx K mg) (R : RK) (D_need_sort : DefIs P w K mg base n "need_sort" ["kinds", "name", "sort"] spNeedSort) (D_need_kind : DefIs P w K mg base n "need_kind" ["kinds", "term", "boxes", "kind"] (spNeedKind R m)) (D_parts_of : DefIs P w K mg base n "parts_of" ["kinds", "K"] spPartsOf) :
    DefIs P w K mg base (n + 1) "rec_kind" ["kinds", "term", "boxes"] (spKindOf (fun ks => RecKd ks (R ks)) m) := by
  refine DefIs.of T.d_rec_kind sc_rec_kind (fun vs H Q E h => ?_) (fun f cdv A outer s H vs Q E hr h => ?_)
  · obtain ⟨_, _, _, _, _, _, _, rfl, _⟩ := h
    rfl
  obtain ⟨kv, tv, p, ks, d, env, k, rfl, hk, hv, he, ⟨es, kn, h1, h2, h3, rfl⟩, q⟩ := h
  have nd := sc_rec_kind.nd
  refine ⟨_, (pss_cons (ps_set (i := 3) nd rfl (by first | exact Or.inl rfl | exact Or.inr rfl) (pe_ix ix_tup (pv 1) pe_int (fun _ _ => rfl)))
      (pss_cons (ps_expr (pe_dcall D_need_sort hr (pa_cons (pv 0) (pa_cons (pv 3) (pa_cons pe_str pa_nil star_const) star_name) star_name)))
      (pss_cons (ps_set (i := 4) nd rfl (by first | exact Or.inl rfl | exact Or.inr rfl) (pe_dcall D_parts_of hr (pa_cons (pv 0) (pa_cons (pv 3) pa_nil star_name) star_name)))
      (pss_cons (ps_if (pt_cmpR op_ne (pe_callB call_len_seq rfl T.z_len PySem.boot_len (pa_cons (pe_ix ix_tup (pv 1) pe_int (fun _ _ => rfl)) pa_nil star_sub)) (pe_callB call_len_seq rfl T.z_len PySem.boot_len (pa_cons (pv 4) pa_nil star_name)) (nomark _)) (pss_one ps_never) pss_nil)
      (pss_cons (ps_for PassesOwn.never rfl (pi_zip rfl T.z_zip (pa_cons (pv 4) (pa_cons (pe_ix ix_tup (pv 1) pe_int (fun _ _ => rfl)) pa_nil star_sub) star_name)) (pg_tup rfl (pgs_cons (pg_name (i := 5) nd rfl (by first | exact Or.inl rfl | exact Or.inr rfl)) (pgs_cons (pg_name (i := 6) nd rfl (by first | exact Or.inl rfl | exact Or.inr rfl)) pgs_nil)))
      (pss_one (ps_expr (pe_dcall D_need_kind hr (pa_cons (pv 0) (pa_cons (pv 6) (pa_cons (pv 2) (pa_cons (pe_ix ix_tup (pv 5) pe_int (fun _ _ => rfl)) pa_nil star_sub) star_name) star_name) star_name)))))
      (pss_one (ps_ret (pv 3)))))))), ?_⟩
  have hs : kn.sort = S "rec" := by unfold Kn.sort; rw [if_pos h2]
  obtain ⟨l, us, rfl, ha, _, _, rfl, rfl, _, _, rfl, rfl, va, _, rfl, ra, rfl⟩ := hv
  obtain ⟨c, vs', rfl, hc, hvs⟩ := ra
  have hS : SqT K H l [.str (S "rec"), .str k, .ref c] := SqT.of ha
  refine ⟨_, rfl, l, _, _, _, rfl, rfl, hS, rfl, ?_⟩
  refine ⟨_, rfl, _, rfl, _, ks, k, kn, by rw [hs]; rfl, hk, h1, ?_⟩
  refine ⟨_, rfl, _, rfl, _, ks, k, rfl, hk, fun u H1 s1 r1 => ?_⟩
  rw [h1] at r1
  obtain ⟨e, ps, rfl, hpe, hps⟩ := r1
  have l1 := hps.length
  rw [List.length_map] at l1
  have l2 := hvs.length
  have l3 := h3.length
  have hS1 : SqT K H1 l [.str (S "rec"), .str k, .ref c] := SqT.of (s1 _ _ ha)
  refine ⟨_, rfl, l, _, _, _, rfl, rfl, hS1, rfl, c, _, rfl, .inr (SqT.of (s1 _ _ hc)), _, rfl, e, _, rfl, .inr (SqT.of hpe), rfl, _, rfl, iteNS (by rw [show vs'.length = ps.length by omega]) ?_⟩
  refine ⟨_, rfl, _, rfl, l, _, _, _, rfl, rfl, hS1, rfl, e, c, rfl, ⟨_, SqT.of hpe⟩, ⟨_, SqT.of (s1 _ _ hc)⟩, ?_⟩
  refine for_zip (xs := ps) (ys := vs') (by omega) (fun i σ H' => ∃ o5 o6, σ = [some kv, some (.ref l), some (.ref p), some (.str k), some (.ref e), o5, o6] ∧ Same H1 H') ⟨none, none, rfl, Same.refl _⟩ (fun i σ H' _ p => ?_) ?_ ?_
  · obtain ⟨_, _, _, sm⟩ := p
    exact ⟨SqT.of (sm _ _ hpe), SqT.of ((s1.trans sm) _ _ hc)⟩
  · rintro i x y σ H' pt hx hy ⟨o5, o6, rfl, sm⟩ hpt
    obtain ⟨dp, hdp, rdp⟩ := hps.get hx
    rw [List.getElem?_map] at hdp
    obtain ⟨pr, hpr, rfl⟩ := Option.map_eq_some_iff.mp hdp
    obtain ⟨de, hde, rde⟩ := hvs.get hy
    obtain ⟨pr', hpr', rR⟩ := h3.get hde
    rw [hpr] at hpr'
    cases hpr'
    obtain ⟨b, ws, rfl, hb, _, _, rfl, rfl, _, _, rfl, rfl, rfl⟩ := rdp
    have sn := Same.new hpt (.tup [.ref b, y])
    have s2 := sm.trans sn
    refine ⟨pt, _, rfl, SqT.of upd_same, rfl, _, _, rfl, _, _, rfl, rfl, ?_⟩
    refine ⟨_, rfl, _, rfl, _, rfl, _, rfl, b, _, _, _, rfl, rfl, SqT.of (s2 _ _ hb), rfl, ?_⟩
    have s12 := s1.trans s2
    exact ⟨_, _, _, ks, _, env, _, rfl, hk.same s12, rde.same s12 _, he.same s12, rR, fun H2 s3 => ⟨_, _, rfl, s2.trans s3⟩⟩
  · rintro σ H' ⟨o5, o6, rfl, sm⟩
    exact ⟨_, rfl, q _ (s1.trans sm)⟩
theorem ok_kind_of (T : Tx K mg) (R : RK) (cs : Prop) (D_num_kind : DefIs P w K mg base n "num_kind" ["n"] spNumKind) (D_box_kind : DefIs P w K mg base n "box_kind" ["x", "boxes"] (spBoxKind m))
    (D_op_kind : DefIs P w K mg base n "op_kind" ["kinds", "term", "boxes"] (spKindOf (fun ks => OpKd (R ks)) m)) (D_rec_kind : DefIs P w K mg base n "rec_kind" ["kinds", "term", "boxes"] (spKindOf (fun ks => RecKd ks (R ks)) m)) (D_get_kind : DefIs P w K mg base n "get_kind" ["kinds", "term", "boxes"] (spKindOf (fun ks => GetKd ks (R ks)) m))
    (D_tag_kind : DefIs P w K mg base n "tag_kind" ["kinds", "term", "boxes"] (spKindOf (fun ks => TagKd ks (R ks)) m)) (D_case_kind : DefIs P w K mg base n "case_kind" ["kinds", "term", "boxes"] (spKindOf (fun ks => CaseKd cs ks (R ks)) m)) (D_if_kind : DefIs P w K mg base n "if_kind" ["kinds", "term", "boxes"] (spKindOf (fun ks => IfKd (R ks)) m)) :
    DefIs P w K mg base (n + 1) "kind_of" ["kinds", "term", "boxes"] (spKindOf (fun ks env d k => LeafKd env d k ∨ NodeKd cs ks (R ks) env d k) m) := by
  refine DefIs.of T.d_kind_of sc_kind_of (fun vs H Q E h => ?_) (fun f cdv A outer s H vs Q E hr h => ?_)
  · obtain ⟨_, _, _, _, _, _, _, rfl, _⟩ := h
    rfl
  obtain ⟨kv, tv, p, ks, d, env, k, rfl, hk, hv, he, hR, q⟩ := h
  have nd := sc_kind_of.nd
  refine ⟨_, (pss_cons (ps_set (i := 3) nd rfl (by first | exact Or.inl rfl | exact Or.inr rfl) (pe_ix ix_tup (pv 1) pe_int (fun _ _ => rfl)))
      (pss_cons (ps_if (pt_cmpR op_eq (pv 3) pe_str (nomark _)) (pss_one (ps_ret (pe_dcall D_num_kind hr (pa_cons (pe_ix ix_tup (pv 1) pe_int (fun _ _ => rfl)) pa_nil star_sub)))) pss_nil)
      (pss_cons (ps_if (pt_cmpR op_eq (pv 3) pe_str (nomark _)) (pss_one (ps_ret (pe_dcall D_box_kind hr (pa_cons (pe_ix ix_tup (pv 1) pe_int (fun _ _ => rfl)) (pa_cons (pv 2) pa_nil star_name) star_sub)))) pss_nil)
      (pss_cons (ps_if (pt_cmpR op_eq (pv 3) pe_str (nomark _)) (pss_one (ps_ret (pe_dcall D_op_kind hr (pa_cons (pv 0) (pa_cons (pv 1) (pa_cons (pv 2) pa_nil star_name) star_name) star_name)))) pss_nil)
      (pss_cons (ps_if (pt_cmpR op_eq (pv 3) pe_str (nomark _)) (pss_one (ps_ret (pe_dcall D_rec_kind hr (pa_cons (pv 0) (pa_cons (pv 1) (pa_cons (pv 2) pa_nil star_name) star_name) star_name)))) pss_nil)
      (pss_cons (ps_if (pt_cmpR op_eq (pv 3) pe_str (nomark _)) (pss_one (ps_ret (pe_dcall D_get_kind hr (pa_cons (pv 0) (pa_cons (pv 1) (pa_cons (pv 2) pa_nil star_name) star_name) star_name)))) pss_nil)
      (pss_cons (ps_if (pt_cmpR op_eq (pv 3) pe_str (nomark _)) (pss_one (ps_ret (pe_dcall D_tag_kind hr (pa_cons (pv 0) (pa_cons (pv 1) (pa_cons (pv 2) pa_nil star_name) star_name) star_name)))) pss_nil)
      (pss_cons (ps_if (pt_cmpR op_eq (pv 3) pe_str (nomark _)) (pss_one (ps_ret (pe_dcall D_case_kind hr (pa_cons (pv 0) (pa_cons (pv 1) (pa_cons (pv 2) pa_nil star_name) star_name) star_name)))) pss_nil)
      (pss_one (ps_ret (pe_dcall D_if_kind hr (pa_cons (pv 0) (pa_cons (pv 1) (pa_cons (pv 2) pa_nil star_name) star_name) star_name)))))))))))), ?_⟩
  have hv' := hv
  rcases hR with (⟨i, hi, rfl, rfl⟩ | ⟨x, hx, rfl⟩) | hN | hN | hN | hN | hN | hN
  · obtain ⟨a, us, rfl, ha, _, _, rfl, rfl, _, _, rfl, rfl, rfl⟩ := hv
    have hS : SqT K H a [.str (S "num"), .int i] := SqT.of ha
    walk_at "rd"
    exact ⟨hi, q _ (Same.refl _)⟩
  · obtain ⟨a, us, rfl, ha, _, _, rfl, rfl, _, _, rfl, rfl, rfl⟩ := hv
    have hS : SqT K H a [.str (S "box"), .str x] := SqT.of ha
    walk_at "rd"
    exact ⟨x, p, env, k, rfl, he, hx, q _ (Same.refl _)⟩
  · obtain ⟨sg, a, b, h1, h2, rfl, rfl⟩ := id hN
    obtain ⟨l, us, rfl, ha, _, _, rfl, rfl, _, _, rfl, rfl, va, _, rfl, ra, vb, _, rfl, rb, rfl⟩ := hv
    have hS : SqT K H l [.str (S "op"), .str sg, va, vb] := SqT.of ha
    walk_at "rd"
    exact ⟨_, _, _, ks, _, env, _, rfl, hk, hv', he, hN, q⟩
  · obtain ⟨es, kn, h1, h2, h3, rfl⟩ := id hN
    obtain ⟨l, us, rfl, ha, _, _, rfl, rfl, _, _, rfl, rfl, va, _, rfl, ra, rfl⟩ := hv
    have hS : SqT K H l [.str (S "rec"), .str k, va] := SqT.of ha
    walk_at "rd"
    exact ⟨_, _, _, ks, _, env, _, rfl, hk, hv', he, hN, q⟩
  · obtain ⟨a, k1, f', kn, h1, h2, h3, h4, rfl⟩ := id hN
    obtain ⟨l, us, rfl, ha, _, _, rfl, rfl, va, _, rfl, ra, _, _, rfl, rfl, rfl⟩ := hv
    have hS : SqT K H l [.str (S "get"), va, .str f'] := SqT.of ha
    walk_at "rd"
    exact ⟨_, _, _, ks, _, env, _, rfl, hk, hv', he, hN, q⟩
  · obtain ⟨t, a, kn, k1, h1, h2, h3, h4, rfl⟩ := id hN
    obtain ⟨l, us, rfl, ha, _, _, rfl, rfl, _, _, rfl, rfl, _, _, rfl, rfl, va, _, rfl, ra, rfl⟩ := hv
    have hS : SqT K H l [.str (S "tag"), .str k, .str t, va] := SqT.of ha
    walk_at "rd"
    exact ⟨_, _, _, ks, _, env, _, rfl, hk, hv', he, hN, q⟩
  · obtain ⟨hcs, a, rs, k1, kn, h1, h2, h3, h4, h5, h6, h7, rfl⟩ := id hN
    obtain ⟨l, us, rfl, ha, _, _, rfl, rfl, va, _, rfl, ra, vr, _, rfl, rr, rfl⟩ := hv
    have hS : SqT K H l [.str (S "case"), va, vr] := SqT.of ha
    walk_at "rd"
    exact ⟨_, _, _, ks, _, env, _, rfl, hk, hv', he, hN, q⟩
  · obtain ⟨a, b, c, h1, h2, h3, rfl⟩ := id hN
    obtain ⟨l, us, rfl, ha, _, _, rfl, rfl, va, _, rfl, ra, vb, _, rfl, rb, vc, _, rfl, rc, rfl⟩ := hv
    have hS : SqT K H l [.str (S "if"), va, vb, vc] := SqT.of ha
    walk_at "rd"
    exact ⟨_, _, _, ks, _, env, _, rfl, hk, hv', he, hN, q⟩
theorem kind_step (T : Tx K mg) (R : RK) (cs : Prop) (D : DefIs P w K mg base (n + 1) "kind_of" ["kinds", "term", "boxes"] (spKindOf R m)) (Dc : DefIs P w K mg base (n + 3) "case_kind" ["kinds", "term", "boxes"] (spKindOf (fun ks => CaseKd cs ks (R ks)) m)) :
    DefIs P w K mg base (n + 4) "kind_of" ["kinds", "term", "boxes"] (spKindOf (fun ks env d k => LeafKd env d k ∨ NodeKd cs ks (R ks) env d k) m) := by
  have same : ∀ k, DefIs P w K mg base (k + 1) "need_same" ["found", "kind"] spNeedSame := fun k => ok_need_same T
  have sort : ∀ k, DefIs P w K mg base (k + 1) "sort_of" ["kinds", "K"] spSortOf := fun k => ok_sort_of T
  have parts : ∀ k, DefIs P w K mg base (k + 1) "parts_of" ["kinds", "K"] spPartsOf := fun k => ok_parts_of T
  have nk := ok_need_kind T R D (same n)
  have ns := ok_need_sort (n := n + 1) T (sort n)
  have ko := ok_kind_of_sort T R D (sort n)
  have pk := ok_part_kind (n := n + 1) T (parts n)
  exact ok_kind_of T R cs (ok_num_kind T) (ok_box_kind T) (ok_op_kind T R nk) (ok_rec_kind T R ns nk (parts (n + 1))) (ok_get_kind T R ko pk) (ok_tag_kind T R ns nk pk) Dc (ok_if_kind T R (D.mono (by omega)) nk)
end
end K45

end

section
set_option Elab.async false
set_option linter.all false
set_option maxRecDepth 100000
set_option maxHeartbeats 1000000
namespace L2
open PySem PySem.Spec PyProof.Rows

section
variable {M : Model} {A : Around} {E : Value → Shared → Prop} {s : Shared} {c2 : Value}

end
end L2

end

section
set_option Elab.async false
set_option linter.all false
set_option maxRecDepth 100000
set_option maxHeartbeats 1000000
namespace L2
open PySem PySem.Spec PyProof.Rows

section
variable {X : Cx} {pins : List (Addr × Obj)} {σ : St} {H : Hp} {s : Shared} {h' : Heap} {x C : Addr} {d T T1 : Option Addr} {fl c2 : Value}
end

section
variable {P : Program} {w : World} {K : PySem.W.Frag} {mg : Str → Option Value} {base : Heap} {N : List Str} {qual : Str} {scope : Scope} {f : Addr} {cd : Value} {A : Around} {outer : List Env} {s : Shared} {H : Hp} {E : XK}
end

section
variable {X : Cx} {E : XS}
end
end L2

end

section
set_option Elab.async false
set_option linter.all false
set_option maxRecDepth 100000
set_option maxHeartbeats 1000000
namespace L2
open PySem PySem.Spec PyProof.Rows

section
variable {M : Model} {A : Around} {E' : Value → Shared → Prop} {env : Env}
end

section
variable {X : Cx} {E : XS} {ex : Expr} {te : TE} {pos : Pos}
end

section
variable {P : Program} {w : World} {K : PySem.W.Frag} {mg : Str → Option Value} {base : Heap} {n m : Nat} {x : Str} {ps N : List Str} {sp : Sp} {st : Stmt}
end
section
variable {X : Cx} {E : XS} {n : Nat} {x : Str} {ps : List Str} {sp : Sp} {e : Expr} {es : List Expr} {p pos : Pos} {t : TA}
end
end L2

end

section
set_option Elab.async false
set_option linter.all false
set_option maxRecDepth 100000
set_option maxHeartbeats 1000000
namespace L2
open PySem PySem.Spec PyProof.Rows

section
variable {X : Cx} {pins pn : List (Addr × Obj)} {σ : St} {H : Hp} {s : Shared} {e : Value}
end
end L2

end

section
set_option Elab.async false
set_option linter.all false
set_option maxRecDepth 100000
set_option maxHeartbeats 1000000
namespace L2
open PySem PySem.Spec PyProof.Rows
section
variable {X : Cx} {pins : List (Addr × Obj)} {σ : St} {H : Hp} {s : Shared}
end
end L2

end

section
set_option Elab.async false
set_option linter.all false
set_option maxRecDepth 100000
set_option maxHeartbeats 1000000
namespace L2
open PySem PySem.Spec PyProof.Rows
section
variable {X : Cx} {pins : List (Addr × Obj)} {σ : St} {H : Hp} {s : Shared} {C : Addr} {o : Expr} {fl : Str} {pos : Pos} {ta : TE}
end

end L2

end

section
set_option Elab.async false
set_option linter.all false
set_option maxRecDepth 100000
set_option maxHeartbeats 1000000
namespace L2
open PySem PySem.Spec PyProof.Rows
section
variable {X : Cx} {pins : List (Addr × Obj)} {σ : St} {H : Hp} {s : Shared} {C : Addr} {Q : VK} {us : List Value} {vs : List V} {k : Nat} {ps : List Str} {sp : Sp}
variable {x : Str} {p pos : Pos} {e : Expr} {es : List Expr} {t : TA}
end

section
variable {prog : Program} {w : World} {A : Around} {E' : Value → Shared → Prop} {env : Env}
end

section
variable {X : Cx} {E : XS}
end
end L2

end

section
set_option Elab.async false
set_option linter.all false
set_option maxRecDepth 100000
set_option maxHeartbeats 1000000
namespace L2
open PySem PySem.Spec PyProof.Rows
end L2

end

section
set_option Elab.async false
set_option linter.all false
set_option maxRecDepth 100000
set_option maxHeartbeats 4000000
namespace St
open PySem PySem.Spec PyProof.Rows
end St
namespace L2
open PySem PySem.Spec PyProof.Rows
end L2
namespace L2
open PySem PySem.Spec PyProof.Rows
end L2

end

section
set_option Elab.async false
set_option linter.all false
set_option maxRecDepth 100000
set_option maxHeartbeats 4000000
namespace K45
open PySem L2 M
seal L2.PE L2.PA L2.PS L2.PSs L2.PT L2.PW L2.PI L2.PG L2.PJ L2.PTs
theorem inV_strs (x : Str) : ∀ ys : List Str, inV (.str x) (ys.map V.str) = decide (x ∈ ys)
  | [] => rfl
  | y :: ys => by
    show ((y == x) || inV (.str x) (ys.map V.str)) = _
    rw [inV_strs x ys]
    by_cases h : y = x
    · subst h; simp
    · have h' : ¬ x = y := fun e => h e.symm
      simp [h, h']
theorem flat_strs : ∀ ys : List Str, (ys.map V.str).all flatV = true
  | [] => rfl
  | y :: ys => by
    show (flatV (.str y) && (ys.map V.str).all flatV) = true
    rw [flat_strs ys]
    rfl
/-- kinds' names aren't long -/
def KL (ks : List Kn) : Prop := ∀ k ∈ ks, k.name.length ≤ 100
def spNeedOnce : Sp := fun vs H Q _ => ∃ (a : Addr) (ns : List Str) (x : Str), vs = [.ref a, .str x] ∧ H a = some (.lst (ns.map V.str)) ∧ ns.Nodup ∧ ns.length ≤ 1000 ∧ Q .non H
def spNeedTags : Sp := fun vs H Q _ => ∃ (kv : V) (c : Addr) (ws : List V) (ks : List Kn) (k : Str) (kn : Kn) (rs : List (Str × Str × D)), vs = [kv, .str k, .ref c] ∧ KsAt H kv ks ∧ KL ks ∧ kAt ks k = some kn ∧ H c = some (.tup ws) ∧ RelDs H ws (rs.map dArm) ∧ rs.length = kn.parts.length ∧ (rs.map (·.1)).Nodup ∧ (∀ r ∈ rs, ∃ k2, partOf kn r.1 = some k2) ∧ ∀ H', Same H H' → Q .non H'
def spArmKind (R : RK) (m : Nat) : Sp := fun vs H Q _ => ∃ (kv av : V) (p : Addr) (ks : List Kn) (env : En) (k1 : Str) (kn : Kn) (k k2 : Str) (r : Str × Str × D), vs = [kv, .str k1, av, .ref p] ∧ KsAt H kv ks ∧ kAt ks k1 = some kn ∧ RelD H av (dArm r) ∧ EnAt H p m env ∧ env r.2.1 = none ∧ partOf kn r.1 = some k2 ∧ R ks (env.put r.2.1 (.str k2)) r.2.2 k ∧ m ≤ 1000 ∧ ∀ H', Same H H' → Q (.str k) H'
theorem part_mem {kn : Kn} {f k2 : Str} (h : partOf kn f = some k2) : f ∈ kn.parts.map (·.1) := by
  unfold partOf at h
  obtain ⟨p, hp, _⟩ := Option.map_eq_some_iff.mp h
  have h1 := List.mem_of_find?_eq_some hp
  have h2 := List.find?_some hp
  rw [← of_decide_eq_true h2]
  exact List.mem_map_of_mem h1
section
variable {P : Program} {w : World} {K : PySem.W.Frag} {mg : Str → Option Value} {base : Heap} {n m : Nat}
theorem ok_need_once (T : Tx K mg) : DefIs P w K mg base (n + 1) "need_once" ["names", "things"] spNeedOnce := by
  refine DefIs.of T.d_need_once sc_need_once (fun vs H Q E h => ?_) (fun f cdv A outer s H vs Q E hr h => ?_)
  · obtain ⟨_, _, _, rfl, _⟩ := h
    rfl
  obtain ⟨a, ns, x, rfl, ha, hnd, hl, q⟩ := h
  refine ⟨_, (pss_one (ps_if (pt_cmpR op_lt (pe_lenSet rfl rfl T.z_len rfl T.z_set (pv 0)) (pe_callB call_len_seq rfl T.z_len PySem.boot_len (pa_cons (pv 0) pa_nil star_name)) (nomark _)) (pss_one ps_never) pss_nil)), ?_⟩
  refine ⟨_, rfl, a, ns, rfl, ha, hnd, hl, _, rfl, a, _, rfl, .inl (SqL.of ha), _, _, rfl, rfl, _, rfl, iteKF (decide_eq_false ?_) q⟩
  rw [List.length_map]
  omega
theorem ok_need_tags (T : Tx K mg) (D_parts_of : DefIs P w K mg base n "parts_of" ["kinds", "K"] spPartsOf) (D_need_once : DefIs P w K mg base n "need_once" ["names", "things"] spNeedOnce) : DefIs P w K mg base (n + 1) "need_tags" ["kinds", "kind", "arms"] spNeedTags := by
  refine DefIs.of T.d_need_tags sc_need_tags (fun vs H Q E h => ?_) (fun f cdv A outer s H vs Q E hr h => ?_)
  · obtain ⟨_, _, _, _, _, _, _, rfl, _⟩ := h
    rfl
  obtain ⟨kv, c, ws, ks, k, kn, rs, rfl, hk, hkl, hkn, hc, hws, hlen, hnd, hpt, q⟩ := h
  have nd := sc_need_tags.nd
  have hkm := List.mem_of_find?_eq_some hkn
  have hkx : kn.name = k := by
    have := List.find?_some hkn
    exact of_decide_eq_true this
  have hkl' : k.length ≤ 100 := by rw [← hkx]; exact hkl kn hkm
  have hp100 := hk.2.2 kn hkm
  refine ⟨_, (pss_cons (ps_setComp (i := 3) ["part"] [none] rfl (by kernel_rfl) nd rfl (by first | exact Or.inl rfl | exact Or.inr rfl) (pi_tup (pe_dcall D_parts_of hr (pa_cons (pv 0) (pa_cons (pv 1) pa_nil star_name) star_name))) (fun _ _ _ _ => (pg_name (i := 0) (by show List.Nodup (["part"] : List Str); decide +kernel) rfl (Or.inl rfl))) (fun _ _ _ _ => pts_nil) (fun _ _ _ _ => (pe_ix (ix_tupC (K := K) rfl) (pv 0) pe_int (fun _ _ => rfl))))
      (pss_cons (ps_setComp (i := 4) ["arm"] [none] rfl (by kernel_rfl) nd rfl (by first | exact Or.inl rfl | exact Or.inr rfl) (pi_tup (pv 2)) (fun _ _ _ _ => (pg_name (i := 0) (by show List.Nodup (["arm"] : List Str); decide +kernel) rfl (Or.inl rfl))) (fun _ _ _ _ => pts_nil) (fun _ _ _ _ => (pe_ix (ix_tupC (K := K) rfl) (pv 0) pe_int (fun _ _ => rfl))))
      (pss_cons (ps_for PassesOwn.never rfl (pi_list (pv 4)) (pg_name (i := 5) nd rfl (by first | exact Or.inl rfl | exact Or.inr rfl))
      (pss_one (ps_if (pt_cmpR op_notIn_seq (pv 5) (pv 3) (by with_unfolding_all rfl)) (pss_one ps_never) pss_nil)))
      (pss_cons (ps_expr (pe_dcall D_need_once hr (pa_cons (pv 4) (pa_cons (pe_fstr (pj_lit (pj_str (pv 1) pj_nil))) pa_nil star_fstr) star_name)))
      (pss_one (ps_if (pt_cmpR op_lt (pe_callB call_len_seq rfl T.z_len PySem.boot_len (pa_cons (pv 4) pa_nil star_name)) (pe_callB call_len_seq rfl T.z_len PySem.boot_len (pa_cons (pv 3) pa_nil star_name)) (nomark _)) (pss_one ps_never) pss_nil)))))), ?_⟩
  refine ⟨_, rfl, _, rfl, kv, ks, k, rfl, hk, fun u H1 s1 r1 => ?_⟩
  rw [hkn] at r1
  obtain ⟨e, ps, rfl, he, hps⟩ := r1
  have hl := hps.length
  rw [List.length_map] at hl
  refine ⟨e, rfl, ⟨_, SqT.of he⟩, ?_⟩
  refine comp_tup (j := 0) (xs := ps) (fun i ys H' => H' = H1 ∧ ys = ((kn.parts.take i).map (·.1)).map V.str) (by rfl) ⟨rfl, rfl⟩ (fitsLt (by omega)) (fun i ys H' _ p => by obtain ⟨rfl, _⟩ := p; exact SqT.of he) ?_ ?_
  · rintro i x ys H' hx hly ⟨rfl, rfl⟩
    obtain ⟨d, hd, rd⟩ := hps.get hx
    rw [List.getElem?_map] at hd
    obtain ⟨p, hp, rfl⟩ := Option.map_eq_some_iff.mp hd
    obtain ⟨b, wz, rfl, hb, _, _, rfl, rfl, _, _, rfl, rfl, rfl⟩ := rd
    have hi' : i < ps.length := (List.getElem?_eq_some_iff.mp hx).1
    refine ⟨_, rfl, b, _, _, _, rfl, rfl, SqT.of hb, rfl, nxt hi' hly ⟨rfl, ?_⟩⟩
    rw [List.take_add_one, hp]
    simp
  rintro ys H' hly ⟨rfl, rfl⟩ D1 hD1
  rw [List.take_of_length_le (by omega)]
  have t1 := Same.new hD1 (.lst ((kn.parts.map (·.1)).map V.str))
  have s2 := s1.trans t1
  have hwl := hws.length
  rw [List.length_map] at hwl
  generalize hH2 : upd H' D1 (.lst ((kn.parts.map (·.1)).map V.str)) = H2 at t1 s2 ⊢
  have hD1' : H2 D1 = some (.lst ((kn.parts.map (·.1)).map V.str)) := by rw [← hH2]; exact upd_same
  refine ⟨_, rfl, c, rfl, ⟨_, SqT.of (s2 _ _ hc)⟩, ?_⟩
  refine comp_tup (j := 0) (xs := ws) (fun i ys H' => H' = H2 ∧ ys = ((rs.take i).map (·.1)).map V.str) (by rfl) ⟨rfl, rfl⟩ (fitsLt (by omega)) (fun i ys H' _ p => by obtain ⟨rfl, _⟩ := p; exact SqT.of (s2 _ _ hc)) ?_ ?_
  · rintro i x ys H3 hx hly ⟨rfl, rfl⟩
    obtain ⟨d, hd, rd⟩ := (hws.same s2 _).get hx
    rw [List.getElem?_map] at hd
    obtain ⟨p, hp, rfl⟩ := Option.map_eq_some_iff.mp hd
    obtain ⟨b, wz, rfl, hb, _, _, rfl, rfl, _, _, rfl, rfl, v3, _, rfl, r3, rfl⟩ := rd
    have hi' : i < ws.length := (List.getElem?_eq_some_iff.mp hx).1
    refine ⟨_, rfl, b, _, _, _, rfl, rfl, SqT.of hb, rfl, nxt hi' hly ⟨rfl, ?_⟩⟩
    rw [List.take_add_one, hp]
    simp
  rintro ys H3 hly ⟨rfl, rfl⟩ D2 hD2
  rw [List.take_of_length_le (by omega)]
  have t2 := Same.new hD2 (.lst ((rs.map (·.1)).map V.str))
  have s3 := s2.trans t2
  have hD1'' := t2 _ _ hD1'
  generalize hH4 : upd H3 D2 (.lst ((rs.map (·.1)).map V.str)) = H4 at t2 s3 hD1'' ⊢
  have hD2' : H4 D2 = some (.lst ((rs.map (·.1)).map V.str)) := by rw [← hH4]; exact upd_same
  refine ⟨_, rfl, D2, rfl, ⟨_, SqL.of hD2'⟩, ?_⟩
  refine for_list (xs := (rs.map (·.1)).map V.str) (fun i σ H' => ∃ o5, σ = [some kv, some (.str k), some (.ref c), some (.ref D1), some (.ref D2), o5] ∧ H' = H4) ⟨none, rfl, rfl⟩ (fun i σ H' _ p => ?_) ?_ ?_
  · obtain ⟨_, _, rfl⟩ := p
    exact SqL.of hD2'
  · rintro i z σ H5 hz ⟨o5, rfl, rfl⟩
    rw [List.getElem?_map] at hz
    obtain ⟨y, hy, rfl⟩ := Option.map_eq_some_iff.mp hz
    obtain ⟨r, hr, rfl⟩ := List.mem_map.mp (List.mem_of_getElem? hy)
    obtain ⟨k2, hk2⟩ := hpt r hr
    refine ⟨_, rfl, _, rfl, D1, _, rfl, .inl (SqL.of hD1''), rfl, flat_strs _, _, rfl, ?_⟩
    rw [if_pos rfl, inV_strs, decide_eq_true (part_mem hk2)]
    exact iteF ⟨_, rfl, rfl⟩
  · rintro σ H5 ⟨o5, rfl, rfl⟩
    have l1 : (Str.empty ++ Str.ofString "arms in a case of the kind ").length = 27 := by decide +kernel
    refine ⟨_, rfl, fits (by omega), _, rfl, _, rfl, fits (by omega), fits (by rw [Str.length_append]; omega), fits (by rw [Str.length_append]; omega), ?_⟩
    refine ⟨D2, rs.map (·.1), _, rfl, hD2', hnd, by rw [List.length_map]; omega, ?_⟩
    refine ⟨_, rfl, D2, _, rfl, .inl (SqL.of hD2'), _, rfl, D1, _, rfl, .inl (SqL.of hD1''), _, _, rfl, rfl, _, rfl, iteKF (decide_eq_false ?_) (q _ s3)⟩
    rw [List.length_map, List.length_map, List.length_map, List.length_map]
    omega
theorem ok_arm_kind (T : Tx K mg) (R : RK) (D_kind_of : DefIs P w K mg base n "kind_of" ["kinds", "term", "boxes"] (spKindOf R (m + 1))) (D_with_box : DefIs P w K mg base n "with_box" ["boxes", "x", "thing"] (spWithBox m)) (D_part_kind : DefIs P w K mg base n "part_kind" ["kinds", "kind", "name"] spPartKind) :
    DefIs P w K mg base (n + 1) "arm_kind" ["kinds", "kind", "arm", "boxes"] (spArmKind R m) := by
  refine DefIs.of T.d_arm_kind sc_arm_kind (fun vs H Q E h => ?_) (fun f cdv A outer s H vs Q E hr h => ?_)
  · obtain ⟨_, _, _, _, _, _, _, _, _, _, rfl, _⟩ := h
    rfl
  obtain ⟨kv, av, p, ks, env, k1, kn, k, k2, r, rfl, hk, hkn, hv, he, hx, hp, hR, hm, q⟩ := h
  have nd := sc_arm_kind.nd
  have hu := hu_of hr
  refine ⟨_, (pss_cons (ps_set (i := 4) nd rfl (by first | exact Or.inl rfl | exact Or.inr rfl) (pe_ix ix_tup (pv 2) pe_int (fun _ _ => rfl)))
      (pss_cons (ps_if (pt_cmp (pc_din hu (pv 4) (pv 3))) (pss_one ps_never) pss_nil)
      (pss_one (ps_ret (pe_dcall D_kind_of hr (pa_cons (pv 0) (pa_cons (pe_ix ix_tup (pv 2) pe_int (fun _ _ => rfl)) (pa_cons (pe_dcall D_with_box hr (pa_cons (pv 3) (pa_cons (pv 4) (pa_cons (pe_dcall D_part_kind hr (pa_cons (pv 0) (pa_cons (pv 1) (pa_cons (pe_ix ix_tup (pv 2) pe_int (fun _ _ => rfl)) pa_nil star_sub) star_name) star_name)) pa_nil star_call) star_name) star_name)) pa_nil star_call) star_sub) star_name)))))), ?_⟩
  obtain ⟨a, us, rfl, ha, _, _, rfl, rfl, _, _, rfl, rfl, ve, _, rfl, re, rfl⟩ := hv
  have hS : SqT K H a [.str r.1, .str r.2.1, ve] := SqT.of ha
  refine ⟨_, rfl, a, _, _, _, rfl, rfl, hS, rfl, ?_⟩
  obtain ⟨kvs, hkp, hkl, hh⟩ := id he
  have g : DGet H p (.str r.2.1) none := (hh r.2.1).1 hx ▸ DGet.k (k := Sum.inr r.2.1) hkp
  refine ⟨_, rfl, _, rfl, p, _, rfl, g, _, rfl, iteF ?_⟩
  refine ⟨_, rfl, _, rfl, a, _, _, _, rfl, rfl, hS, rfl, _, rfl, _, rfl, _, rfl, _, rfl, _, rfl, a, _, _, _, rfl, rfl, hS, rfl, ?_⟩
  refine ⟨kv, ks, k1, kn, r.1, k2, rfl, hk, hkn, hp, fun H1 s1 => ?_⟩
  refine ⟨p, r.2.1, .str k2, .str k2, env, rfl, he.same s1, rfl, hm, fun p' H2 s2 he2 => ?_⟩
  have s12 := s1.trans s2
  exact ⟨kv, ve, p', ks, r.2.2, _, k, rfl, hk.same s12, re.same s12 _, he2, hR, fun H3 s3 => q _ (s12.trans s3)⟩
theorem ok_case_kind (T : Tx K mg) (R : RK) (hm : m ≤ 1000) (hRK : ∀ ks env d k, R ks env d k → KL ks) (D_kind_of_sort : DefIs P w K mg base n "kind_of_sort" ["kinds", "term", "boxes", "sort"] (spKindSort R m)) (D_need_tags : DefIs P w K mg base n "need_tags" ["kinds", "kind", "arms"] spNeedTags) (D_arm_kind : DefIs P w K mg base n "arm_kind" ["kinds", "kind", "arm", "boxes"] (spArmKind R m)) (D_need_same : DefIs P w K mg base n "need_same" ["found", "kind"] spNeedSame) :
    DefIs P w K mg base (n + 1) "case_kind" ["kinds", "term", "boxes"] (spKindOf (fun ks => CaseKd True ks (R ks)) m) := by
  refine DefIs.of T.d_case_kind sc_case_kind (fun vs H Q E h => ?_) (fun f cdv A outer s H vs Q E hr h => ?_)
  · obtain ⟨_, _, _, _, _, _, _, rfl, _⟩ := h
    rfl
  obtain ⟨kv, tv, p, ks, d, env, k, rfl, hk, hv, he, ⟨_, a, rs, k1, kn, h1, h2, h3, h4, h5, h6, h7, rfl⟩, q⟩ := h
  have nd := sc_case_kind.nd
  have hkl := hRK _ _ _ _ h1
  refine ⟨_, (pss_cons (ps_set (i := 3) nd rfl (by first | exact Or.inl rfl | exact Or.inr rfl) (pe_dcall D_kind_of_sort hr (pa_cons (pv 0) (pa_cons (pe_ix ix_tup (pv 1) pe_int (fun _ _ => rfl)) (pa_cons (pv 2) (pa_cons pe_str pa_nil star_const) star_name) star_sub) star_name)))
      (pss_cons (ps_set (i := 4) nd rfl (by first | exact Or.inl rfl | exact Or.inr rfl) (pe_ix ix_tup (pv 1) pe_int (fun _ _ => rfl)))
      (pss_cons (ps_expr (pe_dcall D_need_tags hr (pa_cons (pv 0) (pa_cons (pv 3) (pa_cons (pv 4) pa_nil star_name) star_name) star_name)))
      (pss_cons (ps_set (i := 5) nd rfl (by first | exact Or.inl rfl | exact Or.inr rfl) (pe_dcall D_arm_kind hr (pa_cons (pv 0) (pa_cons (pv 3) (pa_cons (pe_ix ix_tup (pv 4) pe_int (fun _ _ => rfl)) (pa_cons (pv 2) pa_nil star_name) star_sub) star_name) star_name)))
      (pss_cons (ps_for PassesOwn.never rfl (pi_tup (pe_slice sl_tup (pv 4) (po_some pe_int) po_none)) (pg_name (i := 6) nd rfl (by first | exact Or.inl rfl | exact Or.inr rfl))
      (pss_one (ps_expr (pe_dcall D_need_same hr (pa_cons (pe_dcall D_arm_kind hr (pa_cons (pv 0) (pa_cons (pv 3) (pa_cons (pv 6) (pa_cons (pv 2) pa_nil star_name) star_name) star_name) star_name)) (pa_cons (pv 5) pa_nil star_name) star_call)))))
      (pss_one (ps_ret (pv 5)))))))), ?_⟩
  have hs : kn.sort = S "alt" := by unfold Kn.sort; rw [if_neg (by rw [h3]; decide)]
  obtain ⟨l, us, rfl, ha, _, _, rfl, rfl, va, _, rfl, ra, vr, _, rfl, rr, rfl⟩ := hv
  obtain ⟨c, ws, rfl, hc, hws⟩ := rr
  refine ⟨_, rfl, _, rfl, l, _, _, _, rfl, rfl, SqT.of ha, rfl, _, rfl, ?_⟩
  refine ⟨_, _, _, ks, _, env, k1, kn, by rw [hs]; rfl, hk, ra, he, h1, h2, fun H1 s1 => ?_⟩
  refine ⟨_, rfl, l, _, _, _, rfl, rfl, SqT.of (s1 _ _ ha), rfl, ?_⟩
  refine ⟨_, rfl, _, rfl, _, rfl, kv, c, ws, ks, k1, kn, rs, rfl, hk.same s1, hkl, h2, s1 _ _ hc, hws.same s1 _, h5, h6, (fun r hr => by obtain ⟨_, k2, e, _⟩ := h7 r hr; exact ⟨k2, e⟩), fun H2 s2 => ?_⟩
  have s12 := s1.trans s2
  have arm : ∀ (i : Nat) (w0 : V) (H3 : Hp) (s3 : Same H H3), ws[i]? = some w0 → ∃ (r : Str × Str × D) (k2 : Str), RelD H3 w0 (dArm r) ∧ env r.2.1 = none ∧ partOf kn r.1 = some k2 ∧ R ks (env.put r.2.1 (.str k2)) r.2.2 k := fun i w0 H3 s3 hw => by
    obtain ⟨d0, hd0, rd0⟩ := hws.get hw
    rw [List.getElem?_map] at hd0
    obtain ⟨r, hr, rfl⟩ := Option.map_eq_some_iff.mp hd0
    obtain ⟨g1, k2, g2, g3⟩ := h7 r (List.mem_of_getElem? hr)
    exact ⟨r, k2, rd0.same s3 _, g1, g2, g3⟩
  have hwl := hws.length
  rw [List.length_map] at hwl
  have hrp : 0 < rs.length := List.length_pos_iff.mpr h4
  cases hw0 : ws with
  | nil => rw [hw0] at hwl; simp at hwl; omega
  | cons w0 wr =>
    refine ⟨_, rfl, _, rfl, _, rfl, c, _, _, w0, rfl, rfl, SqT.of (s12 _ _ hc), (by rw [hw0]; exact atI_nat (j := 0) rfl), _, rfl, ?_⟩
    obtain ⟨r, k2, g0, g1, g2, g3⟩ := arm 0 w0 H2 s12 (by rw [hw0]; rfl)
    refine ⟨kv, w0, p, ks, env, k1, kn, k, k2, r, rfl, hk.same s12, h2, g0, he.same s12, g1, g2, g3, hm, fun H3 s3 => ?_⟩
    have s13 := s12.trans s3
    refine ⟨_, rfl, _, rfl, c, ws, rfl, SqT.of (s13 _ _ hc), (by
      rw [show ((1 : Int)) = ((1 : Nat) : Int) from rfl, HT.sIx_nat]
      rw [hw0, List.length_cons]
      omega), fun cp hcp => ?_⟩
    have t3 := Same.new hcp (.tup (cutV ws (some 1) none))
    have s14 := s13.trans t3
    have hcut : cutV ws (some 1) none = wr := by
      unfold cutV
      rw [show ((1 : Int)) = ((1 : Nat) : Int) from rfl, HT.sIx_nat, HT.sIx_none, hw0, List.length_cons]
      rw [show min 1 (wr.length + 1) = 1 by omega]
      show List.take _ wr = wr
      exact List.take_of_length_le (by omega)
    refine ⟨cp, rfl, ⟨_, SqT.of upd_same⟩, ?_⟩
    rw [hcut] at t3 s14 ⊢
    refine for_tup (xs := wr) (fun i σ H' => ∃ o6, σ = [some kv, some (.ref l), some (.ref p), some (.str k1), some (.ref c), some (.str k), o6] ∧ Same (upd H3 cp (.tup wr)) H') ⟨none, rfl, Same.refl _⟩ (fun i σ H' _ p => ?_) ?_ ?_
    · obtain ⟨_, _, sm⟩ := p
      exact SqT.of (sm _ _ upd_same)
    · rintro i v σ H5 hv ⟨o6, rfl, sm⟩
      refine ⟨_, rfl, _, rfl, _, rfl, _, rfl, ?_⟩
      obtain ⟨r, k2, g0, g1, g2, g3⟩ := arm (i + 1) v H5 (s14.trans sm) (by rw [hw0]; exact hv)
      have s15 := s14.trans sm
      refine ⟨kv, v, p, ks, env, k1, kn, k, k2, r, rfl, hk.same s15, h2, g0, he.same s15, g1, g2, g3, hm, fun H6 s6 => ?_⟩
      exact ⟨_, rfl, k, rfl, _, rfl, sm.trans s6⟩
    · rintro σ H5 ⟨o6, rfl, sm⟩
      exact ⟨_, rfl, q _ (s14.trans sm)⟩
theorem kind_up (R : RK) (D : DefIs P w K mg base n "kind_of" ["kinds", "term", "boxes"] (spKindOf R (m + 1))) : DefIs P w K mg base n "kind_of" ["kinds", "term", "boxes"] (spKindOf R m) := D.imp fun vs H Q E h => by
  obtain ⟨kv, tv, p, ks, d, env, k, h1, h2, h3, h4, h5, h6⟩ := h
  exact ⟨kv, tv, p, ks, d, env, k, h1, h2, h3, h4.mono (by omega), h5, h6⟩
def KdL (n : Nat) : RK := fun ks env d k => KL ks ∧ Kd True ks n env d k
theorem kind_is (T : Tx K mg) : ∀ n m, n + m ≤ 1000 → DefIs P w K mg base (3 * n + 8) "kind_of" ["kinds", "term", "boxes"] (spKindOf (KdL n) m)
  | 0, m, _ => by
    refine (kind_step (P := P) (w := w) (base := base) (n := 4) (m := m) T (fun _ _ _ _ => False) False (DefIs.none T.d_kind_of ?_) (DefIs.none T.d_case_kind ?_)).imp ?_
    · rintro vs H Q E ⟨_, _, _, _, _, _, _, _, _, _, _, h, _⟩
      exact h
    · rintro vs H Q E ⟨_, _, _, _, _, _, _, _, _, _, _, ⟨h, _⟩, _⟩
      exact h
    · rintro vs H Q E ⟨kv, tv, p, ks, d, env, k, h1, h2, h3, h4, h5, h6⟩
      exact ⟨kv, tv, p, ks, d, env, k, h1, h2, h3, h4, .inl h5.2, h6⟩
  | n + 1, m, hnm => by
    have ih1 : DefIs P w K mg base (3 * n + 8) "kind_of" ["kinds", "term", "boxes"] (spKindOf (KdL n) (m + 1)) := kind_is T n (m + 1) (by omega)
    have ih := kind_up (KdL n) ih1
    have ko := ok_kind_of_sort (n := 3 * n + 8) T (KdL n) ih (ok_sort_of T)
    have pk := ok_part_kind (P := P) (w := w) (base := base) (n := 3 * n + 7) T (ok_parts_of T)
    have ak := ok_arm_kind (n := 3 * n + 8) T (KdL n) ih1 (ok_with_box T) pk
    have nt := ok_need_tags (P := P) (w := w) (base := base) (n := 3 * n + 8) T (ok_parts_of T) (ok_need_once T)
    have ck := ok_case_kind (n := 3 * n + 9) T (KdL n) (by omega) (fun _ _ _ _ h => h.1) ko nt ak (ok_need_same T)
    refine (kind_step (n := 3 * n + 7) (m := m) T (KdL n) True ih ck).imp ?_
    rintro vs H Q E ⟨kv, tv, p, ks, d, env, k, h1, h2, h3, h4, ⟨hl, h5⟩, h6⟩
    refine ⟨kv, tv, p, ks, d, env, k, h1, h2, h3, h4, ?_, h6⟩
    rcases h5 with h5 | h5
    · exact .inl h5
    · exact .inr (h5.mono fun _ _ _ h => ⟨hl, h⟩)
end
end K45

end

section
set_option Elab.async false
set_option linter.all false
set_option maxRecDepth 100000
set_option maxHeartbeats 4000000
namespace K45
open PySem L2 M
seal L2.PE L2.PA L2.PS L2.PSs L2.PT L2.PW L2.PI L2.PG L2.PJ L2.PTs
def envB (bs : List (Str × Str)) : En := fun y => (bs.find? fun b => decide (b.1 = y)).map fun b => D.str b.2
theorem envB_in {bs : List (Str × Str)} (nd : (bs.map (·.1)).Nodup) {p : Str × Str} (hp : p ∈ bs) : envB bs p.1 = some (.str p.2) := by
  unfold envB
  obtain ⟨i, hi, e⟩ := List.mem_iff_getElem.mp hp
  rw [find_nodup (f := fun r : Str × Str => r.1) (xs := bs) (i := i) (a := p) nd (by rw [← e]; exact List.getElem?_eq_getElem hi)]
  rfl
theorem envB_at {H : Hp} {p : Addr} {bs : List (Str × Str)} (nd : (bs.map (·.1)).Nodup) (hp : H p = some (.dK (mergeK [] (bKV bs)))) : EnAt H p bs.length (envB bs) := by
  refine ⟨_, hp, ?_, fun y => ⟨fun e => ?_, fun d e => ?_⟩⟩
  · have := length_mergeK (bKV bs) []
    unfold bKV at this ⊢
    rw [List.length_map] at this
    simpa using this
  · unfold envB at e
    have h := List.find?_eq_none.mp (Option.map_eq_none_iff.mp e)
    rw [merge_out bs [] fun b hb => by simpa using h b hb]
    rfl
  · unfold envB at e
    obtain ⟨b, hb, rfl⟩ := Option.map_eq_some_iff.mp e
    have h1 : b.1 = y := by
      have := List.find?_some hb
      exact of_decide_eq_true this
    refine ⟨.str b.2, ?_, rfl⟩
    rw [← h1]
    exact merge_in bs [] nd b (List.mem_of_find?_eq_some hb)
def spBoxes : Sp := fun vs H Q _ => ∃ (wa a : Addr) (us : List V) (ys : List Wy) (ps : List (Str × Str)), vs = [.ref wa, .ref a] ∧ WaysAt H wa ys ∧ (H a = some (.lst us) ∨ H a = some (.tup us)) ∧ RelDs H us (ps.map dPart) ∧ (ps.map (·.1)).Nodup ∧ ps.length ≤ 100 ∧ (∀ p ∈ ps, goesTo ys p.2 = some p.2) ∧
  ∀ dp H', Same H H' → H dp = none → EnAt H' dp ps.length (envB ps) → Q (.ref dp) H'
def spThere : Sp := fun vs H Q _ => ∃ (kv : V) (ks : List Kn) (x : Str) (k : Kn), vs = [kv, .str x] ∧ KsAt H kv ks ∧ kAt ks x = some k ∧ Q .non H
def spEnds : Sp := fun vs H Q _ => ∃ (fa sa : Addr) (kv1 kv2 : V) (r1 r2 : List V) (ks ks2 : List Kn) (x x2 : Str) (k k2 : Kn), vs = [.ref fa, .ref sa, .str x, .str x2] ∧ H fa = some (.tup (kv1 :: r1)) ∧ H sa = some (.tup (kv2 :: r2)) ∧ KsAt H kv1 ks ∧ KsAt H kv2 ks2 ∧ kAt ks x = some k ∧ kAt ks2 x2 = some k2 ∧ Q .non H
def spForm : Sp := fun vs H Q _ => ∃ (fa : Addr) (kv1 : V) (r1 : List V) (ks : List Kn) (hv : V) (k : Kn), vs = [.ref fa, .str k.name, hv] ∧ H fa = some (.tup (kv1 :: r1)) ∧ KsAt H kv1 ks ∧ kAt ks k.name = some k ∧ k.parts.length ≤ 100 ∧ (k.rc = false → k.parts ≠ []) ∧ RelD H hv (howD k) ∧ ∀ H', Same H H' → Q .non H'
section
variable {P : Program} {w : World} {K : PySem.W.Frag} {mg : Str → Option Value} {base : Heap} {n m : Nat}
theorem ok_boxes_over (T : Tx K mg) (D_goes_to : DefIs P w K mg base n "goes_to" ["ways", "kind"] spGoes) : DefIs P w K mg base (n + 1) "boxes_over" ["ways", "parts"] spBoxes := by
  refine DefIs.of T.d_boxes_over sc_boxes_over (fun vs H Q E h => ?_) (fun f cdv A outer s H vs Q E hr h => ?_)
  · obtain ⟨_, _, _, _, _, rfl, _⟩ := h
    rfl
  obtain ⟨wa, a, us, ys, ps, rfl, hw, ha, hus, hnd, hl, hg, q⟩ := h
  have nd := sc_boxes_over.nd
  have hul := hus.length
  rw [List.length_map] at hul
  refine ⟨_, (pss_one (ps_ret (pe_callTy (call_dictL rfl) rfl T.z_dict PyProof.Rows.boot_dict (pa_cons (pe_comp ["x", "kind", "ways"] [none, none, some 0] rfl (by kernel_rfl) (pi_or (pi_list (pv 1)) (pi_tup (pv 1))) (fun _ _ _ _ => (pg_tupC (K := K) (n := 2) rfl rfl (pgs_cons (pg_name (i := 0) (by show List.Nodup (["x", "kind", "ways"] : List Str); decide +kernel) rfl (Or.inl rfl)) (pgs_cons (pg_name (i := 1) (by show List.Nodup (["x", "kind", "ways"] : List Str); decide +kernel) rfl (Or.inl rfl)) pgs_nil)))) (fun _ _ _ _ => (pts_one (pt_cmpR op_notN (pe_dcall D_goes_to hr (pa_cons (pv 2) (pa_cons (pv 1) pa_nil star_name) star_name)) pe_non (nomark _)))) (fun _ _ _ _ => (pe_tup (pa_cons (pv 0) (pa_cons (pe_dcall D_goes_to hr (pa_cons (pv 2) (pa_cons (pv 1) pa_nil star_name) star_name)) pa_nil star_call) star_name)))) pa_nil star_comp)))), ?_⟩
  rcases ha with ha | ha
  case' inl =>
    refine .inl ⟨_, rfl, a, rfl, ⟨_, SqL.of ha⟩, ?_⟩
    refine comp_listG (xs := us) (fun i zs H3 => Same H H3 ∧ zs.length = i ∧ RelDs H3 zs ((ps.take i).map dPart)) ⟨Same.refl _, rfl, rfl⟩ (fitsLt (by omega)) (fun i zs H3 _ p => SqL.of (p.1 _ _ ha)) ?_ ?_
  case' inr =>
    refine .inr ⟨_, rfl, a, rfl, ⟨_, SqT.of ha⟩, ?_⟩
    refine comp_tupG (xs := us) (fun i zs H3 => Same H H3 ∧ zs.length = i ∧ RelDs H3 zs ((ps.take i).map dPart)) ⟨Same.refl _, rfl, rfl⟩ (fitsLt (by omega)) (fun i zs H3 _ p => SqT.of (p.1 _ _ ha)) ?_ ?_
  all_goals first
    | (rintro i y zs H3 hy hi hly ⟨sm, hzl, hzs⟩
       obtain ⟨d, hd', rd⟩ := (hus.same sm _).get hy
       rw [List.getElem?_map] at hd'
       obtain ⟨pr, hpr, rfl⟩ := Option.map_eq_some_iff.mp hd'
       obtain ⟨b, ws, rfl, hb, _, _, rfl, rfl, _, _, rfl, rfl, rfl⟩ := rd
       have hgp := hg pr (List.mem_of_getElem? hpr)
       refine ⟨b, _, rfl, SqT.of hb, rfl, _, _, rfl, _, _, rfl, rfl, ext2 rfl rfl, ?_⟩
       refine ⟨_, rfl, _, rfl, wa, ys, pr.2, rfl, hw.same sm, ?_⟩
       rw [hgp]
       refine ⟨rfl, _, rfl, iteT ?_⟩
       refine ⟨_, rfl, _, rfl, _, rfl, wa, ys, pr.2, rfl, hw.same sm, ?_⟩
       rw [hgp]
       refine ⟨(by show 2 ≤ sizeLine; decide), fun t ht => ?_⟩
       have y1 := Same.new ht (.tup [.str pr.1, .str pr.2])
       refine nxtG hi hly ⟨sm.trans y1, by rw [List.length_append, List.length_singleton, hzl], ?_⟩
       rw [List.take_add_one, hpr]
       show RelDs _ _ ((ps.take i ++ [pr]).map _)
       rw [List.map_append]
       exact (hzs.same y1 _).append ⟨_, [], rfl, ⟨t, _, rfl, upd_same, _, _, rfl, rfl, _, _, rfl, rfl, rfl⟩, rfl⟩)
    | (rintro zs H3 hly ⟨sm, hzl, hzs⟩ D hD
       rw [List.take_of_length_le (by omega)] at hzs
       have y1 := Same.new hD (.lst zs)
       refine ⟨D, zs, bKV ps, rfl, upd_same, pairs_bs (hzs.same y1 _), fun dp hdp => ?_⟩
       have y2 := Same.new hdp (.dK (mergeK [] (bKV ps)))
       exact q dp _ (sm.trans (y1.trans y2)) (none_back (sm.trans y1) hdp) (envB_at hnd upd_same))
theorem ok_need_there (T : Tx K mg) (D_sort_of : DefIs P w K mg base n "sort_of" ["kinds", "K"] spSortOf) : DefIs P w K mg base (n + 1) "need_there" ["kinds", "kind"] spThere := by
  refine DefIs.of T.d_need_there sc_need_there (fun vs H Q E h => ?_) (fun f cdv A outer s H vs Q E hr h => ?_)
  · obtain ⟨_, _, _, _, rfl, _⟩ := h
    rfl
  obtain ⟨kv, ks, x, k, rfl, hk, hkx, q⟩ := h
  have nd := sc_need_there.nd
  refine ⟨_, (pss_one (ps_if (PW.pt (pw_and (pt_cmpR op_ne (pv 1) pe_str (nomark _)) (pw_and1 (pt_cmpR op_isN (pe_dcall D_sort_of hr (pa_cons (pv 0) (pa_cons (pv 1) pa_nil star_name) star_name)) pe_non (nomark _))))) (pss_one ps_never) pss_nil)), ?_⟩
  refine ⟨_, rfl, rfl, _, rfl, ite2 (fun c => ?_) (fun c => ?_)⟩
  · refine ⟨_, rfl, _, rfl, kv, ks, x, rfl, hk, ?_⟩
    rw [hkx]
    exact ⟨rfl, _, rfl, iteF q⟩
  · exact iteF q
theorem ok_look_ends (T : Tx K mg) (D_sort_of : DefIs P w K mg base n "sort_of" ["kinds", "K"] spSortOf) (D_need_there : DefIs P w K mg base n "need_there" ["kinds", "kind"] spThere) : DefIs P w K mg base (n + 1) "look_ends" ["first", "second", "K", "K2"] spEnds := by
  refine DefIs.of T.d_look_ends sc_look_ends (fun vs H Q E h => ?_) (fun f cdv A outer s H vs Q E hr h => ?_)
  · obtain ⟨_, _, _, _, _, _, _, _, _, _, _, _, rfl, _⟩ := h
    rfl
  obtain ⟨fa, sa, kv1, kv2, r1, r2, ks, ks2, x, x2, k, k2, rfl, hfa, hsa, hk1, hk2, hx, hx2, q⟩ := h
  have nd := sc_look_ends.nd
  refine ⟨_, (pss_cons (ps_if (pt_cmpR op_isN (pe_dcall D_sort_of hr (pa_cons (pe_ix ix_tup (pv 0) pe_int (fun _ _ => rfl)) (pa_cons (pv 2) pa_nil star_name) star_sub)) pe_non (nomark _)) (pss_one ps_never) pss_nil)
      (pss_one (ps_expr (pe_dcall D_need_there hr (pa_cons (pe_ix ix_tup (pv 1) pe_int (fun _ _ => rfl)) (pa_cons (pv 3) pa_nil star_name) star_sub))))), ?_⟩
  refine ⟨_, rfl, fa, _, _, _, rfl, rfl, SqT.of hfa, atI_nat (j := 0) rfl, _, rfl, kv1, ks, x, rfl, hk1, ?_⟩
  rw [hx]
  refine ⟨rfl, _, rfl, iteF ?_⟩
  exact ⟨_, rfl, sa, _, _, _, rfl, rfl, SqT.of hsa, atI_nat (j := 0) rfl, _, rfl, kv2, ks2, x2, k2, rfl, hk2, hx2, q⟩
end
end K45

end

section
set_option Elab.async false
set_option linter.all false
set_option maxRecDepth 100000
set_option maxHeartbeats 4000000
namespace K45
open PySem L2 M
seal L2.PE L2.PA L2.PS L2.PSs L2.PT L2.PW L2.PI L2.PG L2.PJ L2.PTs
theorem eq_strs : ∀ ys : List Str, eqVs (ys.map V.str) (ys.map V.str) = true
  | [] => rfl
  | y :: ys => by
    show (eqV (.str y) (.str y) && eqVs (ys.map V.str) (ys.map V.str)) = true
    rw [eq_strs ys, show eqV (V.str y) (V.str y) = true from by show decide _ = true; exact decide_eq_true rfl]
    rfl
theorem all2_map {α β : Type} {R : β → α → Prop} {f : α → β} : ∀ {ps : List α}, (∀ p ∈ ps, R (f p) p) → All2 R (ps.map f) ps
  | [], _ => All2.nil
  | p :: ps, h => All2.cons (h p (by simp)) (all2_map fun q hq => h q (by simp [hq]))
theorem kd_how_rec {ks : List Kn} {k : Kn} (hk : kAt ks k.name = some k) (hr : k.rc = true) (nd : (k.parts.map (·.1)).Nodup) : Kd True ks 8 (envB k.parts) (tRec k.name (k.parts.map fun p => tBox p.1)) k.name :=
  .inr (.inr (.inl ⟨_, k, hk, hr, all2_map fun p hp => kd_leaf (.inr ⟨p.1, envB_in nd hp, rfl⟩), rfl⟩))
theorem kd_how_tag {ks : List Kn} {k : Kn} {p : Str × Str} (hk : kAt ks k.name = some k) (hr : k.rc = false) (nd : (k.parts.map (·.1)).Nodup) (hp : p ∈ k.parts) : Kd True ks 8 (envB [(S "it", p.2)]) (tTag k.name p.1 (tBox (S "it"))) k.name :=
  .inr (.inr (.inr (.inr (.inl ⟨p.1, _, k, p.2, hk, hr, part_at nd hp, kd_leaf (.inr ⟨S "it", envB_in (p := (S "it", p.2)) (by simp) (by simp), rfl⟩), rfl⟩))))
def spTerms : Sp := fun vs H Q _ => ∃ (fa sa wa : Addr) (kv1 kv2 : V) (r1 r2 : List V) (ks ks2 : List Kn) (ys : List Wy) (k : Kn), vs = [.ref fa, .ref sa, .ref wa, .str k.name] ∧ H fa = some (.tup (kv1 :: r1)) ∧ H sa = some (.tup (kv2 :: r2)) ∧ KsAt H kv1 ks ∧ KsAt H kv2 ks2 ∧ KL ks2 ∧ kAt ks k.name = some k ∧ kAt ks2 k.name = some k ∧ WaysAt H wa ys ∧ wyAt ys k.name = some (wyK k) ∧
  (k.parts.map (·.1)).Nodup ∧ k.parts.length ≤ 100 ∧ (∀ p ∈ k.parts, goesTo ys p.2 = some p.2) ∧ ∀ H', Same H H' → Q .non H'
def spLook : Sp := fun vs H Q _ => ∃ (fa sa wa : Addr) (kv1 kv2 : V) (r1 r2 : List V) (kvs : List (Key × V)) (ks ks2 : List Kn), vs = [.ref fa, .ref sa, .ref wa] ∧ H fa = some (.tup (kv1 :: r1)) ∧ H sa = some (.tup (kv2 :: r2)) ∧ RelD H kv1 (dKinds ks) ∧ KWf ks ∧ KsAt H kv2 ks2 ∧ KL ks2 ∧ (∀ k ∈ ks, kAt ks2 k.name = some k) ∧ H wa = some (.dK kvs) ∧ WAll H kvs (ks.map wyK) ∧ ∀ H', Same H H' → Q (.bl true) H'
theorem wy_self {ks : List Kn} (nd : (ks.map Kn.name).Nodup) {k : Kn} (hk : k ∈ ks) : kAt ks k.name = some k := by
  obtain ⟨i, hi, e⟩ := List.mem_iff_getElem.mp hk
  exact find_nodup (f := Kn.name) (xs := ks) (i := i) (a := k) nd (by rw [← e]; exact List.getElem?_eq_getElem hi)
theorem frz_tups {H : Hp} {a : Addr} {kvs : List (Key × V)} (o : HO) (ha : H a = some (.dK kvs)) : ∀ b vs, H b = some (.tup vs) → upd H a o b = some (.tup vs) := dk_tupsP ha o
section
variable {P : Program} {w : World} {K : PySem.W.Frag} {mg : Str → Option Value} {base : Heap} {n m : Nat}
def spIsTerm : Sp := fun vs H Q _ => ∃ (hv : V) (k : Kn), vs = [hv] ∧ RelD H hv (howD k) ∧ (k.rc = false → k.parts ≠ []) ∧ Q (.bl k.rc) H
theorem ok_is_term (T : Tx K mg) : DefIs P w K mg base (n + 1) "is_term" ["how"] spIsTerm := by
  refine DefIs.of T.d_is_term sc_is_term (fun vs H Q E h => ?_) (fun f cdv A outer s H vs Q E hr h => ?_)
  · obtain ⟨_, _, rfl, _⟩ := h
    rfl
  obtain ⟨hv, k, rfl, hh, hne, q⟩ := h
  refine ⟨_, (pss_one (ps_ret (pe_and (pe_cmpR op_gt (pe_callB call_len_seq rfl T.z_len PySem.boot_len (pa_cons (pv 0) pa_nil star_name)) pe_int (nomark _)) (pe_one (pe_callB call_isinst rfl T.z_isinstance PyProof.Rows.boot_isinstance (pa_cons (pe_ix ix_tup (pv 0) pe_int (fun _ _ => rfl)) (pa_cons (pe_gty T.z_str PyProof.Rows.boot_str) pa_nil star_name) star_sub)))))), ?_⟩
  unfold howD at hh
  cases hc : k.rc with
  | true =>
    rw [if_pos hc] at hh
    rw [hc] at q
    obtain ⟨a, _, rfl, ha, v0, _, rfl, r0, v1, _, rfl, r1', v2, _, rfl, r2, rfl⟩ := hh
    obtain rfl : v0 = .str (S "rec") := r0
    refine ⟨_, rfl, a, _, rfl, .inr (SqT.of ha), _, _, rfl, rfl, _, rfl, iteBT (by rfl) ?_⟩
    exact ⟨_, rfl, a, _, _, _, rfl, rfl, SqT.of ha, rfl, _, _, _, _, _, rfl, fun u hu' => hu', TyOf.str _, rfl, q⟩
  | false =>
    rw [if_neg (by rw [hc]; decide)] at hh
    rw [hc] at q
    obtain ⟨a, us, rfl, ha, hus⟩ := hh
    have hul := hus.length
    rw [List.length_map] at hul
    have hpos : 0 < us.length := by
      rw [hul]
      exact List.length_pos_iff.mpr (hne hc)
    obtain ⟨u0, hu0⟩ : ∃ u0, us[0]? = some u0 := ⟨us[0], List.getElem?_eq_getElem hpos⟩
    obtain ⟨d0, hd0, rd0⟩ := hus.get hu0
    rw [List.getElem?_map] at hd0
    obtain ⟨p0, hp0, rfl⟩ := Option.map_eq_some_iff.mp hd0
    obtain ⟨b0, ws0, rfl, hb0, _⟩ := rd0
    have hlt : decide ((us.length : Int) > 0) = true := decide_eq_true (by omega)
    refine ⟨_, rfl, a, _, rfl, .inr (SqT.of ha), _, _, rfl, rfl, _, rfl, iteBT hlt ?_⟩
    exact ⟨_, rfl, a, _, _, _, rfl, rfl, SqT.of ha, atI_nat (j := 0) hu0, _, _, _, _, _, rfl, fun u hu' => hu', TyOf.tup hb0, rfl, q⟩
theorem ok_look_form (T : Tx K mg) (D_is_term : DefIs P w K mg base n "is_term" ["how"] spIsTerm) (D_sort_of : DefIs P w K mg base n "sort_of" ["kinds", "K"] spSortOf) (D_parts_of : DefIs P w K mg base n "parts_of" ["kinds", "K"] spPartsOf) : DefIs P w K mg base (n + 1) "look_form" ["first", "K", "how"] spForm := by
  refine DefIs.of T.d_look_form sc_look_form (fun vs H Q E h => ?_) (fun f cdv A outer s H vs Q E hr h => ?_)
  · obtain ⟨_, _, _, _, _, _, rfl, _⟩ := h
    rfl
  obtain ⟨fa, kv1, r1, ks, hv, k, rfl, hfa, hk1, hkx, hl, hne, hh, q⟩ := h
  have nd := sc_look_form.nd
  have hu := hu_of hr
  refine ⟨_, (pss_cons (ps_if (pt_cmpR op_eq (pe_dcall D_sort_of hr (pa_cons (pe_ix ix_tup (pv 0) pe_int (fun _ _ => rfl)) (pa_cons (pv 1) pa_nil star_name) star_sub)) pe_str (nomark _)) (pss_one (ps_set (i := 3) nd rfl (by first | exact Or.inl rfl | exact Or.inr rfl) (pe_dcall D_is_term hr (pa_cons (pv 2) pa_nil star_name)))) (pss_one (ps_set (i := 3) nd rfl (by first | exact Or.inl rfl | exact Or.inr rfl) (pe_and (pe_not (pe_dcall D_is_term hr (pa_cons (pv 2) pa_nil star_name))) (pe_one (pe_cmpR (op_eqL (Nat.lt_of_succ_lt hu)) (pe_comp ["each"] [none] rfl (by kernel_rfl) (pi_tup (pv 2)) (fun _ _ _ _ => (pg_name (i := 0) (by show List.Nodup (["each"] : List Str); decide +kernel) rfl (Or.inl rfl))) (fun _ _ _ _ => pts_nil) (fun _ _ _ _ => (pe_ix (ix_tupC (K := K) rfl) (pv 0) pe_int (fun _ _ => rfl)))) (pe_comp ["part"] [none] rfl (by kernel_rfl) (pi_tup (pe_dcall D_parts_of hr (pa_cons (pe_ix ix_tup (pv 0) pe_int (fun _ _ => rfl)) (pa_cons (pv 1) pa_nil star_name) star_sub))) (fun _ _ _ _ => (pg_name (i := 0) (by show List.Nodup (["part"] : List Str); decide +kernel) rfl (Or.inl rfl))) (fun _ _ _ _ => pts_nil) (fun _ _ _ _ => (pe_ix (ix_tupC (K := K) rfl) (pv 0) pe_int (fun _ _ => rfl)))) (nomark _)))))))
      (pss_one (ps_if (pt_not (pt_val (pv 3))) (pss_one ps_never) pss_nil))), ?_⟩
  have hh0 := hh
  unfold howD at hh
  refine ⟨_, rfl, fa, _, _, _, rfl, rfl, SqT.of hfa, atI_nat (j := 0) rfl, _, rfl, kv1, ks, k.name, rfl, hk1, ?_⟩
  rw [hkx]
  cases hc : k.rc with
  | true =>
    refine ⟨rfl, _, rfl, iteKT (decide_eq_true (by show V.str k.sort = _; rw [rec_sortP hc]; rfl)) ?_⟩
    refine ⟨_, rfl, hv, k, rfl, hh0, hne, ?_⟩
    rw [hc]
    exact ⟨_, rfl, _, rfl, iteF (q _ (Same.refl _))⟩
  | false =>
    rw [if_neg (by rw [hc]; decide)] at hh
    obtain ⟨a, us, rfl, ha, hus⟩ := hh
    have hul := hus.length
    rw [List.length_map] at hul
    refine ⟨rfl, _, rfl, iteKF (decide_eq_false (by show ¬ V.str k.sort = _; rw [alt_sortP hc]; decide +kernel)) ?_⟩
    refine ⟨_, rfl, _, k, rfl, hh0, hne, ?_⟩
    rw [hc]
    refine ⟨_, rfl, _, rfl, iteT ?_⟩
    refine ⟨_, rfl, a, rfl, ⟨_, SqT.of ha⟩, ?_⟩
    refine comp_tup (j := 0) (xs := us) (fun i zs H' => H' = H ∧ zs = ((k.parts.take i).map (·.1)).map V.str) (by rfl) ⟨rfl, rfl⟩ (fitsLt (by omega)) (fun i zs H' _ p => by obtain ⟨rfl, _⟩ := p; exact SqT.of ha) ?_ ?_
    · rintro i x zs H' hx hly ⟨rfl, rfl⟩
      obtain ⟨d, hd, rd⟩ := hus.get hx
      rw [List.getElem?_map] at hd
      obtain ⟨pr, hpr, rfl⟩ := Option.map_eq_some_iff.mp hd
      obtain ⟨b, _, rfl, hb, v0, _, rfl, r0, v1, _, rfl, _, rfl⟩ := rd
      obtain rfl : v0 = .str pr.1 := r0
      have hi : i < us.length := (List.getElem?_eq_some_iff.mp hx).1
      refine ⟨_, rfl, b, _, _, _, rfl, rfl, SqT.of hb, rfl, nxt hi hly ⟨rfl, ?_⟩⟩
      rw [List.take_add_one, hpr]
      simp
    rintro zs H' hly ⟨rfl, rfl⟩ D1 hD1
    rw [List.take_of_length_le (by omega)]
    have y1 := Same.new hD1 (.lst ((k.parts.map (·.1)).map V.str))
    refine ⟨_, rfl, fa, _, _, _, rfl, rfl, SqT.of (y1 _ _ hfa), atI_nat (j := 0) rfl, _, rfl, kv1, ks, k.name, rfl, hk1.same y1, fun u H2 s2 ru => ?_⟩
    rw [hkx] at ru
    obtain ⟨c, cs, rfl, hcc, hcs⟩ := ru
    have hcl := hcs.length
    rw [List.length_map] at hcl
    refine ⟨c, rfl, ⟨_, SqT.of hcc⟩, ?_⟩
    refine comp_tup (j := 0) (xs := cs) (fun i zs H' => H' = H2 ∧ zs = ((k.parts.take i).map (·.1)).map V.str) (by rfl) ⟨rfl, rfl⟩ (fitsLt (by omega)) (fun i zs H' _ p => by obtain ⟨rfl, _⟩ := p; exact SqT.of hcc) ?_ ?_
    · rintro i x zs H' hx hly ⟨rfl, rfl⟩
      obtain ⟨d, hd, rd⟩ := hcs.get hx
      rw [List.getElem?_map] at hd
      obtain ⟨pr, hpr, rfl⟩ := Option.map_eq_some_iff.mp hd
      obtain ⟨b, _, rfl, hb, v0, _, rfl, r0, v1, _, rfl, _, rfl⟩ := rd
      obtain rfl : v0 = .str pr.1 := r0
      have hi : i < cs.length := (List.getElem?_eq_some_iff.mp hx).1
      refine ⟨_, rfl, b, _, _, _, rfl, rfl, SqT.of hb, rfl, nxt hi hly ⟨rfl, ?_⟩⟩
      rw [List.take_add_one, hpr]
      simp
    rintro zs H' hly ⟨rfl, rfl⟩ D2 hD2
    rw [List.take_of_length_le (by omega)]
    have y2 := Same.new hD2 (.lst ((k.parts.map (·.1)).map V.str))
    refine ⟨D1, D2, _, _, rfl, rfl, SqL.of ((s2.trans y2) _ _ upd_same), SqL.of upd_same, flat_strs _, flat_strs _, ?_⟩
    rw [eq_strs]
    exact ⟨_, rfl, _, rfl, iteF (q _ (y1.trans (s2.trans y2)))⟩
theorem ok_look_terms (T : Tx K mg) (D_sort_of : DefIs P w K mg base n "sort_of" ["kinds", "K"] spSortOf) (D_parts_of : DefIs P w K mg base n "parts_of" ["kinds", "K"] spPartsOf) (D_boxes_over : DefIs P w K mg base n "boxes_over" ["ways", "parts"] spBoxes) (D_need_kind : DefIs P w K mg base n "need_kind" ["kinds", "term", "boxes", "kind"] (spNeedKind (KdL 8) 100)) : DefIs P w K mg base (n + 1) "look_terms" ["first", "second", "ways", "K"] spTerms := by
  refine DefIs.of T.d_look_terms sc_look_terms (fun vs H Q E h => ?_) (fun f cdv A outer s H vs Q E hr h => ?_)
  · obtain ⟨_, _, _, _, _, _, _, _, _, _, _, rfl, _⟩ := h
    rfl
  obtain ⟨fa, sa, wa, kv1, kv2, r1, r2, ks, ks2, ys, k, rfl, hfa, hsa, hk1, hk2, hKL, hkx, hkx2, hw, hwy, hnd, hl, hg, q⟩ := h
  have nd := sc_look_terms.nd
  have hu := hu_of hr
  obtain ⟨kvs, hd, hwl⟩ := id hw
  obtain ⟨v, h1, h2⟩ := (hwl.val (x := k.name)).2 _ hwy
  obtain ⟨b, _, rfl, hb, v0, _, rfl, r0, hv, _, rfl, hh, rfl⟩ := h2
  obtain rfl : v0 = .str k.name := r0
  have g : DGet H wa (.str k.name) (some (.ref b)) := by
    have := DGet.rd (k := Sum.inr k.name) hd
    rw [h1] at this
    exact this
  refine ⟨_, (pss_cons (ps_set (i := 4) nd rfl (by first | exact Or.inl rfl | exact Or.inr rfl) (pe_ix ix_tup (pe_dget hu (pv 2) (pv 3) (fun _ _ => rfl)) pe_int (fun _ _ => rfl)))
      (pss_cons (ps_set (i := 5) nd rfl (by first | exact Or.inl rfl | exact Or.inr rfl) (pe_ix ix_tup (pe_dget hu (pv 2) (pv 3) (fun _ _ => rfl)) pe_int (fun _ _ => rfl)))
      (pss_cons (ps_set (i := 6) nd rfl (by first | exact Or.inl rfl | exact Or.inr rfl) (pe_dcall D_parts_of hr (pa_cons (pe_ix ix_tup (pv 0) pe_int (fun _ _ => rfl)) (pa_cons (pv 3) pa_nil star_name) star_sub)))
      (pss_one (ps_if (pt_cmpR op_eq (pe_dcall D_sort_of hr (pa_cons (pe_ix ix_tup (pv 0) pe_int (fun _ _ => rfl)) (pa_cons (pv 3) pa_nil star_name) star_sub)) pe_str (nomark _)) (pss_one (ps_expr (pe_dcall D_need_kind hr (pa_cons (pe_ix ix_tup (pv 1) pe_int (fun _ _ => rfl)) (pa_cons (pv 5) (pa_cons (pe_dcall D_boxes_over hr (pa_cons (pv 2) (pa_cons (pv 6) pa_nil star_name) star_name)) (pa_cons (pv 4) pa_nil star_name) star_call) star_name) star_sub)))) (pss_one (ps_for PassesOwn.never rfl (pi_zip rfl T.z_zip (pa_cons (pv 6) (pa_cons (pv 5) pa_nil star_name) star_name)) (pg_tup rfl (pgs_cons (pg_name (i := 7) nd rfl (by first | exact Or.inl rfl | exact Or.inr rfl)) (pgs_cons (pg_name (i := 8) nd rfl (by first | exact Or.inl rfl | exact Or.inr rfl)) pgs_nil)))
      (pss_one (ps_expr (pe_dcall D_need_kind hr (pa_cons (pe_ix ix_tup (pv 1) pe_int (fun _ _ => rfl)) (pa_cons (pe_ix ix_tup (pv 8) pe_int (fun _ _ => rfl)) (pa_cons (pe_dcall D_boxes_over hr (pa_cons (pv 2) (pa_cons (pe_lst (pa_cons (pe_tup (pa_cons pe_str (pa_cons (pe_ix ix_tup (pv 7) pe_int (fun _ _ => rfl)) pa_nil star_sub) star_const)) pa_nil star_tup)) pa_nil star_lst) star_name)) (pa_cons (pv 4) pa_nil star_name) star_call) star_sub) star_sub))))))))))), ?_⟩
  refine ⟨_, rfl, _, rfl, wa, _, rfl, g, b, _, _, _, rfl, rfl, SqT.of hb, rfl, ?_⟩
  refine ⟨_, rfl, _, rfl, wa, _, rfl, g, b, _, _, _, rfl, rfl, SqT.of hb, rfl, ?_⟩
  refine ⟨_, rfl, fa, _, _, _, rfl, rfl, SqT.of hfa, atI_nat (j := 0) rfl, _, rfl, kv1, ks, k.name, rfl, hk1, fun u H1 s1 ru => ?_⟩
  rw [hkx] at ru
  obtain ⟨c, cs, rfl, hc, hcs⟩ := ru
  have hcl := hcs.length
  rw [List.length_map] at hcl
  refine ⟨_, rfl, fa, _, _, _, rfl, rfl, SqT.of (s1 _ _ hfa), atI_nat (j := 0) rfl, _, rfl, kv1, ks, k.name, rfl, hk1.same s1, ?_⟩
  rw [hkx]
  cases hrc : k.rc with
  | true =>
    refine ⟨rfl, _, rfl, iteKT (decide_eq_true (by show V.str k.sort = _; rw [rec_sortP hrc]; rfl)) ?_⟩
    refine ⟨_, rfl, sa, _, _, _, rfl, rfl, SqT.of (s1 _ _ hsa), atI_nat (j := 0) rfl, _, rfl, _, rfl, _, rfl, wa, c, cs, ys, k.parts, rfl, hw.same s1, .inr hc, hcs, hnd, hl, hg, fun dp H2 s2 _ en => ?_⟩
    refine ⟨_, rfl, kv2, hv, dp, ks2, howD k, _, k.name, rfl, hk2.same (s1.trans s2), hh.same (s1.trans s2) _, en.mono (by omega), ⟨hKL, ?_⟩, fun H3 s3 => q _ (s1.trans (s2.trans s3))⟩
    unfold howD
    rw [if_pos hrc]
    exact kd_how_rec hkx2 hrc hnd
  | false =>
    refine ⟨rfl, _, rfl, iteKF (decide_eq_false (by show ¬ V.str k.sort = _; rw [alt_sortP hrc]; decide +kernel)) ?_⟩
    change RelD H hv (howD k) at hh
    unfold howD at hh
    rw [if_neg (by rw [hrc]; decide)] at hh
    obtain ⟨ha, hs, rfl, hha, hhs⟩ := hh
    have hhl := hhs.length
    rw [List.length_map] at hhl
    refine ⟨_, rfl, _, rfl, c, ha, rfl, ⟨_, SqT.of hc⟩, ⟨_, SqT.of (s1 _ _ hha)⟩, ?_⟩
    refine for_zip (xs := cs) (ys := hs) (by omega) (fun i σ H' => ∃ o7 o8, σ = [some (.ref fa), some (.ref sa), some (.ref wa), some (.str k.name), some (.str k.name), some (.ref ha), some (.ref c), o7, o8] ∧ Same H1 H') ⟨none, none, rfl, Same.refl _⟩ (fun i σ H' _ p => ?_) ?_ ?_
    · obtain ⟨_, _, _, sm⟩ := p
      exact ⟨SqT.of (sm _ _ hc), SqT.of ((s1.trans sm) _ _ hha)⟩
    · rintro i x y σ H' pt hx hy ⟨o7, o8, rfl, sm⟩ hpt
      obtain ⟨dp, hdp, rdp⟩ := hcs.get hx
      rw [List.getElem?_map] at hdp
      obtain ⟨pr, hpr, rfl⟩ := Option.map_eq_some_iff.mp hdp
      obtain ⟨de, hde, rde⟩ := hhs.get hy
      rw [List.getElem?_map, hpr] at hde
      cases hde
      obtain ⟨b2, _, rfl, hb2, _, _, rfl, rfl, _, _, rfl, rfl, rfl⟩ := rdp
      obtain ⟨tb, _, rfl, htb, t0, _, rfl, _, t1, _, rfl, ht1, rfl⟩ := rde
      have hpm := List.mem_of_getElem? hpr
      have sn := Same.new hpt (.tup [.ref b2, .ref tb])
      have s2 := sm.trans sn
      have s12 := s1.trans s2
      refine ⟨pt, _, rfl, SqT.of upd_same, rfl, _, _, rfl, _, _, rfl, rfl, ?_⟩
      refine ⟨_, rfl, sa, _, _, _, rfl, rfl, SqT.of (s12 _ _ hsa), atI_nat (j := 0) rfl, _, rfl, tb, _, _, _, rfl, rfl, SqT.of (s12 _ _ htb), rfl, ?_⟩
      refine ⟨_, rfl, _, rfl, b2, _, _, _, rfl, rfl, SqT.of (s2 _ _ hb2), rfl, (by show 2 ≤ sizeLine; decide), fun t ht => ⟨(by show 1 ≤ sizeLine; decide), fun l hl' => ?_⟩⟩
      have y1 := Same.new ht (.tup [.str (S "it"), .str pr.2])
      have y2 := Same.new hl' (.lst [.ref t])
      have y := y1.trans y2
      have s3 := s12.trans y
      refine ⟨wa, l, _, ys, [(S "it", pr.2)], rfl, hw.same s3, .inl upd_same, ⟨_, [], rfl, ⟨t, _, rfl, y2 _ _ upd_same, _, _, rfl, rfl, _, _, rfl, rfl, rfl⟩, rfl⟩, by simp, by simp, fun p hp => ?_, fun dp H4 s4 _ en => ?_⟩
      · rw [List.mem_singleton.mp hp]
        exact hg pr hpm
      refine ⟨_, rfl, kv2, _, dp, ks2, _, _, k.name, rfl, hk2.same (s3.trans s4), ht1.same (s3.trans s4) _, en.mono (by simp), ⟨hKL, kd_how_tag hkx2 hrc hnd hpm⟩, fun H5 s5 => ⟨_, _, rfl, s2.trans (y.trans (s4.trans s5))⟩⟩
    · rintro σ H' ⟨o7, o8, rfl, sm⟩
      exact q _ (s1.trans sm)
theorem ok_look_ways (T : Tx K mg) (D_look_ends : DefIs P w K mg base n "look_ends" ["first", "second", "K", "K2"] spEnds) (D_look_form : DefIs P w K mg base n "look_form" ["first", "K", "how"] spForm) (D_look_terms : DefIs P w K mg base n "look_terms" ["first", "second", "ways", "K"] spTerms) : DefIs P w K mg base (n + 1) "look_ways" ["first", "second", "ways"] spLook := by
  refine DefIs.of T.d_look_ways sc_look_ways (fun vs H Q E h => ?_) (fun f cdv A outer s H vs Q E hr h => ?_)
  · obtain ⟨_, _, _, _, _, _, _, _, _, _, rfl, _⟩ := h
    rfl
  obtain ⟨fa, sa, wa, kv1, kv2, r1, r2, kvs, ks, ks2, rfl, hfa, hsa, hk1, wf, hk2, hKL, hkk, hwa, hwl, q⟩ := h
  have nd := sc_look_ways.nd
  have hu := hu_of hr
  -- what a turn of each loop has
  have turn : ∀ (HB H' : Hp) (o : Obj), Same H HB → Same (upd HB wa (.frz o (.dK kvs))) H' → ∀ (i : Nat) (kv : Key × V), kvs[i]? = some kv → ∃ (k : Kn) (b : Addr) (hv : V), k ∈ ks ∧ kv.1 = Sum.inr k.name ∧ H' b = some (.tup [.str k.name, hv]) ∧ RelD H' hv (howD k) ∧ DGet H' wa (.str k.name) (some (.ref b)) ∧ H' fa = some (.tup (kv1 :: r1)) ∧ H' sa = some (.tup (kv2 :: r2)) ∧ KsAt H' kv1 ks ∧ KsAt H' kv2 ks2 ∧ WaysAt H' wa (ks.map wyK) ∧ H' wa = some (.frz o (.dK kvs)) := by
    intro HB H' o sB sm i kv hi
    have tp0 : ∀ b vs, H b = some (.tup vs) → H' b = some (.tup vs) := fun b vs e => sm _ _ (frz_tups (.frz o (.dK kvs)) (sB _ _ hwa) b vs (sB _ _ e))
    have hf := sm _ _ (upd_same (H := HB) (a := wa) (o := .frz o (.dK kvs)))
    have hwl' := hwl.tups tp0
    obtain ⟨y, hy, e1, e2⟩ := hwl'.get hi
    rw [List.getElem?_map] at hy
    obtain ⟨k, hk, rfl⟩ := Option.map_eq_some_iff.mp hy
    have hkm := List.mem_of_getElem? hk
    have hrd : Rd H' wa (.dK kvs) := .inr ⟨o, hf⟩
    have hws : wyAt (ks.map wyK) k.name = some (wyK k) := by rw [wyAt_K, wy_self wf.nd hkm]; rfl
    obtain ⟨v, h1, h2⟩ := (hwl'.val (x := k.name)).2 _ hws
    obtain ⟨b, _, rfl, hb, v0, _, rfl, r0, hv, _, rfl, hh, rfl⟩ := h2
    obtain rfl : v0 = .str k.name := r0
    refine ⟨k, b, hv, hkm, e1, hb, hh, ?_, tp0 _ _ hfa, tp0 _ _ hsa, wf.ksAt (hk1.tups tp0 _), ⟨hk2.1.tups tp0 _, hk2.2⟩, ⟨kvs, hrd, hwl'⟩, hf⟩
    have := DGet.rd (k := Sum.inr k.name) hrd
    rw [h1] at this
    exact this
  have back : ∀ (HB H' : Hp) (o : Obj), Same H HB → Same (upd HB wa (.frz o (.dK kvs))) H' → Same H (upd H' wa (.dK kvs)) := fun HB H' o sB sm b u hb => by
    by_cases e : b = wa
    · subst e
      rw [hwa] at hb
      cases hb
      exact upd_same
    · rw [upd_ne e]
      exact sm _ _ (by rw [upd_ne e]; exact sB _ _ hb)
  refine ⟨_, (pss_cons (ps_thaw (ps_for PassesOwn.never rfl (pi_dict (pv 2)) (pg_name (i := 3) nd rfl (by first | exact Or.inl rfl | exact Or.inr rfl))
      (pss_one (ps_expr (pe_dcall D_look_ends hr (pa_cons (pv 0) (pa_cons (pv 1) (pa_cons (pv 3) (pa_cons (pe_ix ix_tup (pe_dget hu (pv 2) (pv 3) (fun _ _ => rfl)) pe_int (fun _ _ => rfl)) pa_nil star_sub) star_name) star_name) star_name))))))
      (pss_cons (ps_thaw (ps_for PassesOwn.never rfl (pi_dict (pv 2)) (pg_name (i := 3) nd rfl (by first | exact Or.inl rfl | exact Or.inr rfl))
      (pss_one (ps_expr (pe_dcall D_look_form hr (pa_cons (pv 0) (pa_cons (pv 3) (pa_cons (pe_ix ix_tup (pe_dget hu (pv 2) (pv 3) (fun _ _ => rfl)) pe_int (fun _ _ => rfl)) pa_nil star_sub) star_name) star_name))))))
      (pss_cons (ps_thaw (ps_for PassesOwn.never rfl (pi_dict (pv 2)) (pg_name (i := 3) nd rfl (by first | exact Or.inl rfl | exact Or.inr rfl))
      (pss_one (ps_expr (pe_dcall D_look_terms hr (pa_cons (pv 0) (pa_cons (pv 1) (pa_cons (pv 2) (pa_cons (pv 3) pa_nil star_name) star_name) star_name) star_name))))))
      (pss_one (ps_ret pe_bl))))), ?_⟩
  refine ⟨_, rfl, wa, kvs, rfl, hwa, fun o nz => ?_⟩
  refine for_dict (fun i σ H' => ∃ o3, σ = [some (.ref fa), some (.ref sa), some (.ref wa), o3] ∧ Same (upd H wa (.frz o (.dK kvs))) H') ⟨none, rfl, Same.refl _⟩ (fun i σ H' _ p => by obtain ⟨_, _, sm⟩ := p; exact sm _ _ upd_same) ?_ ?_
  · rintro i kv σ H' hi ⟨o3, rfl, sm⟩
    obtain ⟨k, b, hv, hkm, e1, hb, hh, g, hfa', hsa', hk1', hk2', hw', hf⟩ := turn H H' o (Same.refl _) sm i kv hi
    rw [e1]
    refine ⟨_, rfl, _, rfl, _, rfl, _, rfl, _, rfl, wa, _, rfl, g, b, _, _, _, rfl, rfl, SqT.of hb, rfl, ?_⟩
    exact ⟨fa, sa, kv1, kv2, r1, r2, ks, ks2, k.name, k.name, k, k, rfl, hfa', hsa', hk1', hk2', wy_self wf.nd hkm, hkk k hkm, _, rfl, sm⟩
  rintro σ H1 ⟨o3, rfl, sm1⟩
  refine ⟨wa, o, kvs, sm1 _ _ upd_same, nz, ?_⟩
  have sB := back H H1 o (Same.refl _) sm1
  generalize upd H1 wa (.dK kvs) = HB at sB ⊢
  refine ⟨_, rfl, wa, kvs, rfl, sB _ _ hwa, fun o nz => ?_⟩
  refine for_dict (fun i σ H' => ∃ o3, σ = [some (.ref fa), some (.ref sa), some (.ref wa), o3] ∧ Same (upd HB wa (.frz o (.dK kvs))) H') ⟨_, rfl, Same.refl _⟩ (fun i σ H' _ p => by obtain ⟨_, _, sm⟩ := p; exact sm _ _ upd_same) ?_ ?_
  · rintro i kv σ H' hi ⟨o3, rfl, sm⟩
    obtain ⟨k, b, hv, hkm, e1, hb, hh, g, hfa', hsa', hk1', hk2', hw', hf⟩ := turn HB H' o sB sm i kv hi
    rw [e1]
    refine ⟨_, rfl, _, rfl, _, rfl, _, rfl, wa, _, rfl, g, b, _, _, _, rfl, rfl, SqT.of hb, rfl, ?_⟩
    exact ⟨fa, kv1, r1, ks, hv, k, rfl, hfa', hk1', wy_self wf.nd hkm, by have := wf.pts k hkm; omega, wf.alt k hkm, hh, fun H'' s' => ⟨_, rfl, sm.trans s'⟩⟩
  rintro σ H2 ⟨o3', rfl, sm2⟩
  refine ⟨wa, o, kvs, sm2 _ _ upd_same, nz, ?_⟩
  have sC := back HB H2 o sB sm2
  generalize upd H2 wa (.dK kvs) = HC at sC ⊢
  refine ⟨_, rfl, wa, kvs, rfl, sC _ _ hwa, fun o nz => ?_⟩
  refine for_dict (fun i σ H' => ∃ o3, σ = [some (.ref fa), some (.ref sa), some (.ref wa), o3] ∧ Same (upd HC wa (.frz o (.dK kvs))) H') ⟨_, rfl, Same.refl _⟩ (fun i σ H' _ p => by obtain ⟨_, _, sm⟩ := p; exact sm _ _ upd_same) ?_ ?_
  · rintro i kv σ H' hi ⟨o3, rfl, sm⟩
    obtain ⟨k, b, hv, hkm, e1, hb, hh, g, hfa', hsa', hk1', hk2', hw', hf⟩ := turn HC H' o sC sm i kv hi
    rw [e1]
    refine ⟨_, rfl, _, rfl, _, rfl, _, rfl, fa, sa, wa, kv1, kv2, r1, r2, ks, ks2, ks.map wyK, k, rfl, hfa', hsa', hk1', hk2', hKL, wy_self wf.nd hkm, hkk k hkm, hw', by rw [wyAt_K, wy_self wf.nd hkm]; rfl, wf.pnd k hkm, by have := wf.pts k hkm; omega, fun p hp => goes_self ?_, fun H'' s' => ⟨_, rfl, sm.trans s'⟩⟩
    obtain ⟨ii, hii, ee⟩ := List.mem_iff_getElem.mp hkm
    rcases wf.ref ii k (by rw [← ee]; exact List.getElem?_eq_getElem hii) p hp with h | ⟨j, k', hj, hkj, e⟩
    · exact .inl h
    · exact .inr ⟨k', List.mem_of_getElem? hkj, e⟩
  rintro σ H3 ⟨o3'', rfl, sm3⟩
  refine ⟨wa, o, kvs, sm3 _ _ upd_same, nz, ?_⟩
  exact q _ (back HC H3 o sC sm3)
end
end K45

end

section
set_option Elab.async false
set_option linter.all false
set_option maxRecDepth 100000
set_option maxHeartbeats 4000000
namespace K45
open PySem L2 M
seal L2.PE L2.PA L2.PS L2.PSs L2.PT L2.PW L2.PI L2.PG L2.PJ L2.PTs
def spLValue (m : Nat) : Sp := fun vs H Q _ => ∃ (f : Addr) (kv : V) (p q : Int) (ks : List Kn) (x : Str), vs = [.ref f, kv, .str x] ∧ H f = some (.lst [.int p, .int q]) ∧ RelD H kv (dKinds ks) ∧ KWf ks ∧ KIn ks m x ∧ ∀ u d H', Fed f H H' → RelD H' u d → Vk ks x d → Q u H'
section
variable {P : Program} {w : World} {K : PySem.W.Frag} {mg : Str → Option Value} {base : Heap} {n m : Nat}
theorem ok__law_value (T : Tx K mg) (spc : Sp) (D__law_sort_of : DefIs P w K mg base n "_law_sort_of" ["_law_kinds_here", "_law_kind"] spLSort) (D__law_take : DefIs P w K mg base n "_law_take" ["_law_feed_here", "_law_many"] spTake) (D__law_number : DefIs P w K mg base n "_law_number" ["_law_feed_here"] spLNum) (D__law_value : DefIs P w K mg base n "_law_value" ["_law_feed_here", "_law_kinds_here", "_law_kind"] spc) (hspc : ∀ j, m = j + 1 → spc = spLValue j) :
    DefIs P w K mg base (n + 1) "_law_value" ["_law_feed_here", "_law_kinds_here", "_law_kind"] (spLValue m) := by
  refine DefIs.of T.d__law_value sc__law_value (fun vs H Q E h => ?_) (fun f cdv A outer s H vs Q E hr h => ?_)
  · obtain ⟨_, _, _, _, _, _, rfl, _⟩ := h
    rfl
  obtain ⟨f', kv, p, q0, ks, x, rfl, hf, hk, wf, hin, q⟩ := h
  have nd := sc__law_value.nd
  refine ⟨_, (pss_cons (ps_asg (pe_dcall D__law_sort_of hr (pa_cons (pv 1) (pa_cons (pv 2) pa_nil star_name) star_name)) (pg_tup rfl (pgs_cons (pg_name (i := 3) nd rfl (by first | exact Or.inl rfl | exact Or.inr rfl)) (pgs_cons (pg_name (i := 4) nd rfl (by first | exact Or.inl rfl | exact Or.inr rfl)) pgs_nil))))
      (pss_cons (ps_if (pt_cmpR op_eq (pv 3) pe_str (nomark _)) (pss_one (ps_ret (pe_dcall D__law_number hr (pa_cons (pv 0) pa_nil star_name)))) pss_nil)
      (pss_cons (ps_if (pt_cmpR op_eq (pv 3) pe_str (nomark _)) (pss_one (ps_ret (pe_tup (pa_cons (pv 2) (pa_cons (pe_callTy call_tuple_of rfl T.z_tuple PyProof.Rows.boot_tuple (pa_cons (pe_comp ["_law_name", "_law_part", "_law_feed_here", "_law_kinds_here"] [none, none, some 0, some 1] rfl (by kernel_rfl) (pi_tup (pv 4)) (fun _ _ _ _ => (pg_tupC (K := K) (n := 2) rfl rfl (pgs_cons (pg_name (i := 0) (by show List.Nodup (["_law_name", "_law_part", "_law_feed_here", "_law_kinds_here"] : List Str); decide +kernel) rfl (Or.inl rfl)) (pgs_cons (pg_name (i := 1) (by show List.Nodup (["_law_name", "_law_part", "_law_feed_here", "_law_kinds_here"] : List Str); decide +kernel) rfl (Or.inl rfl)) pgs_nil)))) (fun _ _ _ _ => pts_nil) (fun _ _ _ _ => (pe_dcall D__law_value hr (pa_cons (pv 2) (pa_cons (pv 3) (pa_cons (pv 1) pa_nil star_name) star_name) star_name)))) pa_nil star_comp)) pa_nil star_call) star_name)))) pss_nil)
      (pss_cons (ps_asg (pe_ix ix_tup (pv 4) (pe_dcall D__law_take hr (pa_cons (pv 0) (pa_cons (pe_callB call_len_seq rfl T.z_len PySem.boot_len (pa_cons (pv 4) pa_nil star_name)) pa_nil star_call) star_name)) (fun _ _ => rfl)) (pg_tup rfl (pgs_cons (pg_name (i := 5) nd rfl (by first | exact Or.inl rfl | exact Or.inr rfl)) (pgs_cons (pg_name (i := 6) nd rfl (by first | exact Or.inl rfl | exact Or.inr rfl)) pgs_nil))))
      (pss_one (ps_ret (pe_tup (pa_cons (pv 2) (pa_cons (pv 5) (pa_cons (pe_dcall D__law_value hr (pa_cons (pv 0) (pa_cons (pv 1) (pa_cons (pv 6) pa_nil star_name) star_name) star_name)) pa_nil star_call) star_name) star_name)))))))), ?_⟩
  refine ⟨_, rfl, _, rfl, kv, ks, x, rfl, (wf.ksAt hk).seq, fun t pv' H1 s1 ht rp => ?_⟩
  refine ⟨t, _, rfl, SqT.of ht, rfl, _, _, rfl, _, _, rfl, rfl, ?_⟩
  have hf1 := s1 _ _ hf
  have F1 : Fed f' H H1 := (Fed.refl hf).same s1
  rcases hin.look wf with ⟨rfl, hkx⟩ | ⟨j, k, rfl, hkx, hn, hm, hp⟩
  · refine ⟨_, rfl, rfl, _, rfl, iteKT (decide_eq_true (by rw [hkx]; rfl)) ?_⟩
    refine ⟨_, rfl, f', p, q0, rfl, hf1, fun r H2 hr2 f2 => ?_⟩
    exact q _ (.int r) _ (F1.trans f2) rfl (.num r hr2)
  · have D' := hspc j rfl
    subst D'
    rw [hkx] at rp
    obtain ⟨a, us, rfl, ha, hus⟩ := rp
    have hl := hus.length
    rw [List.length_map] at hl
    have h5 := wf.pts k hm
    have hss : sortS (kAt ks x) = k.sort := by rw [hkx]; rfl
    cases hc : k.rc with
    | false =>
      have hsA : k.sort = S "alt" := alt_sortP hc
      refine ⟨_, rfl, rfl, _, rfl, iteKF (decide_eq_false (by rw [hss, hsA]; decide +kernel)) ?_⟩
      refine ⟨_, rfl, rfl, _, rfl, iteKF (decide_eq_false (by rw [hss, hsA]; decide +kernel)) ?_⟩
      have hne : k.parts.length ≠ 0 := fun e => wf.alt k hm hc (List.length_eq_zero_iff.mp e)
      refine ⟨_, rfl, _, rfl, _, rfl, a, _, rfl, .inr (SqT.of ha), f', p, q0, _, rfl, hf1, by omega, by omega, fun r H2 r0 r1 f2 => ?_⟩
      have tp2 := fed_tups ⟨p, q0, hf1⟩ f2
      obtain ⟨i, rfl⟩ : ∃ i : Nat, r = (i : Int) := ⟨r.toNat, by omega⟩
      have hi : i < us.length := by omega
      have g1 : atI us (i : Int) = some us[i] := atI_nat (List.getElem?_eq_getElem hi)
      obtain ⟨d, hd, rd⟩ := hus.get (List.getElem?_eq_getElem hi)
      rw [List.getElem?_map] at hd
      obtain ⟨pr, hpr, rfl⟩ := Option.map_eq_some_iff.mp hd
      obtain ⟨b, ws, eu, hb, _, _, rfl, rfl, _, _, rfl, rfl, rfl⟩ := rd
      rw [eu] at g1
      have hmem := List.mem_of_getElem? hpr
      obtain ⟨p2, q2, hf2⟩ := f2.2
      have hk2 := (hk.same s1 _).tups tp2 _
      refine ⟨a, _, _, _, rfl, rfl, SqT.of (tp2 _ _ ha), g1, b, _, rfl, SqT.of (tp2 _ _ hb), rfl, _, _, rfl, _, _, rfl, rfl, ?_⟩
      refine ⟨_, rfl, _, rfl, _, rfl, _, rfl, _, rfl, f', kv, p2, q2, ks, pr.2, rfl, hf2, hk2, wf, hp pr hmem, fun u e H3 f3 ru he3 => ⟨(by show 3 ≤ sizeLine; decide), fun t3 ht3 => ?_⟩⟩
      have s4 := Same.new ht3 (.tup [.str x, .str pr.1, u])
      exact q _ (.tup [.str x, .str pr.1, e]) _ ((F1.trans (f2.trans f3)).same s4) ⟨t3, _, rfl, upd_same, _, _, rfl, rfl, _, _, rfl, rfl, _, _, rfl, ru.same s4 _, rfl⟩ (.al hkx hc hmem he3)
    | true =>
      have hsR : k.sort = S "rec" := rec_sortP hc
      refine ⟨_, rfl, rfl, _, rfl, iteKF (decide_eq_false (by rw [hss, hsR]; decide +kernel)) ?_⟩
      refine ⟨_, rfl, rfl, _, rfl, iteKT (decide_eq_true (by rw [hss, hsR]; rfl)) ?_⟩
      refine ⟨_, rfl, _, rfl, a, rfl, ⟨_, SqT.of ha⟩, ?_⟩
      refine comp_tupG (xs := us) (fun i ys H' => Fed f' H1 H' ∧ ys.length = i ∧ ∃ ds : List D, RelDs H' ys ds ∧ ds.length = i ∧ ∀ (i' : Nat) w' p', ds[i']? = some w' → k.parts[i']? = some p' → Vk ks p'.2 w') ⟨Fed.refl hf1, rfl, [], rfl, rfl, fun i' w' p' h => by simp at h⟩ (fitsLt (by omega)) (fun i ys H' _ p' => SqT.of (fed_tups ⟨p, q0, hf1⟩ p'.1 _ _ ha)) ?_ ?_
      · rintro i y ys H' hy hi hly ⟨fm, hyl, ds, hys, hdl, hft⟩
        have tp := fed_tups ⟨p, q0, hf1⟩ fm
        obtain ⟨d, hd, rd⟩ := hus.get hy
        rw [List.getElem?_map] at hd
        obtain ⟨pr, hpr, rfl⟩ := Option.map_eq_some_iff.mp hd
        obtain ⟨b, ws, rfl, hb, _, _, rfl, rfl, _, _, rfl, rfl, rfl⟩ := rd
        obtain ⟨p2, q2, hf2⟩ := fm.2
        refine ⟨b, _, rfl, SqT.of (tp _ _ hb), rfl, _, _, rfl, _, _, rfl, rfl, ext2 rfl rfl, yes_go ?_⟩
        refine ⟨_, rfl, _, rfl, _, rfl, f', kv, p2, q2, ks, pr.2, rfl, hf2, (hk.same s1 _).tups tp _, wf, hp pr (List.mem_of_getElem? hpr), fun u e H3 f3 ru he3 => nxtG hi hly ⟨fm.trans f3, by rw [List.length_append, List.length_singleton, hyl], ds ++ [e], ?_, by rw [List.length_append, List.length_singleton, hdl], fun i' w' p' hw hp' => ?_⟩⟩
        · exact (hys.tups (fed_tups ⟨p2, q2, hf2⟩ f3) _).append ⟨u, [], rfl, ru, rfl⟩
        · by_cases hii : i' < ds.length
          · rw [List.getElem?_append_left hii] at hw
            exact hft i' w' p' hw hp'
          · have hlt := (List.getElem?_eq_some_iff.mp hw).1
            rw [List.length_append, List.length_singleton] at hlt
            have e0 : i' = i := by omega
            subst e0
            rw [List.getElem?_append_right (by omega), hdl, Nat.sub_self] at hw
            simp at hw
            subst hw
            rw [hpr] at hp'
            cases hp'
            exact he3
      · rintro ys H' hly ⟨fm, _, ds, hys, hdl, hft⟩ D hD
        refine ⟨D, ys, rfl, .inl ⟨SqL.of upd_same, fun l' hl' => ⟨(by show 2 ≤ sizeLine; decide), fun t3 ht3 => ?_⟩⟩⟩
        have s2 := Same.new hD (.lst ys)
        have s3 := Same.new hl' (.tup ys)
        have s4 := Same.new ht3 (.tup [.str x, .ref l'])
        have s24 := s2.trans (s3.trans s4)
        exact q _ (.tup [.str x, .tup ds]) _ ((F1.trans fm).same s24) ⟨t3, _, rfl, upd_same, _, _, rfl, rfl, _, _, rfl, ⟨l', ys, rfl, s4 _ _ upd_same, hys.same s24 _⟩, rfl⟩ (.rc hkx hc (by omega) hft)
theorem value_is (T : Tx K mg) : ∀ m, DefIs P w K mg base (m + 3) "_law_value" ["_law_feed_here", "_law_kinds_here", "_law_kind"] (spLValue m)
  | 0 => ok__law_value (n := 2) T (fun _ _ _ _ => False) (ok__law_sort_of T) (ok__law_take T) (ok__law_number T (ok__law_take T)) (DefIs.none T.d__law_value fun _ _ _ _ h => h) (fun j e => by cases e)
  | m + 1 => ok__law_value (n := m + 3) T (spLValue m) (ok__law_sort_of T) (ok__law_take T) (ok__law_number T (ok__law_take T)) (value_is T m) (fun j e => by cases e; rfl)
end
end K45

end

section
set_option Elab.async false
set_option linter.all false
set_option maxRecDepth 100000
set_option maxHeartbeats 4000000
namespace K45
open PySem L2 M
seal L2.PE L2.PA L2.PS L2.PSs L2.PT L2.PW L2.PI L2.PG L2.PJ L2.PTs
def dPr (q : Str × D) : D := .tup [.str q.1, q.2]
def vKV (bs : List (Str × V)) : List (Key × V) := bs.map fun b => (Sum.inr b.1, b.2)
def envP (ds : List (Str × D)) : En := fun y => (ds.find? fun q => decide (q.1 = y)).map fun q => q.2
def NV (H : Hp) : List (Str × V) → List (Str × D) → Prop
  | [], [] => True
  | b :: bs, q :: ds => (b.1 = q.1 ∧ RelD H b.2 q.2) ∧ NV H bs ds
  | _, _ => False
theorem vmerge_out {y : Str} : ∀ (bs : List (Str × V)) (acc : List (Key × V)), (∀ b ∈ bs, b.1 ≠ y) → valV (mergeK acc (vKV bs)) (Sum.inr y) = valV acc (Sum.inr y)
  | [], acc, _ => rfl
  | b :: bs, acc, h => by
    show valV (mergeK (putK acc (Sum.inr b.1) b.2) (vKV bs)) (Sum.inr y) = _
    rw [vmerge_out bs _ fun c hc => h c (by simp [hc]), valV_put, if_neg fun e => h b (by simp) (Sum.inr.inj e).symm]
theorem vmerge_in : ∀ (bs : List (Str × V)) (acc : List (Key × V)), (bs.map (·.1)).Nodup → ∀ p ∈ bs, valV (mergeK acc (vKV bs)) (Sum.inr p.1) = some p.2
  | [], acc, _, p, hp => nomatch hp
  | b :: bs, acc, nd, p, hp => by
    rw [List.map_cons, List.nodup_cons] at nd
    show valV (mergeK (putK acc (Sum.inr b.1) b.2) (vKV bs)) (Sum.inr p.1) = _
    rcases List.mem_cons.mp hp with rfl | hp
    · rw [vmerge_out bs _ fun c hc e => nd.1 (by rw [← e]; exact List.mem_map_of_mem hc), valV_put, if_pos rfl]
    · exact vmerge_in bs _ nd.2 p hp
theorem NV.names {H : Hp} : ∀ {bs : List (Str × V)} {ds : List (Str × D)}, NV H bs ds → bs.map (·.1) = ds.map (·.1)
  | [], [], _ => rfl
  | b :: bs, q :: ds, h => by rw [List.map_cons, List.map_cons, h.1.1, NV.names h.2]
theorem NV.of {H : Hp} : ∀ {bs : List (Str × V)} {ds : List (Str × D)}, NV H bs ds → ∀ q ∈ ds, ∃ b ∈ bs, b.1 = q.1 ∧ RelD H b.2 q.2
  | [], [], _, q, hq => nomatch hq
  | b :: bs, q' :: ds, h, q, hq => by
    rcases List.mem_cons.mp hq with rfl | hq
    · exact ⟨b, by simp, h.1⟩
    · obtain ⟨c, hc, e⟩ := NV.of h.2 q hq
      exact ⟨c, by simp [hc], e⟩
theorem NV.tups {H H' : Hp} (s : ∀ b us, H b = some (.tup us) → H' b = some (.tup us)) : ∀ {bs : List (Str × V)} {ds : List (Str × D)}, NV H bs ds → NV H' bs ds
  | [], [], _ => trivial
  | b :: bs, q :: ds, h => ⟨⟨h.1.1, h.1.2.tups s _⟩, NV.tups s h.2⟩
theorem pairs_nv {H : Hp} : ∀ {us : List V} {ds : List (Str × D)}, RelDs H us (ds.map dPr) → ∃ bs, PairsV H us (vKV bs) ∧ NV H bs ds
  | us, [], h => by rw [show us = [] from h]; exact ⟨[], trivial, trivial⟩
  | us, q :: ds, ⟨v, r, e, h1, h2⟩ => by
    subst e
    obtain ⟨a, ws, rfl, ha, v0, _, rfl, r0, v1, _, rfl, r1, rfl⟩ := h1
    obtain rfl : v0 = .str q.1 := r0
    obtain ⟨bs, g1, g2⟩ := pairs_nv h2
    exact ⟨(q.1, v1) :: bs, ⟨⟨a, rfl, ha⟩, g1⟩, ⟨rfl, r1⟩, g2⟩
theorem envP_in {ds : List (Str × D)} (nd : (ds.map (·.1)).Nodup) {q : Str × D} (hq : q ∈ ds) : envP ds q.1 = some q.2 := by
  unfold envP
  obtain ⟨i, hi, e⟩ := List.mem_iff_getElem.mp hq
  rw [find_nodup (f := fun r : Str × D => r.1) (xs := ds) (i := i) (a := q) nd (by rw [← e]; exact List.getElem?_eq_getElem hi)]
  rfl
theorem nv_val {H : Hp} {bs : List (Str × V)} {ds : List (Str × D)} (h : NV H bs ds) (nd : (ds.map (·.1)).Nodup) {q : Str × D} (hq : q ∈ ds) : ∃ v, valV (mergeK [] (vKV bs)) (Sum.inr q.1 : Key) = some v ∧ RelD H v q.2 := by
  obtain ⟨b, hb, e1, e2⟩ := h.of q hq
  refine ⟨b.2, ?_, e2⟩
  rw [← e1]
  exact vmerge_in bs [] (by rw [h.names]; exact nd) b hb
theorem nv_en {H : Hp} {dp : Addr} {bs : List (Str × V)} {ds : List (Str × D)} (h : NV H bs ds) (nd : (ds.map (·.1)).Nodup) (hp : H dp = some (.dK (mergeK [] (vKV bs)))) : EnAt H dp ds.length (envP ds) := by
  refine ⟨_, hp, ?_, fun y => ⟨fun e => ?_, fun d e => ?_⟩⟩
  · have h1 := length_mergeK (vKV bs) []
    have h2 := congrArg List.length h.names
    rw [List.length_map, List.length_map] at h2
    unfold vKV at h1 ⊢
    rw [List.length_map] at h1
    simp at h1
    omega
  · unfold envP at e
    have h' := List.find?_eq_none.mp (Option.map_eq_none_iff.mp e)
    rw [vmerge_out bs [] fun b hb z => ?_]
    · rfl
    · have hm : b.1 ∈ ds.map (·.1) := by rw [← h.names]; exact List.mem_map_of_mem hb
      obtain ⟨q, hq, eq⟩ := List.mem_map.mp hm
      exact absurd (decide_eq_true (eq.trans z)) (h' q hq)
  · unfold envP at e
    obtain ⟨q, hq, rfl⟩ := Option.map_eq_some_iff.mp e
    have h1 : q.1 = y := by
      have := List.find?_some hq
      exact of_decide_eq_true this
    rw [← h1]
    exact nv_val h nd (List.mem_of_find?_eq_some hq)
structure TC (H : Hp) (fa sa wa : Addr) (kv1 kv2 : V) (r1 r2 : List V) (ks ks2 : List Kn) : Prop where
  f : H fa = some (.tup (kv1 :: r1))
  s : H sa = some (.tup (kv2 :: r2))
  k1 : RelD H kv1 (dKinds ks)
  wf : KWf ks
  k2 : KsAt H kv2 ks2
  w : WaysAt H wa (ks.map wyK)
theorem TC.same {H H' : Hp} {fa sa wa : Addr} {kv1 kv2 : V} {r1 r2 : List V} {ks ks2 : List Kn} (h : TC H fa sa wa kv1 kv2 r1 r2 ks ks2) (y : Same H H') : TC H' fa sa wa kv1 kv2 r1 r2 ks ks2 := ⟨y _ _ h.f, y _ _ h.s, h.k1.same y _, h.wf, h.k2.same y, h.w.same y⟩
def spTd (m : Nat) : Sp := fun vs H Q _ => ∃ (fa sa wa : Addr) (kv1 kv2 : V) (r1 r2 : List V) (ks ks2 : List Kn) (x : Str) (v : V) (d : D), vs = [.ref fa, .ref sa, .ref wa, .str x, v] ∧ TC H fa sa wa kv1 kv2 r1 r2 ks ks2 ∧ KIn ks m x ∧ RelD H v d ∧ Vk ks x d ∧ ∀ u H', Same H H' → RelD H' u d → Q u H'
def spTB (m : Nat) : Sp := fun vs H Q _ => ∃ (fa sa wa : Addr) (kv1 kv2 : V) (r1 r2 : List V) (ks ks2 : List Kn) (pa da : Addr) (us : List V) (es : List ((Str × Str) × D)) (kvs : List (Key × V)), vs = [.ref fa, .ref sa, .ref wa, .ref pa, .ref da] ∧ TC H fa sa wa kv1 kv2 r1 r2 ks ks2 ∧ H pa = some (.tup us) ∧ RelDs H us (es.map fun e => dPart e.1) ∧ (es.map fun e => e.1.1).Nodup ∧ es.length ≤ 100 ∧
  (∀ e ∈ es, KIn ks m e.1.2 ∧ Vk ks e.1.2 e.2) ∧ H da = some (.dK kvs) ∧ (∀ e ∈ es, ∃ v, valV kvs (Sum.inr e.1.1 : Key) = some v ∧ RelD H v e.2) ∧ ∀ dp H', Same H H' → EnAt H' dp es.length (envP (es.map fun e => (e.1.1, e.2))) → Q (.ref dp) H'
theorem goes_in {ks : List Kn} (wf : KWf ks) {m : Nat} {x : Str} (h : KIn ks m x) : goesTo (ks.map wyK) x = some x := by
  refine goes_self ?_
  rcases h.look wf with ⟨rfl, _⟩ | ⟨j, k, rfl, _, hn, hm, _⟩
  · exact .inl rfl
  · exact .inr ⟨k, hm, hn⟩
theorem all2_zip {α β γ : Type} {R : γ → β → Prop} {f : α → γ} : ∀ {ps : List α} {ws : List β}, ps.length = ws.length → (∀ e ∈ ps.zip ws, R (f e.1) e.2) → All2 R (ps.map f) ws
  | [], [], _, _ => All2.nil
  | p :: ps, v :: ws, hl, h => All2.cons (h (p, v) (by simp)) (all2_zip (by simpa using hl) fun e he => h e (by simp [he]))
theorem zip_fst {α β : Type} : ∀ {ps : List α} {ws : List β}, ps.length = ws.length → (ps.zip ws).map (·.1) = ps
  | [], [], _ => rfl
  | p :: ps, v :: ws, hl => by
    rw [List.zip_cons_cons, List.map_cons, zip_fst (by simpa using hl)]
theorem zip_at {α β : Type} {ps : List α} {ws : List β} {e : α × β} (he : e ∈ ps.zip ws) : ∃ i : Nat, ps[i]? = some e.1 ∧ ws[i]? = some e.2 := by
  obtain ⟨i, hi, e'⟩ := List.mem_iff_getElem.mp he
  have h2 := List.getElem?_zip_eq_some.mp (show (ps.zip ws)[i]? = some e by rw [← e']; exact List.getElem?_eq_getElem hi)
  exact ⟨i, h2⟩
section
variable {P : Program} {w : World} {K : PySem.W.Frag} {mg : Str → Option Value} {base : Heap} {n m : Nat}
theorem ok_turned_boxes (T : Tx K mg) (D_goes_to : DefIs P w K mg base n "goes_to" ["ways", "kind"] spGoes) (D_turned : DefIs P w K mg base n "turned" ["first", "second", "ways", "kind", "value"] (spTd m)) : DefIs P w K mg base (n + 1) "turned_boxes" ["first", "second", "ways", "parts", "values"] (spTB m) := by
  refine DefIs.of T.d_turned_boxes sc_turned_boxes (fun vs H Q E h => ?_) (fun f cdv A outer s H vs Q E hr h => ?_)
  · obtain ⟨_, _, _, _, _, _, _, _, _, _, _, _, _, _, rfl, _⟩ := h
    rfl
  obtain ⟨fa, sa, wa, kv1, kv2, r1, r2, ks, ks2, pa, da, us, es, kvs, rfl, tc, hpa, hus, hnd, hl, hes, hda, hval, q⟩ := h
  have nd := sc_turned_boxes.nd
  have hu := hu_of hr
  have hul := hus.length
  rw [List.length_map] at hul
  refine ⟨_, (pss_cons (ps_setComp (i := 5) ["part", "ways"] [none, some 2] rfl (by kernel_rfl) nd rfl (by first | exact Or.inl rfl | exact Or.inr rfl) (pi_tup (pv 3)) (fun _ _ _ _ => (pg_name (i := 0) (by show List.Nodup (["part", "ways"] : List Str); decide +kernel) rfl (Or.inl rfl))) (fun _ _ _ _ => (pts_one (pt_cmpR op_notN (pe_dcall D_goes_to hr (pa_cons (pv 1) (pa_cons (pe_ix (ix_tupC (K := K) rfl) (pv 0) pe_int (fun _ _ => rfl)) pa_nil star_sub) star_name)) pe_non (nomark _)))) (fun _ _ _ _ => (pv 0)))
      (pss_one (ps_ret (pe_callTy (call_dictL rfl) rfl T.z_dict PyProof.Rows.boot_dict (pa_cons (pe_comp ["x", "kind", "first", "second", "ways", "values"] [none, none, some 0, some 1, some 2, some 4] rfl (by kernel_rfl) (pi_list (pv 5)) (fun _ _ _ _ => (pg_tupC (K := K) (n := 2) rfl rfl (pgs_cons (pg_name (i := 0) (by show List.Nodup (["x", "kind", "first", "second", "ways", "values"] : List Str); decide +kernel) rfl (Or.inl rfl)) (pgs_cons (pg_name (i := 1) (by show List.Nodup (["x", "kind", "first", "second", "ways", "values"] : List Str); decide +kernel) rfl (Or.inl rfl)) pgs_nil)))) (fun _ _ _ _ => pts_nil) (fun _ _ _ _ => (pe_tup (pa_cons (pv 0) (pa_cons (pe_dcall D_turned hr (pa_cons (pv 2) (pa_cons (pv 3) (pa_cons (pv 4) (pa_cons (pv 1) (pa_cons (pe_dget hu (pv 5) (pv 0) (fun _ _ => rfl)) pa_nil star_sub) star_name) star_name) star_name) star_name)) pa_nil star_call) star_name)))) pa_nil star_comp))))), ?_⟩
  refine ⟨_, rfl, pa, rfl, ⟨_, SqT.of hpa⟩, ?_⟩
  refine comp_tupG (xs := us) (fun i zs H3 => H3 = H ∧ zs = us.take i) ⟨rfl, rfl⟩ (fitsLt (by omega)) (fun i zs H3 _ p => by obtain ⟨rfl, _⟩ := p; exact SqT.of hpa) ?_ ?_
  · rintro i y zs H3 hy hi hly ⟨rfl, rfl⟩
    obtain ⟨d, hd', rd⟩ := hus.get hy
    rw [List.getElem?_map] at hd'
    obtain ⟨e, he, rfl⟩ := Option.map_eq_some_iff.mp hd'
    obtain ⟨b, ws, rfl, hb, _, _, rfl, rfl, _, _, rfl, rfl, rfl⟩ := rd
    refine ⟨ext_set rfl, ?_⟩
    refine ⟨_, rfl, _, rfl, b, _, _, _, rfl, rfl, SqT.of hb, rfl, wa, _, e.1.2, rfl, tc.w, ?_⟩
    rw [goes_in tc.wf (hes e (List.mem_of_getElem? he)).1]
    refine ⟨rfl, _, rfl, iteT ?_⟩
    refine ⟨_, rfl, nxtG hi hly ⟨rfl, ?_⟩⟩
    rw [List.take_add_one, hy]
    rfl
  rintro zs H3 hly ⟨rfl, rfl⟩ L hL
  rw [List.take_of_length_le (Nat.le_refl _)]
  have y0 := Same.new hL (.lst us)
  have tc0 := tc.same y0
  refine ⟨_, rfl, L, rfl, ⟨_, SqL.of upd_same⟩, ?_⟩
  refine comp_listG (xs := us) (fun i zs H4 => Same (upd H3 L (.lst us)) H4 ∧ zs.length = i ∧ RelDs H4 zs ((es.take i).map fun e => dPr (e.1.1, e.2))) ⟨Same.refl _, rfl, rfl⟩ (fitsLt (by omega)) (fun i zs H4 _ p => SqL.of (p.1 _ _ upd_same)) ?_ ?_
  · rintro i y zs H4 hy hi hly ⟨sm, hzl, hzs⟩
    have s04 := y0.trans sm
    obtain ⟨d, hd', rd⟩ := (hus.same s04 _).get hy
    rw [List.getElem?_map] at hd'
    obtain ⟨e, he, rfl⟩ := Option.map_eq_some_iff.mp hd'
    have hem := List.mem_of_getElem? he
    obtain ⟨b, ws, rfl, hb, _, _, rfl, rfl, _, _, rfl, rfl, rfl⟩ := rd
    obtain ⟨v, hv1, hv2⟩ := hval e hem
    have g : DGet H4 da (.str e.1.1) (some v) := by
      have := DGet.k (H := H4) (a := da) (k := Sum.inr e.1.1) (s04 _ _ hda)
      rw [hv1] at this
      exact this
    refine ⟨b, _, rfl, SqT.of hb, rfl, _, _, rfl, _, _, rfl, rfl, ext2 rfl rfl, yes_go ?_⟩
    refine ⟨_, rfl, _, rfl, _, rfl, _, rfl, _, rfl, _, rfl, _, rfl, da, _, rfl, g, ?_⟩
    refine ⟨fa, sa, wa, kv1, kv2, r1, r2, ks, ks2, e.1.2, v, e.2, rfl, tc.same s04, (hes e hem).1, hv2.same s04 _, (hes e hem).2, fun u H5 s5 ru => ⟨(by show 2 ≤ sizeLine; decide), fun t ht => ?_⟩⟩
    have y6 := Same.new ht (.tup [.str e.1.1, u])
    refine nxtG hi hly ⟨sm.trans (s5.trans y6), by rw [List.length_append, List.length_singleton, hzl], ?_⟩
    rw [List.take_add_one, he]
    show RelDs _ _ ((es.take i ++ [e]).map _)
    rw [List.map_append]
    exact ((hzs.same s5 _).same y6 _).append ⟨_, [], rfl, ⟨t, _, rfl, upd_same, _, _, rfl, rfl, _, _, rfl, ru.same y6 _, rfl⟩, rfl⟩
  · rintro zs H4 hly ⟨sm, hzl, hzs⟩ D hD
    rw [List.take_of_length_le (by omega)] at hzs
    have y1 := Same.new hD (.lst zs)
    have hzs' : RelDs H4 zs ((es.map fun e => (e.1.1, e.2)).map dPr) := by rw [List.map_map]; exact hzs
    obtain ⟨bs, hp, hn⟩ := pairs_nv (hzs'.same y1 _)
    refine ⟨D, zs, vKV bs, rfl, upd_same, hp, fun dp hdp => ?_⟩
    have y2 := Same.new hdp (.dK (mergeK [] (vKV bs)))
    have en := nv_en (hn.tups fun b us e => y2 _ _ e) (by rw [List.map_map]; exact hnd) upd_same
    rw [List.length_map] at en
    exact q dp _ (y0.trans (sm.trans (y1.trans y2))) en
theorem ok_turned (T : Tx K mg) (spc : Sp) (D_sort_of : DefIs P w K mg base n "sort_of" ["kinds", "K"] spSortOf) (D_parts_of : DefIs P w K mg base n "parts_of" ["kinds", "K"] spPartsOf) (D_part_kind : DefIs P w K mg base n "part_kind" ["kinds", "kind", "name"] spPartKind) (D_worth : DefIs P w K mg base n "worth" ["kinds", "term", "boxes"] (spWorth (fun ks => Ev ks 8) 100)) (D_turned_boxes : DefIs P w K mg base n "turned_boxes" ["first", "second", "ways", "parts", "values"] spc) (hspc : ∀ j, m = j + 1 → spc = spTB j) : DefIs P w K mg base (n + 1) "turned" ["first", "second", "ways", "kind", "value"] (spTd m) := by
  refine DefIs.of T.d_turned sc_turned (fun vs H Q E h => ?_) (fun f cdv A outer s H vs Q E hr h => ?_)
  · obtain ⟨_, _, _, _, _, _, _, _, _, _, _, _, rfl, _⟩ := h
    rfl
  obtain ⟨fa, sa, wa, kv1, kv2, r1, r2, ks, ks2, x, v, d, rfl, tc, hin, hv, hvk, q⟩ := h
  have nd := sc_turned.nd
  have hu := hu_of hr
  have wf := tc.wf
  refine ⟨_, (pss_cons (ps_if (pt_cmpR op_eq (pv 3) pe_str (nomark _)) (pss_one (ps_ret (pv 4))) pss_nil)
      (pss_cons (ps_set (i := 5) nd rfl (by first | exact Or.inl rfl | exact Or.inr rfl) (pe_ix ix_tup (pe_dget hu (pv 2) (pv 3) (fun _ _ => rfl)) pe_int (fun _ _ => rfl)))
      (pss_cons (ps_set (i := 6) nd rfl (by first | exact Or.inl rfl | exact Or.inr rfl) (pe_dcall D_parts_of hr (pa_cons (pe_ix ix_tup (pv 0) pe_int (fun _ _ => rfl)) (pa_cons (pv 3) pa_nil star_name) star_sub)))
      (pss_cons (ps_if (pt_cmpR op_eq (pe_dcall D_sort_of hr (pa_cons (pe_ix ix_tup (pv 0) pe_int (fun _ _ => rfl)) (pa_cons (pv 3) pa_nil star_name) star_sub)) pe_str (nomark _)) (pss_cons (ps_set (i := 7) nd rfl (by first | exact Or.inl rfl | exact Or.inr rfl) (pe_callTy (call_dictL rfl) rfl T.z_dict PyProof.Rows.boot_dict (pa_cons (pe_comp ["part", "each"] [none, none] rfl (by kernel_rfl) (pi_zip rfl T.z_zip (pa_cons (pv 6) (pa_cons (pe_ix ix_tup (pv 4) pe_int (fun _ _ => rfl)) pa_nil star_sub) star_name)) (fun _ _ _ _ => (pg_tupC (K := K) (n := 2) rfl rfl (pgs_cons (pg_name (i := 0) (by show List.Nodup (["part", "each"] : List Str); decide +kernel) rfl (Or.inl rfl)) (pgs_cons (pg_name (i := 1) (by show List.Nodup (["part", "each"] : List Str); decide +kernel) rfl (Or.inl rfl)) pgs_nil)))) (fun _ _ _ _ => pts_nil) (fun _ _ _ _ => (pe_tup (pa_cons (pe_ix (ix_tupC (K := K) rfl) (pv 0) pe_int (fun _ _ => rfl)) (pa_cons (pv 1) pa_nil star_name) star_sub)))) pa_nil star_comp)))
      (pss_one (ps_ret (pe_dcall D_worth hr (pa_cons (pe_ix ix_tup (pv 1) pe_int (fun _ _ => rfl)) (pa_cons (pv 5) (pa_cons (pe_dcall D_turned_boxes hr (pa_cons (pv 0) (pa_cons (pv 1) (pa_cons (pv 2) (pa_cons (pv 6) (pa_cons (pv 7) pa_nil star_name) star_name) star_name) star_name) star_name)) pa_nil star_call) star_name) star_sub))))) pss_nil)
      (pss_cons (ps_set (i := 8) nd rfl (by first | exact Or.inl rfl | exact Or.inr rfl) (pe_ix ix_tup (pv 4) pe_int (fun _ _ => rfl)))
      (pss_cons (ps_set (i := 9) nd rfl (by first | exact Or.inl rfl | exact Or.inr rfl) (pe_tup (pa_cons pe_str (pa_cons (pe_dcall D_part_kind hr (pa_cons (pe_ix ix_tup (pv 0) pe_int (fun _ _ => rfl)) (pa_cons (pv 3) (pa_cons (pv 8) pa_nil star_name) star_name) star_sub)) pa_nil star_call) star_const)))
      (pss_one (ps_ret (pe_dcall D_worth hr (pa_cons (pe_ix ix_tup (pv 1) pe_int (fun _ _ => rfl)) (pa_cons (pe_dget hu (pe_callTy (call_dictT rfl) rfl T.z_dict PyProof.Rows.boot_dict (pa_cons (pv 5) pa_nil star_name)) (pv 8) (fun _ _ => rfl)) (pa_cons (pe_dcall D_turned_boxes hr (pa_cons (pv 0) (pa_cons (pv 1) (pa_cons (pv 2) (pa_cons (pe_tup (pa_cons (pv 9) pa_nil star_name)) (pa_cons (pe_disp (pps_cons pe_str (pe_ix ix_tup (pv 4) pe_int (fun _ _ => rfl)) pps_nil) rfl rfl (fun z => by cases z) (by decide)) pa_nil star_dict) star_tup) star_name) star_name) star_name)) pa_nil star_call) star_sub) star_sub)))))))))), ?_⟩
  rcases hin.look wf with ⟨rfl, hkx⟩ | ⟨j, k, rfl, hkx, hn, hm, hp⟩
  · refine ⟨_, rfl, rfl, _, rfl, iteKT (decide_eq_true rfl) ?_⟩
    exact ⟨_, rfl, q _ _ (Same.refl _) hv⟩
  · have D' := hspc j rfl
    subst D'
    subst hn
    refine ⟨_, rfl, rfl, _, rfl, iteKF (decide_eq_false fun z => name_ne_num (wf.nm k hm) (V.str.inj z)) ?_⟩
    obtain ⟨kvs, hd, hwl⟩ := id tc.w
    obtain ⟨v', h1, h2⟩ := (hwl.val (x := k.name)).2 (wyK k) (by rw [wyAt_K, hkx]; rfl)
    obtain ⟨b, _, rfl, hb, v0, _, rfl, r0, hv', _, rfl, hh, rfl⟩ := h2
    obtain rfl : v0 = .str k.name := r0
    change RelD H hv' (howD k) at hh
    have g : DGet H wa (.str k.name) (some (.ref b)) := by
      have := DGet.rd (k := Sum.inr k.name) hd
      rw [h1] at this
      exact this
    have hnd := wf.pnd k hm
    have h5 := wf.pts k hm
    refine ⟨_, rfl, _, rfl, wa, _, rfl, g, b, _, _, _, rfl, rfl, SqT.of hb, rfl, ?_⟩
    refine ⟨_, rfl, fa, _, _, _, rfl, rfl, SqT.of tc.f, atI_nat (j := 0) rfl, _, rfl, kv1, ks, k.name, rfl, wf.ksAt tc.k1, fun u H1 s1 ru => ?_⟩
    rw [hkx] at ru
    obtain ⟨c, cs, rfl, hc, hcs⟩ := ru
    have hcl := hcs.length
    rw [List.length_map] at hcl
    have tc1 := tc.same s1
    refine ⟨_, rfl, fa, _, _, _, rfl, rfl, SqT.of tc1.f, atI_nat (j := 0) rfl, _, rfl, kv1, ks, k.name, rfl, wf.ksAt tc1.k1, ?_⟩
    rw [hkx]
    cases hrc : k.rc with
    | true =>
      obtain ⟨ws, hwl', hws, rfl⟩ := vk_rec wf hkx hrc hvk
      obtain ⟨a, _, rfl, ha, v0, _, rfl, r0, v1, _, rfl, ⟨a1, us, rfl, hb1, hus⟩, rfl⟩ := hv
      have hul := hus.length
      refine ⟨rfl, _, rfl, iteKT (decide_eq_true (by show V.str k.sort = _; rw [rec_sortP hrc]; rfl)) ?_⟩
      refine ⟨_, rfl, _, rfl, a, _, _, _, rfl, rfl, SqT.of (s1 _ _ ha), rfl, c, a1, rfl, ⟨_, SqT.of hc⟩, ⟨_, SqT.of (s1 _ _ hb1)⟩, ?_⟩
      refine comp_zip (xs := cs) (zs := us) (by omega) (fun i zs H' => Same H1 H' ∧ zs.length = i ∧ RelDs H' zs (((k.parts.zip ws).take i).map fun e => dPr (e.1.1, e.2))) ⟨Same.refl _, rfl, rfl⟩ (fitsLt (by omega)) (fun i zs H' _ p => ⟨SqT.of (p.1 _ _ hc), SqT.of (p.1 _ _ (s1 _ _ hb1))⟩) ?_ ?_
      · rintro i y z zs H' pp hy hz hi hly ⟨sm, hzl, hzs⟩ hpp
        obtain ⟨d1, hd1, rd⟩ := hcs.get hy
        rw [List.getElem?_map] at hd1
        obtain ⟨pr, hpr, rfl⟩ := Option.map_eq_some_iff.mp hd1
        obtain ⟨b2, _, rfl, hb2, _, _, rfl, rfl, _, _, rfl, rfl, rfl⟩ := rd
        obtain ⟨e, he, re⟩ := hus.get hz
        have sp := Same.new hpp (.tup [.ref b2, z])
        have s3 := sm.trans sp
        refine ⟨pp, _, rfl, SqT.of upd_same, rfl, _, _, rfl, _, _, rfl, rfl, ext2 rfl rfl, yes_go ?_⟩
        refine ⟨_, rfl, b2, _, _, _, rfl, rfl, SqT.of (s3 _ _ hb2), rfl, _, rfl, (by show 2 ≤ sizeLine; decide), fun t ht => ?_⟩
        have y6 := Same.new ht (.tup [.str pr.1, z])
        refine nxtG hi hly ⟨s3.trans y6, by rw [List.length_append, List.length_singleton, hzl], ?_⟩
        rw [List.take_add_one, show (k.parts.zip ws)[i]? = some (pr, e) from List.getElem?_zip_eq_some.mpr ⟨hpr, he⟩]
        show RelDs _ _ (((k.parts.zip ws).take i ++ [(pr, e)]).map _)
        rw [List.map_append]
        exact ((hzs.same sp _).same y6 _).append ⟨_, [], rfl, ⟨t, _, rfl, upd_same, _, _, rfl, rfl, _, _, rfl, re.same (s1.trans (s3.trans y6)) _, rfl⟩, rfl⟩
      · rintro zs H' hly ⟨sm, hzl, hzs⟩ LD hD
        have hzw : (k.parts.zip ws).length = k.parts.length := by rw [List.length_zip]; omega
        rw [List.take_of_length_le (by omega)] at hzs
        have y1 := Same.new hD (.lst zs)
        have hzs' : RelDs H' zs (((k.parts.zip ws).map fun e => (e.1.1, e.2)).map dPr) := by rw [List.map_map]; exact hzs
        have hnd' : (((k.parts.zip ws).map fun e => (e.1.1, e.2)).map (·.1)).Nodup := by
          rw [List.map_map]
          have : (k.parts.zip ws).map ((fun q : Str × D => q.1) ∘ fun e => (e.1.1, e.2)) = ((k.parts.zip ws).map (·.1)).map (·.1) := by rw [List.map_map]; rfl
          rw [this, zip_fst hwl'.symm]
          exact hnd
        obtain ⟨bs, hp', hnv⟩ := pairs_nv (hzs'.same y1 _)
        refine ⟨LD, zs, vKV bs, rfl, upd_same, hp', fun dp hdp => ?_⟩
        have y2 := Same.new hdp (.dK (mergeK [] (vKV bs)))
        have hnv2 := hnv.tups fun b us e => y2 _ _ e
        have s4 := sm.trans (y1.trans y2)
        have s14 := s1.trans s4
        have tc4 := tc.same s14
        have hc4 := s4 _ _ hc
        have hcs4 := hcs.same s4 _
        have hdp4 : upd (upd H' LD (.lst zs)) dp (.dK (mergeK [] (vKV bs))) dp = some (.dK (mergeK [] (vKV bs))) := upd_same
        generalize upd (upd H' LD (.lst zs)) dp (.dK (mergeK [] (vKV bs))) = H4 at s4 s14 tc4 hc4 hcs4 hdp4 hnv2 ⊢
        refine ⟨_, rfl, sa, _, _, _, rfl, rfl, SqT.of tc4.s, atI_nat (j := 0) rfl, _, rfl, _, rfl, _, rfl, _, rfl, _, rfl, _, rfl, ?_⟩
        refine ⟨fa, sa, wa, kv1, kv2, r1, r2, ks, ks2, c, dp, cs, k.parts.zip ws, _, rfl, tc4, hc4, ?_, ?_, by omega, fun e he => ?_, hdp4, fun e he => ?_, fun dp2 H5 s5 en => ?_⟩
        · have : (k.parts.zip ws).map (fun e => dPart e.1) = ((k.parts.zip ws).map (·.1)).map dPart := by rw [List.map_map]; rfl
          rw [this, zip_fst hwl'.symm]
          exact hcs4
        · have : (k.parts.zip ws).map (fun e => e.1.1) = ((k.parts.zip ws).map (·.1)).map (·.1) := by rw [List.map_map]; rfl
          rw [this, zip_fst hwl'.symm]
          exact hnd
        · obtain ⟨i, hi1, hi2⟩ := zip_at he
          exact ⟨hp e.1 (List.mem_of_getElem? hi1), hws i _ _ hi2 hi1⟩
        · exact nv_val (q := (e.1.1, e.2)) hnv2 hnd' (List.mem_map_of_mem (f := fun e : (Str × Str) × D => (e.1.1, e.2)) he)
        have s15 := s14.trans s5
        refine ⟨kv2, hv', dp2, ks2, howD k, _, _, rfl, tc4.k2.same s5, hh.same s15 _, en.mono (by omega), ?_, fun u H6 s6 ru => q u _ (s15.trans s6) ru⟩
        unfold howD
        rw [if_pos hrc]
        refine .inr (.inr (.inl ⟨_, _, _, by rw [List.length_map]; omega, all2_zip hwl'.symm fun e he => ?_, rfl, rfl⟩))
        exact .inl (.inr ⟨e.1.1, envP_in (q := (e.1.1, e.2)) hnd' (List.mem_map_of_mem (f := fun e : (Str × Str) × D => (e.1.1, e.2)) he), rfl⟩)
    | false =>
      obtain ⟨p0, hp0, d0, hvk0, rfl⟩ := vk_alt wf hkx hrc hvk
      obtain ⟨a, _, rfl, ha, v0, _, rfl, r0, v1, _, rfl, r1', v2, _, rfl, r2', rfl⟩ := hv
      obtain rfl : v1 = .str p0.1 := r1'
      refine ⟨rfl, _, rfl, iteKF (decide_eq_false (by show ¬ V.str k.sort = _; rw [alt_sortP hrc]; decide +kernel)) ?_⟩
      refine ⟨_, rfl, a, _, _, _, rfl, rfl, SqT.of (s1 _ _ ha), rfl, ?_⟩
      refine ⟨_, rfl, fa, _, _, _, rfl, rfl, SqT.of tc1.f, atI_nat (j := 0) rfl, _, rfl, _, rfl, kv1, ks, k.name, k, p0.1, p0.2, rfl, wf.ksAt tc1.k1, hkx, part_at hnd hp0, fun H2 s2 => ⟨(by show 2 ≤ sizeLine; decide), fun t ht => ?_⟩⟩
      have y1 := Same.new ht (.tup [.str (Str.ofString "it"), .str p0.2])
      have s12 := s1.trans (s2.trans y1)
      have tc2 := tc.same s12
      have ht2 : upd H2 t (.tup [.str (Str.ofString "it"), .str p0.2]) t = some (.tup [.str (Str.ofString "it"), .str p0.2]) := upd_same
      generalize upd H2 t (.tup [.str (Str.ofString "it"), .str p0.2]) = H3 at s12 tc2 ht2 ⊢
      have hh3 := hh.same s12 _
      unfold howD at hh3
      rw [if_neg (by rw [hrc]; decide)] at hh3
      obtain ⟨ha0, hs, rfl, hha, hhs⟩ := hh3
      have hhs' : RelDs H3 hs ((k.parts.map fun p => (p.1, tTag k.name p.1 (tBox (S "it")))).map dPr) := by rw [List.map_map]; exact hhs
      have hnd2 : ((k.parts.map fun p => (p.1, tTag k.name p.1 (tBox (S "it")))).map (·.1)).Nodup := by rw [List.map_map]; exact hnd
      obtain ⟨bs, hp', hnv⟩ := pairs_nv hhs'
      refine ⟨_, rfl, sa, _, _, _, rfl, rfl, SqT.of tc2.s, atI_nat (j := 0) rfl, _, rfl, ha0, hs, vKV bs, rfl, hha, hp', fun dq hdq => ?_⟩
      have y2 := Same.new hdq (.dK (mergeK [] (vKV bs)))
      obtain ⟨tv, hv1, hv2⟩ := nv_val (q := (p0.1, tTag k.name p0.1 (tBox (S "it")))) hnv hnd2 (List.mem_map_of_mem (f := fun p : Str × Str => (p.1, tTag k.name p.1 (tBox (S "it")))) hp0)
      have gq : DGet (upd H3 dq (.dK (mergeK [] (vKV bs)))) dq (.str p0.1) (some tv) := by
        have := DGet.k (H := upd H3 dq (.dK (mergeK [] (vKV bs)))) (a := dq) (k := Sum.inr p0.1) upd_same
        rw [hv1] at this
        exact this
      refine ⟨_, rfl, dq, _, rfl, gq, _, rfl, _, rfl, _, rfl, _, rfl, (by show 1 ≤ sizeLine; decide), fun t4 ht4 => fun dv hdv => ?_⟩
      have y3 := Same.new ht4 (.tup [.ref t])
      have y4 := Same.new hdv (.dK [])
      have s14 := s12.trans (y2.trans y3)
      refine ⟨_, rfl, a, _, _, _, rfl, rfl, SqT.of (y4 _ _ (s14 _ _ ha)), rfl, upd_same, [(Sum.inr (S "it"), v2)], rfl, by simp, ?_⟩
      rw [upd_upd]
      have y5 := Same.new hdv (.dK (mergeK [] [(Sum.inr (S "it"), v2)]))
      have s35 := y2.trans (y3.trans y5)
      have s15 := s12.trans s35
      refine ⟨fa, sa, wa, kv1, kv2, r1, r2, ks, ks2, t4, dv, [.ref t], [((S "it", p0.2), d0)], _, rfl, tc.same s15, y5 _ _ upd_same, ⟨_, [], rfl, ⟨t, _, rfl, s35 _ _ ht2, _, _, rfl, rfl, _, _, rfl, rfl, rfl⟩, rfl⟩, by simp, by simp, fun e he => ?_, upd_same, fun e he => ?_, fun dp2 H6 s6 en => ?_⟩
      · rw [List.mem_singleton.mp he]
        exact ⟨hp p0 hp0, hvk0⟩
      · rw [List.mem_singleton.mp he]
        refine ⟨v2, ?_, r2'.same s15 _⟩
        exact vmerge_in [(S "it", v2)] [] (by simp) (S "it", v2) (by simp)
      have s16 := s15.trans s6
      refine ⟨kv2, tv, dp2, ks2, _, _, _, rfl, (tc.same s16).k2, hv2.same (s35.trans s6) _, en.mono (by simp), ?_, fun u H7 s7 ru => q u _ (s16.trans s7) ru⟩
      refine .inr (.inr (.inr (.inr (.inl ⟨_, _, _, d0, .inl (.inr ⟨S "it", ?_, rfl⟩), rfl, rfl⟩))))
      exact envP_in (ds := [(S "it", d0)]) (q := (S "it", d0)) (by simp) (by simp)
theorem turned_is (T : Tx K mg) : ∀ m, DefIs P w K mg base (2 * m + 45) "turned" ["first", "second", "ways", "kind", "value"] (spTd m)
  | 0 => ok_turned (n := 44) T (fun _ _ _ _ => False) (ok_sort_of T) (ok_parts_of T) (ok_part_kind T (ok_parts_of T)) ((worth_is T 8 100 (by omega)).mono (by omega)) (DefIs.none T.d_turned_boxes fun _ _ _ _ h => h) (fun j e => by cases e)
  | m + 1 => ok_turned (n := 2 * m + 46) T (spTB m) (ok_sort_of T) (ok_parts_of T) (ok_part_kind T (ok_parts_of T)) ((worth_is T 8 100 (by omega)).mono (by omega)) (ok_turned_boxes (n := 2 * m + 45) T (ok_goes_to T) (turned_is T m)) (fun j e => by cases e; rfl)
end
end K45

end

section
set_option Elab.async false
set_option linter.all false
set_option maxRecDepth 100000
set_option maxHeartbeats 4000000
namespace M
open PySem L2
def hStep (acc : List Str) (k : Kn) : List Str := if k.parts.any (fun p => acc.contains p.2) = true then acc ++ [k.name] else acc
def hFold (ks : List Kn) (acc : List Str) : List Str := ks.foldl hStep acc
def hangs (ks : List Kn) (x y : Str) : Bool := (hFold ks [x]).contains y
theorem hStep_mono {acc : List Str} {k : Kn} {y : Str} (h : y ∈ acc) : y ∈ hStep acc k := by
  unfold hStep
  split
  · exact List.mem_append_left _ h
  · exact h
theorem hFold_mono : ∀ (ks : List Kn) {acc : List Str} {y : Str}, y ∈ acc → y ∈ hFold ks acc
  | [], _, _, h => h
  | k :: ks, _, _, h => hFold_mono ks (hStep_mono h)
theorem hFold_new : ∀ (ks : List Kn) {acc : List Str} {y : Str}, y ∈ hFold ks acc → y ∈ acc ∨ ∃ k ∈ ks, k.name = y
  | [], _, _, h => .inl h
  | k :: ks, acc, y, h => by
    rcases hFold_new ks (acc := hStep acc k) h with h | ⟨k', hk', e⟩
    · unfold hStep at h
      split at h
      · rcases List.mem_append.mp h with h | h
        · exact .inl h
        · exact .inr ⟨k, by simp, (List.mem_singleton.mp h).symm⟩
      · exact .inl h
    · exact .inr ⟨k', by simp [hk'], e⟩
theorem hFold_len : ∀ (ks : List Kn) (acc : List Str), (hFold ks acc).length ≤ acc.length + ks.length
  | [], _ => Nat.le_refl _
  | k :: ks, acc => by
    have h1 := hFold_len ks (hStep acc k)
    have h2 : (hStep acc k).length ≤ acc.length + 1 := by
      unfold hStep
      split
      · rw [List.length_append]; exact Nat.le_refl _
      · omega
    show (hFold ks (hStep acc k)).length ≤ _
    rw [List.length_cons]
    omega
theorem hFold_step {ks : List Kn} {i : Nat} {k : Kn} {acc : List Str} (hk : ks[i]? = some k) : hFold (ks.take (i + 1)) acc = hStep (hFold (ks.take i) acc) k := by
  rw [List.take_add_one, hk]
  show (ks.take i ++ [k]).foldl hStep acc = _
  rw [List.foldl_append]
  rfl
theorem hangs_cl {ks : List Kn} (wf : KWf ks) {x : Str} {i : Nat} {k : Kn} (hk : ks[i]? = some k) (hg : hangs ks x k.name = false) {p : Str × Str} (hp : p ∈ k.parts) : p.2 = S "num" ∨ ∃ j k', j < i ∧ ks[j]? = some k' ∧ k'.name = p.2 ∧ hangs ks x k'.name = false := by
  rcases wf.ref i k hk p hp with h | ⟨j, k', hj, hkj, e⟩
  · exact .inl h
  refine .inr ⟨j, k', hj, hkj, e, ?_⟩
  cases hc : hangs ks x k'.name with
  | false => rfl
  | true =>
    exfalso
    have hi : i < ks.length := (List.getElem?_eq_some_iff.mp hk).1
    have hki : ks[i] = k := (List.getElem?_eq_some_iff.mp hk).2
    have sp : ks = ks.take i ++ k :: ks.drop (i + 1) := by
      rw [← hki, List.getElem_cons_drop, List.take_append_drop]
    have hm : k'.name ∈ hFold ks [x] := List.contains_iff_mem.mp hc
    have hf : hFold ks [x] = hFold (k :: ks.drop (i + 1)) (hFold (ks.take i) [x]) := by
      conv => lhs; rw [sp]
      unfold hFold
      rw [List.foldl_append]
    rw [hf] at hm
    have hacc : k'.name ∈ hFold (ks.take i) [x] := by
      rcases hFold_new _ hm with h | ⟨k2, hk2, e2⟩
      · exact h
      · exfalso
        obtain ⟨l, hl, el⟩ := List.mem_iff_getElem.mp hk2
        have h1 : (ks.map Kn.name)[i + l]? = some k'.name := by
          rw [List.getElem?_map]
          have : ks[i + l]? = some k2 := by
            conv => lhs; rw [sp]
            rw [List.getElem?_append_right (by rw [List.length_take]; omega), List.length_take, show i + l - min i ks.length = l by omega, List.getElem?_eq_getElem hl, el]
          rw [this, ← e2]
          rfl
        have h2 : (ks.map Kn.name)[j]? = some k'.name := by rw [List.getElem?_map, hkj]; rfl
        have := (List.getElem?_inj (l := ks.map Kn.name) (i := j) (j := i + l) (by rw [List.length_map]; omega) wf.nd).mp (h2.trans h1.symm)
        omega
    have hin : k.name ∈ hStep (hFold (ks.take i) [x]) k := by
      have hany : k.parts.any (fun p => (hFold (ks.take i) [x]).contains p.2) = true := List.any_eq_true.mpr ⟨p, hp, by rw [← e]; exact List.contains_iff_mem.mpr hacc⟩
      unfold hStep
      rw [if_pos hany]
      simp
    have : k.name ∈ hFold ks [x] := by
      rw [hf]
      exact hFold_mono (ks.drop (i + 1)) hin
    rw [show hangs ks x k.name = true from List.contains_iff_mem.mpr this] at hg
    cases hg
end M

end

section
set_option Elab.async false
set_option linter.all false
set_option maxRecDepth 100000
set_option maxHeartbeats 4000000
namespace K45
open PySem L2 M
seal L2.PE L2.PA L2.PS L2.PSs L2.PT L2.PW L2.PI L2.PG L2.PJ L2.PTs
theorem op_in_seqC {X : Cx} {K : PySem.W.Frag} (hK : X.K = K) : OpR X (compareOp .In) (rIn K false) := by subst hK; exact op_in_seq
theorem op_notIn_seqC {X : Cx} {K : PySem.W.Frag} (hK : X.K = K) : OpR X (compareOp .NotIn) (rIn K true) := by subst hK; exact op_notIn_seq
def spHangs : Sp := fun vs H Q _ => ∃ (kv : V) (ks : List Kn) (x : Str), vs = [kv, .str x] ∧ RelD H kv (dKinds ks) ∧ KWf ks ∧ ∀ l H', Same H H' → H l = none → H' l = some (.lst ((ks.filter fun k => hangs ks x k.name).map fun k => V.str k.name)) → Q (.ref l) H'
theorem pos_any {ps : List (Str × Str)} {acc : List Str} : decide (((((ps.filter fun p => acc.contains p.2).map fun p => V.str p.2).length : Nat) : Int) > 0) = ps.any fun p => acc.contains p.2 := by
  rw [List.length_map]
  cases h : ps.any fun p => acc.contains p.2 with
  | true =>
    obtain ⟨p, hp, e⟩ := List.any_eq_true.mp h
    have := List.length_pos_of_mem ((List.mem_filter (p := fun p : Str × Str => acc.contains p.2)).mpr ⟨hp, e⟩)
    exact decide_eq_true (by omega)
  | false =>
    have : (ps.filter fun p => acc.contains p.2) = [] := List.filter_eq_nil_iff.mpr fun p hp c => by
      rw [List.any_eq_true.mpr ⟨p, hp, c⟩] at h
      cases h
    rw [this]
    rfl
section
variable {P : Program} {w : World} {K : PySem.W.Frag} {mg : Str → Option Value} {base : Heap} {n m : Nat}
theorem ok__law_hangs (T : Tx K mg) : DefIs P w K mg base (n + 1) "_law_hangs" ["_law_kinds_here", "_law_name"] spHangs := by
  refine DefIs.of T.d__law_hangs sc__law_hangs (fun vs H Q E h => ?_) (fun f cdv A outer s H vs Q E hr h => ?_)
  · obtain ⟨_, _, _, rfl, _⟩ := h
    rfl
  obtain ⟨kv, ks, x, rfl, hk, wf, q⟩ := h
  have nd := sc__law_hangs.nd
  obtain ⟨ka, kus, rfl, hka, hku⟩ := hk
  have hkl := hku.length
  rw [List.length_map] at hkl
  have hfew := wf.few
  refine ⟨_, (pss_cons (ps_set (i := 2) nd rfl (by first | exact Or.inl rfl | exact Or.inr rfl) (pe_lst (pa_cons (pv 1) pa_nil star_name)))
      (pss_cons (ps_for PassesOwn.never rfl (pi_tup (pv 0)) (pg_name (i := 3) nd rfl (by first | exact Or.inl rfl | exact Or.inr rfl))
      (pss_one (ps_if (pt_cmpR op_gt (pe_callB call_len_seq rfl T.z_len PySem.boot_len (pa_cons (pe_comp ["_law_f", "_law_part", "_law_found"] [none, none, some 2] rfl (by kernel_rfl) (pi_tup (pe_ix ix_tup (pv 3) pe_int (fun _ _ => rfl))) (fun _ _ _ _ => (pg_tupC (K := K) (n := 2) rfl rfl (pgs_cons (pg_name (i := 0) (by show List.Nodup (["_law_f", "_law_part", "_law_found"] : List Str); decide +kernel) rfl (Or.inl rfl)) (pgs_cons (pg_name (i := 1) (by show List.Nodup (["_law_f", "_law_part", "_law_found"] : List Str); decide +kernel) rfl (Or.inl rfl)) pgs_nil)))) (fun _ _ _ _ => (pts_one (pt_cmpR (op_in_seqC (K := K) rfl) (pv 1) (pv 2) (by with_unfolding_all rfl)))) (fun _ _ _ _ => (pv 1))) pa_nil star_comp)) pe_int (nomark _)) (pss_one (ps_expr (pe_bm PySem.F.plainAttrs_list PySem.F.slot_list_append PySem.F.type_list_append mt_append (pv 2) (pa_cons (pe_ix ix_tup (pv 3) pe_int (fun _ _ => rfl)) pa_nil star_sub)))) pss_nil)))
      (pss_one (ps_ret (pe_comp ["_law_row", "_law_found"] [none, some 2] rfl (by kernel_rfl) (pi_tup (pv 0)) (fun _ _ _ _ => (pg_name (i := 0) (by show List.Nodup (["_law_row", "_law_found"] : List Str); decide +kernel) rfl (Or.inl rfl))) (fun _ _ _ _ => (pts_one (pt_cmpR (op_in_seqC (K := K) rfl) (pe_ix (ix_tupC (K := K) rfl) (pv 0) pe_int (fun _ _ => rfl)) (pv 1) (by with_unfolding_all rfl)))) (fun _ _ _ _ => (pe_ix (ix_tupC (K := K) rfl) (pv 0) pe_int (fun _ _ => rfl)))))))), ?_⟩
  refine ⟨_, rfl, (by show 1 ≤ sizeLine; decide), fun l hl => ?_⟩
  have y1 := Same.new hl (.lst [.str x])
  refine ⟨_, rfl, ka, rfl, ⟨_, SqT.of (y1 _ _ hka)⟩, ?_⟩
  refine for_tup (xs := kus) (fun i σ H' => ∃ o3, σ = [some (.ref ka), some (.str x), some (.ref l), o3] ∧ Same H H' ∧ H' l = some (.lst ((hFold (ks.take i) [x]).map V.str))) ⟨none, rfl, y1, upd_same⟩ (fun i σ H' _ p => ?_) ?_ ?_
  · obtain ⟨_, _, sm, _⟩ := p
    exact SqT.of (sm _ _ hka)
  · rintro i v σ H' hv ⟨o3, rfl, sm, hll⟩
    obtain ⟨d, hd', rd⟩ := (hku.same sm _).get hv
    rw [List.getElem?_map] at hd'
    obtain ⟨k, hk, rfl⟩ := Option.map_eq_some_iff.mp hd'
    have hkm := List.mem_of_getElem? hk
    obtain ⟨da, _, rfl, hda, _, _, rfl, rfl, _, _, rfl, rfl, pv', _, rfl, ⟨pa, pus, rfl, hpa, hpu⟩, rfl⟩ := rd
    have hpl := hpu.length
    rw [List.length_map] at hpl
    have h5 := wf.pts k hkm
    have hlen := hFold_len (ks.take i) [x]
    rw [List.length_take] at hlen
    refine ⟨_, rfl, da, _, _, _, rfl, rfl, SqT.of hda, rfl, pa, rfl, ⟨_, SqT.of hpa⟩, ?_⟩
    refine comp_tupG (xs := pus) (fun j zs H3 => H3 = H' ∧ zs = ((k.parts.take j).filter fun p => (hFold (ks.take i) [x]).contains p.2).map fun p => V.str p.2) ⟨rfl, rfl⟩ (fitsLt (by omega)) (fun j zs H3 _ p => by obtain ⟨rfl, _⟩ := p; exact SqT.of hpa) ?_ ?_
    · rintro j y zs H3 hy hj hly ⟨rfl, rfl⟩
      obtain ⟨d, hd', rd⟩ := hpu.get hy
      rw [List.getElem?_map] at hd'
      obtain ⟨pr, hpr, rfl⟩ := Option.map_eq_some_iff.mp hd'
      obtain ⟨b, _, rfl, hb, _, _, rfl, rfl, _, _, rfl, rfl, rfl⟩ := rd
      have tk : (k.parts.take (j + 1)).filter (fun p => (hFold (ks.take i) [x]).contains p.2) = (k.parts.take j).filter (fun p => (hFold (ks.take i) [x]).contains p.2) ++ (if (hFold (ks.take i) [x]).contains pr.2 = true then [pr] else []) := by
        rw [List.take_add_one, hpr]
        show (k.parts.take j ++ [pr]).filter _ = _
        rw [List.filter_append, List.filter_cons]
        cases (hFold (ks.take i) [x]).contains pr.2 <;> rfl
      refine ⟨b, _, rfl, SqT.of hb, rfl, _, _, rfl, _, _, rfl, rfl, ext2 rfl rfl, ?_⟩
      refine ⟨_, rfl, _, rfl, l, _, rfl, .inl (SqL.of hll), rfl, flat_strs _, _, rfl, ?_⟩
      rw [if_neg (by decide), inV_strs]
      cases hc : (hFold (ks.take i) [x]).contains pr.2 with
      | true =>
        refine iteBT (decide_eq_true (List.contains_iff_mem.mp hc)) ?_
        refine ⟨_, rfl, nxtG hj hly ⟨rfl, ?_⟩⟩
        rw [tk, if_pos hc, List.map_append]
        rfl
      | false =>
        refine iteBF (decide_eq_false fun z => by rw [List.contains_iff_mem.mpr z] at hc; cases hc) (nxtN hj hly ⟨rfl, ?_⟩)
        rw [tk, if_neg (by rw [hc]; decide), List.append_nil]
    rintro zs H3 hly ⟨rfl, rfl⟩ LD hD
    rw [show k.parts.take pus.length = k.parts from List.take_of_length_le (by omega)]
    have y2 := Same.new hD (.lst ((k.parts.filter fun p => (hFold (ks.take i) [x]).contains p.2).map fun p => V.str p.2))
    refine ⟨LD, _, rfl, .inl (SqL.of upd_same), _, _, rfl, rfl, _, rfl, ?_⟩
    cases hany : k.parts.any fun p => (hFold (ks.take i) [x]).contains p.2 with
    | true =>
      refine iteBT (by rw [pos_any]; exact hany) ?_
      refine ⟨_, rfl, .inl ⟨rfl, _, SqL.of (y2 _ _ hll)⟩, _, rfl, da, _, _, _, rfl, rfl, SqT.of (y2 _ _ hda), rfl, l, _, _, rfl, rfl, y2 _ _ hll, fitsLt ?_, _, rfl, same_upd (sm.trans y2) hl _, ?_⟩
      · rw [List.length_map]
        simp at hlen
        omega
      · rw [hFold_step hk]
        unfold hStep
        rw [if_pos hany, List.map_append]
        exact upd_same
    | false =>
      refine iteBF (by rw [pos_any]; exact hany) ⟨_, rfl, sm.trans y2, ?_⟩
      rw [hFold_step hk]
      unfold hStep
      rw [if_neg (by rw [hany]; decide)]
      exact y2 _ _ hll
  · rintro σ H' ⟨o3, rfl, sm, hll⟩
    rw [List.take_of_length_le (by omega)] at hll
    refine ⟨_, rfl, ka, rfl, ⟨_, SqT.of (sm _ _ hka)⟩, ?_⟩
    refine comp_tupG (xs := kus) (fun j zs H3 => H3 = H' ∧ zs = ((ks.take j).filter fun k => hangs ks x k.name).map fun k => V.str k.name) ⟨rfl, rfl⟩ (fitsLt (by omega)) (fun j zs H3 _ p => by obtain ⟨rfl, _⟩ := p; exact SqT.of (sm _ _ hka)) ?_ ?_
    · rintro j y zs H3 hy hj hly ⟨rfl, rfl⟩
      obtain ⟨d, hd', rd⟩ := (hku.same sm _).get hy
      rw [List.getElem?_map] at hd'
      obtain ⟨k, hk, rfl⟩ := Option.map_eq_some_iff.mp hd'
      obtain ⟨da, _, rfl, hda, _, _, rfl, rfl, _, _, rfl, rfl, pv', _, rfl, _, rfl⟩ := rd
      have tk : (ks.take (j + 1)).filter (fun k => hangs ks x k.name) = (ks.take j).filter (fun k => hangs ks x k.name) ++ (if hangs ks x k.name = true then [k] else []) := by
        rw [List.take_add_one, hk]
        show (ks.take j ++ [k]).filter _ = _
        rw [List.filter_append, List.filter_cons]
        cases hangs ks x k.name <;> rfl
      refine ⟨ext_set rfl, ?_⟩
      refine ⟨_, rfl, da, _, _, _, rfl, rfl, SqT.of hda, rfl, _, rfl, l, _, rfl, .inl (SqL.of hll), rfl, flat_strs _, _, rfl, ?_⟩
      rw [if_neg (by decide), inV_strs]
      cases hc : hangs ks x k.name with
      | true =>
        refine iteBT (decide_eq_true (List.contains_iff_mem.mp hc)) ?_
        refine ⟨_, rfl, da, _, _, _, rfl, rfl, SqT.of hda, rfl, nxtG hj hly ⟨rfl, ?_⟩⟩
        rw [tk, if_pos hc, List.map_append]
        rfl
      | false =>
        refine iteBF (decide_eq_false fun z => ?_) (nxtN hj hly ⟨rfl, ?_⟩)
        · rw [show hangs ks x k.name = true from List.contains_iff_mem.mpr z] at hc
          cases hc
        · rw [tk, if_neg (by rw [hc]; decide), List.append_nil]
    rintro zs H3 hly ⟨rfl, rfl⟩ LD hD
    rw [List.take_of_length_le (by omega)]
    exact q LD _ (sm.trans (Same.new hD _)) (none_back sm hD) upd_same
end
end K45

end

section
set_option Elab.async false
set_option linter.all false
set_option maxRecDepth 100000
set_option maxHeartbeats 4000000
namespace L2
open PySem PySem.Spec PyProof.Rows
section
variable {X : Cx}
/-- sum(l) of any ints -/
theorem call_sumA (hc : X.calm = true) : CallR X (.builtin "sum") (fun xs H Q => ∃ p, ∃ ns : List Int, xs = [.ref p] ∧ SqL X.K H p (ns.map V.int) ∧ Q (.int ns.sum) H) := by
  intro pins s σ H xs us Q I r h
  obtain ⟨p, ns, rfl, hq, q⟩ := h
  obtain ⟨u, rfl, ru⟩ := vals1 r
  cases ru
  obtain ⟨its, rv, pl, hz⟩ := I.list hq
  have hi := intsAre_of rv
  obtain ⟨xs, e⟩ := hi.allInts.items
  have hns : ns = xs.toList.map (·.1) := by rw [← hi.numsOf, ← nums_intItems, ← e]
  have hl := pl.isList
  rw [e] at hl
  have hsz : xs.size = ns.length := by rw [hns, List.length_map, Array.length_toList]
  refine sum_intListG (I.ok.hd hc) hl fun h' tk t' k => ⟨.int ns.sum, H, I.kept k, ?_, q⟩
  refine ⟨t', ?_⟩
  rw [preSum_eq, ← hns, List.take_of_length_le (by omega)]
end
end L2

end

section
set_option Elab.async false
set_option linter.all false
set_option maxRecDepth 100000
set_option maxHeartbeats 4000000
namespace M
open PySem L2
def mK (z : Str) : Kn := ⟨z, true, [(S "a", S "num")]⟩
def mKs (nms : List Str) (m : Nat) : List Kn := ((nms.drop 4).take m).map mK
theorem mKs_names (nms : List Str) (m : Nat) : (mKs nms m).map Kn.name = (nms.drop 4).take m := by
  unfold mKs
  rw [List.map_map]
  exact List.map_id _
theorem two_nd {nms : List Str} (h : nms.Nodup) {ks : List Kn} (h4 : ks.length ≤ 4) (hn : ks.map Kn.name = nms.take ks.length) (m : Nat) {ks2 : List Kn} (e : ks2 = ks ++ mKs nms m ∨ ks2 = mKs nms m ++ ks) : (ks2.map Kn.name).Nodup := by
  have key : ((ks ++ mKs nms m).map Kn.name).Nodup := by
    rw [List.map_append, hn, mKs_names]
    refine List.Nodup.sublist ?_ h
    have h1 : (nms.take ks.length).Sublist (nms.take 4) := by
      rw [show nms.take ks.length = (nms.take 4).take ks.length by rw [List.take_take, Nat.min_eq_left h4]]
      exact List.take_sublist _ _
    have h2 := h1.append (List.take_sublist m (nms.drop 4))
    rw [List.take_append_drop] at h2
    exact h2
  rcases e with rfl | rfl
  · exact key
  · rw [List.map_append] at key ⊢
    exact (List.perm_append_comm.nodup_iff).mp key
theorem two_in {nms : List Str} {ks ks2 : List Kn} {m : Nat} (e : ks2 = ks ++ mKs nms m ∨ ks2 = mKs nms m ++ ks) : ∀ k ∈ ks, k ∈ ks2 := fun k hk => by
  rcases e with rfl | rfl
  · exact List.mem_append_left _ hk
  · exact List.mem_append_right _ hk
theorem two_of {nms : List Str} {ks ks2 : List Kn} {m : Nat} (e : ks2 = ks ++ mKs nms m ∨ ks2 = mKs nms m ++ ks) {k : Kn} (hk : k ∈ ks2) : k ∈ ks ∨ ∃ z ∈ nms, k = mK z := by
  have h : k ∈ ks ∨ k ∈ mKs nms m := by
    rcases e with rfl | rfl
    · exact List.mem_append.mp hk
    · exact (List.mem_append.mp hk).symm
  rcases h with h | h
  · exact .inl h
  · obtain ⟨z, hz, rfl⟩ := List.mem_map.mp h
    exact .inr ⟨z, List.mem_of_mem_drop (List.mem_of_mem_take hz), rfl⟩
theorem two_few {nms : List Str} {ks ks2 : List Kn} {m : Nat} (hm : m ≤ 2) (h4 : ks.length ≤ 4) (e : ks2 = ks ++ mKs nms m ∨ ks2 = mKs nms m ++ ks) : ks2.length ≤ 6 := by
  have h : (mKs nms m).length ≤ 2 := by
    unfold mKs
    rw [List.length_map, List.length_take]
    omega
  rcases e with rfl | rfl <;> rw [List.length_append] <;> omega
theorem kAt_self {ks : List Kn} (nd : (ks.map Kn.name).Nodup) {k : Kn} (hk : k ∈ ks) : kAt ks k.name = some k := by
  obtain ⟨i, hi, e⟩ := List.mem_iff_getElem.mp hk
  exact find_nodup (f := Kn.name) (xs := ks) (i := i) (a := k) nd (by rw [← e]; exact List.getElem?_eq_getElem hi)
def hsN (ks : List Kn) (x : Str) : List Str := (ks.filter fun k => hangs ks x k.name).map Kn.name
theorem hsN_vs (ks : List Kn) (x : Str) : ((ks.filter fun k => hangs ks x k.name).map fun k => V.str k.name) = (hsN ks x).map V.str := by
  unfold hsN
  rw [List.map_map]
  rfl
def lessK (ks ks2 : List Kn) (x : Str) : List Kn := ks2.filter fun k => !(hsN ks x).contains k.name
theorem hsN_in {ks : List Kn} {x : Str} {k : Kn} (hk : k ∈ ks) : (hsN ks x).contains k.name = hangs ks x k.name := by
  cases h : hangs ks x k.name with
  | true => exact List.contains_iff_mem.mpr (List.mem_map.mpr ⟨k, List.mem_filter.mpr ⟨hk, h⟩, rfl⟩)
  | false =>
    rw [Bool.eq_false_iff]
    intro z
    obtain ⟨k', h1, h2⟩ := List.mem_map.mp (List.contains_iff_mem.mp z)
    have h3 : hangs ks x k'.name = true := (List.mem_filter.mp h1).2
    rw [h2, h] at h3
    cases h3
theorem less_at {ks ks2 : List Kn} (nd2 : (ks2.map Kn.name).Nodup) (sub : ∀ k ∈ ks, k ∈ ks2) (x : Str) {k : Kn} (hk : k ∈ ks) : kAt (lessK ks ks2 x) k.name = if (!hangs ks x k.name) = true then some k else none := by
  have hc := hsN_in (x := x) hk
  cases h : hangs ks x k.name with
  | true =>
    rw [if_neg (by decide)]
    unfold kAt
    refine List.find?_eq_none.mpr fun k' hk' c => ?_
    have c' : k'.name = k.name := of_decide_eq_true c
    have h3 : (!(hsN ks x).contains k'.name) = true := (List.mem_filter.mp hk').2
    rw [c', hc, h] at h3
    cases h3
  | false =>
    rw [if_pos (by decide)]
    have hm : k ∈ lessK ks ks2 x := List.mem_filter.mpr ⟨sub k hk, by show (!(hsN ks x).contains k.name) = true; rw [hc, h]; rfl⟩
    exact kAt_self (nd2.sublist (List.filter_sublist.map Kn.name)) hm
theorem less_few {ks ks2 : List Kn} {x : Str} : (lessK ks ks2 x).length ≤ ks2.length := List.length_filter_le _ _
end M

end

section
set_option Elab.async false
set_option linter.all false
set_option maxRecDepth 100000
set_option maxHeartbeats 4000000
namespace K45
open PySem L2 M
seal L2.PE L2.PA L2.PS L2.PSs L2.PT L2.PW L2.PI L2.PG L2.PJ L2.PTs
theorem catT0_any {K : PySem.W.Frag} {H : Hp} {Q : VK} {a b : Addr} {xs ys : List V} (ha : H a = some (.tup xs)) (hb : H b = some (.tup ys)) (hz : xs.length + ys.length ≤ sizeLine) (q : ∀ c H', Same H H' → H' c = some (.tup (xs ++ ys)) → Q (.ref c) H') : rCatT0 K (.ref a) (.ref b) H Q :=
  ⟨a, b, xs, ys, rfl, rfl, SqT.of ha, SqT.of hb, hz, fun e => q b _ (Same.refl _) (by rw [e]; exact hb), fun _ e => q a _ (Same.refl _) (by rw [e, List.append_nil]; exact ha), fun _ _ p hp => q p _ (Same.new hp _) upd_same⟩
theorem cut01 (ns : List Int) : cutV (ns.map V.int) none (some 1) = (ns.take 1).map V.int := by
  unfold cutV
  rw [HT.sIx_none, show ((1 : Int)) = ((1 : Nat) : Int) from rfl, HT.sIx_nat]
  cases ns with
  | nil => rfl
  | cons n ns => simp
theorem wall_keys {H : Hp} : ∀ {kvs : List (Key × V)} {ys : List Wy}, WAll H kvs ys → (kvs.map fun kv => kV kv.1) = ys.map fun y => V.str y.1
  | [], [], _ => rfl
  | kv :: kvs, y :: ys, h => by
    rw [List.map_cons, List.map_cons, wall_keys h.2, h.1.1]
    rfl
theorem keys_K (ks : List Kn) : ((ks.map wyK).map fun y => V.str y.1) = (ks.map Kn.name).map V.str := by
  rw [List.map_map, List.map_map]
  rfl
def spLaw (K : PySem.W.Frag) : Sp := fun vs H Q _ => ∃ (a : Addr) (ns : List Int), vs = [.ref a] ∧ SqL K H a (ns.map V.int) ∧ ns.length ≤ 63 ∧ ∀ H', Q (.bl true) H'
section
variable {P : Program} {w : World} {K : PySem.W.Frag} {mg : Str → Option Value} {base : Heap} {n m : Nat}
theorem ok_law (T : Tx K mg) (D__law_feed : DefIs P w K mg base n "_law_feed" ["_law_script", "_law_k"] (spFeed K)) (D__law_take : DefIs P w K mg base n "_law_take" ["_law_feed_here", "_law_many"] spTake) (D__law_names : DefIs P w K mg base n "_law_names" ["_law_cell", "_law_many"] spNames) (D__law_kinds : DefIs P w K mg base n "_law_kinds" ["_law_feed_here", "_law_names_here"] spKinds) (D__law_value : DefIs P w K mg base n "_law_value" ["_law_feed_here", "_law_kinds_here", "_law_kind"] (spLValue 6))
    (D__law_hangs : DefIs P w K mg base n "_law_hangs" ["_law_kinds_here", "_law_name"] spHangs) (D_made_ways : DefIs P w K mg base n "made_ways" ["first", "second", "told"] spMade) (D_look_ways : DefIs P w K mg base n "look_ways" ["first", "second", "ways"] spLook) (D_goes_to : DefIs P w K mg base n "goes_to" ["ways", "kind"] spGoes) (D_turned : DefIs P w K mg base n "turned" ["first", "second", "ways", "kind", "value"] (spTd 6)) :
    DefIs P w K mg base (n + 1) "law" ["_law_script"] (spLaw K) := by
  refine DefIs.of T.d_law sc_law (fun vs H Q E h => ?_) (fun f cdv A outer s H vs Q E hr h => ?_)
  · obtain ⟨_, _, rfl, _⟩ := h
    rfl
  obtain ⟨a, ns, rfl, hS, h63, k⟩ := h
  have nd := sc_law.nd
  have hu := hu_of hr
  have hu2 := hu2_of hr
  refine ⟨_, (pss_cons (ps_set (i := 1) nd rfl (by first | exact Or.inl rfl | exact Or.inr rfl) (pe_dcall D__law_names hr (pa_cons (pe_op op_fdivB (pe_callB (call_sumA rfl) rfl T.z_sum PyProof.Rows.boot_sum (pa_cons (pe_slice sl_list (pv 0) po_none (po_some pe_int)) pa_nil star_sub)) pe_int) (pa_cons pe_int pa_nil star_const) star_bin)))
      (pss_cons (ps_set (i := 2) nd rfl (by first | exact Or.inl rfl | exact Or.inr rfl) (pe_dcall D__law_kinds hr (pa_cons (pe_dcall D__law_feed hr (pa_cons (pv 0) (pa_cons pe_int pa_nil star_const) star_name)) (pa_cons (pv 1) pa_nil star_name) star_call)))
      (pss_cons (ps_set (i := 3) nd rfl (by first | exact Or.inl rfl | exact Or.inr rfl) (pe_tup (pa_cons (pv 2) (pa_cons (pe_tup pa_nil) (pa_cons (pe_tup pa_nil) pa_nil star_tup) star_tup) star_name)))
      (pss_cons (ps_set (i := 4) nd rfl (by first | exact Or.inl rfl | exact Or.inr rfl) (pe_dcall D__law_feed hr (pa_cons (pv 0) (pa_cons pe_int pa_nil star_const) star_name)))
      (pss_cons (ps_set (i := 5) nd rfl (by first | exact Or.inl rfl | exact Or.inr rfl) (pe_callTy call_tuple_of rfl T.z_tuple PyProof.Rows.boot_tuple (pa_cons (pe_comp ["_law_k", "_law_names_here"] [none, some 1] rfl (by kernel_rfl) (pi_range1 rfl T.z_range (pa_cons (pe_dcall D__law_take hr (pa_cons (pv 4) (pa_cons pe_int pa_nil star_const) star_name)) pa_nil star_call)) (fun _ _ _ _ => (pg_name (i := 0) (by show List.Nodup (["_law_k", "_law_names_here"] : List Str); decide +kernel) rfl (Or.inl rfl))) (fun _ _ _ _ => pts_nil) (fun _ _ _ _ => (pe_tup (pa_cons (pe_ix (ix_listC (K := K) rfl) (pv 1) (pe_op op_add pe_int (pv 0)) (fun _ _ => rfl)) (pa_cons pe_str (pa_cons (pe_tup (pa_cons (pe_tup (pa_cons pe_str (pa_cons pe_str pa_nil star_const) star_const)) pa_nil star_tup)) pa_nil star_tup) star_const) star_sub)))) pa_nil star_comp)))
      (pss_cons (ps_set (i := 6) nd rfl (by first | exact Or.inl rfl | exact Or.inr rfl) (pe_tup (pa_cons (pe_ix ix_list (pe_lst (pa_cons (pe_op op_catT0 (pv 2) (pv 5)) (pa_cons (pe_op op_catT0 (pv 5) (pv 2)) pa_nil star_bin) star_bin)) (pe_dcall D__law_take hr (pa_cons (pv 4) (pa_cons pe_int pa_nil star_const) star_name)) (fun _ _ => rfl)) (pa_cons (pe_tup pa_nil) (pa_cons (pe_tup pa_nil) pa_nil star_tup) star_tup) star_sub)))
      (pss_cons (ps_asg (pe_dcall D_made_ways hr (pa_cons (pv 3) (pa_cons (pv 6) (pa_cons pe_dnewK pa_nil star_dict) star_name) star_name)) (pg_tup rfl (pgs_cons (pg_name (i := 7) nd rfl (by first | exact Or.inl rfl | exact Or.inr rfl)) (pgs_cons (pg_name (i := 8) nd rfl (by first | exact Or.inl rfl | exact Or.inr rfl)) pgs_nil))))
      (pss_cons (ps_if (PW.pt (pw_or (pt_cmpR (op_neE (Nat.lt_of_succ_lt hu)) (pv 8) (pe_lst pa_nil) (nomark _)) (pw_or1 (pt_cmpR op_notT (pe_dcall D_look_ways hr (pa_cons (pv 3) (pa_cons (pv 6) (pa_cons (pv 7) pa_nil star_name) star_name) star_name)) pe_bl (nomark _))))) (pss_one (ps_ret pe_bl)) pss_nil)
      (pss_cons (ps_if (pt_cmpR (op_neL (Nat.lt_of_succ_lt hu)) (pe_comp ["_law_row", "_law_ways"] [none, some 7] rfl (by kernel_rfl) (pi_tup (pv 2)) (fun _ _ _ _ => (pg_name (i := 0) (by show List.Nodup (["_law_row", "_law_ways"] : List Str); decide +kernel) rfl (Or.inl rfl))) (fun _ _ _ _ => pts_nil) (fun _ _ _ _ => (pe_dcall D_goes_to hr (pa_cons (pv 1) (pa_cons (pe_ix (ix_tupC (K := K) rfl) (pv 0) pe_int (fun _ _ => rfl)) pa_nil star_sub) star_name)))) (pe_comp ["_law_row"] [none] rfl (by kernel_rfl) (pi_tup (pv 2)) (fun _ _ _ _ => (pg_name (i := 0) (by show List.Nodup (["_law_row"] : List Str); decide +kernel) rfl (Or.inl rfl))) (fun _ _ _ _ => pts_nil) (fun _ _ _ _ => (pe_ix (ix_tupC (K := K) rfl) (pv 0) pe_int (fun _ _ => rfl)))) (nomark _)) (pss_one (ps_ret pe_bl)) pss_nil)
      (pss_cons (ps_set (i := 9) nd rfl (by first | exact Or.inl rfl | exact Or.inr rfl) (pe_op op_cat (pe_lst (pa_cons pe_str pa_nil star_const)) (pe_callTy (call_listD rfl) rfl T.z_list PyProof.Rows.boot_list (pa_cons (pv 7) pa_nil star_name))))
      (pss_cons (ps_for PassesOwn.never rfl (pi_range2 rfl T.z_range (pa_cons pe_int (pa_cons (pe_callB (call_max2 rfl) rfl T.z_max PyProof.Rows.boot_max (pa_cons pe_int (pa_cons (pe_callB (call_min2 rfl) rfl T.z_min PyProof.Rows.boot_min (pa_cons pe_int (pa_cons (pe_callB call_len_seq rfl T.z_len PySem.boot_len (pa_cons (pv 0) pa_nil star_name)) pa_nil star_call) star_const)) pa_nil star_call) star_const)) pa_nil star_call) star_const)) (pg_name (i := 10) nd rfl (by first | exact Or.inl rfl | exact Or.inr rfl))
      (pss_cons (ps_set (i := 4) nd rfl (by first | exact Or.inl rfl | exact Or.inr rfl) (pe_dcall D__law_feed hr (pa_cons (pv 0) (pa_cons (pv 10) pa_nil star_name) star_name)))
      (pss_cons (ps_set (i := 11) nd rfl (by first | exact Or.inl rfl | exact Or.inr rfl) (pe_ix ix_list (pv 9) (pe_dcall D__law_take hr (pa_cons (pv 4) (pa_cons (pe_callB call_len_seq rfl T.z_len PySem.boot_len (pa_cons (pv 9) pa_nil star_name)) pa_nil star_call) star_name)) (fun _ _ => rfl)))
      (pss_cons (ps_set (i := 12) nd rfl (by first | exact Or.inl rfl | exact Or.inr rfl) (pe_dcall D__law_value hr (pa_cons (pv 4) (pa_cons (pv 2) (pa_cons (pv 11) pa_nil star_name) star_name) star_name)))
      (pss_one (ps_if (pt_cmpR (op_neD hu2) (pe_dcall D_turned hr (pa_cons (pv 3) (pa_cons (pv 6) (pa_cons (pv 7) (pa_cons (pv 11) (pa_cons (pv 12) pa_nil star_name) star_name) star_name) star_name) star_name)) (pv 12) (nomark _)) (pss_one (ps_ret pe_bl)) pss_nil))))))
      (pss_cons (ps_for PassesOwn.never rfl (pi_tup (pv 2)) (pg_name (i := 13) nd rfl (by first | exact Or.inl rfl | exact Or.inr rfl))
      (pss_cons (ps_set (i := 14) nd rfl (by first | exact Or.inl rfl | exact Or.inr rfl) (pe_callTy call_tuple_of rfl T.z_tuple PyProof.Rows.boot_tuple (pa_cons (pe_comp ["_law_one", "_law_kinds_here", "_law_row"] [none, some 2, some 13] rfl (by kernel_rfl) (pi_tup (pe_ix ix_tup (pv 6) pe_int (fun _ _ => rfl))) (fun _ _ _ _ => (pg_name (i := 0) (by show List.Nodup (["_law_one", "_law_kinds_here", "_law_row"] : List Str); decide +kernel) rfl (Or.inl rfl))) (fun _ _ _ _ => (pts_one (pt_cmpR (op_notIn_seqC (K := K) rfl) (pe_ix (ix_tupC (K := K) rfl) (pv 0) pe_int (fun _ _ => rfl)) (pe_dcall D__law_hangs hr (pa_cons (pv 1) (pa_cons (pe_ix (ix_tupC (K := K) rfl) (pv 2) pe_int (fun _ _ => rfl)) pa_nil star_sub) star_name)) (by with_unfolding_all rfl)))) (fun _ _ _ _ => (pv 0))) pa_nil star_comp)))
      (pss_one (ps_if (pt_cmpR (op_neL (Nat.lt_of_succ_lt hu)) (pe_ix ix_tup (pe_dcall D_made_ways hr (pa_cons (pv 3) (pa_cons (pe_tup (pa_cons (pv 14) (pa_cons (pe_tup pa_nil) (pa_cons (pe_tup pa_nil) pa_nil star_tup) star_tup) star_name)) (pa_cons pe_dnewK pa_nil star_dict) star_tup) star_name)) pe_int (fun _ _ => rfl)) (pe_dcall D__law_hangs hr (pa_cons (pv 2) (pa_cons (pe_ix ix_tup (pv 13) pe_int (fun _ _ => rfl)) pa_nil star_sub) star_name)) (nomark _)) (pss_one (ps_ret pe_bl)) pss_nil))))
      (pss_one (ps_ret pe_bl)))))))))))))), ?_⟩
  -- names
  refine ⟨_, rfl, _, rfl, a, _, rfl, hS, fun c0 hc0 => ?_⟩
  rw [cut01]
  have s0 := Same.new hc0 (.lst ((ns.take 1).map V.int))
  refine ⟨c0, ns.take 1, rfl, SqL.of upd_same, _, _, rfl, rfl, ⟨by decide, by decide⟩, _, rfl, fun b H1 nms s1 hb0 hb hok hby => ?_⟩
  have s01 := s0.trans s1
  -- kinds
  refine ⟨_, rfl, a, ns, 1, rfl, s01.seq hS, h63, by decide, fun r p q nr => ?_⟩
  have sr := Same.new nr (.lst [.int p, .int q])
  have br : b ≠ r := ne_of_none hb nr
  refine ⟨_, rfl, r, b, p, q, nms, rfl, upd_same, sr _ _ hb, hok, br, fun kv ks H2 f2 hk hK hfit => ?_⟩
  obtain ⟨wf, h4, hkn, hKp⟩ := hK
  have sH2 : Same H1 H2 := Fed.back nr sr f2
  have hb2 := sH2 _ _ hb
  have s02 := s01.trans sH2
  obtain ⟨ka, kus, rfl, hka, hku⟩ := hk
  have hkl := hku.length
  rw [List.length_map] at hkl
  -- first
  refine ⟨_, rfl, (by show 0 ≤ sizeLine; decide), fun e1 he1 => ⟨(by show 0 ≤ sizeLine; decide), fun e2 he2 => ⟨(by show 3 ≤ sizeLine; decide), fun fa hfa => ?_⟩⟩⟩
  have sF := (Same.new he1 (.tup [])).trans ((Same.new he2 (.tup [])).trans (Same.new hfa (.tup [.ref ka, .ref e1, .ref e2])))
  have hfa3 : upd (upd (upd H2 e1 (.tup [])) e2 (.tup [])) fa (.tup [.ref ka, .ref e1, .ref e2]) fa = some (.tup [.ref ka, .ref e1, .ref e2]) := upd_same
  have s03 := s02.trans sF
  have hb3 := sF _ _ hb2
  have hka3 := sF _ _ hka
  have hku3 := hku.same sF _
  clear sr f2 hfit
  generalize upd (upd (upd H2 e1 (.tup [])) e2 (.tup [])) fa (.tup [.ref ka, .ref e1, .ref e2]) = H3 at sF hfa3 s03 hb3 hka3 hku3 ⊢
  -- more
  refine ⟨_, rfl, a, ns, 2, rfl, s03.seq hS, h63, by decide, fun r2 p2 q2 nr2 => ?_⟩
  have sr2 := Same.new nr2 (.lst [.int p2, .int q2])
  refine ⟨_, rfl, r2, p2, q2, 3, rfl, upd_same, by decide, by decide, fun m0 H4 m00 m01 f4 => ⟨_, rfl, by omega, by omega, ?_⟩⟩
  have s34 : Same H3 H4 := Fed.back nr2 sr2 f4
  have hb4 := s34 _ _ hb3
  obtain ⟨mm, rfl⟩ : ∃ i : Nat, m0 = (i : Int) := ⟨m0.toNat, by omega⟩
  refine comp_range (j := 0) (fun i ys H' => Same H4 H' ∧ RelDs H' ys ((mKs nms i).map Kn.d)) (by rfl) ⟨Same.refl _, by unfold mKs; exact rfl⟩ (fitsLt (by omega)) ?_ ?_
  · rintro i ys H' hi hly ⟨sm, rd⟩
    have hi2 : 4 + i < nms.length := by rw [hok.1]; omega
    have hat : atI (nms.map V.str) (4 + (0 + (i : Int))) = some (.str nms[4 + i]) := by
      rw [show (4 + (0 + (i : Int))) = ((4 + i : Nat) : Int) by omega]
      exact atI_nat (by rw [List.getElem?_map, List.getElem?_eq_getElem hi2]; rfl)
    refine ⟨_, rfl, _, rfl, _, _, rfl, rfl, b, _, _, _, rfl, rfl, SqL.of (sm _ _ hb4), hat, (by show 2 ≤ sizeLine; decide), fun t1 ht1 => ⟨(by show 1 ≤ sizeLine; decide), fun t2 ht2 => ⟨(by show 3 ≤ sizeLine; decide), fun t3 ht3 => ?_⟩⟩⟩
    have y1 := Same.new ht1 (.tup [.str (S "a"), .str (S "num")])
    have y2 := Same.new ht2 (.tup [.ref t1])
    have y3 := Same.new ht3 (.tup [.str nms[4 + i], .str (S "rec"), .ref t2])
    have y23 := y2.trans y3
    refine nxt (by omega) hly ⟨sm.trans (y1.trans y23), ?_⟩
    have ek : mKs nms (i + 1) = mKs nms i ++ [mK nms[4 + i]] := by
      unfold mKs
      rw [List.take_add_one, List.getElem?_drop, List.getElem?_eq_getElem hi2]
      simp
    rw [ek, List.map_append]
    refine (rd.same (y1.trans y23) _).append ⟨_, [], rfl, ?_, rfl⟩
    exact ⟨t3, _, rfl, upd_same, _, _, rfl, rfl, _, _, rfl, rfl, _, _, rfl, ⟨t2, _, rfl, y3 _ _ upd_same, _, _, rfl, ⟨t1, _, rfl, y23 _ _ upd_same, _, _, rfl, rfl, _, _, rfl, rfl, rfl⟩, rfl⟩, rfl⟩
  rintro mus H5 hml ⟨sm5, hmu⟩ D1 hD1
  have hmu' : RelDs H5 mus ((mKs nms mm).map Kn.d) := hmu
  refine ⟨D1, mus, rfl, .inl ⟨SqL.of upd_same, fun ma hma => ?_⟩⟩
  have z1 := Same.new hD1 (.lst mus)
  have z2 := Same.new hma (.tup mus)
  have s46 := sm5.trans (z1.trans z2)
  have hma6 : upd (upd H5 D1 (.lst mus)) ma (.tup mus) ma = some (.tup mus) := upd_same
  have hmu6 := hmu'.same (z1.trans z2) _
  generalize upd (upd H5 D1 (.lst mus)) ma (.tup mus) = H6 at s46 hma6 hmu6 ⊢
  have hlm := hmu6.length
  rw [List.length_map] at hlm
  have hl2 : (mKs nms mm).length ≤ 2 := by
    unfold mKs
    rw [List.length_map, List.length_take]
    omega
  -- second
  have s36 := s34.trans s46
  have hz : kus.length + mus.length ≤ sizeLine := fits (by omega)
  refine ⟨_, rfl, _, rfl, catT0_any (s36 _ _ hka3) hma6 hz fun c1 H7 s7 hc1 => ⟨_, rfl, _, rfl, catT0_any (s7 _ _ hma6) ((s36.trans s7) _ _ hka3) (by omega) fun c2 H8 s8 hc2 => ⟨(by show 2 ≤ sizeLine; decide), fun l1 hl1 => ?_⟩⟩⟩
  have z3 := Same.new hl1 (.lst [.ref c1, .ref c2])
  have f8 : Fed r2 (upd H3 r2 (.lst [.int p2, .int q2])) (upd H8 l1 (.lst [.ref c1, .ref c2])) := f4.same (s46.trans (s7.trans (s8.trans z3)))
  obtain ⟨p8, q8, h8⟩ := f8.2
  have hl1r : l1 ≠ r2 := fun e => by rw [e, upd_same] at h8; cases h8
  refine ⟨_, rfl, r2, p8, q8, 2, rfl, h8, by decide, by decide, fun i0 H9 i00 i01 f9 => ?_⟩
  have tp9 := fed_tups ⟨p8, q8, h8⟩ f9
  have s39 : Same H3 H9 := Fed.back nr2 sr2 (f8.trans f9)
  have hl19 := f9.1 _ _ upd_same hl1r
  have hk8 : RelDs (upd H8 l1 (.lst [.ref c1, .ref c2])) kus (ks.map Kn.d) := hku3.same (s36.trans (s7.trans (s8.trans z3))) _
  have hm8 : RelDs (upd H8 l1 (.lst [.ref c1, .ref c2])) mus ((mKs nms mm).map Kn.d) := hmu6.same (s7.trans (s8.trans z3)) _
  have key : ∃ (sec : Addr) (sus : List V) (ks2 : List Kn), atI [V.ref c1, V.ref c2] i0 = some (.ref sec) ∧ H9 sec = some (.tup sus) ∧ RelDs H9 sus (ks2.map Kn.d) ∧ (ks2 = ks ++ mKs nms mm ∨ ks2 = mKs nms mm ++ ks) := by
    rcases (show i0 = 0 ∨ i0 = 1 by omega) with rfl | rfl
    · refine ⟨c1, _, ks ++ mKs nms mm, rfl, tp9 _ _ ((s8.trans z3) _ _ hc1), ?_, .inl rfl⟩
      rw [List.map_append]
      exact (hk8.append hm8).tups tp9 _
    · refine ⟨c2, _, mKs nms mm ++ ks, rfl, tp9 _ _ (z3 _ _ hc2), ?_, .inr rfl⟩
      rw [List.map_append]
      exact (hm8.append hk8).tups tp9 _
  obtain ⟨sec, sus, ks2, hat, hsec, hsus, eT⟩ := key
  have nd2 := two_nd hok.2.1 h4 hkn mm eT
  have sub2 := two_in eT
  have few2 := two_few (by omega) h4 eT
  have nm2 : ∀ k ∈ ks2, k.name.length ≤ 100 ∧ k.parts.length ≤ 100 := fun k hk => by
    rcases two_of eT hk with h | ⟨z, hz, rfl⟩
    · have h1 := wf.pts k h
      have h2 := (wf.nm k h).le
      rw [Array.length_toList] at h2
      exact ⟨Nat.le_trans h2 (by decide), by omega⟩
    · have h2 := (hok.2.2 z hz).le
      rw [Array.length_toList] at h2
      exact ⟨Nat.le_trans h2 (by decide), by show 1 ≤ 100; decide⟩
  have hsl := hsus.length
  rw [List.length_map] at hsl
  refine ⟨l1, _, _, _, rfl, rfl, SqL.of hl19, hat, (by show 0 ≤ sizeLine; decide), fun e3 he3 => ⟨(by show 0 ≤ sizeLine; decide), fun e4 he4 => ⟨(by show 3 ≤ sizeLine; decide), fun sa hsa => ?_⟩⟩⟩
  have sG := (Same.new he3 (.tup [])).trans ((Same.new he4 (.tup [])).trans (Same.new hsa (.tup [.ref sec, .ref e3, .ref e4])))
  have hsaA : upd (upd (upd H9 e3 (.tup [])) e4 (.tup [])) sa (.tup [.ref sec, .ref e3, .ref e4]) sa = some (.tup [.ref sec, .ref e3, .ref e4]) := upd_same
  have s3A := s39.trans sG
  have hsecA := sG _ _ hsec
  have hsusA := hsus.same sG _
  generalize upd (upd (upd H9 e3 (.tup [])) e4 (.tup [])) sa (.tup [.ref sec, .ref e3, .ref e4]) = HA at sG hsaA s3A hsecA hsusA ⊢
  have hkA : RelD HA (.ref ka) (dKinds ks) := ⟨ka, kus, rfl, s3A _ _ hka3, hku3.same s3A _⟩
  have hk2A : RelD HA (.ref sec) (dKinds ks2) := ⟨sec, sus, rfl, hsecA, hsusA⟩
  have hfaA := s3A _ _ hfa3
  have sHA := s03.trans s3A
  clear f9 tp9 hl19 hk8 hm8 f8 z3 f4 sr2 hsecA hsusA
  -- made_ways
  refine ⟨_, rfl, _, rfl, fun ta hta => ?_⟩
  have yT := Same.new hta (.dK [])
  refine ⟨fa, sa, ta, .ref ka, .ref sec, _, _, ks, ks2, fun _ => true, rfl, yT _ _ hfaA, yT _ _ hsaA, upd_same, hkA.same yT _, wf, ⟨hk2A.same yT _, by omega, fun k hk => (nm2 k hk).2⟩, fun k hk => ?_, fun i k hi _ p hp => ?_, fun rr wa la kvs HB sB nrr nwa nla hrr hwa hwl hla => ?_⟩
  · rw [if_pos rfl]
    exact kAt_self nd2 (sub2 k hk)
  · rcases wf.ref i k hi p hp with h | ⟨j, k', hj, hkj, e⟩
    · exact .inl h
    · exact .inr ⟨j, k', hj, hkj, e, rfl⟩
  have eF : (ks.filter fun _ => true) = ks := List.filter_eq_self.mpr fun _ _ => rfl
  have eN : (ks.filter fun _ => !true) = [] := List.filter_eq_nil_iff.mpr fun _ _ c => by cases c
  rw [eF] at hwl
  rw [eN] at hla
  have sAB := yT.trans sB
  have hfaB := sAB _ _ hfaA
  have hsaB := sAB _ _ hsaA
  have hkB := hkA.same sAB _
  have hk2B : KsAt HB (.ref sec) ks2 := ⟨hk2A.same sAB _, by omega, fun k hk => (nm2 k hk).2⟩
  have sHB := sHA.trans sAB
  clear sB yT
  refine ⟨rr, _, rfl, SqT.of hrr, rfl, _, _, rfl, _, _, rfl, rfl, ?_⟩
  -- what is lacking, look_ways
  refine ⟨_, rfl, (by show 0 ≤ sizeLine; decide), fun l2 hl2' => ⟨la, l2, _, rfl, rfl, SqL.of ((Same.new hl2' _) _ _ hla), SqL.of upd_same, _, rfl, iteBF rfl ?_⟩⟩
  have yC := Same.new hl2' (.lst [])
  refine ⟨_, rfl, _, rfl, _, rfl, fa, sa, wa, .ref ka, .ref sec, _, _, kvs, ks, ks2, rfl, yC _ _ hfaB, yC _ _ hsaB, hkB.same yC _, wf, hk2B.same yC, fun k hk => (nm2 k hk).1, fun k hk => kAt_self nd2 (sub2 k hk), yC _ _ hwa, hwl.tups (fun b us e => yC _ _ e), fun HC sC => ⟨rfl, _, rfl, _, rfl, iteF ?_⟩⟩
  have sBC := yC.trans sC
  have hfaC := sBC _ _ hfaB
  have hsaC := sBC _ _ hsaB
  have hkC := hkB.same sBC _
  have hk2C := hk2B.same sBC
  have hwaC := sBC _ _ hwa
  have hwlC : WAll HC kvs (ks.map wyK) := hwl.tups (fun b us e => sBC _ _ e)
  have sHC := sHB.trans sBC
  clear yC sC sBC
  have hwC : WaysAt HC wa (ks.map wyK) := ⟨kvs, .inl hwaC, hwlC⟩
  obtain ⟨ka', kus', ee, hkaC, hkuC⟩ := id hkC
  cases ee
  have hklC := hkuC.length
  rw [List.length_map] at hklC
  -- where the kinds go
  refine ⟨_, rfl, ka, rfl, ⟨_, SqT.of hkaC⟩, ?_⟩
  refine comp_tup (j := 0) (xs := kus') (fun i zs H' => H' = HC ∧ zs = ((ks.take i).map Kn.name).map V.str) (by rfl) ⟨rfl, rfl⟩ (fitsLt (by omega)) (fun i zs H' _ p => by obtain ⟨rfl, _⟩ := p; exact SqT.of hkaC) ?_ ?_
  · rintro i x zs H' hx hly ⟨rfl, rfl⟩
    obtain ⟨d, hd, rd⟩ := hkuC.get hx
    rw [List.getElem?_map] at hd
    obtain ⟨k', hk', rfl⟩ := Option.map_eq_some_iff.mp hd
    obtain ⟨da, _, rfl, hda, _, _, rfl, rfl, _, _, rfl, rfl, v3, _, rfl, r3, rfl⟩ := rd
    have hi : i < kus'.length := (List.getElem?_eq_some_iff.mp hx).1
    refine ⟨_, rfl, _, rfl, da, _, _, _, rfl, rfl, SqT.of hda, rfl, wa, ks.map wyK, k'.name, rfl, hwC, ?_⟩
    rw [goes_self (.inr ⟨k', List.mem_of_getElem? hk', rfl⟩)]
    refine nxt hi hly ⟨rfl, ?_⟩
    rw [List.take_add_one, hk']
    simp [optV]
  rintro zs H' hly ⟨rfl, rfl⟩ D2 hD2
  rw [List.take_of_length_le (by omega)]
  have y1 := Same.new hD2 (.lst ((ks.map Kn.name).map V.str))
  refine ⟨_, rfl, ka, rfl, ⟨_, SqT.of (y1 _ _ hkaC)⟩, ?_⟩
  refine comp_tup (j := 0) (xs := kus') (fun i zs H2 => H2 = upd H' D2 (.lst ((ks.map Kn.name).map V.str)) ∧ zs = ((ks.take i).map Kn.name).map V.str) (by rfl) ⟨rfl, rfl⟩ (fitsLt (by omega)) (fun i zs H' _ p => by obtain ⟨rfl, _⟩ := p; exact SqT.of (y1 _ _ hkaC)) ?_ ?_
  · rintro i x zs H2 hx hly ⟨rfl, rfl⟩
    obtain ⟨d, hd, rd⟩ := (hkuC.same y1 _).get hx
    rw [List.getElem?_map] at hd
    obtain ⟨k', hk', rfl⟩ := Option.map_eq_some_iff.mp hd
    obtain ⟨da, _, rfl, hda, _, _, rfl, rfl, _, _, rfl, rfl, v3, _, rfl, r3, rfl⟩ := rd
    have hi : i < kus'.length := (List.getElem?_eq_some_iff.mp hx).1
    refine ⟨_, rfl, da, _, _, _, rfl, rfl, SqT.of hda, rfl, nxt hi hly ⟨rfl, ?_⟩⟩
    rw [List.take_add_one, hk']
    simp
  rintro zs H2' hly ⟨rfl, rfl⟩ D3 hD3
  rw [List.take_of_length_le (by omega)]
  have y2 := Same.new hD3 (.lst ((ks.map Kn.name).map V.str))
  refine ⟨D2, D3, _, _, rfl, rfl, SqL.of (y2 _ _ upd_same), SqL.of upd_same, flat_strs _, flat_strs _, ?_⟩
  rw [eq_strs]
  refine ⟨_, rfl, iteF ?_⟩
  have y12 := y1.trans y2
  -- goes
  refine ⟨(by show 1 ≤ sizeLine; decide), fun l3 hl3 => ?_⟩
  have y3 := Same.new hl3 (.lst [.str (Str.ofString "num")])
  have y13 := y12.trans y3
  refine ⟨_, rfl, wa, kvs, rfl, y13 _ _ hwaC, fun l4 hl4 => ?_⟩
  rw [wall_keys hwlC, keys_K]
  have y4 := Same.new hl4 (.lst ((ks.map Kn.name).map V.str))
  refine ⟨l3, l4, _, _, rfl, rfl, y4 _ _ upd_same, upd_same, fits (by rw [List.length_map, List.length_map]; show 1 + _ ≤ _; omega), fun g hg => ?_⟩
  have y5 := Same.new hg (.lst ([.str (Str.ofString "num")] ++ (ks.map Kn.name).map V.str))
  have hgD : upd (upd (upd (upd (upd H' D2 (.lst ((ks.map Kn.name).map V.str))) D3 (.lst ((ks.map Kn.name).map V.str))) l3 (.lst [.str (Str.ofString "num")])) l4 (.lst ((ks.map Kn.name).map V.str))) g (.lst ([.str (Str.ofString "num")] ++ (ks.map Kn.name).map V.str)) g = some (.lst ([.str (Str.ofString "num")] ++ (ks.map Kn.name).map V.str)) := upd_same
  have sCD := y13.trans (y4.trans y5)
  generalize upd (upd (upd (upd (upd H' D2 (.lst ((ks.map Kn.name).map V.str))) D3 (.lst ((ks.map Kn.name).map V.str))) l3 (.lst [.str (Str.ofString "num")])) l4 (.lst ((ks.map Kn.name).map V.str))) g (.lst ([.str (Str.ofString "num")] ++ (ks.map Kn.name).map V.str)) = HD at hgD sCD ⊢
  have sHD := sHC.trans sCD
  have tcD : TC HD fa sa wa (.ref ka) (.ref sec) [.ref e1, .ref e2] [.ref e3, .ref e4] ks ks2 := ⟨sCD _ _ hfaC, sCD _ _ hsaC, hkC.same sCD _, wf, hk2C.same sCD, hwC.same sCD⟩
  clear y1 y2 y12 y3 y13 y4 y5
  have hfew := wf.few
  -- values
  refine ⟨_, rfl, a, _, rfl, .inl (sHD.seq hS), _, _, rfl, _, _, rfl, _, _, rfl, ⟨by decide, by decide, by split <;> split <;> omega, by split <;> split <;> omega⟩, ?_⟩
  refine for_range (fun i σ HX => ∃ o4 o10 o11 o12, σ = [some (.ref a), some (.ref b), some (.ref ka), some (.ref fa), o4, some (.ref ma), some (.ref sa), some (.ref wa), some (.ref la), some (.ref g), o10, o11, o12, none, none] ∧ Same HD HX) ⟨_, none, none, none, rfl, Same.refl _⟩ ?_ ?_
  · rintro i σ HX hi ⟨o4, o10, o11, o12, rfl, sX⟩
    refine ⟨_, rfl, _, rfl, a, ns, _, rfl, (sHD.trans sX).seq hS, h63, by omega, fun r5 p5 q5 nr5 => ?_⟩
    have sr5 := Same.new nr5 (.lst [.int p5, .int q5])
    have hgX := sr5 _ _ (sX _ _ hgD)
    have hgr : g ≠ r5 := ne_of_none (sX _ _ hgD) nr5
    have hgl : ([V.str (Str.ofString "num")] ++ (ks.map Kn.name).map V.str).length = 1 + ks.length := by rw [List.length_append, List.length_map, List.length_map]; rfl
    refine ⟨_, rfl, _, rfl, _, rfl, g, _, rfl, .inl (SqL.of hgX), r5, p5, q5, _, rfl, upd_same, by rw [hgl]; omega, by rw [hgl]; omega, fun r6 H6 r60 r61 f6 => ?_⟩
    rw [hgl] at r61
    obtain ⟨x, hx, hxin⟩ := names_at (ks := ks) r60 (by omega)
    refine ⟨g, _, _, _, rfl, rfl, SqL.of (f6.1 _ _ hgX hgr), hx, ?_⟩
    have s6 : Same HX H6 := Fed.back nr5 sr5 f6
    obtain ⟨p6, q6, h6⟩ := f6.2
    refine ⟨_, rfl, _, rfl, _, rfl, r5, .ref ka, p6, q6, ks, x, rfl, h6, tcD.k1.same (sX.trans s6) _, wf, hxin.mono hfew, fun u d H7 f7 ru hvk => ?_⟩
    have s7 : Same HX H7 := Fed.back nr5 sr5 (f6.trans f7)
    have hdp := vk_deep wf 6 _ _ (hxin.mono hfew) hvk
    refine ⟨_, rfl, _, rfl, _, rfl, _, rfl, _, rfl, fa, sa, wa, .ref ka, .ref sec, _, _, ks, ks2, x, u, d, rfl, tcD.same (sX.trans s7), hxin.mono hfew, ru, hvk, fun u2 H8 s8 r8 => ?_⟩
    refine ⟨_, rfl, d, r8, ru.same s8 _, by omega, _, rfl, iteF ?_⟩
    exact ⟨_, _, _, _, rfl, sX.trans (s7.trans s8)⟩
  rintro σ HE ⟨o4, o10, o11, o12, rfl, sDE⟩
  have tcE := tcD.same sDE
  have sHE := sHD.trans sDE
  obtain ⟨ka', kusE, ee, hkaE, hkuE⟩ := id tcE.k1
  cases ee
  have hklE := hkuE.length
  rw [List.length_map] at hklE
  obtain ⟨sec', susE, ee, hsecE, hsusE⟩ := id tcE.k2.1
  cases ee
  have hslE := hsusE.length
  rw [List.length_map] at hslE
  -- what hangs on a kind
  refine ⟨_, rfl, ka, rfl, ⟨_, SqT.of hkaE⟩, ?_⟩
  refine for_tup (xs := kusE) (fun i σ HX => ∃ o13 o14, σ = [some (.ref a), some (.ref b), some (.ref ka), some (.ref fa), o4, some (.ref ma), some (.ref sa), some (.ref wa), some (.ref la), some (.ref g), o10, o11, o12, o13, o14] ∧ Same HE HX) ⟨_, _, rfl, Same.refl _⟩ (fun i σ H' _ p => ?_) ?_ ?_
  · obtain ⟨_, _, _, sm⟩ := p
    exact SqT.of (sm _ _ hkaE)
  · rintro i v σ HX hv ⟨o13, o14, rfl, sX⟩
    obtain ⟨d, hd', rd⟩ := (hkuE.same sX _).get hv
    rw [List.getElem?_map] at hd'
    obtain ⟨kk, hkk, rfl⟩ := Option.map_eq_some_iff.mp hd'
    obtain ⟨da, _, rfl, hda, _, _, rfl, rfl, _, _, rfl, rfl, pv', _, rfl, rpv, rfl⟩ := rd
    have tcX := tcE.same sX
    have hsecX := sX _ _ hsecE
    have hsusX := hsusE.same sX _
    refine ⟨_, rfl, sa, _, _, _, rfl, rfl, SqT.of tcX.s, rfl, sec, rfl, ⟨_, SqT.of hsecX⟩, ?_⟩
    refine comp_tupG (xs := susE) (fun j zs H3 => Same HX H3 ∧ zs.length ≤ j ∧ RelDs H3 zs (((ks2.take j).filter fun k => !(hsN ks kk.name).contains k.name).map Kn.d)) ⟨Same.refl _, Nat.le_refl _, rfl⟩ (fitsLt (by omega)) (fun j zs H3 _ p => SqT.of (p.1 _ _ hsecX)) ?_ ?_
    · rintro j y zs H3 hy hj hly ⟨sm, hzl, hzs⟩
      obtain ⟨d, hd', rd⟩ := (hsusX.same sm _).get hy
      have ry := rd
      rw [List.getElem?_map] at hd'
      obtain ⟨k2, hk2, rfl⟩ := Option.map_eq_some_iff.mp hd'
      obtain ⟨db, _, rfl, hdb, _, _, rfl, rfl, _, _, rfl, rfl, pv2, _, rfl, rpv2, rfl⟩ := rd
      have tk : (ks2.take (j + 1)).filter (fun k => !(hsN ks kk.name).contains k.name) = (ks2.take j).filter (fun k => !(hsN ks kk.name).contains k.name) ++ (if (!(hsN ks kk.name).contains k2.name) = true then [k2] else []) := by
        rw [List.take_add_one, hk2]
        show (ks2.take j ++ [k2]).filter _ = _
        rw [List.filter_append, List.filter_cons]
        cases (hsN ks kk.name).contains k2.name <;> rfl
      refine ⟨ext_set rfl, ?_⟩
      refine ⟨_, rfl, db, _, _, _, rfl, rfl, SqT.of hdb, rfl, _, rfl, _, rfl, da, _, _, _, rfl, rfl, SqT.of (sm _ _ hda), rfl, .ref ka, ks, kk.name, rfl, (tcX.same sm).k1, wf, fun l H4 s4 nl hl => ?_⟩
      rw [hsN_vs] at hl
      refine ⟨l, _, rfl, .inl (SqL.of hl), rfl, flat_strs _, _, rfl, ?_⟩
      rw [if_pos rfl, inV_strs]
      have smm := sm.trans s4
      cases hc : (hsN ks kk.name).contains k2.name with
      | true =>
        refine iteBF (by rw [decide_eq_true (List.contains_iff_mem.mp hc)]; rfl) (nxtN hj hly ⟨smm, by omega, ?_⟩)
        rw [tk, if_neg (by rw [hc]; decide), List.append_nil]
        exact hzs.same s4 _
      | false =>
        refine iteBT (by rw [decide_eq_false fun z => by rw [List.contains_iff_mem.mpr z] at hc; cases hc]; rfl) ?_
        refine ⟨_, rfl, nxtG hj hly ⟨smm, by rw [List.length_append, List.length_singleton]; omega, ?_⟩⟩
        rw [tk, if_pos (by rw [hc]; rfl), List.map_append]
        exact (hzs.same s4 _).append ⟨_, [], rfl, ry.same s4 _, rfl⟩
    rintro zs H3 hly ⟨sm, hzl, hzs⟩ D4 hD4
    rw [show ks2.take susE.length = ks2 from List.take_of_length_le (by omega)] at hzs
    refine ⟨D4, zs, rfl, .inl ⟨SqL.of upd_same, fun ls hls => ?_⟩⟩
    have w1 := Same.new hD4 (.lst zs)
    have w2 := Same.new hls (.tup zs)
    have sY := sm.trans (w1.trans w2)
    have hlsY : upd (upd H3 D4 (.lst zs)) ls (.tup zs) ls = some (.tup zs) := upd_same
    have hzsY := hzs.same (w1.trans w2) _
    generalize upd (upd H3 D4 (.lst zs)) ls (.tup zs) = HY at sY hlsY hzsY ⊢
    have tcY := tcX.same sY
    refine ⟨_, rfl, _, rfl, (by show 0 ≤ sizeLine; decide), fun e5 he5 => ⟨(by show 0 ≤ sizeLine; decide), fun e6 he6 => ⟨(by show 3 ≤ sizeLine; decide), fun sl hsl' => fun ta2 hta2 => ?_⟩⟩⟩
    have w3 := (Same.new he5 (.tup [])).trans ((Same.new he6 (.tup [])).trans (Same.new hsl' (.tup [.ref ls, .ref e5, .ref e6])))
    have w4 := Same.new hta2 (.dK [])
    have w34 := w3.trans w4
    have tcZ := tcY.same w34
    refine ⟨fa, sl, ta2, .ref ka, .ref ls, _, _, ks, lessK ks ks2 kk.name, fun y => !hangs ks kk.name y, rfl, tcZ.f, w4 _ _ upd_same, upd_same, tcZ.k1, wf, ⟨⟨ls, zs, rfl, w34 _ _ hlsY, hzsY.same w34 _⟩, Nat.le_trans less_few (by omega), fun k hk => (nm2 k (List.mem_filter.mp hk).1).2⟩, fun k hk => less_at nd2 sub2 kk.name hk, fun i k hi hg p hp => ?_, fun rr2 wa2 la2 kvs2 HZ sZ _ _ _ hrr2 _ _ hla2 => ?_⟩
    · have hg' : hangs ks kk.name k.name = false := by
        cases hh : hangs ks kk.name k.name with
        | false => rfl
        | true =>
          have hg2 : (!hangs ks kk.name k.name) = true := hg
          rw [hh] at hg2
          cases hg2
      rcases hangs_cl wf hi hg' hp with h | ⟨j, k', hj, hkj, e, hc⟩
      · exact .inl h
      · exact .inr ⟨j, k', hj, hkj, e, by show (!hangs ks kk.name k'.name) = true; rw [hc]; rfl⟩
    have eG : (ks.filter fun k => !(fun y => !hangs ks kk.name y) k.name) = ks.filter fun k => hangs ks kk.name k.name := by
      congr 1
      funext k
      exact Bool.not_not _
    rw [eG, hsN_vs] at hla2
    have tcW := tcZ.same sZ
    have sXZ := sY.trans (w34.trans sZ)
    refine ⟨rr2, _, _, _, rfl, rfl, SqT.of hrr2, rfl, _, rfl, _, rfl, da, _, _, _, rfl, rfl, SqT.of (sXZ _ _ hda), rfl, .ref ka, ks, kk.name, rfl, tcW.k1, wf, fun l5 H5 s5 nl5 hl5 => ?_⟩
    rw [hsN_vs] at hl5
    refine ⟨la2, l5, _, _, rfl, rfl, SqL.of (s5 _ _ hla2), SqL.of hl5, flat_strs _, flat_strs _, ?_⟩
    rw [eq_strs]
    refine ⟨_, rfl, iteF ?_⟩
    exact ⟨_, _, rfl, sX.trans (sXZ.trans s5)⟩
  · rintro σ HX ⟨o13, o14, rfl, sX⟩
    exact k HX
theorem law_is (T : Tx K mg) : DefIs P w K mg base 60 "law" ["_law_script"] (spLaw K) := by
  have take : ∀ k, DefIs P w K mg base (k + 1) "_law_take" ["_law_feed_here", "_law_many"] spTake := fun k => ok__law_take T
  have parts : DefIs P w K mg base 30 "_law_parts" ["_law_feed_here", "_law_kinds_here", "_law_sort", "_law_names_here"] spParts := ok__law_parts T (take 28) ((size_is T 6 (by omega)).mono (by omega))
  have made : DefIs P w K mg base 59 "made_ways" ["first", "second", "told"] spMade := ok_made_ways T (ok_how_by_rules (n := 57) T (ok_sort_of T) (ok_parts_of T) (ok_tags_by_rules (n := 56) T (ok_goes_to T) (ok_parts_of T)) (ok_terms_by_rules (n := 56) T (fun _ _ _ _ => False) (ok_goes_to T) (DefIs.none T.d_nought_term fun _ _ _ _ h => h)))
  have nk : DefIs P w K mg base 57 "need_kind" ["kinds", "term", "boxes", "kind"] (spNeedKind (KdL 8) 100) := ok_need_kind (n := 56) T (KdL 8) ((kind_is T 8 100 (by omega)).mono (by omega)) (ok_need_same T)
  have look : DefIs P w K mg base 59 "look_ways" ["first", "second", "ways"] spLook := ok_look_ways (n := 58) T (ok_look_ends (n := 57) T (ok_sort_of T) (ok_need_there (n := 56) T (ok_sort_of T))) (ok_look_form (n := 57) T (ok_is_term T) (ok_sort_of T) (ok_parts_of T)) (ok_look_terms (n := 57) T (ok_sort_of T) (ok_parts_of T) (ok_boxes_over (n := 56) T (ok_goes_to T)) nk)
  exact ok_law (n := 59) T (ok__law_feed T) (ok__law_take T) (ok__law_names T) ((ok__law_kinds T (take 29) parts).mono (by omega)) ((value_is T 6).mono (by omega)) (ok__law_hangs T) made look (ok_goes_to T) ((turned_is T 6).mono (by omega))
end
end K45

end

set_option Elab.async false
set_option linter.all false
set_option maxRecDepth 100000
set_option maxHeartbeats 4000000
noncomputable def PySem.W.Fast.tw2661689119517674010 : Nat := 0
noncomputable def PySem.W.Fast.tw14106614027581575269 : Nat := 0
noncomputable def PySem.W.Fast.tw1294848727744597280 : Nat := 0
noncomputable def PySem.W.Fast.tw2064420858663038502 : Nat := 0
noncomputable def PySem.W.Fast.tw9755769975175996004 : Nat := 0
noncomputable def PySem.W.Fast.tw10176757254225596153 : Nat := 0
noncomputable def PySem.W.Fast.tw8301965904208961879 : Nat := 0
noncomputable def PySem.W.Fast.tw1609473625101426671 : Nat := 0
noncomputable def PySem.W.Fast.tw14869704100246748065 : Nat := 0
noncomputable def PySem.W.Fast.tw1030591758849874986 : Nat := 0
noncomputable def PySem.W.Fast.tw12507201443887549536 : Nat := 0
noncomputable def PySem.W.Fast.tw8208514354000659547 : Nat := 0
noncomputable def PySem.W.Fast.tw14766019931122706532 : Nat := 0
noncomputable def PySem.W.Fast.tw4430381568381477194 : Nat := 0
noncomputable def PySem.W.Fast.tw7351262293317339971 : Nat := 0
noncomputable def PySem.W.Fast.tw17336105902645103421 : Nat := 0
noncomputable def PySem.W.Fast.tw15766231905224646309 : Nat := 0
noncomputable def PySem.W.Fast.tw7576039889596191375 : Nat := 0
noncomputable def PySem.W.Fast.tw2614858129214084387 : Nat := 0
noncomputable def PySem.W.Fast.tw8781952719239924716 : Nat := 0
noncomputable def PySem.W.Fast.tw7181313230783589822 : Nat := 0
noncomputable def PySem.W.Fast.tw11386222818494040881 : Nat := 0
noncomputable def PySem.W.Fast.tw7311491279020854847 : Nat := 0
noncomputable def PySem.W.Fast.tw12719906679192586840 : Nat := 0
noncomputable def PySem.W.Fast.tw10796775380353166021 : Nat := 0
noncomputable def PySem.W.Fast.tw14681845394175782572 : Nat := 0
noncomputable def PySem.W.Fast.tw12142470444211698282 : Nat := 0
open PySem PySem.W PyProof.Rows
set_option maxRecDepth 100000 in
set_option maxHeartbeats 0 in
theorem PySem.Challenge.cw_swapstride_k45_same_make_stays_holds : PySem.Challenge.rw_swapstride_k45_same_make_stays.Holds := by
  w_on; o_law; k_head; (case hw => w_witness2)
  k_fill
  refine L2.walk_of (l := PySem.Challenge.rw_swapstride_k45_same_make_stays) (n := 63) (k := 60) (x := "_law_script") (CX := fun _ => L2.CX0) (sp := fun _ => K45.spLaw _) rfl (by decide) rfl ⟨rfl, by decide, by decide⟩ (fun w h Y => PySem.W.kIn_of Y) ?F (fun _ _ a ns hl _ hS => ⟨a, ns, rfl, hS, hl, fun _ => rfl⟩) fun _ _ _ _ _ z => z
  case F =>
    intro w mg fa h KX G hmg
    have d_need_once : L2.DefTx (L2.KOf KX) mg "need_once" K45.s_need_once ["names", "things"] := by
      dsimp only [L2.KOf]
      refine' L2.deftx_mk KX G ?a ?l ?c ?k ?b
      (case a => k_is); (case l => k_is); (case c => k_is); (case k => k_is)
      (case b => exact fun _ _ _ _ _ _ us hl => match us, hl with | [_, _], _ => rfl)
    have d_sort_of : L2.DefTx (L2.KOf KX) mg "sort_of" K45.s_sort_of ["kinds", "K"] := by
      dsimp only [L2.KOf]
      refine' L2.deftx_mk KX G ?a ?l ?c ?k ?b
      (case a => k_is); (case l => k_is); (case c => k_is); (case k => k_is)
      (case b => exact fun _ _ _ _ _ _ us hl => match us, hl with | [_, _], _ => rfl)
    have d_parts_of : L2.DefTx (L2.KOf KX) mg "parts_of" K45.s_parts_of ["kinds", "K"] := by
      dsimp only [L2.KOf]
      refine' L2.deftx_mk KX G ?a ?l ?c ?k ?b
      (case a => k_is); (case l => k_is); (case c => k_is); (case k => k_is)
      (case b => exact fun _ _ _ _ _ _ us hl => match us, hl with | [_, _], _ => rfl)
    have d_need_there : L2.DefTx (L2.KOf KX) mg "need_there" K45.s_need_there ["kinds", "kind"] := by
      dsimp only [L2.KOf]
      refine' L2.deftx_mk KX G ?a ?l ?c ?k ?b
      (case a => k_is); (case l => k_is); (case c => k_is); (case k => k_is)
      (case b => exact fun _ _ _ _ _ _ us hl => match us, hl with | [_, _], _ => rfl)
    have d_kind_of : L2.DefTx (L2.KOf KX) mg "kind_of" K45.s_kind_of ["kinds", "term", "boxes"] := by
      dsimp only [L2.KOf]
      refine' L2.deftx_mk KX G ?a ?l ?c ?k ?b
      (case a => k_is); (case l => k_is); (case c => k_is); (case k => k_is)
      (case b => exact fun _ _ _ _ _ _ us hl => match us, hl with | [_, _, _], _ => rfl)
    have d_num_kind : L2.DefTx (L2.KOf KX) mg "num_kind" K45.s_num_kind ["n"] := by
      dsimp only [L2.KOf]
      refine' L2.deftx_mk KX G ?a ?l ?c ?k ?b
      (case a => k_is); (case l => k_is); (case c => k_is); (case k => k_is)
      (case b => exact fun _ _ _ _ _ _ us hl => match us, hl with | [_], _ => rfl)
    have d_box_kind : L2.DefTx (L2.KOf KX) mg "box_kind" K45.s_box_kind ["x", "boxes"] := by
      dsimp only [L2.KOf]
      refine' L2.deftx_mk KX G ?a ?l ?c ?k ?b
      (case a => k_is); (case l => k_is); (case c => k_is); (case k => k_is)
      (case b => exact fun _ _ _ _ _ _ us hl => match us, hl with | [_, _], _ => rfl)
    have d_op_kind : L2.DefTx (L2.KOf KX) mg "op_kind" K45.s_op_kind ["kinds", "term", "boxes"] := by
      dsimp only [L2.KOf]
      refine' L2.deftx_mk KX G ?a ?l ?c ?k ?b
      (case a => k_is); (case l => k_is); (case c => k_is); (case k => k_is)
      (case b => exact fun _ _ _ _ _ _ us hl => match us, hl with | [_, _, _], _ => rfl)
    have d_rec_kind : L2.DefTx (L2.KOf KX) mg "rec_kind" K45.s_rec_kind ["kinds", "term", "boxes"] := by
      dsimp only [L2.KOf]
      refine' L2.deftx_mk KX G ?a ?l ?c ?k ?b
      (case a => k_is); (case l => k_is); (case c => k_is); (case k => k_is)
      (case b => exact fun _ _ _ _ _ _ us hl => match us, hl with | [_, _, _], _ => rfl)
    have d_get_kind : L2.DefTx (L2.KOf KX) mg "get_kind" K45.s_get_kind ["kinds", "term", "boxes"] := by
      dsimp only [L2.KOf]
      refine' L2.deftx_mk KX G ?a ?l ?c ?k ?b
      (case a => k_is); (case l => k_is); (case c => k_is); (case k => k_is)
      (case b => exact fun _ _ _ _ _ _ us hl => match us, hl with | [_, _, _], _ => rfl)
    have d_tag_kind : L2.DefTx (L2.KOf KX) mg "tag_kind" K45.s_tag_kind ["kinds", "term", "boxes"] := by
      dsimp only [L2.KOf]
      refine' L2.deftx_mk KX G ?a ?l ?c ?k ?b
      (case a => k_is); (case l => k_is); (case c => k_is); (case k => k_is)
      (case b => exact fun _ _ _ _ _ _ us hl => match us, hl with | [_, _, _], _ => rfl)
    have d_case_kind : L2.DefTx (L2.KOf KX) mg "case_kind" K45.s_case_kind ["kinds", "term", "boxes"] := by
      dsimp only [L2.KOf]
      refine' L2.deftx_mk KX G ?a ?l ?c ?k ?b
      (case a => k_is); (case l => k_is); (case c => k_is); (case k => k_is)
      (case b => exact fun _ _ _ _ _ _ us hl => match us, hl with | [_, _, _], _ => rfl)
    have d_arm_kind : L2.DefTx (L2.KOf KX) mg "arm_kind" K45.s_arm_kind ["kinds", "kind", "arm", "boxes"] := by
      dsimp only [L2.KOf]
      refine' L2.deftx_mk KX G ?a ?l ?c ?k ?b
      (case a => k_is); (case l => k_is); (case c => k_is); (case k => k_is)
      (case b => exact fun _ _ _ _ _ _ us hl => match us, hl with | [_, _, _, _], _ => rfl)
    have d_if_kind : L2.DefTx (L2.KOf KX) mg "if_kind" K45.s_if_kind ["kinds", "term", "boxes"] := by
      dsimp only [L2.KOf]
      refine' L2.deftx_mk KX G ?a ?l ?c ?k ?b
      (case a => k_is); (case l => k_is); (case c => k_is); (case k => k_is)
      (case b => exact fun _ _ _ _ _ _ us hl => match us, hl with | [_, _, _], _ => rfl)
    have d_need_kind : L2.DefTx (L2.KOf KX) mg "need_kind" K45.s_need_kind ["kinds", "term", "boxes", "kind"] := by
      dsimp only [L2.KOf]
      refine' L2.deftx_mk KX G ?a ?l ?c ?k ?b
      (case a => k_is); (case l => k_is); (case c => k_is); (case k => k_is)
      (case b => exact fun _ _ _ _ _ _ us hl => match us, hl with | [_, _, _, _], _ => rfl)
    have d_need_same : L2.DefTx (L2.KOf KX) mg "need_same" K45.s_need_same ["found", "kind"] := by
      dsimp only [L2.KOf]
      refine' L2.deftx_mk KX G ?a ?l ?c ?k ?b
      (case a => k_is); (case l => k_is); (case c => k_is); (case k => k_is)
      (case b => exact fun _ _ _ _ _ _ us hl => match us, hl with | [_, _], _ => rfl)
    have d_need_sort : L2.DefTx (L2.KOf KX) mg "need_sort" K45.s_need_sort ["kinds", "name", "sort"] := by
      dsimp only [L2.KOf]
      refine' L2.deftx_mk KX G ?a ?l ?c ?k ?b
      (case a => k_is); (case l => k_is); (case c => k_is); (case k => k_is)
      (case b => exact fun _ _ _ _ _ _ us hl => match us, hl with | [_, _, _], _ => rfl)
    have d_kind_of_sort : L2.DefTx (L2.KOf KX) mg "kind_of_sort" K45.s_kind_of_sort ["kinds", "term", "boxes", "sort"] := by
      dsimp only [L2.KOf]
      refine' L2.deftx_mk KX G ?a ?l ?c ?k ?b
      (case a => k_is); (case l => k_is); (case c => k_is); (case k => k_is)
      (case b => exact fun _ _ _ _ _ _ us hl => match us, hl with | [_, _, _, _], _ => rfl)
    have d_part_kind : L2.DefTx (L2.KOf KX) mg "part_kind" K45.s_part_kind ["kinds", "kind", "name"] := by
      dsimp only [L2.KOf]
      refine' L2.deftx_mk KX G ?a ?l ?c ?k ?b
      (case a => k_is); (case l => k_is); (case c => k_is); (case k => k_is)
      (case b => exact fun _ _ _ _ _ _ us hl => match us, hl with | [_, _, _], _ => rfl)
    have d_need_tags : L2.DefTx (L2.KOf KX) mg "need_tags" K45.s_need_tags ["kinds", "kind", "arms"] := by
      dsimp only [L2.KOf]
      refine' L2.deftx_mk KX G ?a ?l ?c ?k ?b
      (case a => k_is); (case l => k_is); (case c => k_is); (case k => k_is)
      (case b => exact fun _ _ _ _ _ _ us hl => match us, hl with | [_, _, _], _ => rfl)
    have d_with_box : L2.DefTx (L2.KOf KX) mg "with_box" K45.s_with_box ["boxes", "x", "thing"] := by
      dsimp only [L2.KOf]
      refine' L2.deftx_mk KX G ?a ?l ?c ?k ?b
      (case a => k_is); (case l => k_is); (case c => k_is); (case k => k_is)
      (case b => exact fun _ _ _ _ _ _ us hl => match us, hl with | [_, _, _], _ => rfl)
    have d_nought_term : L2.DefTx (L2.KOf KX) mg "nought_term" K45.s_nought_term ["kinds", "kind"] := by
      dsimp only [L2.KOf]
      refine' L2.deftx_mk KX G ?a ?l ?c ?k ?b
      (case a => k_is); (case l => k_is); (case c => k_is); (case k => k_is)
      (case b => exact fun _ _ _ _ _ _ us hl => match us, hl with | [_, _], _ => rfl)
    have d_goes_to : L2.DefTx (L2.KOf KX) mg "goes_to" K45.s_goes_to ["ways", "kind"] := by
      dsimp only [L2.KOf]
      refine' L2.deftx_mk KX G ?a ?l ?c ?k ?b
      (case a => k_is); (case l => k_is); (case c => k_is); (case k => k_is)
      (case b => exact fun _ _ _ _ _ _ us hl => match us, hl with | [_, _], _ => rfl)
    have d_boxes_over : L2.DefTx (L2.KOf KX) mg "boxes_over" K45.s_boxes_over ["ways", "parts"] := by
      dsimp only [L2.KOf]
      refine' L2.deftx_mk KX G ?a ?l ?c ?k ?b
      (case a => k_is); (case l => k_is); (case c => k_is); (case k => k_is)
      (case b => exact fun _ _ _ _ _ _ us hl => match us, hl with | [_, _], _ => rfl)
    have d_look_ways : L2.DefTx (L2.KOf KX) mg "look_ways" K45.s_look_ways ["first", "second", "ways"] := by
      dsimp only [L2.KOf]
      refine' L2.deftx_mk KX G ?a ?l ?c ?k ?b
      (case a => k_is); (case l => k_is); (case c => k_is); (case k => k_is)
      (case b => exact fun _ _ _ _ _ _ us hl => match us, hl with | [_, _, _], _ => rfl)
    have d_look_ends : L2.DefTx (L2.KOf KX) mg "look_ends" K45.s_look_ends ["first", "second", "K", "K2"] := by
      dsimp only [L2.KOf]
      refine' L2.deftx_mk KX G ?a ?l ?c ?k ?b
      (case a => k_is); (case l => k_is); (case c => k_is); (case k => k_is)
      (case b => exact fun _ _ _ _ _ _ us hl => match us, hl with | [_, _, _, _], _ => rfl)
    have d_look_form : L2.DefTx (L2.KOf KX) mg "look_form" K45.s_look_form ["first", "K", "how"] := by
      dsimp only [L2.KOf]
      refine' L2.deftx_mk KX G ?a ?l ?c ?k ?b
      (case a => k_is); (case l => k_is); (case c => k_is); (case k => k_is)
      (case b => exact fun _ _ _ _ _ _ us hl => match us, hl with | [_, _, _], _ => rfl)
    have d_is_term : L2.DefTx (L2.KOf KX) mg "is_term" K45.s_is_term ["how"] := by
      dsimp only [L2.KOf]
      refine' L2.deftx_mk KX G ?a ?l ?c ?k ?b
      (case a => k_is); (case l => k_is); (case c => k_is); (case k => k_is)
      (case b => exact fun _ _ _ _ _ _ us hl => match us, hl with | [_], _ => rfl)
    have d_look_terms : L2.DefTx (L2.KOf KX) mg "look_terms" K45.s_look_terms ["first", "second", "ways", "K"] := by
      dsimp only [L2.KOf]
      refine' L2.deftx_mk KX G ?a ?l ?c ?k ?b
      (case a => k_is); (case l => k_is); (case c => k_is); (case k => k_is)
      (case b => exact fun _ _ _ _ _ _ us hl => match us, hl with | [_, _, _, _], _ => rfl)
    have d_made_ways : L2.DefTx (L2.KOf KX) mg "made_ways" K45.s_made_ways ["first", "second", "told"] := by
      dsimp only [L2.KOf]
      refine' L2.deftx_mk KX G ?a ?l ?c ?k ?b
      (case a => k_is); (case l => k_is); (case c => k_is); (case k => k_is)
      (case b => exact fun _ _ _ _ _ _ us hl => match us, hl with | [_, _, _], _ => rfl)
    have d_how_by_rules : L2.DefTx (L2.KOf KX) mg "how_by_rules" K45.s_how_by_rules ["kinds", "ways", "kind"] := by
      dsimp only [L2.KOf]
      refine' L2.deftx_mk KX G ?a ?l ?c ?k ?b
      (case a => k_is); (case l => k_is); (case c => k_is); (case k => k_is)
      (case b => exact fun _ _ _ _ _ _ us hl => match us, hl with | [_, _, _], _ => rfl)
    have d_terms_by_rules : L2.DefTx (L2.KOf KX) mg "terms_by_rules" K45.s_terms_by_rules ["kinds", "ways", "olds", "news"] := by
      dsimp only [L2.KOf]
      refine' L2.deftx_mk KX G ?a ?l ?c ?k ?b
      (case a => k_is); (case l => k_is); (case c => k_is); (case k => k_is)
      (case b => exact fun _ _ _ _ _ _ us hl => match us, hl with | [_, _, _, _], _ => rfl)
    have d_tags_by_rules : L2.DefTx (L2.KOf KX) mg "tags_by_rules" K45.s_tags_by_rules ["kinds", "ways", "kind"] := by
      dsimp only [L2.KOf]
      refine' L2.deftx_mk KX G ?a ?l ?c ?k ?b
      (case a => k_is); (case l => k_is); (case c => k_is); (case k => k_is)
      (case b => exact fun _ _ _ _ _ _ us hl => match us, hl with | [_, _, _], _ => rfl)
    have d_field : L2.DefTx (L2.KOf KX) mg "field" K45.s_field ["kinds", "value", "f"] := by
      dsimp only [L2.KOf]
      refine' L2.deftx_mk KX G ?a ?l ?c ?k ?b
      (case a => k_is); (case l => k_is); (case c => k_is); (case k => k_is)
      (case b => exact fun _ _ _ _ _ _ us hl => match us, hl with | [_, _, _], _ => rfl)
    have d_worth : L2.DefTx (L2.KOf KX) mg "worth" K45.s_worth ["kinds", "term", "boxes"] := by
      dsimp only [L2.KOf]
      refine' L2.deftx_mk KX G ?a ?l ?c ?k ?b
      (case a => k_is); (case l => k_is); (case c => k_is); (case k => k_is)
      (case b => exact fun _ _ _ _ _ _ us hl => match us, hl with | [_, _, _], _ => rfl)
    have d_op_worth : L2.DefTx (L2.KOf KX) mg "op_worth" K45.s_op_worth ["sign", "a", "b"] := by
      dsimp only [L2.KOf]
      refine' L2.deftx_mk KX G ?a ?l ?c ?k ?b
      (case a => k_is); (case l => k_is); (case c => k_is); (case k => k_is)
      (case b => exact fun _ _ _ _ _ _ us hl => match us, hl with | [_, _, _], _ => rfl)
    have d_case_worth : L2.DefTx (L2.KOf KX) mg "case_worth" K45.s_case_worth ["kinds", "term", "boxes"] := by
      dsimp only [L2.KOf]
      refine' L2.deftx_mk KX G ?a ?l ?c ?k ?b
      (case a => k_is); (case l => k_is); (case c => k_is); (case k => k_is)
      (case b => exact fun _ _ _ _ _ _ us hl => match us, hl with | [_, _, _], _ => rfl)
    have d_turned : L2.DefTx (L2.KOf KX) mg "turned" K45.s_turned ["first", "second", "ways", "kind", "value"] := by
      dsimp only [L2.KOf]
      refine' L2.deftx_mk KX G ?a ?l ?c ?k ?b
      (case a => k_is); (case l => k_is); (case c => k_is); (case k => k_is)
      (case b => exact fun _ _ _ _ _ _ us hl => match us, hl with | [_, _, _, _, _], _ => rfl)
    have d_turned_boxes : L2.DefTx (L2.KOf KX) mg "turned_boxes" K45.s_turned_boxes ["first", "second", "ways", "parts", "values"] := by
      dsimp only [L2.KOf]
      refine' L2.deftx_mk KX G ?a ?l ?c ?k ?b
      (case a => k_is); (case l => k_is); (case c => k_is); (case k => k_is)
      (case b => exact fun _ _ _ _ _ _ us hl => match us, hl with | [_, _, _, _, _], _ => rfl)
    have d__law_feed : L2.DefTx (L2.KOf KX) mg "_law_feed" K45.s__law_feed ["_law_script", "_law_k"] := by
      dsimp only [L2.KOf]
      refine' L2.deftx_mk KX G ?a ?l ?c ?k ?b
      (case a => k_is); (case l => k_is); (case c => k_is); (case k => k_is)
      (case b => exact fun _ _ _ _ _ _ us hl => match us, hl with | [_, _], _ => rfl)
    have d__law_number : L2.DefTx (L2.KOf KX) mg "_law_number" K45.s__law_number ["_law_feed_here"] := by
      dsimp only [L2.KOf]
      refine' L2.deftx_mk KX G ?a ?l ?c ?k ?b
      (case a => k_is); (case l => k_is); (case c => k_is); (case k => k_is)
      (case b => exact fun _ _ _ _ _ _ us hl => match us, hl with | [_], _ => rfl)
    have d__law_take : L2.DefTx (L2.KOf KX) mg "_law_take" K45.s__law_take ["_law_feed_here", "_law_many"] := by
      dsimp only [L2.KOf]
      refine' L2.deftx_mk KX G ?a ?l ?c ?k ?b
      (case a => k_is); (case l => k_is); (case c => k_is); (case k => k_is)
      (case b => exact fun _ _ _ _ _ _ us hl => match us, hl with | [_, _], _ => rfl)
    have d__law_names : L2.DefTx (L2.KOf KX) mg "_law_names" K45.s__law_names ["_law_cell", "_law_many"] := by
      dsimp only [L2.KOf]
      refine' L2.deftx_mk KX G ?a ?l ?c ?k ?b
      (case a => k_is); (case l => k_is); (case c => k_is); (case k => k_is)
      (case b => exact fun _ _ _ _ _ _ us hl => match us, hl with | [_, _], _ => rfl)
    have d__law_sort_of : L2.DefTx (L2.KOf KX) mg "_law_sort_of" K45.s__law_sort_of ["_law_kinds_here", "_law_kind"] := by
      dsimp only [L2.KOf]
      refine' L2.deftx_mk KX G ?a ?l ?c ?k ?b
      (case a => k_is); (case l => k_is); (case c => k_is); (case k => k_is)
      (case b => exact fun _ _ _ _ _ _ us hl => match us, hl with | [_, _], _ => rfl)
    have d__law_size : L2.DefTx (L2.KOf KX) mg "_law_size" K45.s__law_size ["_law_kinds_here", "_law_kind"] := by
      dsimp only [L2.KOf]
      refine' L2.deftx_mk KX G ?a ?l ?c ?k ?b
      (case a => k_is); (case l => k_is); (case c => k_is); (case k => k_is)
      (case b => exact fun _ _ _ _ _ _ us hl => match us, hl with | [_, _], _ => rfl)
    have d__law_parts : L2.DefTx (L2.KOf KX) mg "_law_parts" K45.s__law_parts ["_law_feed_here", "_law_kinds_here", "_law_sort", "_law_names_here"] := by
      dsimp only [L2.KOf]
      refine' L2.deftx_mk KX G ?a ?l ?c ?k ?b
      (case a => k_is); (case l => k_is); (case c => k_is); (case k => k_is)
      (case b => exact fun _ _ _ _ _ _ us hl => match us, hl with | [_, _, _, _], _ => rfl)
    have d__law_kinds : L2.DefTx (L2.KOf KX) mg "_law_kinds" K45.s__law_kinds ["_law_feed_here", "_law_names_here"] := by
      dsimp only [L2.KOf]
      refine' L2.deftx_mk KX G ?a ?l ?c ?k ?b
      (case a => k_is); (case l => k_is); (case c => k_is); (case k => k_is)
      (case b => exact fun _ _ _ _ _ _ us hl => match us, hl with | [_, _], _ => rfl)
    have d__law_value : L2.DefTx (L2.KOf KX) mg "_law_value" K45.s__law_value ["_law_feed_here", "_law_kinds_here", "_law_kind"] := by
      dsimp only [L2.KOf]
      refine' L2.deftx_mk KX G ?a ?l ?c ?k ?b
      (case a => k_is); (case l => k_is); (case c => k_is); (case k => k_is)
      (case b => exact fun _ _ _ _ _ _ us hl => match us, hl with | [_, _, _], _ => rfl)
    have d__law_hangs : L2.DefTx (L2.KOf KX) mg "_law_hangs" K45.s__law_hangs ["_law_kinds_here", "_law_name"] := by
      dsimp only [L2.KOf]
      refine' L2.deftx_mk KX G ?a ?l ?c ?k ?b
      (case a => k_is); (case l => k_is); (case c => k_is); (case k => k_is)
      (case b => exact fun _ _ _ _ _ _ us hl => match us, hl with | [_, _], _ => rfl)
    have d_law : L2.DefTx (L2.KOf KX) mg "law" K45.s_law ["_law_script"] := by
      dsimp only [L2.KOf]
      refine' L2.deftx_mk KX G ?a ?l ?c ?k ?b
      (case a => k_is); (case l => k_is); (case c => k_is); (case k => k_is)
      (case b => exact fun _ _ _ _ _ _ us hl => match us, hl with | [_], _ => rfl)
    have g_WIDE : ∃ t, mg "WIDE" = some (.int 4294967296 t) := by
      refine' L2.gint_mk KX G ?a
      (case a => k_is)
    have z_dict : mg "dict" = none := by
      refine' PySem.W.mg_none_of KX G ?a
      (case a => k_is)
    have z_int : mg "int" = none := by
      refine' PySem.W.mg_none_of KX G ?a
      (case a => k_is)
    have z_isinstance : mg "isinstance" = none := by
      refine' PySem.W.mg_none_of KX G ?a
      (case a => k_is)
    have z_len : mg "len" = none := by
      refine' PySem.W.mg_none_of KX G ?a
      (case a => k_is)
    have z_list : mg "list" = none := by
      refine' PySem.W.mg_none_of KX G ?a
      (case a => k_is)
    have z_max : mg "max" = none := by
      refine' PySem.W.mg_none_of KX G ?a
      (case a => k_is)
    have z_min : mg "min" = none := by
      refine' PySem.W.mg_none_of KX G ?a
      (case a => k_is)
    have z_range : mg "range" = none := by
      refine' PySem.W.mg_none_of KX G ?a
      (case a => k_is)
    have z_set : mg "set" = none := by
      refine' PySem.W.mg_none_of KX G ?a
      (case a => k_is)
    have z_str : mg "str" = none := by
      refine' PySem.W.mg_none_of KX G ?a
      (case a => k_is)
    have z_sum : mg "sum" = none := by
      refine' PySem.W.mg_none_of KX G ?a
      (case a => k_is)
    have z_tuple : mg "tuple" = none := by
      refine' PySem.W.mg_none_of KX G ?a
      (case a => k_is)
    have z_zip : mg "zip" = none := by
      refine' PySem.W.mg_none_of KX G ?a
      (case a => k_is)
    have T : K45.Tx (L2.KOf KX) mg := ⟨d_need_once, d_sort_of, d_parts_of, d_need_there, d_kind_of, d_num_kind, d_box_kind, d_op_kind, d_rec_kind, d_get_kind, d_tag_kind, d_case_kind, d_arm_kind, d_if_kind, d_need_kind, d_need_same, d_need_sort, d_kind_of_sort, d_part_kind, d_need_tags, d_with_box, d_nought_term, d_goes_to, d_boxes_over, d_look_ways, d_look_ends, d_look_form, d_is_term, d_look_terms, d_made_ways, d_how_by_rules, d_terms_by_rules, d_tags_by_rules, d_field, d_worth, d_op_worth, d_case_worth, d_turned, d_turned_boxes, d__law_feed, d__law_number, d__law_take, d__law_names, d__law_sort_of, d__law_size, d__law_parts, d__law_kinds, d__law_value, d__law_hangs, d_law, g_WIDE, z_dict, z_int, z_isinstance, z_len, z_list, z_max, z_min, z_range, z_set, z_str, z_sum, z_tuple, z_zip⟩
    exact L2.law_top d_law hmg fun base => K45.law_is T
