import PyProof.Rows.All
import Wide.All
import OpenK.AllK
import Wide.FinOn
import Lean
import PyProof.EqAt
import PyProof.EqKinds
import PyProof.TupleCall
import PyProof.ZipIter
import PyProof.ListNew
import PyProof.TupleIter
import PyProof.WalksMore
import KE.KIntText
import PyProof.Rows.EqBoolInt
import PyProof.Rows.ZipGen
import PyProof.ExcInit
import PyProof.InstStoreFacts
import PyProof.ExcArgsOwn
import PyProof.ExcAttrAll.ValueError
import PyProof.ExcBaseAll.ValueError
import PyProof.EnumMake
import PyProof.Rows.EnumRows
import PySem.Str
import PyProof.StrLawsTight
import PyProof.StrLawsIdx
import PyProof.StrLawsIn
import PyProof.StationsW
import PyProof.RulesAs
import PyProof.NsDelKeeps
import PyProof.Rows.SetFrom
import KE.KDictSum
import PyProof.Rows.SortWalk
import PyProof.NeKinds
import KE.KDictList
import KE.KRevIter
import PyProof.ConsumeWalk
import PyProof.AttrMissHeap
import KE.KItemsList
import KE.KEqDict
import PySem.Challenge.RW_swapstride_k07_brackets_in_brackets
set_option Elab.async false
set_option linter.all false
set_option maxRecDepth 100000
namespace L2
open PySem PySem.Spec PyProof.Rows

/-- a key: an int or a str -/
abbrev Key := Sum Int Str
def keyIs : Key → Value → Bool
  | .inl k, v => Value.isInt k v
  | .inr x, v => Value.isStrOf x v
def keyH (w : World) : Key → Int
  | .inl k => hashInt k
  | .inr x => hashStr w x
theorem keyIs_shape : ∀ {k : Key} {v : Value}, keyIs k v = true → (∃ i t, k = Sum.inl i ∧ v = Value.int i t) ∨ (∃ x t, k = Sum.inr x ∧ v = Value.str x t)
  | .inl i, v, h => by
    obtain ⟨t, e⟩ := Value.isInt_shape (k := i) (v := v) h
    exact .inl ⟨i, t, rfl, e⟩
  | .inr x, v, h => by
    obtain ⟨t, e⟩ := Value.isStrOf_shape (x := x) (v := v) h
    exact .inr ⟨x, t, rfl, e⟩
theorem key_ll (a b : Int) : decide ((Sum.inl a : Key) = Sum.inl b) = (a == b) := by
  by_cases e : a = b
  · subst e; simp
  · have h : ¬ (Sum.inl a : Key) = Sum.inl b := fun q => e (Sum.inl.inj q)
    rw [decide_eq_false h]
    exact (beq_eq_false_iff_ne.mpr e).symm
theorem key_rr (a b : Str) : decide ((Sum.inr a : Key) = Sum.inr b) = decide (a = b) := by
  by_cases e : a = b
  · subst e; simp
  · have h : ¬ (Sum.inr a : Key) = Sum.inr b := fun q => e (Sum.inr.inj q)
    rw [decide_eq_false h, decide_eq_false e]
theorem key_lr (a : Int) (b : Str) : decide ((Sum.inl a : Key) = Sum.inr b) = false := decide_eq_false (fun q => nomatch q)
theorem key_rl (a : Str) (b : Int) : decide ((Sum.inr a : Key) = Sum.inl b) = false := decide_eq_false (fun q => nomatch q)

def mixKind (prog : Program) (w : World) : PySem.KeyKind prog w Key where
  is := keyIs
  hash := keyH w
  inj := fun v a b ha hb => by
    rcases keyIs_shape ha with ⟨i, t, rfl, rfl⟩ | ⟨x, t, rfl, rfl⟩
    · rcases keyIs_shape hb with ⟨j, u, rfl, e⟩ | ⟨y, u, rfl, e⟩
      · injection e with e1 _; rw [e1]
      · exact nomatch e
    · rcases keyIs_shape hb with ⟨j, u, rfl, e⟩ | ⟨y, u, rfl, e⟩
      · exact nomatch e
      · injection e with e1 _; rw [e1]
  byValue := fun k v h => by
    rcases keyIs_shape h with ⟨i, t, rfl, rfl⟩ | ⟨x, t, rfl, rfl⟩ <;> rfl
  pyHash := fun hv h => by
    rcases keyIs_shape hv with ⟨i, t, rfl, rfl⟩ | ⟨x, t, rfl, rfl⟩
    · exact wpAny_pyHash_int h
    · exact wpAny_pyHash_str h
  eqBool := fun hu hv h => by
    rcases keyIs_shape hu with ⟨i, t, rfl, rfl⟩ | ⟨x, t, rfl, rfl⟩
    · rcases keyIs_shape hv with ⟨j, u, rfl, rfl⟩ | ⟨y, u, rfl, rfl⟩
      · rw [key_ll] at h; exact wpAny_eqBool_int h
      · rw [key_lr] at h; exact SeqAt.EqAt.int_str i t y u _ _ _ _ h
    · rcases keyIs_shape hv with ⟨j, u, rfl, rfl⟩ | ⟨y, u, rfl, rfl⟩
      · rw [key_rl] at h; exact SeqAt.EqAt.str_int x t j u _ _ _ _ h
      · rw [key_rr] at h; exact wpAny_eqBool_str h
  «strs» := fun k x t v h => by
    rcases keyIs_shape h with ⟨i, u, rfl, e⟩ | ⟨y, u, rfl, e⟩
    · exact nomatch e
    · injection e with e1 _
      subst e1
      cases v <;> rfl

end L2

namespace L2
open PySem PySem.Spec PyProof.Rows

/-- a value, without the heap -/
inductive V where
  | non | bl (b : Bool) | int (i : Int) | str (x : Str) | byt (b : Array UInt8) | flt (b : UInt64) | ref (a : Addr) | ty (n : String)
  deriving DecidableEq

def RelV : V → Value → Prop
  | .non, u => u = Value.none
  | .bl b, u => u = Value.bool b
  | .int i, u => ∃ t, u = Value.int i t
  | .str x, u => ∃ t, u = Value.str x t
  | .byt b, u => ∃ t, u = Value.bytes b t
  | .flt b, u => ∃ t, u = Value.float b t
  | .ref a, u => u = Value.ref a
  | .ty n, u => u = Value.type n

abbrev Vals : List V → List Value → Prop := Paired RelV
theorem Vals.length {xs : List V} {us : List Value} (r : Vals xs us) : xs.length = us.length := Paired.length r
theorem Vals.get : ∀ {xs : List V} {us : List Value} {i : Nat} {x : V}, Vals xs us → xs[i]? = some x → ∃ u, us[i]? = some u ∧ RelV x u
  | _, _, _, _, .nil, e => by simp at e
  | _, _, 0, _, .cons r _, e => by simp at e; subst e; exact ⟨_, rfl, r⟩
  | _, _, i + 1, x, .cons _ t, e => by
    obtain ⟨u, h1, h2⟩ := Vals.get (i := i) (x := x) t (by simpa using e)
    exact ⟨u, by simpa using h1, h2⟩
theorem Vals.set {x : V} {u : Value} (r : RelV x u) : ∀ {xs : List V} {us : List Value} (i : Nat), Vals xs us → Vals (xs.set i x) (us.set i u)
  | _, _, _, .nil => .nil
  | _, _, 0, .cons _ t => .cons r t
  | _, _, i + 1, .cons q t => .cons q (Vals.set r i t)
theorem Vals.append : ∀ {xs ys : List V} {us ws : List Value}, Vals xs us → Vals ys ws → Vals (xs ++ ys) (us ++ ws)
  | _, _, _, _, .nil, s => s
  | _, _, _, _, .cons r t, s => .cons r (Vals.append t s)
theorem Vals.take : ∀ {xs : List V} {us : List Value} (n : Nat), Vals xs us → Vals (xs.take n) (us.take n)
  | _, _, 0, _ => .nil
  | _, _, _ + 1, .nil => .nil
  | _, _, n + 1, .cons r t => .cons r (Vals.take n t)
theorem Vals.drop : ∀ {xs : List V} {us : List Value} (n : Nat), Vals xs us → Vals (xs.drop n) (us.drop n)
  | _, _, 0, r => r
  | _, _, _ + 1, .nil => .nil
  | _, _, n + 1, .cons _ t => Vals.drop n t
def RelO : Option V → Option Value → Prop
  | some v, some u => RelV v u
  | none, none => True
  | _, _ => False
def KV {κ : Type} : List (κ × V) → List (κ × Value) → Prop := Paired fun (p : κ × V) (q : κ × Value) => p.1 = q.1 ∧ RelV p.2 q.2

/-- a key of a dict (00_mix): an int or a text -/
def kV : Key → V
  | .inl i => .int i
  | .inr x => .str x

/-- what stands at a tracked address -/
inductive HO where
  /-- a list -/
  | lst (xs : List V)
  /-- a tuple (never changes) -/
  | tup (xs : List V)
  /-- a dict whose keys are ints and texts; one whose keys are tuples of ints and texts (the empty one is both) -/
  | dK (kvs : List (Key × V)) | dT (kvs : List (List Key × V))
  /-- a set of ints: its members, its size -/
  | set (S : Int → Bool) (n : Nat)
  /-- an instance of the class at C, its dict at dx, its attributes -/
  | ins (C dx : Addr) (fs : List (Str × V))
  /-- the dict of the instance at x -/
  | own (x : Addr)
  /-- the dict of an exception -/
  | xd (fs : List (Str × V))
  /-- a bound method, f of x -/
  | met (f x : Addr)
  /-- a range object lo, lo + 1, .. below hi -/
  | rng (lo hi : Int)
  /-- a thing that is known to the object (the script; a dict while a loop walks it): read, never written while it is so -/
  | frz (o : Obj) (u : HO)
  /-- a code object's table -/
  | tbl (ps : Array Value)
  /-- any other thing, by what is true of its one object (a def of one's own: SetO a S n := HO.ext fun h => ..) -/
  | ext (φ : Heap → Prop)

abbrev Hp := Addr → Option HO
def upd (H : Hp) (a : Addr) (o : HO) : Hp := fun b => if b = a then some o else H b
theorem upd_same {H : Hp} {a : Addr} {o : HO} : upd H a o a = some o := by unfold upd; rw [if_pos rfl]
theorem upd_ne {H : Hp} {a b : Addr} {o : HO} (h : b ≠ a) : upd H a o b = H b := by unfold upd; rw [if_neg h]
theorem ne_of_none {H : Hp} {a b : Addr} {o : HO} (h : H a = some o) (h' : H b = none) : a ≠ b := by
  intro e; subst e; rw [h] at h'; cases h'

section
variable (P : Program) (w : World)
def ObjOk (H : Hp) (h : Heap) (a : Addr) : HO → Prop
  | .lst xs => xs.length ≤ sizeLine ∧ ∃ (its : List Value) (n : Nat), Vals xs its ∧ h.get? a = some { cls := .type "list", data := .seq its.toArray n }
  | .tup xs => xs.length ≤ sizeLine ∧ ∃ its : List Value, Vals xs its ∧ IsTup h a its.toArray
  | .dK kvs => kvs.length ≤ sizeLine ∧ (a == sysModules) = false ∧ ∃ vs, KV kvs vs ∧ h.DictOf (mixKind P w) a vs
  | .dT kvs => kvs.length ≤ sizeLine ∧ (a == sysModules) = false ∧ ∃ xs : List (List Key × Addr × Value),
      Paired (fun (p : List Key × V) (q : List Key × Addr × Value) => p.1 = q.1 ∧ H q.2.1 = some (.tup (p.1.map kV)) ∧ RelV p.2 q.2.2) kvs xs ∧
      ∃ o es ep, h.get? a = some o ∧ o.ExactDict ∧ o.data = .dict es ep ∧ es.toList = xs.map (entryOfKey (tupleKind (mixKind P w))) ∧ (xs.map (·.1)).Nodup
  | .set S n => h.SetOf (intKind P w) a S n
  | .ins C dx fs => H dx = some (.own a) ∧ fs.length ≤ 1000 ∧ dx ≠ a ∧ h.get? a = some (PySem.W.instObj C dx) ∧
      ∃ mA, h.Ns1 dx mA ∧ (∀ f, RelO (fs.lookup f) (mA f)) ∧ PySem.Within mA (fs.map (·.1))
  | .own _ => ∃ o, h.get? a = some o
  | .xd fs => ∃ mA, h.Ns1 a mA ∧ ∀ f, RelO (fs.lookup f) (mA f)
  | .rng lo hi => ∃ t u v, h.get? a = some { cls := .type "range", data := .fields #[.int lo t, .int hi u, .int 1 v] }
  | .frz o u => h.get? a = some o ∧ ObjOk H h a u
  | .tbl ps => h.get? a = some { cls := .none, data := .fields ps }
  | .met f x => h.get? a = some (PySem.W.methodObj (.ref f) (.ref x))
  | .ext φ => φ h ∧ (∃ o, h.get? a = some o) ∧ ∀ h1 h2 : Heap, φ h1 → (∀ o, h1.get? a = some o → h2.get? a = some o) → φ h2
/-- the abstract heap is held -/
def HOk (H : Hp) (h : Heap) : Prop := ∀ a o, H a = some o → ObjOk P w H h a o
end

section
variable {P : Program} {w : World} {H H' : Hp} {h h' : Heap} {a : Addr} {o : HO}
theorem ObjOk.lt (x : ObjOk P w H h a o) : a < h.objs.size := by
  cases o with
  | lst xs => obtain ⟨_, _, _, _, e⟩ := x; exact Heap.lt_size e
  | tup xs => obtain ⟨_, _, _, p⟩ := x; exact p.lt
  | dK kvs => obtain ⟨_, _, _, _, o, _, _, e, _⟩ := x; exact Heap.lt_size e
  | dT kvs => obtain ⟨_, _, _, _, o, _, _, e, _⟩ := x; exact Heap.lt_size e
  | set S n => obtain ⟨o, _, _, _, e, _⟩ := x; exact Heap.lt_size e
  | ins C dx fs => obtain ⟨_, _, _, e, _⟩ := x; exact Heap.lt_size e
  | own y => obtain ⟨_, e⟩ := x; exact Heap.lt_size e
  | xd fs => obtain ⟨_, ⟨_, _, _, e, _⟩, _⟩ := x; exact Heap.lt_size e
  | rng lo hi => obtain ⟨_, _, _, e⟩ := x; exact Heap.lt_size e
  | frz ob u => obtain ⟨e, _⟩ := x; exact Heap.lt_size e
  | tbl ps => exact Heap.lt_size (show h.get? a = some _ from x)
  | met f y => exact Heap.lt_size (show h.get? a = some _ from x)
  | ext φ => obtain ⟨_, ⟨_, e⟩, _⟩ := x; exact Heap.lt_size e
theorem Paired.mapP {α β : Type} {F G : α → β → Prop} : ∀ {l₁ : List α} {l₂ : List β}, Paired F l₁ l₂ → (∀ a b, F a b → G a b) → Paired G l₁ l₂
  | _, _, .nil, _ => .nil
  | _, _, .cons r t, f => .cons (f _ _ r) (Paired.mapP t f)
/-- what an object's description leans on: its own object, its own dict, the tuples -/
theorem ObjOk.stay (x : ObjOk P w H h a o) (k : ∀ b u, (b = a ∨ H b = some (.own a)) → h.get? b = some u → h'.get? b = some u)
    (ho : ∀ b, H b = some (.own a) → H' b = some (.own a)) (ht : ∀ b xs, H b = some (.tup xs) → H' b = some (.tup xs)) : ObjOk P w H' h' a o := by
  induction o with
  | lst xs => obtain ⟨z, its, n, r, e⟩ := x; exact ⟨z, its, n, r, k _ _ (.inl rfl) e⟩
  | tup xs => obtain ⟨z, its, r, ob, e, c⟩ := x; exact ⟨z, its, r, ob, k _ _ (.inl rfl) e, c⟩
  | dK kvs => obtain ⟨z, y, vs, r, ob, es, ep, e, c⟩ := x; exact ⟨z, y, vs, r, ob, es, ep, k _ _ (.inl rfl) e, c⟩
  | dT kvs =>
    obtain ⟨z, y, xs, r, ob, es, ep, e, c⟩ := x
    exact ⟨z, y, xs, Paired.mapP r fun p q z => ⟨z.1, ht _ _ z.2.1, z.2.2⟩, ob, es, ep, k _ _ (.inl rfl) e, c⟩
  | set S n => obtain ⟨ob, es, ep, t, e, c⟩ := x; exact ⟨ob, es, ep, t, k _ _ (.inl rfl) e, c⟩
  | ins C dx fs =>
    obtain ⟨d, z, ne, e, mA, ⟨od, es, ep, e2, c⟩, r⟩ := x
    exact ⟨ho _ d, z, ne, k _ _ (.inl rfl) e, mA, ⟨od, es, ep, k _ _ (.inr d) e2, c⟩, r⟩
  | own y => obtain ⟨ob, e⟩ := x; exact ⟨ob, k _ _ (.inl rfl) e⟩
  | xd fs => obtain ⟨mA, ⟨od, es, ep, e, c⟩, r⟩ := x; exact ⟨mA, ⟨od, es, ep, k _ _ (.inl rfl) e, c⟩, r⟩
  | rng lo hi => obtain ⟨t, u, v, e⟩ := x; exact ⟨t, u, v, k _ _ (.inl rfl) e⟩
  | frz ob u ih => obtain ⟨e, q⟩ := x; exact ⟨k _ _ (.inl rfl) e, ih q⟩
  | tbl ps =>
    have e : h.get? a = some { cls := .none, data := .fields ps } := x
    show h'.get? a = some { cls := .none, data := .fields ps }
    exact k a _ (.inl rfl) e
  | met f y =>
    have e : h.get? a = some (PySem.W.methodObj (.ref f) (.ref y)) := x
    show h'.get? a = some (PySem.W.methodObj (.ref f) (.ref y))
    exact k a _ (.inl rfl) e
  | ext φ => obtain ⟨p, ⟨o, e⟩, st⟩ := x; exact ⟨st _ _ p fun o q => k _ _ (.inl rfl) q, ⟨o, k _ _ (.inl rfl) e⟩, st⟩
theorem HOk.lt (x : HOk P w H h) (e : H a = some o) : a < h.objs.size := (x a o e).lt
theorem HOk.fresh (x : HOk P w H h) (e : h.objs.size ≤ a) : H a = none := by
  cases q : H a with
  | none => rfl
  | some u => exact absurd (Nat.lt_of_lt_of_le (x.lt q) e) (Nat.lt_irrefl _)
/-- every object of the heap is kept -/
theorem HOk.kept (x : HOk P w H h) (k : ∀ b u, h.get? b = some u → h'.get? b = some u) : HOk P w H h' := fun a o e =>
  (x a o e).stay (fun b u _ q => k b u q) (fun _ q => q) fun _ _ q => q
/-- a new object is laid and tracked -/
theorem HOk.laid (x : HOk P w H h) (k : ∀ b u, h.get? b = some u → h'.get? b = some u) (hp : h.objs.size ≤ a) (new : ObjOk P w (upd H a o) h' a o) : HOk P w (upd H a o) h' := fun b u e => by
  have hn := x.fresh hp
  by_cases hb : b = a
  · subst hb; rw [upd_same] at e; cases e; exact new
  · rw [upd_ne hb] at e
    exact (x b u e).stay (fun c v _ q => k c v q) (fun c q => by rw [upd_ne (ne_of_none q hn)]; exact q) fun c xs q => by rw [upd_ne (ne_of_none q hn)]; exact q
end

/-- what may be read as u: it is u, or a known u -/
def Rd (H : Hp) (a : Addr) (u : HO) : Prop := H a = some u ∨ ∃ o, H a = some (.frz o u)
theorem Rd.ok {P : Program} {w : World} {H : Hp} {h : Heap} {a : Addr} {u : HO} (r : Rd H a u) (x : HOk P w H h) : ObjOk P w H h a u := by
  rcases r with r | ⟨o, r⟩
  · exact x a u r
  · obtain ⟨_, q⟩ := x a _ r
    exact q
/-- what may be written -/
def Mut : Option HO → Prop
  | some (.lst _) => True
  | some (.dK _) => True
  | some (.dT _) => True
  | some (.set _ _) => True
  | some (.ins _ _ _) => True
  | some (.ext _) => True
  | _ => False
section
variable {P : Program} {w : World} {H : Hp} {h h' : Heap} {x e : Addr} {o' : HO}
/-- the object at e is changed: x itself, or the dict of the instance x -/
theorem HOk.write (ok : HOk P w H h) (mu : Mut (H x)) (he : e = x ∨ H e = some (.own x)) (k : ∀ b u, b ≠ e → h.get? b = some u → h'.get? b = some u) (heo : ∃ u, h'.get? e = some u)
    (new : ObjOk P w (upd H x o') h' x o') : HOk P w (upd H x o') h' := fun b u q => by
  have nown : ∀ c y, H c = some (.own y) → c ≠ x := fun c y r z => by subst z; rw [r] at mu; exact mu
  have ntup : ∀ c xs, H c = some (.tup xs) → c ≠ x := fun c xs r z => by subst z; rw [r] at mu; exact mu
  by_cases hb : b = x
  · subst hb; rw [upd_same] at q; cases q; exact new
  · rw [upd_ne hb] at q
    by_cases hbe : b = e
    · have q' : H b = some (.own x) := by
        rcases he with z | z
        · exact absurd (hbe.trans z) hb
        · rw [hbe]; exact z
      rw [q] at q'; cases q'
      obtain ⟨v, hv⟩ := heo
      exact ⟨v, by rw [hbe]; exact hv⟩
    · refine (ok b u q).stay (fun c v hc r => k c v ?_ r) (fun c r => by rw [upd_ne (nown c b r)]; exact r) fun c xs r => by rw [upd_ne (ntup c xs r)]; exact r
      rcases hc with rfl | hc
      · exact hbe
      · rintro rfl
        rcases he with z | z
        · exact nown c b hc z
        · rw [hc] at z; cases z; exact hb rfl
end

structure Un (fs ex : List Addr) (H H' : Hp) (h h' : Heap) : Prop where
  keep : ∀ b o, h.get? b = some o → H b = none → b ∉ fs → b ∉ ex → h'.get? b = some o
  slot : ∀ b o, h.get? b = some o → H b = none → b ∈ fs → b ∉ ex → ∃ sl, h'.get? b = some { o with slots := sl }
  free : ∀ b o, h.get? b = some o → H b = none → b ∉ ex → H' b = none
  there : ∀ b o, h.get? b = some o → b ∉ ex → ∃ o', h'.get? b = some o'
  tups : ∀ b xs, H b = some (.tup xs) → H' b = some (.tup xs)
  frzs : ∀ b o u, H b = some (.frz o u) → H' b = some (.frz o u)
  tbls : ∀ b ps, H b = some (.tbl ps) → ∃ more, H' b = some (.tbl (ps ++ more))
section
variable {fs fs' ex ex' : List Addr} {H H1 H2 : Hp} {h h1 h2 h' : Heap} {a x e : Addr} {o : HO}
theorem Un.any (u : Un fs ex H H1 h h1) {b : Addr} {ob : Obj} (q : h.get? b = some ob) (n : H b = none) (hx : b ∉ ex) : ∃ sl, h1.get? b = some { ob with slots := sl } := by
  by_cases hb : b ∈ fs
  · exact u.slot b ob q n hb hx
  · exact ⟨ob.slots, u.keep b ob q n hb hx⟩
theorem Un.kept (k : ∀ b u, h.get? b = some u → h'.get? b = some u) : Un fs ex H H h h' :=
  ⟨fun b ob q _ _ _ => k b ob q, fun b ob q _ _ _ => ⟨ob.slots, k b ob q⟩, fun _ _ _ n _ => n, fun b ob q _ => ⟨ob, k b ob q⟩, fun _ _ q => q, fun _ _ _ q => q, fun _ ps q => ⟨#[], by rw [q]; simp⟩⟩
theorem Un.refl : Un fs ex H H h h := Un.kept fun _ _ q => q
theorem Un.laid (k : ∀ b u, h.get? b = some u → h'.get? b = some u) (hp : h.objs.size ≤ a) (hn : H a = none) : Un fs ex H (upd H a o) h h' where
  keep := fun b u q _ _ _ => k b u q
  slot := fun b u q _ _ _ => ⟨u.slots, k b u q⟩
  free := fun b u q n _ => by rw [upd_ne (Nat.ne_of_lt (Nat.lt_of_lt_of_le (Heap.lt_size q) hp))]; exact n
  there := fun b u q _ => ⟨u, k b u q⟩
  tups := fun b xs q => by rw [upd_ne (ne_of_none q hn)]; exact q
  frzs := fun b u xs q => by rw [upd_ne (ne_of_none q hn)]; exact q
  tbls := fun b ps q => ⟨#[], by rw [upd_ne (ne_of_none q hn), q]; simp⟩
theorem Un.write (mu : Mut (H x)) (he : e = x ∨ H e = some (.own x)) (k : ∀ b u, b ≠ e → h.get? b = some u → h'.get? b = some u) (heo : ∃ u, h'.get? e = some u) : Un fs ex H (upd H x o) h h' := by
  have hx : ∀ b, H b = none → b ≠ x := fun b n z => by subst z; rw [n] at mu; exact mu
  have hb : ∀ b, H b = none → b ≠ e := fun b n z => by
    subst z
    rcases he with r | r
    · exact hx b n r
    · rw [n] at r; cases r
  have hm : ∀ b u, H b = some u → ¬ Mut (some u) → b ≠ x := fun b u q nm z => by subst z; rw [q] at mu; exact nm mu
  refine ⟨fun b u q n _ _ => k b u (hb b n) q, fun b u q n _ _ => ⟨u.slots, k b u (hb b n) q⟩, fun b u q n _ => by rw [upd_ne (hx b n)]; exact n, fun b u q _ => ?_,
    fun b xs q => by rw [upd_ne (hm b _ q fun z => z)]; exact q, fun b u xs q => by rw [upd_ne (hm b _ q fun z => z)]; exact q, fun b ps q => ⟨#[], by rw [upd_ne (hm b _ q fun z => z), q]; simp⟩⟩
  by_cases hbe : b = e
  · subst hbe; exact heo
  · exact ⟨u, k b u hbe q⟩
end

def trk (h : Heap) (H : Hp) : List Addr := (List.range h.objs.size).filter fun a => (H a).isSome
def hidT (h : Heap) (H : Hp) : Heap := PySem.W.hideAll h (trk h H)
theorem hidT_size (h : Heap) (H : Hp) : (hidT h H).objs.size = h.objs.size := PySem.W.hideAll_size _ _
theorem hidT_get {h : Heap} {H : Hp} {b : Addr} {o : Obj} (e : h.get? b = some o) (n : H b = none) : (hidT h H).get? b = some o :=
  PySem.W.hideAll_get _ e fun hm => by
    have q : (H b).isSome = true := (List.mem_filter.mp hm).2
    rw [n] at q; simp at q
theorem of_hidT {h : Heap} {H : Hp} {b : Addr} {o : Obj} (e : (hidT h H).get? b = some o) : h.get? b = some o ∧ H b = none := by
  have e' : h.get? b = some o := PySem.W.of_hideAll (trk h H) e
  refine ⟨e', ?_⟩
  cases q : H b with
  | none => rfl
  | some x =>
    have hm : b ∈ trk h H := List.mem_filter.mpr ⟨List.mem_range.mpr (Heap.lt_size e'), by simp [q]⟩
    have z : (hidT h H).get? b = none := PySem.W.hideAll_none (trk h H) hm
    rw [z] at e; cases e

end L2

namespace L2
open PySem PySem.Spec PyProof.Rows

/-- the module's facts, over the base: the heap at the law's entry without what is tracked there -/
structure Mod (K : PySem.W.Frag) (mg : Str → Option Value) (base : Heap) : Prop where
  kin : K.In base
  glob : base.Ns mainGlobals mg
  blt : ∃ mb, base.Ns builtinsNs mb ∧ ∀ x : Str, x ≠ "__name__" → mb x = bootBuiltins x
  nolimit : base.NoLimit

/-- the context: a def's body (or a comprehension's block) running. base: fixed through the whole law; s₀, H₀: the entry; outer: the frames whose slots others may change (a def's callers); stack: all frames that run;
   ex: iterators that were made ahead of the entry and are walked here (a comprehension's); fn: the names whose cells were made at the entry (a def: all; a comprehension's block: its own); calm: not within an except suite; pn: pins that every state bears; xe: what is wanted of an exception that leaves the code -/
structure Cx where
  prog : Program
  w : World
  K : PySem.W.Frag
  mg : Str → Option Value
  base : Heap
  A : Around
  N : List Str
  s₀ : Shared
  H₀ : Hp
  env : Env
  outer : List Env
  stack : List Env
  ex : List Addr
  fn : Str → Bool
  calm : Bool
  pn : List (Addr × Obj)
  xe : Value → Shared → Prop
/-- the callers' frames -/
def frs (l : List Env) : List Addr := l.filterMap (·.frame)
abbrev Cx.fs (X : Cx) : List Addr := frs X.outer

def Vis (sc : Scope) (x : Str) : Prop := sc.names.lookup x = some .local ∨ sc.names.lookup x = some .cell ∨ sc.names.lookup x = some .free
def Loc (sc : Scope) (x : Str) : Prop := sc.names.lookup x = some .local ∨ sc.names.lookup x = some .cell
def Look (env : Env) (h : Heap) (m : Str → Option Value) (x : Str) (u : Value) : Prop :=
  (env.kindOf x = some .local ∧ m x = some u) ∨ ((env.kindOf x = some .cell ∨ env.kindOf x = some .free) ∧ ∃ c, env.cells.lookup x = some c ∧ h.IsCell c (some u))

structure Cx.Ok (X : Cx) : Prop where
  mod : Mod X.K X.mg X.base
  kind : X.env.scope.kind = .function
  glob : X.env.globals = mainGlobals
  blt : X.env.builtins = builtinsNs
  above : X.s₀.heap.objs.size ≤ X.env.locals
  inj : ∀ x y c, X.env.cells.lookup x = some c → X.env.cells.lookup y = some c → x = y
  has : ∀ x, (X.env.kindOf x = some .cell ∨ X.env.kindOf x = some .free) → ∃ c, X.env.cells.lookup x = some c
  cab : ∀ x c, X.fn x = true → X.env.cells.lookup x = some c → X.s₀.heap.objs.size ≤ c
  hd : X.calm = true → X.A.handled = none
  frames : X.A.frames = some X.stack
  stk : X.stack = X.outer ∨ (X.stack = X.env :: X.outer ∧ X.env.frame = some X.env.locals)
  exf : ∀ b ∈ X.ex, b ≠ X.env.locals ∧ ∀ x c, X.env.cells.lookup x = some c → c ≠ b
  bs : ∀ b o, X.base.get? b = some o → X.s₀.heap.get? b = some o ∧ X.H₀ b = none
  bsz : X.base.objs.size ≤ X.s₀.heap.objs.size
  noex : ∀ b o, X.base.get? b = some o → b ∉ X.ex
  exfs : ∀ b ∈ X.ex, b ∉ X.fs
  funs : X.s₀.heap.FunFrames X.base X.outer
  frf : ∀ b ∈ X.fs, X.H₀ b = none

structure Inv (X : Cx) (pins : List (Addr × Obj)) (σ : List (Option V)) (H : Hp) (s : Shared) : Prop where
  ok : X.Ok
  os : s.os = X.s₀.os
  bare : AllBare s.gens
  base : Un X.fs X.ex X.H₀ H X.s₀.heap s.heap
  loc : ∃ m, s.heap.Ns X.env.locals m ∧ ∀ (i : Nat) (x : Str) (v : V), X.N[i]? = some x → σ[i]? = some (some v) → Vis X.env.scope x → ∃ u, RelV v u ∧ Look X.env s.heap m x u
  cell : ∀ x c, X.env.cells.lookup x = some c → ∃ v, s.heap.IsCell c v
  free : H X.env.locals = none
  freeC : ∀ x c, X.env.cells.lookup x = some c → H c = none
  pin : ∀ p ∈ X.pn ++ pins, s.heap.get? p.1 = some p.2 ∧ H p.1 = none ∧ p.1 ≠ X.env.locals ∧ p.1 ∉ X.fs ∧ ∀ v, p.2.data ≠ .cell v
  hok : HOk X.prog X.w H s.heap
  len : σ.length = X.N.length

section
variable {X : Cx} {pins : List (Addr × Obj)} {σ : List (Option V)} {H H' : Hp} {s : Shared} {h' : Heap}

theorem Cx.Ok.nofr (ok : X.Ok) {b : Addr} {o : Obj} (e : X.base.get? b = some o) : b ∉ X.fs := fun hb => by
  have := (ok.funs.mem hb).1
  rw [e] at this; cases this
theorem Inv.bs (I : Inv X pins σ H s) : ∀ b o, X.base.get? b = some o → s.heap.get? b = some o ∧ H b = none := fun b o e =>
  ⟨I.base.keep b o (I.ok.bs b o e).1 (I.ok.bs b o e).2 (I.ok.nofr e) (I.ok.noex b o e), I.base.free b o (I.ok.bs b o e).1 (I.ok.bs b o e).2 (I.ok.noex b o e)⟩
theorem Inv.bk (I : Inv X pins σ H s) : ∀ b o, X.base.get? b = some o → s.heap.get? b = some o := fun b o e => (I.bs b o e).1
theorem Inv.mod (I : Inv X pins σ H s) : Mod X.K X.mg X.base := I.ok.mod
theorem Inv.kIn (I : Inv X pins σ H s) : X.K.In s.heap := I.ok.mod.kin.keeps I.bk
theorem Inv.lt (I : Inv X pins σ H s) : X.env.locals < s.heap.objs.size := let ⟨_, hn, _⟩ := I.loc; hn.lt
theorem Inv.sz (I : Inv X pins σ H s) : X.s₀.heap.objs.size ≤ s.heap.objs.size := Nat.le_trans I.ok.above (Nat.le_of_lt I.lt)
theorem Inv.nofs (I : Inv X pins σ H s) {a : Addr} (h : s.heap.objs.size ≤ a) : a ∉ X.fs := fun hb => by
  obtain ⟨_, o, ho, _⟩ := I.ok.funs.mem hb
  exact absurd (Nat.lt_of_lt_of_le (Heap.lt_size ho) (Nat.le_trans I.sz h)) (Nat.lt_irrefl _)
theorem Inv.cne (I : Inv X pins σ H s) : ∀ x c, X.env.cells.lookup x = some c → c ≠ X.env.locals := fun x c e z => by
  obtain ⟨v, o, ho, hd⟩ := I.cell x c e
  obtain ⟨m, ⟨o', es, ep, ho', hd', _⟩, _⟩ := I.loc
  rw [z, ho'] at ho; cases ho; rw [hd'] at hd; cases hd
theorem Inv.funs (I : Inv X pins σ H s) : s.heap.FunFrames X.base X.outer := by
  have all : ∀ (l : List Env), (∀ b ∈ frs l, b ∈ X.fs) → X.s₀.heap.FunFrames X.base l → s.heap.FunFrames X.base l := by
    intro l
    induction l with
    | nil => intro _ _; trivial
    | cons env r ih =>
      intro hs hl
      obtain ⟨hk, ⟨L, o, hf, hn, ho, hd⟩, hr⟩ := hl
      have hL : L ∈ X.fs := hs L (by unfold frs; rw [List.filterMap_cons, hf]; exact List.mem_cons_self)
      obtain ⟨sl, e⟩ := I.base.slot L o ho (I.ok.frf L hL) hL fun z => I.ok.exfs L z hL
      exact ⟨hk, ⟨L, _, hf, hn, e, hd⟩, ih (fun b hb => hs b (by unfold frs; rw [List.filterMap_cons, hf]; exact List.mem_cons_of_mem _ hb)) hr⟩
  exact all X.outer (fun _ hb => hb) I.ok.funs

/-- the frames that run, for a call -/
theorem Inv.stack (I : Inv X pins σ H s) : s.heap.FunFrames X.base X.stack := by
  rcases I.ok.stk with e | ⟨e, hf⟩
  · rw [e]; exact I.funs
  · rw [e]
    obtain ⟨m, hn, _⟩ := I.loc
    refine .cons (by rw [I.ok.kind]; decide) hf hn ?_ I.funs
    exact Heap.get?_none_of_le (Nat.le_trans I.ok.bsz I.ok.above)
theorem Inv.stkSub (I : Inv X pins σ H s) : ∀ b ∈ frs X.stack, b ∈ X.env.locals :: X.fs := fun b hb => by
  rcases I.ok.stk with e | ⟨e, hf⟩
  · rw [e] at hb; exact List.mem_cons_of_mem _ hb
  · rw [e] at hb
    unfold frs at hb
    rw [List.filterMap_cons, hf] at hb
    exact hb
theorem Inv.stkFree (I : Inv X pins σ H s) : ∀ b ∈ frs X.stack, H b = none := fun b hb => by
  rcases List.mem_cons.mp (I.stkSub b hb) with e | hb
  · rw [e]; exact I.free
  · obtain ⟨_, o, ho, _⟩ := I.ok.funs.mem hb
    exact I.base.free b o ho (I.ok.frf b hb) fun z => I.ok.exfs b z hb

/-- THE STEP: the untracked objects but the frame and the records at ch are kept (the callers' frames up to slots), the frame's map is kept, the new abstract heap is held -/
theorem Inv.step {g' : Array GenState} {t' : Nat} {d' : Drawn} {ch : List Addr} (I : Inv X pins σ H s)
    (hch : ∀ b ∈ ch, (b ∈ X.ex ∨ X.s₀.heap.objs.size ≤ b) ∧ b ≠ X.env.locals ∧ (∀ x c, X.env.cells.lookup x = some c → c ≠ b) ∧ ∀ p ∈ X.pn ++ pins, p.1 ≠ b)
    (keep : ∀ b o, b ≠ X.env.locals → b ∉ X.fs → b ∉ ch → s.heap.get? b = some o → H b = none → h'.get? b = some o)
    (slot : ∀ b o, b ≠ X.env.locals → b ∈ X.fs → b ∉ ch → s.heap.get? b = some o → H b = none → ∃ sl, h'.get? b = some { o with slots := sl }) (free : ∀ b o, b ∉ ch → s.heap.get? b = some o → H b = none → H' b = none)
    (there : ∀ b o, b ∉ ch → s.heap.get? b = some o → ∃ o', h'.get? b = some o')
    (tups : ∀ b xs, H b = some (.tup xs) → H' b = some (.tup xs)) (frzs : ∀ b o u, H b = some (.frz o u) → H' b = some (.frz o u)) (tbls : ∀ b ps, H b = some (.tbl ps) → ∃ more, H' b = some (.tbl (ps ++ more)))
    (ns : ∀ m, s.heap.Ns X.env.locals m → h'.Ns X.env.locals m) (hok : HOk X.prog X.w H' h') (hg : AllBare g') :
    Inv X pins σ H' { s with heap := h', gens := g', drawn := d', toks := t' } := by
  have neL : ∀ b o, X.s₀.heap.get? b = some o → b ≠ X.env.locals := fun b o e => Nat.ne_of_lt (Nat.lt_of_lt_of_le (Heap.lt_size e) I.ok.above)
  have neC : ∀ b o, X.s₀.heap.get? b = some o → b ∉ X.ex → b ∉ ch := fun b o e hx hb => by
    rcases (hch b hb).1 with z | z
    · exact hx z
    · exact absurd (Nat.lt_of_lt_of_le (Heap.lt_size e) z) (Nat.lt_irrefl _)
  have cellK : ∀ x c, X.env.cells.lookup x = some c → ∀ v, s.heap.IsCell c v → h'.IsCell c v := fun x c e v ⟨o, ho, hd⟩ => by
    have nch : c ∉ ch := fun z => (hch c z).2.2.1 x c e rfl
    by_cases hc : c ∈ X.fs
    · obtain ⟨sl, q⟩ := slot c o (I.cne x c e) hc nch ho (I.freeC x c e)
      exact ⟨_, q, hd⟩
    · exact ⟨o, keep c o (I.cne x c e) hc nch ho (I.freeC x c e), hd⟩
  refine ⟨I.ok, I.os, hg, ⟨fun b o e n hb hx => ?_, fun b o e n hb hx => ?_, fun b o e n hx => ?_, fun b o e hx => ?_, fun b xs e => tups b xs (I.base.tups b xs e), fun b o xs e => frzs b o xs (I.base.frzs b o xs e), fun b ps e => ?_⟩, ?_, fun x c e => ?_, ?_, fun x c e => ?_, fun p hp => ?_, hok, I.len⟩
  · exact keep b o (neL b o e) hb (neC b o e hx) (I.base.keep b o e n hb hx) (I.base.free b o e n hx)
  · obtain ⟨sl, e1⟩ := I.base.slot b o e n hb hx
    obtain ⟨sl', e2⟩ := slot b _ (neL b o e) hb (neC b o e hx) e1 (I.base.free b o e n hx)
    exact ⟨sl', e2⟩
  · obtain ⟨o', e1⟩ := I.base.there b o e hx
    exact free b o' (neC b o e hx) e1 (I.base.free b o e n hx)
  · obtain ⟨o', e1⟩ := I.base.there b o e hx
    exact there b o' (neC b o e hx) e1
  · obtain ⟨m1, e1⟩ := I.base.tbls b ps e
    obtain ⟨m2, e2⟩ := tbls b _ e1
    exact ⟨m1 ++ m2, by rw [e2, Array.append_assoc]⟩
  · obtain ⟨m, hn, hl⟩ := I.loc
    refine ⟨m, ns m hn, fun i x v e1 e2 e3 => ?_⟩
    obtain ⟨u, r, l⟩ := hl i x v e1 e2 e3
    refine ⟨u, r, ?_⟩
    rcases l with l | ⟨k, c, e, z⟩
    · exact .inl l
    · exact .inr ⟨k, c, e, cellK x c e _ z⟩
  · obtain ⟨v, z⟩ := I.cell x c e
    exact ⟨v, cellK x c e v z⟩
  · obtain ⟨m, ⟨o, _, _, ho, _⟩, _⟩ := I.loc
    exact free _ o (fun z => (hch _ z).2.1 rfl) ho I.free
  · obtain ⟨v, o, ho, hd⟩ := I.cell x c e
    exact free c o (fun z => (hch c z).2.2.1 x c e rfl) ho (I.freeC x c e)
  · obtain ⟨e, n, ne, nf, d⟩ := I.pin p hp
    have nch : p.1 ∉ ch := fun z => (hch p.1 z).2.2.2 p hp rfl
    exact ⟨keep p.1 p.2 ne nf nch e n, free p.1 p.2 nch e n, ne, nf, d⟩
/-- .. where the frame's own object is kept too -/
theorem Inv.un {t' : Nat} (I : Inv X pins σ H s) (u : Un X.fs [] H H' s.heap h') (hok : HOk X.prog X.w H' h') : Inv X pins σ H' { s with heap := h', toks := t' } := by
  obtain ⟨m, ⟨o, es, ep, ho, r⟩, _⟩ := id I.loc
  obtain ⟨sl, hL⟩ := u.any ho I.free (by simp)
  exact I.step (g' := s.gens) (d' := s.drawn) (ch := []) (fun _ z => nomatch z) (fun b o _ hb _ e n => u.keep b o e n hb (by simp)) (fun b o _ hb _ e n => u.slot b o e n hb (by simp)) (fun b o _ e n => u.free b o e n (by simp)) (fun b o _ e => u.there b o e (by simp)) u.tups u.frzs u.tbls (fun m' hm => by
    obtain ⟨o', es', ep', ho', r'⟩ := hm
    rw [ho] at ho'; cases ho'
    exact ⟨_, es', ep', hL, r'⟩) hok I.bare
/-- behind a call (or a comprehension's block): the slots of this frame may have changed too, the records at ch may have turned -/
theorem Inv.call {g' : Array GenState} {t' : Nat} {d' : Drawn} {ch : List Addr} (I : Inv X pins σ H s) (u : Un (frs X.stack) ch H H' s.heap h') (hok : HOk X.prog X.w H' h') (hg : AllBare g')
    (hch : ∀ b ∈ ch, (b ∈ X.ex ∨ X.s₀.heap.objs.size ≤ b) ∧ b ≠ X.env.locals ∧ (∀ x c, X.env.cells.lookup x = some c → c ≠ b) ∧ ∀ p ∈ X.pn ++ pins, p.1 ≠ b) :
    Inv X pins σ H' { s with heap := h', gens := g', drawn := d', toks := t' } := by
  obtain ⟨m, ⟨o, es, ep, ho, r⟩, _⟩ := id I.loc
  obtain ⟨sl, hL⟩ := u.any ho I.free fun z => (hch _ z).2.1 rfl
  exact I.step (ch := ch) hch (fun b o hL hb hc e n => u.keep b o e n (fun z => (List.mem_cons.mp (I.stkSub b z)).elim hL hb) hc) (fun b o _ _ hc e n => u.any e n hc) (fun b o hc e n => u.free b o e n hc) (fun b o hc e => u.there b o e hc) u.tups u.frzs u.tbls (fun m' hm => by
    obtain ⟨o', es', ep', ho', r'⟩ := hm
    rw [ho] at ho'; cases ho'
    exact ⟨_, es', ep', hL, r'⟩) hok hg
/-- an untracked record of ours (an iterator) has turned -/
theorem Inv.turned {t' : Nat} {it : Addr} (I : Inv X pins σ H s) (k : ∀ b o, b ≠ it → s.heap.get? b = some o → h'.get? b = some o) (hn : H it = none) (hL : it ≠ X.env.locals)
    (h1 : it ∈ X.ex ∨ X.s₀.heap.objs.size ≤ it) (h2 : ∀ x c, X.env.cells.lookup x = some c → c ≠ it) (h3 : ∀ p ∈ X.pn ++ pins, p.1 ≠ it) : Inv X pins σ H { s with heap := h', toks := t' } := by
  have nit : ∀ b u, H b = some u → b ≠ it := fun b u e z => by rw [z, hn] at e; cases e
  refine I.step (g' := s.gens) (d' := s.drawn) (ch := [it]) (fun b hb => ?_) (fun b o _ _ hc e _ => k b o (fun z => hc (by simp [z])) e) (fun b o _ _ hc e _ => ⟨o.slots, k b o (fun z => hc (by simp [z])) e⟩) (fun _ _ _ _ n => n)
    (fun b o hc e => ⟨o, k b o (fun z => hc (by simp [z])) e⟩) (fun _ _ e => e) (fun _ _ _ e => e) (fun b ps e => ⟨#[], by rw [e]; simp⟩) (fun m hm => ?_) (fun b u e => ?_) I.bare
  · have e : b = it := by simpa using hb
    subst e
    exact ⟨h1, hL, h2, h3⟩
  · obtain ⟨o, es, ep, ho, r⟩ := hm
    exact ⟨o, es, ep, k _ o (Ne.symm hL) ho, r⟩
  · refine (I.hok b u e).stay (fun c v hc q => k c v ?_ q) (fun _ q => q) fun _ _ q => q
    rcases hc with z | z
    · rw [z]; exact nit b u e
    · exact nit c _ z
theorem Inv.tok (I : Inv X pins σ H s) (t : Nat) : Inv X pins σ H { s with toks := t } := I.un (h' := s.heap) (t' := t) Un.refl I.hok
/-- all objects kept -/
theorem Inv.kept {t' : Nat} (I : Inv X pins σ H s) (k : ∀ b u, s.heap.get? b = some u → h'.get? b = some u) : Inv X pins σ H { s with heap := h', toks := t' } := I.un (Un.kept k) (I.hok.kept k)
/-- a new object laid and tracked -/
theorem Inv.laid {a : Addr} {o : HO} {t' : Nat} (I : Inv X pins σ H s) (k : ∀ b u, s.heap.get? b = some u → h'.get? b = some u) (hp : s.heap.objs.size ≤ a) (new : ObjOk X.prog X.w (upd H a o) h' a o) :
    Inv X pins σ (upd H a o) { s with heap := h', toks := t' } := I.un (Un.laid k hp (I.hok.fresh hp)) (I.hok.laid k hp new)
/-- an object written -/
theorem Inv.write {x e : Addr} {o : HO} {t' : Nat} (I : Inv X pins σ H s) (mu : Mut (H x)) (he : e = x ∨ H e = some (.own x)) (k : ∀ b u, b ≠ e → s.heap.get? b = some u → h'.get? b = some u) (heo : ∃ u, h'.get? e = some u)
    (new : ObjOk X.prog X.w (upd H x o) h' x o) : Inv X pins σ (upd H x o) { s with heap := h', toks := t' } := I.un (Un.write mu he k heo) (I.hok.write mu he k heo new)
/-- forgetting slots, pins -/
theorem Inv.weak {σ' : List (Option V)} (I : Inv X pins σ H s) (hl : σ'.length = σ.length) (w : ∀ (i : Nat) v, σ'[i]? = some (some v) → σ[i]? = some (some v)) : Inv X pins σ' H s :=
  ⟨I.ok, I.os, I.bare, I.base, let ⟨m, hn, hl'⟩ := I.loc; ⟨m, hn, fun i x v e1 e2 e3 => hl' i x v e1 (w i v e2) e3⟩, I.cell, I.free, I.freeC, I.pin, I.hok, hl.trans I.len⟩
theorem Inv.pins_of {pins' : List (Addr × Obj)} (I : Inv X pins σ H s) (h : ∀ p ∈ pins', s.heap.get? p.1 = some p.2 ∧ H p.1 = none ∧ p.1 ≠ X.env.locals ∧ p.1 ∉ X.fs ∧ ∀ v, p.2.data ≠ .cell v) : Inv X pins' σ H s :=
  ⟨I.ok, I.os, I.bare, I.base, I.loc, I.cell, I.free, I.freeC, fun p hp => (List.mem_append.mp hp).elim (fun z => I.pin p (List.mem_append_left _ z)) (h p), I.hok, I.len⟩

theorem nodup_ix {N : List Str} (hN : N.Nodup) {i j : Nat} {x : Str} (a : N[i]? = some x) (b : N[j]? = some x) : i = j := by
  obtain ⟨h1, e1⟩ := List.getElem?_eq_some_iff.mp a
  obtain ⟨h2, e2⟩ := List.getElem?_eq_some_iff.mp b
  exact (List.getElem_inj hN).mp (e1.trans e2.symm)

/-- a name is stored; what changed -/
theorem store_ok2 {M : Model} {A : Around} {E : Value → Shared → Prop} {i : Nat} {x : Str} {v : V} {u : Value} {Q : Unit → Shared → Prop} (I : Inv X pins σ H s) (hN : X.N.Nodup) (hi : X.N[i]? = some x) (hx : Loc X.env.scope x) (r : RelV v u)
    (h : ∀ s', Inv X pins (σ.set i (some v)) H s' → (∃ a, Heap.SameBut a s.heap s'.heap ∧ (a = X.env.locals ∨ X.env.cells.lookup x = some a)) → Q () s') (hf : X.fn x = true ∨ X.env.scope.names.lookup x = some .local := by first | exact .inl rfl | exact .inr rfl | assumption) : wpAny M A (storeName X.env x u) Q E s := by
  obtain ⟨m, hn, hl⟩ := id I.loc
  have hcls : (X.env.scope.kind == .class || (X.env.scope.kind == .module && X.env.locals != X.env.globals)) = false := by rw [I.ok.kind]; rfl
  have hiσ : i < σ.length := by rw [I.len]; exact (List.getElem?_eq_some_iff.mp hi).1
  have cne := I.cne
  have tracked : ∀ {a : Addr} {h' : Heap}, (∃ o, s.heap.get? a = some o ∧ H a = none) → Heap.SameBut a s.heap h' → HOk X.prog X.w H h' := fun {a h'} ha hs b ob e => by
    obtain ⟨_, _, hfree⟩ := ha
    refine (I.hok b ob e).stay (fun c w' hc q => (hs.2 c ?_).trans q) (fun _ q => q) fun _ _ q => q
    rintro rfl
    rcases hc with rfl | hc
    · rw [hfree] at e; cases e
    · rw [hfree] at hc; cases hc
  rcases hx with hk | hk
  · refine wpAny_storeName_local hk hn (fun h' hn' hs => ?_) hcls
    obtain ⟨oL, _, _, hoL, _⟩ := id hn
    refine h _ ⟨I.ok, I.os, I.bare, ⟨fun b o e n hb hx => ?_, fun b o e n hb hx => ?_, I.base.free, fun b o e hx => ?_, I.base.tups, I.base.frzs, I.base.tbls⟩, ⟨_, hn', fun j y v' e1 e2 e3 => ?_⟩, fun y c e => ?_, I.free, I.freeC, fun p hp => ?_, tracked ⟨oL, hoL, I.free⟩ hs, by simpa using I.len⟩ ⟨_, hs, .inl rfl⟩
    · exact (hs.2 b (Nat.ne_of_lt (Nat.lt_of_lt_of_le (Heap.lt_size e) I.ok.above))).trans (I.base.keep b o e n hb hx)
    · obtain ⟨sl, e1⟩ := I.base.slot b o e n hb hx
      exact ⟨sl, (hs.2 b (Nat.ne_of_lt (Nat.lt_of_lt_of_le (Heap.lt_size e) I.ok.above))).trans e1⟩
    · obtain ⟨o', e1⟩ := I.base.there b o e hx
      exact ⟨o', (hs.2 b (Nat.ne_of_lt (Nat.lt_of_lt_of_le (Heap.lt_size e) I.ok.above))).trans e1⟩
    · by_cases hj : j = i
      · subst hj
        rw [hi] at e1; cases e1
        rw [List.getElem?_set_self hiσ] at e2
        cases e2
        exact ⟨u, r, .inl ⟨hk, by simp⟩⟩
      · rw [List.getElem?_set_ne (Ne.symm hj)] at e2
        obtain ⟨u', r', q⟩ := hl j y v' e1 e2 e3
        refine ⟨u', r', ?_⟩
        rcases q with ⟨k, e⟩ | ⟨k, c, e, z⟩
        · refine .inl ⟨k, ?_⟩
          have : y ≠ x := fun e => hj (nodup_ix hN e1 (e ▸ hi))
          simp [this, e]
        · exact .inr ⟨k, c, e, z.sameBut hs (cne y c e)⟩
    · obtain ⟨w', z⟩ := I.cell y c e
      exact ⟨w', z.sameBut hs (cne y c e)⟩
    · obtain ⟨e, n, ne, nf, d⟩ := I.pin p hp
      exact ⟨(hs.2 p.1 ne).trans e, n, ne, nf, d⟩
  · have hfn : X.fn x = true := by
      rcases hf with z | z
      · exact z
      · rw [z] at hk; cases hk
    obtain ⟨c, hc⟩ := I.ok.has x (.inl hk)
    obtain ⟨w', z⟩ := I.cell x c hc
    refine wpAny_storeName_cell I.ok.kind hk hc z (fun h' hc' hs => ?_)
    obtain ⟨oc, hoc, hocd⟩ := id z
    refine h { s with heap := h' } ⟨I.ok, I.os, I.bare, ⟨fun b o e n hb hx => ?_, fun b o e n hb hx => ?_, I.base.free, fun b o e hx => ?_, I.base.tups, I.base.frzs, I.base.tbls⟩, ⟨m, hn.sameBut hs (Ne.symm (cne x c hc)), fun j y v' e1 e2 e3 => ?_⟩, fun y c' e => ?_, I.free, I.freeC, fun p hp => ?_, tracked ⟨oc, hoc, I.freeC x c hc⟩ hs, by simpa using I.len⟩ ⟨c, hs, .inr hc⟩
    · exact (hs.2 b (Nat.ne_of_lt (Nat.lt_of_lt_of_le (Heap.lt_size e) (I.ok.cab x c hfn hc)))).trans (I.base.keep b o e n hb hx)
    · obtain ⟨sl, e1⟩ := I.base.slot b o e n hb hx
      exact ⟨sl, (hs.2 b (Nat.ne_of_lt (Nat.lt_of_lt_of_le (Heap.lt_size e) (I.ok.cab x c hfn hc)))).trans e1⟩
    · obtain ⟨o', e1⟩ := I.base.there b o e hx
      exact ⟨o', (hs.2 b (Nat.ne_of_lt (Nat.lt_of_lt_of_le (Heap.lt_size e) (I.ok.cab x c hfn hc)))).trans e1⟩
    · by_cases hj : j = i
      · subst hj
        rw [hi] at e1; cases e1
        rw [List.getElem?_set_self hiσ] at e2
        cases e2
        exact ⟨u, r, .inr ⟨.inl hk, c, hc, hc'⟩⟩
      · rw [List.getElem?_set_ne (Ne.symm hj)] at e2
        obtain ⟨u', r', q⟩ := hl j y v' e1 e2 e3
        refine ⟨u', r', ?_⟩
        rcases q with q | ⟨k, c', e, z'⟩
        · exact .inl q
        · refine .inr ⟨k, c', e, z'.sameBut hs ?_⟩
          rintro rfl
          exact hj (nodup_ix hN e1 (I.ok.inj _ _ _ e hc ▸ hi))
    · by_cases hcc : c' = c
      · subst hcc; exact ⟨_, hc'⟩
      · obtain ⟨w2, z2⟩ := I.cell y c' e
        exact ⟨w2, z2.sameBut hs hcc⟩
    · obtain ⟨e, n, ne, nf, d⟩ := I.pin p hp
      refine ⟨(hs.2 p.1 ?_).trans e, n, ne, nf, d⟩
      intro q
      rw [q, hoc] at e
      have q' : oc = p.2 := Option.some.inj e
      exact d w' (by rw [← q']; exact hocd)
theorem store_ok {M : Model} {A : Around} {E : Value → Shared → Prop} {i : Nat} {x : Str} {v : V} {u : Value} {Q : Unit → Shared → Prop} (I : Inv X pins σ H s) (hN : X.N.Nodup) (hi : X.N[i]? = some x) (hx : Loc X.env.scope x) (r : RelV v u)
    (h : ∀ s', Inv X pins (σ.set i (some v)) H s' → Q () s') (hf : X.fn x = true ∨ X.env.scope.names.lookup x = some .local := by first | exact .inl rfl | exact .inr rfl | assumption) : wpAny M A (storeName X.env x u) Q E s :=
  store_ok2 I hN hi hx r (fun s' I' _ => h s' I') hf
/-- behind a call or a block, the state as it is -/
theorem Inv.call' {s' : Shared} {ch : List Addr} (I : Inv X pins σ H s) (ho : s'.os = s.os) (u : Un (frs X.stack) ch H H' s.heap s'.heap) (hok : HOk X.prog X.w H' s'.heap) (hg : AllBare s'.gens)
    (hch : ∀ b ∈ ch, (b ∈ X.ex ∨ X.s₀.heap.objs.size ≤ b) ∧ b ≠ X.env.locals ∧ (∀ x c, X.env.cells.lookup x = some c → c ≠ b) ∧ ∀ p ∈ X.pn ++ pins, p.1 ≠ b) : Inv X pins σ H' s' := by
  obtain ⟨h', g', d', t', o'⟩ := s'
  have e : o' = s.os := ho
  subst e
  exact I.call (g' := g') (t' := t') (d' := d') u hok hg hch
end

/-- an exception: its class, its own dict's address (where it has one), the abstract heap behind it -/
abbrev XK := Value → Option Addr → Hp → Prop
abbrev St := List (Option V)
abbrev VK := V → Hp → Prop
/-- an expression's reading; a test's; an argument list's -/
abbrev TE := St → Hp → VK → Prop
abbrev TT := St → Hp → (Bool → Hp → Prop) → Prop
abbrev TA := St → Hp → (List V → Hp → Prop) → Prop
/-- what is wanted behind a statement -/
structure Ends where
  nx : St → Hp → Prop
  rt : VK
  bk : St → Hp → Prop := fun _ _ => False
  ct : St → Hp → Prop := fun _ _ => False
abbrev TS := Ends → St → Hp → Prop

def EP (X : Cx) (pins : List (Addr × Obj)) (σ : St) (Q : VK) (u : Value) (s' : Shared) : Prop := ∃ v H', Inv X pins σ H' s' ∧ RelV v u ∧ Q v H'
def TP (X : Cx) (pins : List (Addr × Obj)) (σ : St) (Q : Bool → Hp → Prop) (b : Bool) (s' : Shared) : Prop := ∃ H', Inv X pins σ H' s' ∧ Q b H'
def AP (X : Cx) (pins : List (Addr × Obj)) (σ : St) (Q : List V → Hp → Prop) (us : List Value) (s' : Shared) : Prop := ∃ vs H', Inv X pins σ H' s' ∧ Vals vs us ∧ Q vs H'
def SP (X : Cx) (pins : List (Addr × Obj)) (D : Ends) (f : Flow) (s' : Shared) : Prop :=
  match f with
  | .next => ∃ σ' H', Inv X pins σ' H' s' ∧ D.nx σ' H'
  | .brk => ∃ σ' H', Inv X pins σ' H' s' ∧ D.bk σ' H'
  | .cont => ∃ σ' H', Inv X pins σ' H' s' ∧ D.ct σ' H'
  | .ret u => ∃ v σ' H', Inv X pins σ' H' s' ∧ RelV v u ∧ D.rt v H'

def PE (X : Cx) (e : Expr) (t : TE) : Prop :=
  ∀ (pins : List (Addr × Obj)) (s : Shared) (σ : St) (H : Hp) (Q : VK), Inv X pins σ H s → t σ H Q → wpAny (model X.prog X.w) X.A (eval e X.env) (EP X pins σ Q) X.xe s
def PT (X : Cx) (e : Expr) (t : TT) : Prop :=
  ∀ (pins : List (Addr × Obj)) (s : Shared) (σ : St) (H : Hp) (Q : Bool → Hp → Prop), Inv X pins σ H s → t σ H Q → wpAny (model X.prog X.w) X.A (isTrue e X.env (eval e X.env)) (TP X pins σ Q) X.xe s
/-- a test whatever its 'whole' is (and, or) -/
def PW (X : Cx) (e : Expr) (t : TT) : Prop :=
  ∀ (whole : Sem Value) (pins : List (Addr × Obj)) (s : Shared) (σ : St) (H : Hp) (Q : Bool → Hp → Prop), Inv X pins σ H s → t σ H Q → wpAny (model X.prog X.w) X.A (isTrue e X.env whole) (TP X pins σ Q) X.xe s
theorem PW.pt {X : Cx} {e : Expr} {t : TT} (h : PW X e t) : PT X e t := h _
/-- an argument list (no star), from the left -/
def PA (X : Cx) (es : List Expr) (t : TA) : Prop :=
  ∀ (pos : Pos) (pins : List (Addr × Obj)) (s : Shared) (σ : St) (H : Hp) (Q : List V → Hp → Prop), Inv X pins σ H s → t σ H Q → wpAny (model X.prog X.w) X.A (spliced (backTo pos (starEach es X.env))) (AP X pins σ Q) X.xe s
def PS (X : Cx) (st : Stmt) (t : TS) : Prop :=
  ∀ (pins : List (Addr × Obj)) (s : Shared) (σ : St) (H : Hp) (D : Ends), Inv X pins σ H s → t D σ H → wpAny (model X.prog X.w) X.A (exec st X.env) (SP X pins D) X.xe s
def PSs (X : Cx) (st : List Stmt) (t : TS) : Prop :=
  ∀ (pins : List (Addr × Obj)) (s : Shared) (σ : St) (H : Hp) (D : Ends), Inv X pins σ H s → t D σ H → wpAny (model X.prog X.w) X.A (execs st X.env) (SP X pins D) X.xe s
/-- weaken the end -/
theorem thn {α : Type} {t : Sem α} {Q Q' : α → Shared → Prop} {M : Model} {A : Around} {E : Value → Shared → Prop} {s : Shared} (h : wpAny M A t Q E s) (hQ : ∀ a s, Q a s → Q' a s) : wpAny M A t Q' E s := wpAny_mono h hQ fun _ _ x => x
end L2

namespace L2
open PySem PySem.Spec PyProof.Rows
section
variable {X : Cx}

def tVar (i : Nat) : TE := fun σ H Q => ∃ v, σ[i]? = some (some v) ∧ Q v H
def tC (v : V) : TE := fun _ H Q => Q v H
theorem pe_var {i : Nat} {x : Str} {pos : Pos} (hN : X.N[i]? = some x) (hv : Vis X.env.scope x) (hd : (x == ("__debug__" : Str)) = false := by decide) (hcd : (x == ("__classdict__" : Str)) = false := by decide) : PE X (.Name x pos) (tVar i) := by
  intro pins s σ H Q I h
  obtain ⟨v, e, h⟩ := h
  obtain ⟨m, hn, hl⟩ := I.loc
  obtain ⟨u, r, l⟩ := hl i x v hN e hv
  have fin : EP X pins σ Q u s := ⟨v, H, I, r, h⟩
  rcases l with ⟨hk, hm⟩ | ⟨hk, c, hc, hcell⟩
  · exact wpAny_Name (wpAny_loadName_local I.ok.kind hk hn hm fin) hd
  · rcases hk with hk | hk
    · exact wpAny_Name (wpAny_loadName_cell I.ok.kind hk hc hcell fin) hd
    · exact wpAny_Name (wpAny_loadName_free I.ok.kind hk hc hcell fin hcd) hd
theorem pe_int {i j pos} : PE X (.Constant (.int i) j pos) (tC (.int i)) := fun _ _ _ H _ I h => wpAny_Constant_int ⟨.int i, H, I.tok _, ⟨_, rfl⟩, h⟩
theorem pe_bl {b j pos} : PE X (.Constant (.bool b) j pos) (tC (.bl b)) := fun _ _ _ H _ I h => Constant_bool ⟨.bl b, H, I, rfl, h⟩
theorem pe_non {j pos} : PE X (.Constant .none j pos) (tC .non) := fun _ _ _ H _ I h => Constant_none ⟨.non, H, I, rfl, h⟩
theorem pe_str {x j pos} : PE X (.Constant (.str x) j pos) (tC (.str x)) := fun _ _ _ H _ I h => Calls.Constant_str ⟨.str x, H, I.tok _, ⟨_, rfl⟩, h⟩

/-- a global name of the def -/
def Gl (X : Cx) (x : Str) : Prop := X.env.kindOf x = some .globalImplicit
theorem ld_glob {E : Value → Shared → Prop} {pins : List (Addr × Obj)} {s : Shared} {σ : St} {H : Hp} {x : Str} {u : Value} {pos : Pos} {Q : Value → Shared → Prop} (I : Inv X pins σ H s) (hg : Gl X x) (hm : X.mg x = some u) (h : Q u s)
    (hd : (x == ("__debug__" : Str)) = false := by decide) : wpAny (model X.prog X.w) X.A (eval (.Name x pos) X.env) Q E s :=
  Calls.Name_function_global I.ok.kind hg (Calls.loadGlobal_global (by rw [I.ok.glob]; exact I.mod.glob.keeps I.bk) hm h) hd
theorem ld_blt {E : Value → Shared → Prop} {pins : List (Addr × Obj)} {s : Shared} {σ : St} {H : Hp} {x : Str} {u : Value} {pos : Pos} {Q : Value → Shared → Prop} (I : Inv X pins σ H s) (hg : Gl X x) (hm : X.mg x = none) (hv : bootBuiltins x = some u) (h : Q u s)
    (hn : x ≠ "__name__" := by decide) (hd : (x == ("__debug__" : Str)) = false := by decide) : wpAny (model X.prog X.w) X.A (eval (.Name x pos) X.env) Q E s := by
  obtain ⟨mb, h1, h2⟩ := I.mod.blt
  exact Calls.Name_function_global I.ok.kind hg (Calls.loadGlobal_builtin (by rw [I.ok.glob]; exact I.mod.glob.keeps I.bk) hm (by rw [I.ok.blt]; exact h1.keeps I.bk) ((h2 x hn).trans hv) h) hd
/-- a module's constant, a class, a function, as a value -/
theorem pe_glob {x : Str} {v : V} {u : Value} {pos : Pos} (hg : Gl X x) (hm : X.mg x = some u) (r : RelV v u) (hd : (x == ("__debug__" : Str)) = false := by decide) : PE X (.Name x pos) (tC v) :=
  fun _ _ _ H _ I h => ld_glob I hg hm ⟨v, H, I, r, h⟩ hd
theorem pe_bltn {x : Str} {v : V} {u : Value} {pos : Pos} (hg : Gl X x) (hm : X.mg x = none) (hv : bootBuiltins x = some u) (r : RelV v u) (hn : x ≠ "__name__" := by decide) (hd : (x == ("__debug__" : Str)) = false := by decide) : PE X (.Name x pos) (tC v) :=
  fun _ _ _ H _ I h => ld_blt I hg hm hv ⟨v, H, I, r, h⟩ hn hd

variable {a b : Expr} {ta tb : TE} {pos : Pos}
/-- a comparison as a value, as a test -/
def tB (t : TE) : TT := fun σ H Q => t σ H fun x H1 => ∃ c, x = .bl c ∧ Q c H1
/-- an expression whose value is a bool, as a test -/
theorem pt_val {e : Expr} {t : TE} (h : PE X e t) (he : ∀ whole, isTrue e X.env whole = (do let v ← whole; standAt e.pos; holding [v] (truthy v)) := by intro _; rfl) : PT X e (tB t) := by
  intro pins s σ H Q I hw
  refine isTrue_plain (thn (h pins s σ H _ I hw) fun v s1 ⟨x, H1, I1, r1, q1⟩ => ?_) (he _)
  obtain ⟨d, rfl, q⟩ := q1
  cases r1
  exact wpAny_truthy_bool ⟨H1, I1, q⟩

variable {tA tB' : TT} {rest : List Expr}
def tAnd (t u : TT) : TT := fun σ H Q => t σ H fun c H1 => if c = true then u σ H1 Q else Q false H1
def tOr (t u : TT) : TT := fun σ H Q => t σ H fun c H1 => if c = true then Q true H1 else u σ H1 Q
def tNot (t : TT) : TT := fun σ H Q => t σ H fun c H1 => Q (!c) H1
theorem pw_and1 (ha : PT X a tA) : PW X (.BoolOp .And [a] pos) tA := by
  intro wh pins s σ H Q I h
  refine isTrue_and (thn (ha pins s σ H Q I h) fun c s1 e => ?_)
  cases c with
  | true => exact isTrue_and_nil e
  | false => exact e
theorem pw_or1 (ha : PT X a tA) : PW X (.BoolOp .Or [a] pos) tA := by
  intro wh pins s σ H Q I h
  refine isTrue_or (thn (ha pins s σ H Q I h) fun c s1 e => ?_)
  cases c with
  | false => exact isTrue_or_nil e
  | true => exact e
theorem pw_and (ha : PT X a tA) (hb : PW X (.BoolOp .And (b :: rest) pos) tB') : PW X (.BoolOp .And (a :: b :: rest) pos) (tAnd tA tB') := by
  intro wh pins s σ H Q I h
  refine isTrue_and (thn (ha pins s σ H _ I h) fun c s1 ⟨H1, I1, q1⟩ => ?_)
  cases c with
  | true => exact hb wh pins s1 σ H1 Q I1 q1
  | false => exact ⟨H1, I1, q1⟩
theorem pw_or (ha : PT X a tA) (hb : PW X (.BoolOp .Or (b :: rest) pos) tB') : PW X (.BoolOp .Or (a :: b :: rest) pos) (tOr tA tB') := by
  intro wh pins s σ H Q I h
  refine isTrue_or (thn (ha pins s σ H _ I h) fun c s1 ⟨H1, I1, q1⟩ => ?_)
  cases c with
  | true => exact ⟨H1, I1, q1⟩
  | false => exact hb wh pins s1 σ H1 Q I1 q1
theorem pt_not (ha : PT X a tA) : PT X (.UnaryOp .Not a pos) (tNot tA) := by
  intro pins s σ H Q I h
  exact isTrue_not (ha pins s σ H (fun c H1 => Q (!c) H1) I h)
/-- .. as values (bools) -/
def tAndV (ta tb : TE) : TE := fun σ H Q => ta σ H fun x H1 => ∃ c, x = .bl c ∧ if c = true then tb σ H1 Q else Q (.bl false) H1
def tOrV (ta tb : TE) : TE := fun σ H Q => ta σ H fun x H1 => ∃ c, x = .bl c ∧ if c = true then Q (.bl true) H1 else tb σ H1 Q
theorem pe_one {op} {t : TE} (h : PE X a t) : PE X (.BoolOp op [a] pos) t := fun pins s σ H Q I hw => BoolOp_one (h pins s σ H Q I hw)
theorem pe_and (ha : PE X a ta) (hb : PE X (.BoolOp .And (b :: rest) pos) tb) : PE X (.BoolOp .And (a :: b :: rest) pos) (tAndV ta tb) := by
  intro pins s σ H Q I h
  refine BoolOp_and (thn (ha pins s σ H _ I h) fun v s1 ⟨x, H1, I1, r1, q1⟩ => ?_)
  obtain ⟨c, rfl, q1⟩ := q1
  cases r1
  refine wpAny_truthy_bool ?_
  cases c with
  | true => exact hb pins s1 σ H1 Q I1 q1
  | false => exact ⟨.bl false, H1, I1, rfl, q1⟩
theorem pe_or (ha : PE X a ta) (hb : PE X (.BoolOp .Or (b :: rest) pos) tb) : PE X (.BoolOp .Or (a :: b :: rest) pos) (tOrV ta tb) := by
  intro pins s σ H Q I h
  refine BoolOp_or (thn (ha pins s σ H _ I h) fun v s1 ⟨x, H1, I1, r1, q1⟩ => ?_)
  obtain ⟨c, rfl, q1⟩ := q1
  cases r1
  refine wpAny_truthy_bool ?_
  cases c with
  | false => exact hb pins s1 σ H1 Q I1 q1
  | true => exact ⟨.bl true, H1, I1, rfl, q1⟩
end
end L2

namespace L2
open PySem PySem.Spec PyProof.Rows

def SqL (K : PySem.W.Frag) (H : Hp) (a : Addr) (xs : List V) : Prop :=
  Rd H a (.lst xs) ∨
    ∃ (o : Obj) (its : Array Value) (n : Nat), K.lookup a = some o ∧ o.cls = .type "list" ∧ o.dict = none ∧ o.data = .seq its n ∧ its.size ≤ sizeLine ∧ Vals xs its.toList
def SqT (K : PySem.W.Frag) (H : Hp) (a : Addr) (xs : List V) : Prop :=
  Rd H a (.tup xs) ∨
    ∃ (o : Obj) (its : Array Value) (n : Nat), K.lookup a = some o ∧ o.cls = .type "tuple" ∧ o.data = .seq its n ∧ its.size ≤ sizeLine ∧ Vals xs its.toList
def absV : Value → Option V
  | .none => some .non
  | .bool b => some (.bl b)
  | .int i _ => some (.int i)
  | .str x _ => some (.str x)
  | .bytes b _ => some (.byt b)
  | .float b _ => some (.flt b)
  | .ref a => some (.ref a)
  | .type n => some (.ty n)
  | _ => none
theorem RelV.abs {x : V} {u : Value} (r : RelV x u) : absV u = some x := by
  cases x with
  | non => cases r; rfl
  | bl _ => cases r; rfl
  | int _ => obtain ⟨t, rfl⟩ := r; rfl
  | str _ => obtain ⟨t, rfl⟩ := r; rfl
  | byt _ => obtain ⟨t, rfl⟩ := r; rfl
  | flt _ => obtain ⟨t, rfl⟩ := r; rfl
  | ref _ => cases r; rfl
  | ty _ => cases r; rfl
theorem RelV.inj {x y : V} {u : Value} (r : RelV x u) (q : RelV y u) : x = y := Option.some.inj (r.abs.symm.trans q.abs)
theorem Vals.inj : ∀ {xs ys : List V} {us : List Value}, Vals xs us → Vals ys us → xs = ys
  | _, _, _, .nil, .nil => rfl
  | _, _, _, .cons r t, .cons r' t' => by rw [r.inj r', Vals.inj t t']
section
variable {X : Cx} {pins : List (Addr × Obj)} {σ : St} {H : Hp} {s : Shared} {a : Addr} {xs ys : List V}
theorem SqL.of {K : PySem.W.Frag} (h : H a = some (.lst xs)) : SqL K H a xs := .inl (.inl h)
theorem SqT.of {K : PySem.W.Frag} (h : H a = some (.tup xs)) : SqT K H a xs := .inl (.inl h)
theorem Inv.list (I : Inv X pins σ H s) (h : SqL X.K H a xs) : ∃ its : List Value, Vals xs its ∧ PlainL s.heap a its.toArray ∧ xs.length ≤ sizeLine := by
  rcases h with h | ⟨o, its, n, hk, hc, hd, hs, hz, r⟩
  · obtain ⟨z, its, n, r, e⟩ := h.ok I.hok
    exact ⟨its, r, ⟨_, n, e, rfl, rfl, rfl⟩, z⟩
  · refine ⟨its.toList, r, ⟨o, n, I.kIn a o hk, hc, hd, by simpa using hs⟩, ?_⟩
    have e := r.length
    simp only [Array.length_toList] at e
    omega
theorem Inv.tuple (I : Inv X pins σ H s) (h : SqT X.K H a xs) : ∃ its : List Value, Vals xs its ∧ IsTup s.heap a its.toArray ∧ xs.length ≤ sizeLine := by
  rcases h with h | ⟨o, its, n, hk, hc, hs, hz, r⟩
  · obtain ⟨z, its, r, p⟩ := h.ok I.hok
    exact ⟨its, r, p, z⟩
  · refine ⟨its.toList, r, ⟨o, I.kIn a o hk, hc, n, by simpa using hs⟩, ?_⟩
    have e := r.length
    simp only [Array.length_toList] at e
    omega
theorem Inv.list_inj (I : Inv X pins σ H s) (h : SqL X.K H a xs) (h' : SqL X.K H a ys) : xs = ys := by
  obtain ⟨its, r, ⟨o, n, e, _, _, d⟩, _⟩ := I.list h
  obtain ⟨its', r', ⟨o', n', e', _, _, d'⟩, _⟩ := I.list h'
  rw [e] at e'; cases e'
  rw [d] at d'
  injection d' with d1 _
  have : its = its' := by simpa using congrArg Array.toList d1
  subst this
  exact r.inj r'
end

abbrev Cx.wish (X : Cx) (E : Value → Shared → Prop) : Cx := { X with xe := E }
/-- no exception leaves -/
abbrev Cx.nox (X : Cx) : Cx := X.wish fun _ _ => False
theorem Cx.Ok.wish {X : Cx} (ok : X.Ok) (E : Value → Shared → Prop) : (X.wish E).Ok :=
  ⟨ok.mod, ok.kind, ok.glob, ok.blt, ok.above, ok.inj, ok.has, ok.cab, ok.hd, ok.frames, ok.stk, ok.exf, ok.bs, ok.bsz, ok.noex, ok.exfs, ok.funs, ok.frf⟩
theorem Cx.Ok.unwish {X : Cx} {E : Value → Shared → Prop} (ok : (X.wish E).Ok) : X.Ok :=
  ⟨ok.mod, ok.kind, ok.glob, ok.blt, ok.above, ok.inj, ok.has, ok.cab, ok.hd, ok.frames, ok.stk, ok.exf, ok.bs, ok.bsz, ok.noex, ok.exfs, ok.funs, ok.frf⟩
section
variable {X : Cx} {pins : List (Addr × Obj)} {σ : St} {H : Hp} {s : Shared} {E : Value → Shared → Prop}
theorem Inv.wish (I : Inv X pins σ H s) (E : Value → Shared → Prop) : Inv (X.wish E) pins σ H s := ⟨I.ok.wish E, I.os, I.bare, I.base, I.loc, I.cell, I.free, I.freeC, I.pin, I.hok, I.len⟩
theorem Inv.unwish (I : Inv (X.wish E) pins σ H s) : Inv X pins σ H s := ⟨I.ok.unwish, I.os, I.bare, I.base, I.loc, I.cell, I.free, I.freeC, I.pin, I.hok, I.len⟩
theorem SP.unwish {D : Ends} {f : Flow} {s' : Shared} (h : SP (X.wish E) pins D f s') : SP X pins D f s' := by
  cases f with
  | next => obtain ⟨σ', H', I, q⟩ := h; exact ⟨σ', H', I.unwish, q⟩
  | brk => obtain ⟨σ', H', I, q⟩ := h; exact ⟨σ', H', I.unwish, q⟩
  | cont => obtain ⟨σ', H', I, q⟩ := h; exact ⟨σ', H', I.unwish, q⟩
  | ret u => obtain ⟨v, σ', H', I, r, q⟩ := h; exact ⟨v, σ', H', I.unwish, r, q⟩
theorem PSs.nox {st : List Stmt} {t : TS} (h : PSs X.nox st t) : PSs X st t := fun pins s σ H D I hw =>
  wpAny_mono (h pins s σ H D (I.wish _) hw) (fun _ _ q => q.unwish) fun _ _ z => False.elim z
end

section
variable {X : Cx} {st : Stmt} {rest : List Stmt} {t u : TS} {e : Expr} {te : TE} {pos : Pos}
def tNext : TS := fun D σ H => D.nx σ H
def tSeq (t u : TS) : TS := fun D σ H => t { D with nx := u D } σ H
theorem pss_nil : PSs X [] tNext := fun _ _ σ H _ I h => wpAny_execs_nil ⟨σ, H, I, h⟩
theorem pss_cons (h1 : PS X st t) (h2 : PSs X rest u) : PSs X (st :: rest) (tSeq t u) := by
  intro pins s σ H D I h
  refine wpAny_execs_cons (thn (h1 pins s σ H { D with nx := u D } I h) fun f s1 q => ?_)
  cases f with
  | next =>
    obtain ⟨σ', H', I', q⟩ := q
    exact h2 pins s1 σ' H' D I' q
  | ret v => exact q
  | brk => exact q
  | cont => exact q
theorem pss_one (h1 : PS X st t) : PSs X [st] t := by
  intro pins s σ H D I h
  refine wpAny_execs_cons (thn (h1 pins s σ H D I h) fun f s1 q => ?_)
  cases f with
  | next => exact wpAny_execs_nil q
  | ret v => exact q
  | brk => exact q
  | cont => exact q
/-- in a def's body nothing is shown -/
theorem Inv.quiet {pins : List (Addr × Obj)} {σ : St} {H : Hp} {s : Shared} (I : Inv X pins σ H s) : interactive X.env = false := by simp [interactive, I.ok.kind]
/-- an expression whose value is dropped -/
def tDrop (te : TE) : TS := fun D σ H => te σ H fun _ H1 => D.nx σ H1
theorem ps_expr (he : PE X e te) (hs : swapsWith e none pos.line X.env = pure false := by rfl) : PS X (.Expr e pos) (tDrop te) := by
  intro pins s σ H D I h
  exact wpAny_Expr_any (thn (he pins s σ H _ I h) fun v s1 ⟨x, H1, I1, r1, q1⟩ => ⟨σ, H1, I1, q1⟩) I.quiet hs
def tRet (te : TE) : TS := fun D σ H => te σ H D.rt
theorem ps_ret (he : PE X e te) : PS X (.Return (some e) pos) (tRet te) := by
  intro pins s σ H D I h
  exact wpAny_Return_some (thn (he pins s σ H _ I h) fun v s1 ⟨x, H1, I1, r1, q1⟩ => ⟨x, σ, H1, I1, r1, q1⟩)
def tIfS (c : TT) (t u : TS) : TS := fun D σ H => c σ H fun b H1 => if b = true then t D σ H1 else u D σ H1
theorem ps_if {c : Expr} {a b : List Stmt} {tc : TT} (hc : PT X c tc) (ha : PSs X a t) (hb : PSs X b u) : PS X (.If c a b pos) (tIfS tc t u) := by
  intro pins s σ H D I h
  refine wpAny_If (thn (hc pins s σ H _ I h) fun d s1 ⟨H1, I1, q1⟩ => ?_)
  cases d with
  | true => exact ha pins s1 σ H1 D I1 q1
  | false => exact hb pins s1 σ H1 D I1 q1
end

abbrev TG := V → St → Hp → (St → Hp → Prop) → Prop
abbrev TGs := List V → St → Hp → (St → Hp → Prop) → Prop
def PG (X : Cx) (target : Expr) (t : TG) : Prop :=
  ∀ (pins : List (Addr × Obj)) (s : Shared) (σ : St) (H : Hp) (v : V) (u : Value) (Q : St → Hp → Prop), Inv X pins σ H s → RelV v u → t v σ H Q →
    wpAny (model X.prog X.w) X.A (assign target X.env u) (fun _ s' => ∃ σ' H', Inv X pins σ' H' s' ∧ Q σ' H') X.xe s
/-- several targets, one after another -/
def PGs (X : Cx) (ts : List Expr) (t : TGs) : Prop :=
  ∀ (pins : List (Addr × Obj)) (s : Shared) (σ : St) (H : Hp) (vs : List V) (us : List Value) (Q : St → Hp → Prop), Inv X pins σ H s → Vals vs us → t vs σ H Q →
    wpAny (model X.prog X.w) X.A (assignInOrder ((assignEach ts X.env).map (·.2)) us) (fun _ s' => ∃ σ' H', Inv X pins σ' H' s' ∧ Q σ' H') X.xe s
/-- o[i] = v, by values -/
abbrev TSet := V → V → V → Hp → (Hp → Prop) → Prop
def PSet (X : Cx) (t : TSet) : Prop :=
  ∀ (pins : List (Addr × Obj)) (s : Shared) (σ : St) (H : Hp) (o i v : V) (ov iv u : Value) (Q : Hp → Prop), Inv X pins σ H s → RelV o ov → RelV i iv → RelV v u → t o i v H Q →
    wpAny (model X.prog X.w) X.A (setItem ov iv u) (fun _ s' => ∃ H', Inv X pins σ H' s' ∧ Q H') X.xe s
section
variable {X : Cx} {pos : Pos}
def gName (i : Nat) : TG := fun v σ H Q => Q (σ.set i (some v)) H
theorem pg_name {i : Nat} {x : Str} (hN : X.N.Nodup) (hi : X.N[i]? = some x) (hx : Loc X.env.scope x) (hf : X.fn x = true ∨ X.env.scope.names.lookup x = some .local := by first | exact .inl rfl | exact .inr rfl | assumption) : PG X (.Name x pos) (gName i) := by
  intro pins s σ H v u Q I r h
  exact wpAny_assign_Name (store_ok I hN hi hx r (fun s' I' => ⟨_, H, I', h⟩) hf)
def gNil : TGs := fun vs σ H Q => vs = [] ∧ Q σ H
def gCons (t : TG) (u : TGs) : TGs := fun vs σ H Q => ∃ v r, vs = v :: r ∧ t v σ H fun σ' H' => u r σ' H' Q
theorem pgs_nil : PGs X [] gNil := by
  intro pins s σ H vs us Q I r h
  obtain ⟨e, h⟩ := h
  subst e
  cases r
  exact assignInOrder_nil ⟨σ, H, I, h⟩
theorem pgs_cons {e : Expr} {es : List Expr} {t : TG} {u : TGs} (h1 : PG X e t) (h2 : PGs X es u)
    (hs : (assignEach (e :: es) X.env).map (·.2) = assign e X.env :: (assignEach es X.env).map (·.2) := by rfl) : PGs X (e :: es) (gCons t u) := by
  intro pins s σ H vs us Q I r h
  obtain ⟨v, vr, e1, h⟩ := h
  subst e1
  cases r with
  | cons r rr =>
    rw [hs]
    refine assignInOrder_cons (thn (h1 pins s σ H _ _ _ I r h) fun _ s1 ⟨σ1, H1, I1, q1⟩ => ?_)
    exact h2 pins s1 σ1 H1 _ _ Q I1 rr q1
/-- (a, b, ..) = a tuple of that length -/
def gTup (K : PySem.W.Frag) (n : Nat) (t : TGs) : TG := fun v σ H Q => ∃ a xs, v = .ref a ∧ SqT K H a xs ∧ xs.length = n ∧ t xs σ H Q
theorem pg_tup {es : List Expr} {k : Nat} {t : TGs} {n : Nat} (hc : X.calm = true) (h : PGs X es t)
    (hn : (assignEach es X.env).length = n := by rfl) (hst : (assignEach es X.env).findIdx? (·.1) = none := by rfl) : PG X (.Tuple es k pos) (gTup X.K n t) := by
  intro pins s σ H v u Q I r hw
  obtain ⟨a, xs, e1, hq, hl, hw⟩ := hw
  subst e1
  cases r
  obtain ⟨its, rv, ht, hz⟩ := I.tuple hq
  refine assign_Tuple_tuple (I.ok.hd hc) ht (by simp [hn, ← hl, rv.length]) hst fun h' hx => ?_
  have I1 : Inv X pins σ H { s with heap := h' } := I.kept (t' := s.toks) fun b o e => hx b o (Nat.ne_of_lt (Heap.lt_size e)) e
  exact h pins _ σ H xs _ Q I1 (by simpa using rv) hw
/-- o[i] = .. -/
def gSub (to ti : TE) (t : TSet) : TG := fun v σ H Q => to σ H fun o H1 => ti σ H1 fun i H2 => t o i v H2 fun H3 => Q σ H3
theorem pg_sub {o i : Expr} {to ti : TE} {t : TSet} (ho : PE X o to) (hi : PE X i ti) (hs : PSet X t)
    (ha : ∀ v, assign (.Subscript o i pos) X.env v = (do
      let ov ← holding [v] (eval o X.env)
      let iv ← holding [v, ov] (eval i X.env)
      standAt pos
      holding [v, ov, iv] (setItem ov iv v)
      release [v, ov, iv] []) := by intro _; rfl) : PG X (.Subscript o i pos) (gSub to ti t) := by
  intro pins s σ H v u Q I r h
  rw [ha]
  refine wpAny_bind (wpAny_holding (thn (ho pins s σ H _ I h) fun ov s1 ⟨x, H1, I1, r1, q1⟩ => ?_))
  refine wpAny_bind (wpAny_holding (thn (hi pins s1 σ H1 _ I1 q1) fun iv s2 ⟨y, H2, I2, r2, q2⟩ => ?_))
  refine wpAny_bind (wpAny_standAt (wpAny_bind (wpAny_holding (thn (hs pins s2 σ H2 x y v ov iv u _ I2 r1 r2 r q2) fun _ s3 ⟨H3, I3, q3⟩ => ?_))))
  exact wpAny_release ⟨σ, H3, I3, q3⟩
/-- target = value -/
def tAsg (te : TE) (g : TG) : TS := fun D σ H => te σ H fun x H1 => g x σ H1 D.nx
theorem ps_asg {tg e : Expr} {te : TE} {g : TG} (he : PE X e te) (hg : PG X tg g) (hs : swapsWithSole [tg] e pos.line X.env = pure false := by rfl) (hw : swappedStores [tg] e X.env = pure none := by rfl)
    (h1 : (assignEach [tg] X.env).map (·.2) = [assign tg X.env] := by rfl) : PS X (.Assign [tg] e pos) (tAsg te g) := by
  intro pins s σ H D I h
  refine wpAny_Assign_stores (thn (he pins s σ H _ I h) fun v s1 ⟨x, H1, I1, r1, q1⟩ => ?_) hs hw
  rw [h1]
  exact thn (hg pins s1 σ H1 x v _ I1 r1 q1) fun _ s2 q => q
/-- name = value -/
theorem ps_set {i : Nat} {x : Str} {e : Expr} {te : TE} {pos' : Pos} (hN : X.N.Nodup) (hi : X.N[i]? = some x) (hx : Loc X.env.scope x) (he : PE X e te) (hs : swapsWith e (some (.Name x pos')) pos.line X.env = pure false := by rfl) (hf : X.fn x = true ∨ X.env.scope.names.lookup x = some .local := by first | exact .inl rfl | exact .inr rfl | assumption) :
    PS X (.Assign [.Name x pos'] e pos) (tAsg te (gName i)) := by
  intro pins s σ H D I h
  refine wpAny_Assign_Name (thn (he pins s σ H _ I h) fun v s1 ⟨y, H1, I1, r1, q1⟩ => ?_) hs
  exact store_ok I1 hN hi hx r1 (fun s2 I2 => ⟨_, H1, I2, q1⟩) hf
end

section
variable {X : Cx} {pos : Pos}
/-- the invariant W with its measure -/
def tWhile (c : TT) (tb : TS) : TS := fun D σ H => ∃ W : Nat → St → Hp → Prop, (∃ m, W m σ H) ∧ ∀ m σ H, W m σ H →
  c σ H fun b H1 => if b = true then ∃ N : St → Hp → Prop, (∀ σ' H', N σ' H' → ∃ m', m' < m ∧ W m' σ' H') ∧ tb { D with nx := N, ct := N, bk := D.nx } σ H1 else D.nx σ H1
theorem ps_while {c : Expr} {body : List Stmt} {tc : TT} {tb : TS} (hp : PassesOwn (model X.prog X.w) X.A X.env X.xe) (hc : PT X c tc) (hb : PSs X body tb) : PS X (.While c body [] pos) (tWhile tc tb) := by
  intro pins s σ H D I h
  obtain ⟨W, ⟨m0, w0⟩, turn⟩ := h
  refine wpAny_While (codeAny_whileLoop (fun n s' => ∃ σ' H', Inv X pins σ' H' s' ∧ W n σ' H') ?_ m0 ⟨σ, H, I, w0⟩)
  rintro n s1 ⟨σ1, H1, I1, w1⟩
  refine wpAny_passesOwn hp (thn (hc pins s1 σ1 H1 _ I1 (turn n σ1 H1 w1)) fun b s2 ⟨H2, I2, q2⟩ => ?_)
  cases b with
  | true =>
    obtain ⟨N, hN, q2⟩ := q2
    rw [if_pos rfl]
    refine wpAny_passesOwn hp (thn (hb pins s2 σ1 H2 _ I2 q2) fun f s3 q3 => ?_)
    cases f with
    | next =>
      obtain ⟨σ3, H3, I3, n3⟩ := q3
      obtain ⟨m', hm, w3⟩ := hN σ3 H3 n3
      exact ⟨m', hm, σ3, H3, I3, w3⟩
    | cont =>
      obtain ⟨σ3, H3, I3, n3⟩ := q3
      obtain ⟨m', hm, w3⟩ := hN σ3 H3 n3
      exact ⟨m', hm, σ3, H3, I3, w3⟩
    | brk => exact q3
    | ret v => exact q3
  | false =>
    rw [if_neg Bool.false_ne_true]
    exact wpAny_execs_nil ⟨σ1, H2, I2, q2⟩
end

/-- at turn i: it yields x (the heap may grow), or it stops -/
structure It where
  go : Nat → Hp → Prop
  yld : Nat → Hp → V → Hp → Prop
  stop : Nat → Hp → Prop
/-- the iterator's own objects may turn: they are not the frame's, not pinned, younger than the entry (or a comprehension's own) -/
def FpOk (X : Cx) (pins : List (Addr × Obj)) (H : Hp) (b : Addr) : Prop :=
  H b = none ∧ b ≠ X.env.locals ∧ b ∉ X.fs ∧ (b ∈ X.ex ∨ X.s₀.heap.objs.size ≤ b) ∧ (∀ x c, X.env.cells.lookup x = some c → c ≠ b) ∧ ∀ p ∈ X.pn ++ pins, p.1 ≠ b
theorem Inv.fpOk {X : Cx} {pins : List (Addr × Obj)} {σ : St} {H H' : Hp} {s : Shared} {b : Addr} (I : Inv X pins σ H s) (hb : s.heap.objs.size ≤ b) (hn : H' b = none) : FpOk X pins H' b := by
  refine ⟨hn, Nat.ne_of_gt (Nat.lt_of_lt_of_le I.lt hb), I.nofs hb, .inr (Nat.le_trans I.sz hb), fun x c e z => ?_, fun p hp z => ?_⟩
  · obtain ⟨v, q⟩ := I.cell x c e
    exact absurd (Nat.lt_of_lt_of_le q.lt (by rw [z]; exact hb)) (Nat.lt_irrefl _)
  · exact absurd (Nat.lt_of_lt_of_le (Heap.lt_size (I.pin p hp).1) (by rw [z]; exact hb)) (Nat.lt_irrefl _)
structure Turn (P : Program) (w : World) (K : PySem.W.Frag) (tg : Expr) (J : It) (fp : List Addr) (it : Addr) (tn : Nat → Heap → Prop) : Prop where
  mem : it ∈ fp
  obj : ∀ i h, tn i h → ∀ b ∈ fp, ∃ o, h.get? b = some o ∧ ∀ v, o.data ≠ .cell v
  keep : ∀ i h h', tn i h → (∀ b ∈ fp, ∀ o, h.get? b = some o → h'.get? b = some o) → tn i h'
  item : ∀ (X : Cx), X.prog = P → X.w = w → X.K = K → X.calm = true → ∀ (i : Nat) (pins : List (Addr × Obj)) (s : Shared) (σ : St) (H : Hp) (E : Value → Shared → Prop), Inv X pins σ H s → (∀ b ∈ fp, FpOk X pins H b) → tn i s.heap → J.go i H →
    wpAny (model P w) X.A (pyNext (.ref it)) (fun r s1 => ∃ u, r = some u ∧
      wpAny (model P w) X.A (letOwnedTupleGo tg (.ref it) u) (fun _ s2 => ∃ x H', Inv X pins σ H' s2 ∧ RelV x u ∧ J.yld i H x H' ∧ tn (i + 1) s2.heap ∧ ∀ b ∈ fp, H' b = none) E s1) E s
  done : ∀ (X : Cx), X.prog = P → X.w = w → X.K = K → X.calm = true → ∀ (i : Nat) (pins : List (Addr × Obj)) (s : Shared) (σ : St) (H : Hp) (E : Value → Shared → Prop), Inv X pins σ H s → (∀ b ∈ fp, FpOk X pins H b) → tn i s.heap → J.stop i H →
    wpAny (model P w) X.A (pyNext (.ref it)) (fun r s1 => r = none ∧ Inv X pins σ H s1) E s
  self : ∀ (A : Around) (i : Nat) (s : Shared) (Q : Value → Shared → Prop) (E : Value → Shared → Prop), tn i s.heap → Q (.ref it) s → wpAny (model P w) A (pyIter (.ref it)) Q E s
abbrev TI := St → Hp → (It → Hp → Prop) → Prop
/-- an iterator has come -/
def PIE (X : Cx) (pins : List (Addr × Obj)) (σ : St) (tg : Expr) (R : It → Hp → Prop) (itv : Value) (s2 : Shared) : Prop :=
  ∃ (it : Addr) (fp : List Addr) (tn : Nat → Heap → Prop) (J : It) (H' : Hp), itv = .ref it ∧ Inv X pins σ H' s2 ∧ Turn X.prog X.w X.K tg J fp it tn ∧ tn 0 s2.heap ∧ (∀ b ∈ fp, FpOk X pins H' b) ∧ R J H'
def PI (X : Cx) (tg iter : Expr) (wi : TI) : Prop :=
  ∀ (pins : List (Addr × Obj)) (s : Shared) (σ : St) (H : Hp) (R : It → Hp → Prop), Inv X pins σ H s → wi σ H R →
    wpAny (model X.prog X.w) X.A (eval iter X.env) (fun v s1 => wpAny (model X.prog X.w) X.A (pyIter v) (PIE X pins σ tg R) X.xe s1) X.xe s

/-- the step ahead of the store is nothing for an iterator that keeps no tuple -/
theorem go_of {M : Model} {A : Around} {E : Value → Shared → Prop} {s : Shared} {tg : Expr} {it : Addr} {u : Value} {o : Obj} {n : String} {vs : Array Value} {Q : Unit → Shared → Prop} (ho : s.heap.get? it = some o) (hc : o.cls = .type n) (hd : o.data = .fields vs)
    (hn : ["enumerate", "zip", "dict_itemiterator", "dict_reverseitemiterator", "odict_iterator", "itertools.zip_longest", "itertools.pairwise"].contains n = false) (hQ : Q () s) : wpAny M A (letOwnedTupleGo tg (.ref it) u) Q E s := by
  unfold letOwnedTupleGo
  cases tg <;> first
    | exact wpAny_pure hQ
    | (cases u <;> first
        | exact wpAny_pure hQ
        | (refine wpAny_bind (wpAny_load ho ?_)
           rw [hc, hd]
           show wpAny M A (if (["enumerate", "zip", "dict_itemiterator", "dict_reverseitemiterator", "odict_iterator", "itertools.zip_longest", "itertools.pairwise"].contains n && vs[0]? == some (rawInt _)) = true then _ else _) Q E s
           rw [if_neg (by intro h; rw [hn, Bool.false_and] at h; cases h)]
           exact wpAny_pure hQ))

/-- the list at a, as it stands at each turn (a loop may append to it) -/
def Itl (K : PySem.W.Frag) (a : Addr) : It :=
  ⟨fun i H => ∃ xs x, SqL K H a xs ∧ xs[i]? = some x, fun i H x H' => H' = H ∧ ∀ xs, SqL K H a xs → xs[i]? = some x, fun i H => ∃ xs, SqL K H a xs ∧ xs.length ≤ i⟩
/-- lo, lo + 1, .. (n of them) -/
def Itr (lo : Int) (n : Nat) : It := ⟨fun i _ => i < n, fun i H x H' => H' = H ∧ x = .int (lo + i), fun i _ => n ≤ i⟩
theorem turn_list {P : Program} {w : World} {K : PySem.W.Frag} {tg : Expr} (a it : Addr) : Turn P w K tg (Itl K a) [it] it (fun i h => h.IsListIter it a i) where
  mem := by simp
  obj := fun i h st b hb => by
    have e : b = it := by simpa using hb
    subst e
    obtain ⟨o, e, c, d⟩ := st
    exact ⟨o, e, fun v z => by rw [d] at z; cases z⟩
  keep := fun i h h' st k => st.at fun o e => k it (by simp) o e
  item := by
    intro X hP hw hK hc i pins s σ H E I hf st hg
    subst hP hw hK
    obtain ⟨xs, x, hq, hx⟩ := hg
    obtain ⟨its, rv, p, hz⟩ := I.list hq
    obtain ⟨u, hu, ru⟩ := rv.get hx
    obtain ⟨f0, f1, f2, f3, f4, f5⟩ := hf it (by simp)
    refine wpAny_pyNext_list_item st p.isList (x := u) (by simpa using hu) fun h' st' sb => ?_
    have I1 : Inv X pins σ H { s with heap := h' } := I.turned (t' := s.toks) (fun b o hb e => (sb.2 b hb).trans e) f0 f1 f3 f4 f5
    obtain ⟨o, e, c, d⟩ := id st'
    exact ⟨u, rfl, go_of (s := { s with heap := h' }) e c d (by decide) ⟨x, H, I1, ru, ⟨rfl, fun ys hy => by rw [I.list_inj hy hq]; exact hx⟩, st', fun b hb => (hf b hb).1⟩⟩
  done := by
    intro X hP hw hK hc i pins s σ H E I hf st hg
    subst hP hw hK
    obtain ⟨xs, hq, hx⟩ := hg
    obtain ⟨its, rv, p, hz⟩ := I.list hq
    obtain ⟨f0, f1, f2, f3, f4, f5⟩ := hf it (by simp)
    have hl := rv.length
    exact wpAny_pyNext_list_end (I.ok.hd hc) st p.isList (by simp; omega) fun h' eb => ⟨rfl, I.turned (t' := s.toks) (fun b o hb e => eb b o hb e) f0 f1 f3 f4 f5⟩
  self := fun _ _ _ _ _ st h => wpAny_pyIter_listiter st h
theorem turn_range {P : Program} {w : World} {K : PySem.W.Frag} {tg : Expr} (it : Addr) (lo : Int) (n : Nat) : Turn P w K tg (Itr lo n) [it] it (fun i h => IsRangeIter h it (lo + (i : Nat) * 1) ((n : Int) - (i : Nat)) 1) where
  mem := by simp
  obj := fun i h st b hb => by
    have e : b = it := by simpa using hb
    subst e
    exact ⟨_, st, fun v z => by
      have z' : Data.fields _ = Data.cell v := z
      cases z'⟩
  keep := fun i h h' st k => k it (by simp) _ st
  item := by
    intro X hP hw hK hc i pins s σ H E I hf st hg
    subst hP hw hK
    obtain ⟨f0, f1, f2, f3, f4, f5⟩ := hf it (by simp)
    have W := Walks.range (prog := X.prog) (w := X.w) (I.ok.hd hc) it lo 1 n
    refine W.item i s _ _ hg st fun v h' tk hv st' kk => ?_
    obtain ⟨t, rfl⟩ := hv
    have I1 : Inv X pins σ H { s with heap := h', toks := tk } := I.turned (fun b o hb e => kk b o (by simpa using hb) e) f0 f1 f3 f4 f5
    refine ⟨_, rfl, go_of (s := { s with heap := h', toks := tk }) (n := "range_iterator") st' rfl rfl (by decide) ⟨.int (lo + i), H, I1, ⟨t, ?_⟩, ⟨rfl, rfl⟩, st', fun b hb => (hf b hb).1⟩⟩
    rw [Int.mul_one]
  done := by
    intro X hP hw hK hc i pins s σ H E I hf st hg
    subst hP hw hK
    obtain ⟨f0, f1, f2, f3, f4, f5⟩ := hf it (by simp)
    exact wpAny_pyNext_range_end (I.ok.hd hc) st (by have : n ≤ i := hg; omega) fun h' eb => ⟨rfl, I.turned (t' := s.toks) (fun b o hb e => eb b o hb e) f0 f1 f3 f4 f5⟩
  self := fun _ _ _ _ _ st h => wpAny_pyIter_rangeiter st h
end L2

namespace L2
open PySem PySem.Spec PyProof.Rows
section
variable {X : Cx} {tg : Expr}
def iList (K : PySem.W.Frag) (tl : TE) : TI := fun σ H R => tl σ H fun x H1 => ∃ a, x = .ref a ∧ (∃ xs, SqL K H1 a xs) ∧ R (Itl K a) H1
theorem pi_list {l : Expr} {tl : TE} (hl : PE X l tl) : PI X tg l (iList X.K tl) := by
  intro pins s σ H R I h
  refine thn (hl pins s σ H _ I h) fun v s1 ⟨x, H1, I1, r1, q1⟩ => ?_
  obtain ⟨a, e, ⟨xs, hq⟩, q⟩ := q1
  subst e
  cases r1
  obtain ⟨its, rv, p, hz⟩ := I1.list hq
  refine wpAny_pyIter_list p.isList ?_
  refine ⟨s1.heap.objs.size, [s1.heap.objs.size], _, _, H1, rfl, I1.kept (t' := s1.toks) fun b o e => Heap.get?_push_of_some _ e, turn_list a _, ⟨_, Heap.get?_push_size _ rfl, rfl, rfl⟩, fun b hb => ?_, q⟩
  have e : b = s1.heap.objs.size := by simpa using hb
  subst e
  exact I1.fpOk (Nat.le_refl _) (I1.hok.fresh (Nat.le_refl _))
/-- a range object just made, walked -/
theorem range_it {pins : List (Addr × Obj)} {σ : St} {H : Hp} {s : Shared} {R : It → Hp → Prop} {E : Value → Shared → Prop} {lo hi : Int} {t u v : Tok} {tk : Nat} (I : Inv X pins σ H s) (h1 : -(2 ^ 62) ≤ lo) (h2 : lo < 2 ^ 62) (h3 : -(2 ^ 62) ≤ hi) (h4 : hi < 2 ^ 62)
    (q : R (Itr lo (hi - lo).toNat) H) : wpAny (model X.prog X.w) X.A (pyIter (.ref s.heap.objs.size)) (PIE X pins σ tg R) E { s with heap := s.heap.push { cls := .type "range", data := .fields #[.int lo t, .int hi u, .int 1 v] }, toks := tk } := by
  refine wpAny_pyIter_range (IsRange.new ..) (small_one h1 h2 h3 h4) ?_
  have I1 : Inv X pins σ H { s with heap := s.heap.push { cls := .type "range", data := .fields #[.int lo t, .int hi u, .int 1 v] }, toks := tk } := I.kept fun b o e => Heap.get?_push_of_some _ e
  refine ⟨(s.heap.push { cls := .type "range", data := .fields #[.int lo t, .int hi u, .int 1 v] }).objs.size, [(s.heap.push { cls := .type "range", data := .fields #[.int lo t, .int hi u, .int 1 v] }).objs.size], _, _, H, rfl,
    I1.kept (t' := tk) fun b o e => Heap.get?_push_of_some _ e, turn_range _ lo (hi - lo).toNat, ?_, fun b hb => ?_, q⟩
  · have e1 : lo + ((0 : Nat) : Int) * 1 = lo := by simp
    have e2 : (((hi - lo).toNat : Nat) : Int) - ((0 : Nat) : Int) = Builtin.Range.rangeSize lo hi 1 := by rw [rangeSize_one]; split <;> omega
    show IsRangeIter _ _ (lo + ((0 : Nat) : Int) * 1) ((((hi - lo).toNat : Nat) : Int) - ((0 : Nat) : Int)) 1
    rw [e1, e2]
    exact Heap.get?_push_size _ rfl
  · have e : b = (s.heap.push { cls := .type "range", data := .fields #[.int lo t, .int hi u, .int 1 v] }).objs.size := by simpa using hb
    subst e
    exact I1.fpOk (Nat.le_refl _) (I1.hok.fresh (Nat.le_refl _))
def iRng1 (ta : TA) : TI := fun σ H R => ta σ H fun vs H1 => ∃ j : Int, vs = [.int j] ∧ -(2 ^ 62) ≤ j ∧ j < 2 ^ 62 ∧ R (Itr 0 j.toNat) H1
theorem pi_range1 {a : Expr} {ta : TA} {p pos : Pos} (hg : Gl X "range") (hm : X.mg "range" = none) (ha : PA X [a] ta) (hs : starEach [a] X.env = [(false, eval a X.env)] := by rfl) : PI X tg (.Call (.Name "range" p) [a] [] pos) (iRng1 ta) := by
  intro pins s σ H R I h
  refine Call_ (ld_blt I hg hm boot_range (PyProof.Rows.callWith_type1 (thn (ha pos pins s σ H _ I h) fun us s1 ⟨vs, H1, I1, r1, q1⟩ => ?_) hs rfl))
  obtain ⟨j, e, q1, q2, q⟩ := q1
  subst e
  cases r1 with
  | cons r rr =>
    cases rr
    obtain ⟨t, rfl⟩ := r
    exact call_range_1 (range_it I1 (by omega) (by omega) q1 q2 (by simpa using q))
/-- W: the invariant by the turn and a measure; N: what the body is to reach -/
def tFor (wi : TI) (g : TG) (tb : TS) : TS := fun D σ H => wi σ H fun J H1 => ∃ W : Nat → Nat → St → Hp → Prop, (∃ m, W 0 m σ H1) ∧ ∀ i m σ H, W i m σ H →
  (J.stop i H ∧ D.nx σ H) ∨ (J.go i H ∧ ∃ N : St → Hp → Prop, (∀ σ' H', N σ' H' → ∃ m', m' < m ∧ W (i + 1) m' σ' H') ∧ ∀ x H', J.yld i H x H' → g x σ H' fun σ2 H2 => tb { D with nx := N, ct := N, bk := D.nx } σ2 H2)
/-- the records at fp as they stand -/
def pinsAt (fp : List Addr) (h : Heap) : List (Addr × Obj) := fp.filterMap fun b => (h.get? b).map fun o => (b, o)
theorem mem_pinsAt {fp : List Addr} {h : Heap} {b : Addr} {o : Obj} (hb : b ∈ fp) (e : h.get? b = some o) : (b, o) ∈ pinsAt fp h := List.mem_filterMap.mpr ⟨b, hb, by rw [e]; rfl⟩
theorem of_pinsAt {fp : List Addr} {h : Heap} {p : Addr × Obj} (hp : p ∈ pinsAt fp h) : p.1 ∈ fp ∧ h.get? p.1 = some p.2 := by
  obtain ⟨b, hb, e⟩ := List.mem_filterMap.mp hp
  cases q : h.get? b with
  | none => rw [q] at e; cases e
  | some o =>
    rw [q] at e
    have e' : (b, o) = p := Option.some.inj e
    subst e'
    exact ⟨hb, q⟩
theorem Inv.pinned {pins : List (Addr × Obj)} {σ : St} {H : Hp} {s : Shared} {fp : List Addr} (I : Inv X pins σ H s) (hf : ∀ b ∈ fp, FpOk X pins H b) (ho : ∀ b ∈ fp, ∃ o, s.heap.get? b = some o ∧ ∀ v, o.data ≠ .cell v) : Inv X (pins ++ pinsAt fp s.heap) σ H s :=
  I.pins_of fun p hp => (List.mem_append.mp hp).elim (fun z => I.pin p (List.mem_append_right _ z)) fun z => by
    obtain ⟨hb, e⟩ := of_pinsAt z
    obtain ⟨f0, f1, f2, _⟩ := hf p.1 hb
    obtain ⟨o, e', d⟩ := ho p.1 hb
    rw [e] at e'; cases e'
    exact ⟨e, f0, f1, f2, d⟩
theorem Inv.unpinned {pins pl : List (Addr × Obj)} {σ : St} {H : Hp} {s : Shared} (I : Inv X (pins ++ pl) σ H s) : Inv X pins σ H s := I.pins_of fun p hp => I.pin p (List.mem_append_right _ (List.mem_append_left _ hp))
theorem ps_for {iter : Expr} {body : List Stmt} {wi : TI} {g : TG} {tb : TS} {pos : Pos} (hp : PassesOwn (model X.prog X.w) X.A X.env X.xe) (hc : X.calm = true) (hi : PI X tg iter wi) (hg : PG X tg g) (hb : PSs X body tb)
    (hs : ∀ x, foldedSetIterable iter X.env x = pure x := by intro _; rfl) : PS X (.For tg iter body [] pos) (tFor wi g tb) := by
  intro pins s σ H D I h
  refine wpAny_For (thn (hi pins s σ H _ I h) fun v s1 h1 => thn h1 fun itv s2 h2 => ?_) hs
  obtain ⟨it, fp, tn, J, H2, e, I2, T, st2, f2, W, ⟨m0, w0⟩, turn⟩ := h2
  subst e
  -- what stays true of the iterator's objects through the loop
  have stat : ∀ {H' : Hp}, (∀ b ∈ fp, H' b = none) → ∀ b ∈ fp, FpOk X pins H' b := fun hn b hb => ⟨hn b hb, (f2 b hb).2⟩
  refine codeAny_forLoop_any (fun n s' => ∃ i σ' H', Inv X pins σ' H' s' ∧ tn i s'.heap ∧ (∀ b ∈ fp, H' b = none) ∧ W i n σ' H') ?_ m0 ⟨0, σ, H2, I2, st2, fun b hb => (f2 b hb).1, w0⟩
  rintro n s3 ⟨i, σ3, H3, I3, st3, fr3, w3⟩
  rcases turn i n σ3 H3 w3 with ⟨stop, qn⟩ | ⟨go, N, hN, step⟩
  · refine wpAny_passesOwn hp (thn (T.done X rfl rfl rfl hc i pins s3 σ3 H3 X.xe I3 (stat fr3) st3 stop) fun r s4 ⟨hr, I4⟩ => ?_)
    subst hr
    exact wpAny_execs_nil ⟨σ3, H3, I4, qn⟩
  · refine wpAny_passesOwn hp (thn (T.item X rfl rfl rfl hc i pins s3 σ3 H3 X.xe I3 (stat fr3) st3 go) fun r s4 ⟨u, hr, h4⟩ => ?_)
    subst hr
    refine wpAny_passesOwn hp (thn h4 fun _ s5 ⟨x, H5, I5, r5, y5, st5, fr5⟩ => ?_)
    have I5' := I5.pinned (stat fr5) (T.obj _ _ st5)
    refine wpAny_passesOwn hp (thn (hg _ s5 σ3 H5 x u _ I5' r5 (step x H5 y5)) fun _ s6 ⟨σ6, H6, I6, q6⟩ => ?_)
    refine wpAny_passesOwn hp (thn (hb _ s6 σ6 H6 _ I6 q6) fun f s7 q7 => ?_)
    have again : ∀ {σ7 : St} {H7 : Hp}, Inv X (pins ++ pinsAt fp s5.heap) σ7 H7 s7 → N σ7 H7 → ∃ m, m < n ∧ ∃ i σ' H', Inv X pins σ' H' s7 ∧ tn i s7.heap ∧ (∀ b ∈ fp, H' b = none) ∧ W i m σ' H' := fun {σ7 H7} I7 n7 => by
      obtain ⟨m', hm, w7⟩ := hN σ7 H7 n7
      refine ⟨m', hm, i + 1, σ7, H7, I7.unpinned, T.keep _ _ _ st5 fun b hb o e => (I7.pin (b, o) (List.mem_append_right _ (List.mem_append_right _ (mem_pinsAt hb e)))).1, fun b hb => ?_, w7⟩
      obtain ⟨o, e, d⟩ := T.obj _ _ st5 b hb
      exact (I7.pin (b, o) (List.mem_append_right _ (List.mem_append_right _ (mem_pinsAt hb e)))).2.1
    cases f with
    | next => obtain ⟨σ7, H7, I7, n7⟩ := q7; exact again I7 n7
    | cont => obtain ⟨σ7, H7, I7, n7⟩ := q7; exact again I7 n7
    | brk => obtain ⟨σ7, H7, I7, q7⟩ := q7; exact ⟨σ7, H7, I7.unpinned, q7⟩
    | ret v => obtain ⟨x7, σ7, H7, I7, r7, q7⟩ := q7; exact ⟨x7, σ7, H7, I7.unpinned, r7, q7⟩
end

/-- over a list that the body leaves as it is -/
theorem for_list {K : PySem.W.Frag} {a : Addr} {xs : List V} {g : TG} {tb : TS} {D : Ends} {σ : St} {H : Hp} (Pv : Nat → St → Hp → Prop) (h0 : Pv 0 σ H) (hl : ∀ i σ H, i ≤ xs.length → Pv i σ H → SqL K H a xs)
    (hs : ∀ i x σ H, xs[i]? = some x → Pv i σ H → g x σ H fun σ2 H2 => tb { D with nx := Pv (i + 1), ct := Pv (i + 1), bk := D.nx } σ2 H2) (hd : ∀ σ H, Pv xs.length σ H → D.nx σ H) :
    ∃ W : Nat → Nat → St → Hp → Prop, (∃ m, W 0 m σ H) ∧ ∀ i m σ H, W i m σ H →
      ((Itl K a).stop i H ∧ D.nx σ H) ∨ ((Itl K a).go i H ∧ ∃ N : St → Hp → Prop, (∀ σ' H', N σ' H' → ∃ m', m' < m ∧ W (i + 1) m' σ' H') ∧ ∀ x H', (Itl K a).yld i H x H' → g x σ H' fun σ2 H2 => tb { D with nx := N, ct := N, bk := D.nx } σ2 H2) := by
  refine ⟨fun i m σ H => m = xs.length - i ∧ i ≤ xs.length ∧ Pv i σ H, ⟨xs.length, by simp, Nat.zero_le _, h0⟩, ?_⟩
  rintro i m σ H ⟨rfl, hi, p⟩
  have q := hl i σ H hi p
  by_cases hlt : i < xs.length
  · refine .inr ⟨⟨xs, xs[i], q, by simp [hlt]⟩, Pv (i + 1), fun σ' H' p' => ⟨xs.length - (i + 1), by omega, rfl, hlt, p'⟩, fun x H' y => ?_⟩
    obtain ⟨e, y⟩ := y
    subst e
    exact hs i x σ _ (y xs q) p
  · have e : i = xs.length := by omega
    subst e
    exact .inl ⟨⟨xs, q, Nat.le_refl _⟩, hd σ H p⟩
theorem for_range {lo : Int} {n : Nat} {g : TG} {tb : TS} {D : Ends} {σ : St} {H : Hp} (Pv : Nat → St → Hp → Prop) (h0 : Pv 0 σ H)
    (hs : ∀ i σ H, i < n → Pv i σ H → g (.int (lo + i)) σ H fun σ2 H2 => tb { D with nx := Pv (i + 1), ct := Pv (i + 1), bk := D.nx } σ2 H2) (hd : ∀ σ H, Pv n σ H → D.nx σ H) :
    ∃ W : Nat → Nat → St → Hp → Prop, (∃ m, W 0 m σ H) ∧ ∀ i m σ H, W i m σ H →
      ((Itr lo n).stop i H ∧ D.nx σ H) ∨ ((Itr lo n).go i H ∧ ∃ N : St → Hp → Prop, (∀ σ' H', N σ' H' → ∃ m', m' < m ∧ W (i + 1) m' σ' H') ∧ ∀ x H', (Itr lo n).yld i H x H' → g x σ H' fun σ2 H2 => tb { D with nx := N, ct := N, bk := D.nx } σ2 H2) := by
  refine ⟨fun i m σ H => m = n - i ∧ i ≤ n ∧ Pv i σ H, ⟨n, by simp, Nat.zero_le _, h0⟩, ?_⟩
  rintro i m σ H ⟨rfl, hi, p⟩
  by_cases hlt : i < n
  · refine .inr ⟨hlt, Pv (i + 1), fun σ' H' p' => ⟨n - (i + 1), by omega, rfl, hlt, p'⟩, fun x H' y => ?_⟩
    obtain ⟨e, y⟩ := y
    subst e y
    exact hs i σ _ hlt p
  · have e : i = n := by omega
    subst e
    exact .inl ⟨Nat.le_refl _, hd σ H p⟩
/-- while, by a word and a measure of the state -/
theorem while_by {c : TT} {tb : TS} {D : Ends} {σ : St} {H : Hp} (Pv : St → Hp → Prop) (μ : St → Hp → Nat) (h0 : Pv σ H)
    (hs : ∀ σ H, Pv σ H → c σ H fun b H1 => if b = true then tb { D with nx := fun σ' H' => Pv σ' H' ∧ μ σ' H' < μ σ H, ct := fun σ' H' => Pv σ' H' ∧ μ σ' H' < μ σ H, bk := D.nx } σ H1 else D.nx σ H1)
    (mono : ∀ σ H Q Q', (∀ b H1, Q b H1 → Q' b H1) → c σ H Q → c σ H Q') : tWhile c tb D σ H := by
  refine ⟨fun m σ H => m = μ σ H ∧ Pv σ H, ⟨_, rfl, h0⟩, ?_⟩
  rintro m σ H ⟨rfl, p⟩
  refine mono σ H _ _ (fun b H1 q => ?_) (hs σ H p)
  cases b with
  | true => exact ⟨_, fun σ' H' ⟨p', l⟩ => ⟨_, l, rfl, p'⟩, q⟩
  | false => exact q
end L2

namespace L2
open PySem PySem.Spec PyProof.Rows

abbrev R2 := V → V → Hp → VK → Prop
/-- a two-place operation on values: f is binaryOp op, inplaceOp op or compareOp op -/
def OpR (X : Cx) (f : Value → Value → Sem Value) (r : R2) : Prop :=
  ∀ (pins : List (Addr × Obj)) (s : Shared) (σ : St) (H : Hp) (x y : V) (v u : Value) (Q : VK), Inv X pins σ H s → RelV x v → RelV y u → r x y H Q →
    wpAny (model X.prog X.w) X.A (f v u) (EP X pins σ Q) X.xe s
/-- a one-place operation -/
def UnR (X : Cx) (f : Value → Sem Value) (r : V → Hp → VK → Prop) : Prop :=
  ∀ (pins : List (Addr × Obj)) (s : Shared) (σ : St) (H : Hp) (x : V) (v : Value) (Q : VK), Inv X pins σ H s → RelV x v → r x H Q →
    wpAny (model X.prog X.w) X.A (f v) (EP X pins σ Q) X.xe s
/-- a call of a value that is known (a builtin, a type) with values -/
def CallR (X : Cx) (f : Value) (r : List V → Hp → VK → Prop) : Prop :=
  ∀ (pins : List (Addr × Obj)) (s : Shared) (σ : St) (H : Hp) (xs : List V) (us : List Value) (Q : VK), Inv X pins σ H s → Vals xs us → r xs H Q →
    wpAny (model X.prog X.w) X.A (call f us) (EP X pins σ Q) X.xe s
def tOp (r : R2) (ta tb : TE) : TE := fun σ H Q => ta σ H fun x H1 => tb σ H1 fun y H2 => r x y H2 Q
def tUn (r : V → Hp → VK → Prop) (ta : TE) : TE := fun σ H Q => ta σ H fun x H1 => r x H1 Q
/-- ints in, under C, and a value out -/
def rI (C : Int → Int → Prop) (g : Int → Int → V) : R2 := fun x y H Q => ∃ i j, x = .int i ∧ y = .int j ∧ C i j ∧ Q (g i j) H
def rI0 (g : Int → Int → V) : R2 := fun x y H Q => ∃ i j, x = .int i ∧ y = .int j ∧ Q (g i j) H
def rU (g : Int → V) : V → Hp → VK → Prop := fun x H Q => ∃ i, x = .int i ∧ Q (g i) H

section
variable {X : Cx} {a b c : Expr} {ta tb tc : TE} {pos : Pos}

theorem binT (ha : PE X a ta) (hb : PE X b tb) {pins : List (Addr × Obj)} {s : Shared} {σ : St} {H : Hp} {R : V → V → Hp → Prop} (I : Inv X pins σ H s)
    (h : ta σ H fun x H1 => tb σ H1 fun y H2 => R x y H2) {Q : Value → Shared → Prop} {f : Value → Value → Sem Value}
    (hf : ∀ v u s2 x y H2, Inv X pins σ H2 s2 → RelV x v → RelV y u → R x y H2 → wpAny (model X.prog X.w) X.A (f v u) Q X.xe s2) :
    wpAny (model X.prog X.w) X.A (eval a X.env) (fun v s₁ => wpAny (model X.prog X.w) X.A (eval b X.env) (fun u s₂ => wpAny (model X.prog X.w) X.A (f v u) Q X.xe s₂) X.xe s₁) X.xe s := by
  refine thn (ha pins s σ H _ I h) fun v s1 ⟨x, H1, I1, r1, q1⟩ => ?_
  refine thn (hb pins s1 σ H1 _ I1 q1) fun u s2 ⟨y, H2, I2, r2, q2⟩ => ?_
  exact hf v u s2 x y H2 I2 r1 r2 q2

theorem pe_op {op : Operator} {r : R2} (ho : OpR X (binaryOp op) r) (ha : PE X a ta) (hb : PE X b tb) : PE X (.BinOp a op b pos) (tOp r ta tb) := by
  intro pins s σ H Q I h
  exact wpAny_BinOp (binT ha hb I h fun v u s2 x y H2 I2 rx ry q => ho pins s2 σ H2 x y v u Q I2 rx ry q)
theorem pe_un {op : UnaryOp} {r : V → Hp → VK → Prop} (ho : UnR X (unaryOp op) r) (ha : PE X a ta) : PE X (.UnaryOp op a pos) (tUn r ta) := by
  intro pins s σ H Q I h
  exact UnaryOp_ (thn (ha pins s σ H _ I h) fun v s1 ⟨x, H1, I1, r1, q1⟩ => ho pins s1 σ H1 x v Q I1 r1 q1)
theorem opI {f : Value → Value → Sem Value} {C : Int → Int → Prop} {g : Int → Int → Int}
    (rule : ∀ (i j : Int) (t u : Tok) (s : Shared) (Q : Value → Shared → Prop) (E : Value → Shared → Prop), C i j → Q (.int (g i j) s.toks) { s with toks := s.toks + 1 } → wpAny (model X.prog X.w) X.A (f (.int i t) (.int j u)) Q E s) :
    OpR X f (rI C fun i j => .int (g i j)) := by
  intro pins s σ H x y v u Q I rx ry h
  obtain ⟨i, j, rfl, rfl, hc, q⟩ := h
  obtain ⟨t, rfl⟩ := rx
  obtain ⟨t', rfl⟩ := ry
  exact rule i j t t' s _ _ hc ⟨.int (g i j), H, I.tok _, ⟨_, rfl⟩, q⟩
theorem opI0 {f : Value → Value → Sem Value} {g : Int → Int → Int}
    (rule : ∀ (i j : Int) (t u : Tok) (s : Shared) (Q : Value → Shared → Prop) (E : Value → Shared → Prop), Q (.int (g i j) s.toks) { s with toks := s.toks + 1 } → wpAny (model X.prog X.w) X.A (f (.int i t) (.int j u)) Q E s) :
    OpR X f (rI0 fun i j => .int (g i j)) := by
  intro pins s σ H x y v u Q I rx ry h
  obtain ⟨i, j, rfl, rfl, q⟩ := h
  obtain ⟨t, rfl⟩ := rx
  obtain ⟨t', rfl⟩ := ry
  exact rule i j t t' s _ _ ⟨.int (g i j), H, I.tok _, ⟨_, rfl⟩, q⟩
theorem opB0 {f : Value → Value → Sem Value} {g : Int → Int → Bool}
    (rule : ∀ (i j : Int) (t u : Tok) (s : Shared) (Q : Value → Shared → Prop) (E : Value → Shared → Prop), Q (.bool (g i j)) s → wpAny (model X.prog X.w) X.A (f (.int i t) (.int j u)) Q E s) :
    OpR X f (rI0 fun i j => .bl (g i j)) := by
  intro pins s σ H x y v u Q I rx ry h
  obtain ⟨i, j, rfl, rfl, q⟩ := h
  obtain ⟨t, rfl⟩ := rx
  obtain ⟨t', rfl⟩ := ry
  exact rule i j t t' s _ _ ⟨.bl (g i j), H, I, rfl, q⟩

def CMul (i j : Int) : Prop := (-(2 ^ 64) < i ∧ i < 2 ^ 64) ∨ (-(2 ^ 64) < j ∧ j < 2 ^ 64)
theorem CMul.ok {i j : Int} (h : CMul i j) : IntMulOk i j := by
  rcases h with ⟨h1, h2⟩ | ⟨h1, h2⟩
  · exact .of_left (intBits_le_64 h1 h2)
  · exact .of_right (intBits_le_64 h1 h2)
theorem op_add : OpR X (binaryOp .Add) (rI0 fun i j => .int (i + j)) := opI0 fun _ _ _ _ _ _ _ q => add_int q
theorem op_sub : OpR X (binaryOp .Sub) (rI0 fun i j => .int (i - j)) := opI0 fun _ _ _ _ _ _ _ q => sub_int q
theorem op_mul : OpR X (binaryOp .Mult) (rI CMul fun i j => .int (i * j)) := opI fun _ _ _ _ _ _ _ hc q => mul_int q hc.ok
/-- % by a positive divisor of any size -/
theorem op_mod : OpR X (binaryOp .Mod) (rI (fun _ j => 0 < j) fun i j => .int (i % j)) := opI fun i j _ _ _ _ _ hc q => by
  have h1 : (0 : Int) < j := hc
  exact mod_int' (by omega) (by rw [Int.fmod_eq_emod_of_nonneg i (by omega)]; exact q)
theorem unI {f : Value → Sem Value} {g : Int → Int}
    (rule : ∀ (i : Int) (t : Tok) (s : Shared) (Q : Value → Shared → Prop) (E : Value → Shared → Prop), Q (.int (g i) s.toks) { s with toks := s.toks + 1 } → wpAny (model X.prog X.w) X.A (f (.int i t)) Q E s) :
    UnR X f (rU fun i => .int (g i)) := by
  intro pins s σ H x v Q I rx h
  obtain ⟨i, rfl, q⟩ := h
  obtain ⟨t, rfl⟩ := rx
  exact rule i t s _ _ ⟨.int (g i), H, I.tok _, ⟨_, rfl⟩, q⟩
theorem un_neg : UnR X (unaryOp .USub) (rU fun i => .int (-i)) := unI fun _ _ _ _ _ q => neg_int q
end

/-- the scalars that == tells apart as data does -/
def scal : V → V → Bool
  | .non, .non => true | .non, .int _ => true | .int _, .non => true | .non, .bl _ => true | .bl _, .non => true | .non, .str _ => true | .str _, .non => true
  | .int _, .int _ => true | .bl _, .bl _ => true | .str _, .str _ => true | .byt _, .byt _ => true
  | .int _, .str _ => true | .str _, .int _ => true | .bl _, .str _ => true | .str _, .bl _ => true
  | _, _ => false
def rEq : R2 := fun x y H Q => scal x y = true ∧ Q (.bl (decide (x = y))) H
def rNe : R2 := fun x y H Q => scal x y = true ∧ Q (.bl (!decide (x = y))) H

theorem dec_int {i j : Int} : decide (V.int i = V.int j) = (i == j) := by
  rw [Bool.eq_iff_iff]
  simp
theorem dec_bl {i j : Bool} : decide (V.bl i = V.bl j) = (i == j) := by
  rw [Bool.eq_iff_iff]
  simp
theorem dec_str {i j : Str} : decide (V.str i = V.str j) = (i == j) := by
  rw [Bool.eq_iff_iff]
  simp
theorem dec_byt {i j : Array UInt8} : decide (V.byt i = V.byt j) = (i.toList == j.toList) := by
  rw [Bool.eq_iff_iff]
  cases i
  cases j
  simp

section
variable {X : Cx} {a b c : Expr} {ta tb tc : TE} {pos : Pos}
theorem fin_bl {pins : List (Addr × Obj)} {σ : St} {H : Hp} {s : Shared} {Q : VK} {k k' : Bool} (I : Inv X pins σ H s) (q : Q (.bl k) H) (e : k = k') : EP X pins σ Q (.bool k') s := by
  subst e
  exact ⟨.bl k, H, I, rfl, q⟩
theorem op_eq : OpR X (compareOp .Eq) rEq := by
  intro pins s σ H x y v u Q I rx ry h
  obtain ⟨hs, q⟩ := h
  cases x with
  | non =>
    cases rx
    cases y with
    | non => cases ry; exact PySem.EqNone.eq_none_none (fin_bl I q (by simp))
    | bl j => cases ry; exact PySem.EqNone.eq_none_bool (fin_bl I q (by simp))
    | int j => obtain ⟨t', rfl⟩ := ry; exact PySem.EqNone.eq_none_int (fin_bl I q (by simp))
    | str j => obtain ⟨t', rfl⟩ := ry; exact PySem.EqNone.eq_none_str (fin_bl I q (by simp))
    | _ => exact absurd (show false = true from hs) Bool.false_ne_true
  | bl i =>
    cases rx
    cases y with
    | non => cases ry; exact PySem.EqNone.eq_bool_none (fin_bl I q (by simp))
    | bl j => cases ry; exact eq_bool (fin_bl I q dec_bl)
    | str j => obtain ⟨t', rfl⟩ := ry; exact PySem.EqMixed.eq_bool_str (fin_bl I q (by simp))
    | _ => exact absurd (show false = true from hs) Bool.false_ne_true
  | int i =>
    obtain ⟨t, rfl⟩ := rx
    cases y with
    | non => cases ry; exact PySem.EqNone.eq_int_none (fin_bl I q (by simp))
    | int j => obtain ⟨t', rfl⟩ := ry; exact eq_int (fin_bl I q dec_int)
    | str j => obtain ⟨t', rfl⟩ := ry; exact PySem.EqMixed.eq_int_str (fin_bl I q (by simp))
    | _ => exact absurd (show false = true from hs) Bool.false_ne_true
  | str i =>
    obtain ⟨t, rfl⟩ := rx
    cases y with
    | non => cases ry; exact PySem.EqNone.eq_str_none (fin_bl I q (by simp))
    | bl j => cases ry; exact PySem.EqMixed.eq_str_bool (fin_bl I q (by simp))
    | int j => obtain ⟨t', rfl⟩ := ry; exact PySem.EqMixed.eq_str_int (fin_bl I q (by simp))
    | str j => obtain ⟨t', rfl⟩ := ry; exact eq_str (fin_bl I q dec_str)
    | _ => exact absurd (show false = true from hs) Bool.false_ne_true
  | byt i =>
    obtain ⟨t, rfl⟩ := rx
    cases y with
    | byt j => obtain ⟨t', rfl⟩ := ry; exact PySem.W.eq_bytes (fin_bl I q dec_byt)
    | _ => exact absurd (show false = true from hs) Bool.false_ne_true
  | _ => cases y <;> exact absurd (show false = true from hs) Bool.false_ne_true
theorem op_ne : OpR X (compareOp .NotEq) rNe := by
  intro pins s σ H x y v u Q I rx ry h
  obtain ⟨hs, q⟩ := h
  cases x with
  | non =>
    cases rx
    cases y with
    | non => cases ry; exact PySem.EqNone.ne_none_none (fin_bl I q (by simp))
    | bl j => cases ry; exact PySem.EqNone.ne_none_bool (fin_bl I q (by simp))
    | int j => obtain ⟨t', rfl⟩ := ry; exact PySem.EqNone.ne_none_int (fin_bl I q (by simp))
    | str j => obtain ⟨t', rfl⟩ := ry; exact PySem.EqNone.ne_none_str (fin_bl I q (by simp))
    | _ => exact absurd (show false = true from hs) Bool.false_ne_true
  | bl i =>
    cases rx
    cases y with
    | non => cases ry; exact PySem.EqNone.ne_bool_none (fin_bl I q (by simp))
    | bl j => cases ry; exact ne_bool (fin_bl I q (congrArg not dec_bl))
    | str j => obtain ⟨t', rfl⟩ := ry; exact PySem.EqMixed.ne_bool_str (fin_bl I q (by simp))
    | _ => exact absurd (show false = true from hs) Bool.false_ne_true
  | int i =>
    obtain ⟨t, rfl⟩ := rx
    cases y with
    | non => cases ry; exact PySem.EqNone.ne_int_none (fin_bl I q (by simp))
    | int j => obtain ⟨t', rfl⟩ := ry; exact ne_int (fin_bl I q (congrArg not dec_int))
    | str j => obtain ⟨t', rfl⟩ := ry; exact PySem.EqMixed.ne_int_str (fin_bl I q (by simp))
    | _ => exact absurd (show false = true from hs) Bool.false_ne_true
  | str i =>
    obtain ⟨t, rfl⟩ := rx
    cases y with
    | non => cases ry; exact PySem.EqNone.ne_str_none (fin_bl I q (by simp))
    | bl j => cases ry; exact PySem.EqMixed.ne_str_bool (fin_bl I q (by simp))
    | int j => obtain ⟨t', rfl⟩ := ry; exact PySem.EqMixed.ne_str_int (fin_bl I q (by simp))
    | str j => obtain ⟨t', rfl⟩ := ry; exact ne_str (fin_bl I q (congrArg not dec_str))
    | _ => exact absurd (show false = true from hs) Bool.false_ne_true
  | byt i =>
    obtain ⟨t, rfl⟩ := rx
    cases y with
    | byt j => obtain ⟨t', rfl⟩ := ry; exact PySem.W.ne_bytes (fin_bl I q (congrArg not dec_byt))
    | _ => exact absurd (show false = true from hs) Bool.false_ne_true
  | _ => cases y <;> exact absurd (show false = true from hs) Bool.false_ne_true

theorem op_lt : OpR X (compareOp .Lt) (rI0 fun i j => .bl (decide (i < j))) := opB0 fun _ _ _ _ _ _ _ q => lt_int q
theorem op_le : OpR X (compareOp .LtE) (rI0 fun i j => .bl (decide (i ≤ j))) := opB0 fun _ _ _ _ _ _ _ q => le_int q
theorem op_gt : OpR X (compareOp .Gt) (rI0 fun i j => .bl (decide (j < i))) := opB0 fun _ _ _ _ _ _ _ q => gt_int q
theorem op_ge : OpR X (compareOp .GtE) (rI0 fun i j => .bl (decide (j ≤ i))) := opB0 fun _ _ _ _ _ _ _ q => ge_int q
/-- the one string within the other -/
theorem op_in_str : OpR X (compareOp .In) (fun x y H Q => ∃ i j, x = .str i ∧ y = .str j ∧ Q (.bl (!(Builtin.Str.occurrences j i 0 j.length 1).isEmpty)) H) := by
  intro pins s σ H x y v u Q I rx ry h
  obtain ⟨i, j, rfl, rfl, q⟩ := h
  obtain ⟨t, rfl⟩ := rx
  obtain ⟨t', rfl⟩ := ry
  exact in_str (fin_bl I q rfl)

/-- two rules for one operation: by cases -/
theorem OpR.or {f : Value → Value → Sem Value} {r r' : R2} (h : OpR X f r) (h' : OpR X f r') : OpR X f (fun x y H Q => r x y H Q ∨ r' x y H Q) := by
  intro pins s σ H x y v u Q I rx ry q
  rcases q with q | q
  · exact h pins s σ H x y v u Q I rx ry q
  · exact h' pins s σ H x y v u Q I rx ry q

theorem nomark (b : Expr) {op : CmpOp} (h : op ≠ .In := by decide) (h2 : op ≠ .NotIn := by decide) : behindInMarks op b = false := by
  have e1 : (op == CmpOp.In) = false := by cases op <;> first | rfl | exact absurd rfl h
  have e2 : (op == CmpOp.NotIn) = false := by cases op <;> first | rfl | exact absurd rfl h2
  cases b <;> simp [behindInMarks, e1, e2]
/-- a comparison as a value; hm: nomark b, or (for in, not in) by with_unfolding_all rfl -/
theorem pe_cmpR {op : CmpOp} {r : R2} (ho : OpR X (compareOp op) r) (ha : PE X a ta) (hb : PE X b tb) (hm : behindInMarks op b = false) : PE X (.Compare a [op] [b] pos) (tOp r ta tb) := by
  intro pins s σ H Q I h
  exact wpAny_Compare1 (binT ha hb I h fun v u s2 x y H2 I2 rx ry q => ho pins s2 σ H2 x y v u Q I2 rx ry q) hm
/-- a reading of a value as a test -/
def tTest (t : TE) : TT := fun σ H Q => t σ H fun x H' => ∃ k, x = .bl k ∧ Q k H'
theorem pt_cmpR {op : CmpOp} {r : R2} (ho : OpR X (compareOp op) r) (ha : PE X a ta) (hb : PE X b tb) (hm : behindInMarks op b = false) : PT X (.Compare a [op] [b] pos) (tTest (tOp r ta tb)) := by
  intro pins s σ H Q I h
  refine wpAny_isTrue_Compare1 (thn (ha pins s σ H _ I h) fun v s1 ⟨x, H1, I1, r1, q1⟩ => thn (hb pins s1 σ H1 _ I1 q1) fun u s2 ⟨y, H2, I2, r2, q2⟩ =>
    thn (ho pins s2 σ H2 x y v u _ I2 r1 r2 q2) fun c s3 ⟨z, H3, I3, r3, k, e, q3⟩ => ?_) hm
  subst e
  cases r3
  exact wpAny_truthy_bool ⟨H3, I3, q3⟩
/-- a op1 b op2 c -/
def tChain (r r' : R2) (ta tb tc : TE) : TE := fun σ H Q => ta σ H fun x H1 => tb σ H1 fun y H2 => r x y H2 fun z H3 => ∃ k, z = .bl k ∧
  (if k = true then tc σ H3 fun w' H4 => r' y w' H4 Q else Q (.bl false) H3)
theorem pe_chain {op op' : CmpOp} {r r' : R2} (ho : OpR X (compareOp op) r) (ho' : OpR X (compareOp op') r') (ha : PE X a ta) (hb : PE X b tb) (hc : PE X c tc)
    (hm : lastMarks [op, op'] [b, c] = false := by with_unfolding_all rfl) : PE X (.Compare a [op, op'] [b, c] pos) (tChain r r' ta tb tc) := by
  intro pins s σ H Q I h
  refine Compare_chain (thn (ha pins s σ H _ I h) fun v s1 ⟨x, H1, I1, r1, q1⟩ => chain_link (thn (hb pins s1 σ H1 _ I1 q1) fun u s2 ⟨y, H2, I2, r2, q2⟩ =>
    thn (ho pins s2 σ H2 x y v u _ I2 r1 r2 q2) fun d s3 ⟨z, H3, I3, r3, k, e, q3⟩ => ?_)) hm
  subst e
  cases r3
  refine wpAny_truthy_bool ?_
  cases k with
  | false => exact ite_ff ⟨.bl false, H3, I3, rfl, q3⟩
  | true => exact ite_tt (chain_last (thn (hc pins s3 σ H3 _ I3 q3) fun w' s4 ⟨z', H4, I4, r4, q4⟩ => ho' pins s4 σ H4 y z' u w' Q I4 r2 r4 q4))
theorem line63 : (sizeLine : Nat) < 2 ^ 63 := by rw [sizeLine_eq]; decide
theorem op_add_str : OpR X (binaryOp .Add) (fun x y H Q => ∃ i j, x = .str i ∧ y = .str j ∧ i.length + j.length ≤ sizeLine ∧ Q (.str (i ++ j)) H) := by
  intro pins s σ H x y v u Q I rx ry h
  obtain ⟨i, j, rfl, rfl, hz, q⟩ := h
  obtain ⟨t, rfl⟩ := rx
  obtain ⟨t', rfl⟩ := ry
  exact add_str (fun t' tk => ⟨.str (i ++ j), H, I.tok _, ⟨_, rfl⟩, q⟩) hz
theorem vals1 {x : V} {us : List Value} (r : Vals [x] us) : ∃ u, us = [u] ∧ RelV x u := by
  cases r with
  | cons r1 r2 => cases r2; exact ⟨_, rfl, r1⟩
theorem vals2 {x y : V} {us : List Value} (r : Vals [x, y] us) : ∃ u w', us = [u, w'] ∧ RelV x u ∧ RelV y w' := by
  cases r with
  | cons r1 r2 =>
    cases r2 with
    | cons r3 r4 => cases r4; exact ⟨_, _, rfl, r1, r3⟩
theorem call_max2 (hc : X.calm = true) : CallR X (.builtin "max") (fun xs H Q => ∃ i j, xs = [.int i, .int j] ∧ Q (.int (if j > i then j else i)) H) := by
  intro pins s σ H xs us Q I r h
  obtain ⟨i, j, rfl, q⟩ := h
  obtain ⟨u, w', rfl, ⟨t, rfl⟩, ⟨t', rfl⟩⟩ := vals2 r
  refine max_two_ints (I.ok.hd hc) fun h' tk k => ⟨_, H, I.kept k, ?_, q⟩
  by_cases hj : j > i
  · rw [if_pos hj, if_pos hj]; exact ⟨_, rfl⟩
  · rw [if_neg hj, if_neg hj]; exact ⟨_, rfl⟩
theorem call_min2 (hc : X.calm = true) : CallR X (.builtin "min") (fun xs H Q => ∃ i j, xs = [.int i, .int j] ∧ Q (.int (if j < i then j else i)) H) := by
  intro pins s σ H xs us Q I r h
  obtain ⟨i, j, rfl, q⟩ := h
  obtain ⟨u, w', rfl, ⟨t, rfl⟩, ⟨t', rfl⟩⟩ := vals2 r
  refine min_two_ints (I.ok.hd hc) fun h' tk k => ⟨_, H, I.kept k, ?_, q⟩
  by_cases hj : j < i
  · rw [if_pos hj, if_pos hj]; exact ⟨_, rfl⟩
  · rw [if_neg hj, if_neg hj]; exact ⟨_, rfl⟩
end
end L2

namespace L2
open PySem PySem.Spec PyProof.Rows

structure ObjM (h : Heap) (x dx C : Addr) (mA : Str → Option Value) : Prop where
  obj : h.get? x = some (PySem.W.instObj C dx)
  ns : h.Ns1 dx mA
  ne : dx ≠ x

theorem lookIn_ns {h : Heap} {dx : Addr} {mA : Str → Option Value} (n : h.Ns1 dx mA) : ∃ od, h.get? dx = some od ∧ ∀ name, PySem.W.lookIn name od = some (mA name) := by
  obtain ⟨o, es, ep, ho, hd, hk, _, hm⟩ := n
  refine ⟨o, ho, fun name => ?_⟩
  have e := hm name
  unfold nsFind findBy at e
  rw [← Array.find?_toList] at e
  unfold PySem.W.lookIn
  rw [hd]
  dsimp only
  split
  · rename_i y q
    rw [q] at e
    exact congrArg some e
  · rename_i q
    rw [q] at e
    have a : es.toList.any (·.refKey) = false := by
      rw [List.any_eq_false]
      intro y hy
      obtain ⟨z, t, hkey⟩ := hk y (Array.mem_toList_iff.mp hy)
      simp [DictEntry.refKey, hkey]
    have a' : ¬ es.toList.any (·.refKey) = true := by rw [a]; exact Bool.false_ne_true
    rw [if_neg a']
    exact congrArg some e

theorem ObjM.look {h : Heap} {x dx C : Addr} {mA : Str → Option Value} (I : ObjM h x dx C mA) : ∃ od, PySem.W.InstAt h x (PySem.W.instObj C dx) C (some od) ∧ ∀ name, PySem.W.lookIn name od = some (mA name) :=
  let ⟨od, ho, hl⟩ := lookIn_ns I.ns
  ⟨od, ⟨I.obj, rfl, rfl, ho⟩, hl⟩

section
variable {prog : Program} {w : World} {A : Around} {E : Value → Shared → Prop} {s : Shared} {K : PySem.W.Frag} {x dx C f : Addr} {mA : Str → Option Value} {name : Str} {v : Value}

theorem get_map {expr : Bool} {Q : Value → Shared → Prop} (X : K.In s.heap) (I : ObjM s.heap x dx C mA) (hg : PySem.W.plainGet K C name = true) (hh : PySem.W.hasDictIn K C = true)
    (ha : PySem.W.findIn K (.ref C) name = some none) (hv : mA name = some v) (hv' : PySem.W.handedIn v = true) (h : Q v { s with toks := s.toks + 1 }) :
    wpAny (model prog w) A (getAttr (.ref x) name expr) Q E s := by
  obtain ⟨od, J, hl⟩ := I.look
  exact PySem.W.get_value X J (PySem.W.plainGet_of hg).1 (PySem.W.findObj_own hh ha rfl (by rw [hl, hv])) hv' h

theorem set_map {ns : List Str} {Q : Unit → Shared → Prop} (X : K.In s.heap) (I : ObjM s.heap x dx C mA)
    (hs : PySem.W.findIn K (.ref C) "__setattr__" = some (some (.builtin "object.__setattr__"))) (hp : PySem.W.plainOver K C = true) (ht : PySem.W.takerIn K C name = some none) (hh : PySem.W.hasDictIn K C = true)
    (hw : PySem.Within mA ns) (hsz : ns.length ≤ sizeLine)
    (h : ∀ h', ObjM h' x dx C (fun y => if y = name then some v else mA y) → Heap.SameBut dx s.heap h' → Q () { s with heap := h', toks := s.toks + 2 }) :
    wpAny (model prog w) A (setAttr (.ref x) name v) Q E s := by
  obtain ⟨od, J, hl⟩ := I.look
  refine PySem.W.set_plain X J hs (PySem.W.osa_open (s := { s with toks := s.toks + 1 }) (r := none) X J hp ht fun b => ?_)
  obtain ⟨cd, hc, hd'⟩ := PySem.W.any_some hh
  have hx : s.heap.get? x = some ⟨.ref C, some dx, .plain, #[]⟩ := I.obj
  refine wpAny_bind (wpAny_pure (wpAny_bind (wpAny_bind (wpAny_loadPart hx (wpAny_bind (PySem.W.Looks.here (s := { s with toks := s.toks + 1 }) (PySem.W.looks_clsIn X hc) ?_))))))
  rw [hd']
  refine wpAny_pure (a := some dx) (wpAny_bind (wpAny_pure (wpAny_bind ?_)))
  refine wpAny_nsSet1 (s := { s with toks := s.toks + 1 }) I.ns fun h' hn2 hs2 => ?_
  obtain ⟨oD, esD, epD, hoD, hdD, hcD⟩ := hn2.count (PySem.Within.cons name v hw)
  refine wpAny_bind (wpAny_lookBehind hoD (by rw [hdD]; exact pastItsLine_dict (Nat.le_trans hcD (by rw [List.length_cons]; omega))) ?_)
  exact wpAny_pure (h _ ⟨(hs2.2 _ (Ne.symm I.ne)).trans I.obj, hn2, I.ne⟩ hs2)

/-- C(..): the dict at the heap's end, the instance behind it; then its __init__ -/
theorem make_map {R : Result → Shared → Prop} {vs : List Value} {kw : List (Str × Value)} (X : K.In s.heap) (hm : PySem.W.makesIn K C = true)
    (hi : PySem.W.findIn K (.ref C) "__init__" = some (some (.ref f))) (hf : PySem.W.typeIn K (.ref f) = some (.type "function"))
    (h : codeAny (model prog w) (A.under (.builtin "type.__call__" ⟨.ref C :: vs, kw⟩)) (.call (.ref f) ⟨.ref (s.heap.objs.size + 1) :: vs, kw⟩) (PySem.W.InitBack (s.heap.objs.size + 1) R)
      { s with heap := (s.heap.push PySem.W.emptyDict).push (PySem.W.instObj C s.heap.objs.size) }) :
    codeAny (model prog w) A (.call (.ref C) ⟨vs, kw⟩) R s := by
  obtain ⟨hh, g, d, t, os⟩ := s
  exact PySem.W.make_core (PySem.W.makes_of X hm) (PySem.W.looks_findIn X hi) (fun self => PySem.W.bind_fn X self hf) (.inl rfl) h
end

def putF (f : Str) (v : V) : List (Str × V) → List (Str × V)
  | [] => [(f, v)]
  | (g, x) :: r => if g = f then (g, v) :: r else (g, x) :: putF f v r
theorem lookup_putF (f g : Str) (v : V) : ∀ fs : List (Str × V), (putF f v fs).lookup g = if g = f then some v else fs.lookup g
  | [] => by
    show List.lookup g [(f, v)] = _
    by_cases h : g = f
    · have hb : (g == f) = true := beq_iff_eq.mpr h
      simp only [List.lookup, hb, if_pos h]
    · have hb : (g == f) = false := beq_eq_false_iff_ne.mpr h
      simp only [List.lookup, hb, if_neg h]
  | (k, x) :: r => by
    have ih := lookup_putF f g v r
    rw [show putF f v ((k, x) :: r) = (if k = f then (k, v) :: r else (k, x) :: putF f v r) from rfl]
    by_cases hk : k = f
    · rw [if_pos hk]
      by_cases h : g = k
      · have hb : (g == k) = true := beq_iff_eq.mpr h
        simp only [List.lookup, hb, if_pos (h.trans hk)]
      · have hb : (g == k) = false := beq_eq_false_iff_ne.mpr h
        simp only [List.lookup, hb, if_neg (fun e : g = f => h (e.trans hk.symm))]
    · rw [if_neg hk]
      by_cases h : g = k
      · have hb : (g == k) = true := beq_iff_eq.mpr h
        simp only [List.lookup, hb, if_neg (fun e : g = f => hk (h.symm.trans e))]
      · have hb : (g == k) = false := beq_eq_false_iff_ne.mpr h
        simp only [List.lookup, hb]
        exact ih
theorem keys_putF (f : Str) (v : V) : ∀ fs : List (Str × V), f ∈ (putF f v fs).map (·.1) ∧ ∀ g, g ∈ fs.map (·.1) → g ∈ (putF f v fs).map (·.1)
  | [] => ⟨by simp [putF], fun g h => by simp at h⟩
  | (k, x) :: r => by
    obtain ⟨i1, i2⟩ := keys_putF f v r
    rw [show putF f v ((k, x) :: r) = (if k = f then (k, v) :: r else (k, x) :: putF f v r) from rfl]
    by_cases hk : k = f
    · rw [if_pos hk]
      subst hk
      exact ⟨by simp, fun g h => by simpa using h⟩
    · rw [if_neg hk]
      refine ⟨?_, fun g h => ?_⟩
      · rw [List.map_cons]
        exact List.mem_cons_of_mem _ i1
      · rw [List.map_cons] at h ⊢
        rcases List.mem_cons.mp h with e | e
        · exact List.mem_cons.mpr (.inl e)
        · exact List.mem_cons_of_mem _ (i2 g e)
theorem length_putF (f : Str) (v : V) : ∀ fs : List (Str × V), (putF f v fs).length ≤ fs.length + 1
  | [] => by simp [putF]
  | (k, x) :: r => by
    have ih := length_putF f v r
    rw [show putF f v ((k, x) :: r) = (if k = f then (k, v) :: r else (k, x) :: putF f v r) from rfl]
    by_cases hk : k = f
    · rw [if_pos hk, List.length_cons, List.length_cons]; omega
    · rw [if_neg hk, List.length_cons, List.length_cons]; omega

theorem RelO.some_of {v : V} {o : Option Value} (r : RelO (some v) o) : ∃ u, o = some u ∧ RelV v u := by
  cases o with
  | none => exact (show False from r).elim
  | some u => exact ⟨u, rfl, r⟩
theorem handed_of {v : V} {u : Value} (r : RelV v u) : PySem.W.handedIn u = true := by
  cases v with
  | non => cases (show u = Value.none from r); rfl
  | bl b => cases (show u = Value.bool b from r); rfl
  | int i => obtain ⟨t, e⟩ := (show ∃ t, u = Value.int i t from r); cases e; rfl
  | str x => obtain ⟨t, e⟩ := (show ∃ t, u = Value.str x t from r); cases e; rfl
  | byt b => obtain ⟨t, e⟩ := (show ∃ t, u = Value.bytes b t from r); cases e; rfl
  | flt b => obtain ⟨t, e⟩ := (show ∃ t, u = Value.float b t from r); cases e; rfl
  | ref a => cases (show u = Value.ref a from r); rfl
  | ty n => cases (show u = Value.type n from r); rfl

section
variable {P : Program} {w : World} {H H' : Hp} {h h' : Heap} {a C dx : Addr} {fs fs' : List (Str × V)}
theorem ins_get (hok : HOk P w H h) (e : H a = some (.ins C dx fs)) : ∃ mA, ObjM h a dx C mA ∧ (∀ f, RelO (fs.lookup f) (mA f)) ∧ PySem.Within mA (fs.map (·.1)) ∧ fs.length ≤ 1000 ∧ H dx = some (.own a) := by
  obtain ⟨d, z, ne, ob, mA, n, r, q⟩ := (show ObjOk P w H h a (.ins C dx fs) from hok a _ e)
  exact ⟨mA, ⟨ob, n, ne⟩, r, q, z, d⟩
end

structure Cls (K : PySem.W.Frag) (C : Addr) : Prop where
  pg : PySem.W.plainGet K C Str.empty = true
  hd : PySem.W.hasDictIn K C = true
  po : PySem.W.plainOver K C = true
  sa : PySem.W.findIn K (.ref C) "__setattr__" = some (some (.builtin "object.__setattr__"))
theorem Cls.get {K : PySem.W.Frag} {C : Addr} (c : Cls K C) (f : Str) : PySem.W.plainGet K C f = true := c.pg
/-- no class of it has the name -/
def NoAttr (K : PySem.W.Frag) (C : Addr) (f : Str) : Prop := PySem.W.findIn K (.ref C) f = some none
theorem NoAttr.taker {K : PySem.W.Frag} {C : Addr} {f : Str} (n : NoAttr K C f) : PySem.W.takerIn K C f = some none := by
  unfold PySem.W.takerIn
  rw [show PySem.W.findIn K (.ref C) f = some none from n]
  rfl
section
variable {X : Cx} {pins : List (Addr × Obj)} {σ : St} {H : Hp} {s : Shared} {a C dx : Addr} {fs : List (Str × V)} {f : Str} {v : V} {A : Around} {E : Value → Shared → Prop}

theorem getattr_ok {b : Bool} {Q : Value → Shared → Prop} (I : Inv X pins σ H s) (e : H a = some (.ins C dx fs)) (c : Cls X.K C) (n : NoAttr X.K C f) (l : fs.lookup f = some v)
    (h : ∀ u s', Inv X pins σ H s' → RelV v u → Q u s') : wpAny (model X.prog X.w) A (getAttr (.ref a) f b) Q E s := by
  obtain ⟨mA, O, r, _, _, _⟩ := ins_get I.hok e
  obtain ⟨u, hu, ru⟩ := RelO.some_of (v := v) (o := mA f) (by rw [← l]; exact r f)
  exact get_map I.kIn O (c.get f) c.hd n hu (handed_of ru) (h u _ (I.tok _) ru)

theorem setattr_ok {y : V} {u : Value} {Q : Unit → Shared → Prop} (I : Inv X pins σ H s) (e : H a = some (.ins C dx fs)) (c : Cls X.K C) (n : NoAttr X.K C f) (hl : fs.length < 1000) (ry : RelV y u)
    (h : ∀ s', Inv X pins σ (upd H a (.ins C dx (putF f y fs))) s' → Q () s') : wpAny (model X.prog X.w) A (setAttr (.ref a) f u) Q E s := by
  obtain ⟨mA, O, r, wi, _, ho⟩ := ins_get I.hok e
  have hz : (fs.map (·.1)).length ≤ sizeLine := by rw [List.length_map, sizeLine_eq]; omega
  refine set_map I.kIn O c.sa c.po n.taker c.hd wi hz fun h' O' sb => h _ ?_
  have hd : ∃ o, h'.get? dx = some o := let ⟨o, _, _, e', _⟩ := O'.ns; ⟨o, e'⟩
  refine I.write (x := a) (e := dx) (by rw [e]; exact True.intro) (.inr ho) (fun b q hb z => (sb.2 b hb).trans z) hd ?_
  refine ⟨by rw [upd_ne O.ne]; exact ho, ?_, O.ne, O'.obj, _, O'.ns, fun g => ?_, fun g hg => ?_⟩
  · have := length_putF f y fs; omega
  · show RelO ((putF f y fs).lookup g) (if g = f then some u else mA g)
    rw [lookup_putF]
    by_cases q : g = f
    · rw [if_pos q, if_pos q]; exact ry
    · rw [if_neg q, if_neg q]; exact r g
  · by_cases q : g = f
    · rw [q]; exact (keys_putF f y fs).1
    · refine (keys_putF f y fs).2 g (wi g fun z => hg ?_)
      show (if g = f then some u else mA g) = none
      rw [if_neg q]; exact z

/-- a new instance, tracked, without attributes -/
theorem Inv.made (I : Inv X pins σ H s) : Inv X pins σ (upd (upd H s.heap.objs.size (.own (s.heap.objs.size + 1))) (s.heap.objs.size + 1) (.ins C s.heap.objs.size []))
    { s with heap := (s.heap.push PySem.W.emptyDict).push (PySem.W.instObj C s.heap.objs.size) } := by
  have e1 : (s.heap.push PySem.W.emptyDict).get? s.heap.objs.size = some PySem.W.emptyDict := Heap.get?_push_size s.heap rfl
  have e2 : ((s.heap.push PySem.W.emptyDict).push (PySem.W.instObj C s.heap.objs.size)).get? (s.heap.objs.size + 1) = some (PySem.W.instObj C s.heap.objs.size) := by
    have := Heap.get?_push_size (s.heap.push PySem.W.emptyDict) (o := PySem.W.instObj C s.heap.objs.size) rfl
    rwa [Heap.size_push] at this
  have e3 : (s.heap.push PySem.W.emptyDict).Ns s.heap.objs.size (fun _ => none) := ⟨PySem.W.emptyDict, #[], _, e1, rfl, (fun e he => absurd he (by simp)), fun _ => rfl⟩
  have I1 := I.laid (a := s.heap.objs.size) (o := .own (s.heap.objs.size + 1)) (h' := s.heap.push PySem.W.emptyDict) (t' := s.toks) (fun b u q => Heap.get?_push_of_some _ q) (Nat.le_refl _) ⟨_, e1⟩
  refine I1.laid (a := s.heap.objs.size + 1) (o := .ins C s.heap.objs.size []) (t' := s.toks) (fun b u q => Heap.get?_push_of_some _ q) (Nat.le_of_eq (Heap.size_push _ _)) ?_
  have ne : s.heap.objs.size ≠ s.heap.objs.size + 1 := Nat.ne_of_lt (Nat.lt_succ_self _)
  refine ⟨by rw [upd_ne ne, upd_same], Nat.zero_le _, ne, e2, fun _ => none, (Heap.Ns1.of_empty e3).at fun o q => Heap.get?_push_of_some _ q, fun _ => True.intro, fun y hy => absurd rfl hy⟩

/-- e.f where nothing but the object is asked: through attributeBase (super) and the last hold -/
theorem attr_of {prog : Program} {w : World} {env : Env} {e : Expr} {f : Str} {pos : Pos} {s : Shared} {Q : Value → Shared → Prop} (hb : attributeBase e f env (eval e env) = eval e env)
    (h : wpAny (model prog w) A (eval e env) (fun o s₁ => wpAny (model prog w) A (getAttr o f true) Q E s₁) E s) : wpAny (model prog w) A (eval (.Attribute e f pos) env) Q E s :=
  Attribute_any_ h (by rw [arm_eval_Attribute, hb])
end

/-- e.f, an attribute of the instance -/
def tFld (K : PySem.W.Frag) (ta : TE) (f : Str) : TE := fun σ H Q => ta σ H fun x H1 => ∃ a C dx fs v, x = .ref a ∧ H1 a = some (.ins C dx fs) ∧ Cls K C ∧ NoAttr K C f ∧ fs.lookup f = some v ∧ Q v H1
/-- e.f = value -/
def sFld (K : PySem.W.Frag) (ta tv : TE) (f : Str) : TS := fun D σ H => tv σ H fun y H1 => ta σ H1 fun x H2 => ∃ a C dx fs, x = .ref a ∧ H2 a = some (.ins C dx fs) ∧ Cls K C ∧ NoAttr K C f ∧ fs.length < 1000 ∧
  D.nx σ (upd H2 a (.ins C dx (putF f y fs)))
section
variable {X : Cx} {o e value : Expr} {f : Str} {pos pos' tpos : Pos} {ta tv : TE}
theorem pe_fld (he : PE X e ta) (hb : attributeBase e f X.env (eval e X.env) = eval e X.env) : PE X (.Attribute e f pos) (tFld X.K ta f) := by
  intro pins s σ H Q I h
  refine attr_of hb (thn (he pins s σ H _ I h) fun u s1 ⟨x, H1, I1, rx, a, C, dx, fs, v, ex, ea, c, n, l, q⟩ => ?_)
  subst ex
  obtain rfl : u = Value.ref a := rx
  exact getattr_ok I1 ea c n l fun u' s2 I2 ru => ⟨v, H1, I2, ru, q⟩
theorem ps_fld (ha : PE X o ta) (hv : PE X value tv) (hs : swapsWith value (some (.Attribute o f pos')) pos.line X.env = pure false) : PS X (.Assign [.Attribute o f pos'] value pos) (sFld X.K ta tv f) := by
  intro pins s σ H D I h
  refine plainObj_wpAny_Assign_Attribute (thn (hv pins s σ H _ I h) fun u s1 ⟨y, H1, I1, ry, q⟩ => thn (ha pins s1 σ H1 _ I1 q) fun ov s2 ⟨x, H2, I2, rx, a, C, dx, fs, ex, ea, c, n, l, q2⟩ => ?_) hs
  subst ex
  obtain rfl : ov = Value.ref a := rx
  exact setattr_ok I2 ea c n l ry fun s3 I3 => ⟨σ, _, I3, q2⟩
end

section
variable {X : Cx} {pins : List (Addr × Obj)} {σ : St} {H : Hp} {s : Shared} {A : Around} {E : Value → Shared → Prop} {Q : Value → Shared → Prop} {c : Value} {b : Bool}
/-- the type of a value, as the fragment's deciders take it; for an instance its class -/
inductive TyOf (K : PySem.W.Frag) (H : Hp) : V → Value → Prop where
  | non : TyOf K H .non (.type "NoneType")
  | bl (x : Bool) : TyOf K H (.bl x) (.type "bool")
  | int (i : Int) : TyOf K H (.int i) (.type "int")
  | str (x : Str) : TyOf K H (.str x) (.type "str")
  | flt (x : UInt64) : TyOf K H (.flt x) (.type "float")
  | lst {a : Addr} {xs : List V} (e : H a = some (.lst xs)) : TyOf K H (.ref a) (.type "list")
  | frz {a : Addr} {o : Obj} {xs : List V} (e : H a = some (.frz o (.lst xs))) : TyOf K H (.ref a) (.type "list")
  | tup {a : Addr} {xs : List V} (e : H a = some (.tup xs)) : TyOf K H (.ref a) (.type "tuple")
  | dK {a : Addr} {kvs : List (Key × V)} (e : H a = some (.dK kvs)) : TyOf K H (.ref a) (.type "dict")
  | dT {a : Addr} {kvs : List (List Key × V)} (e : H a = some (.dT kvs)) : TyOf K H (.ref a) (.type "dict")
  | ins {a C dx : Addr} {fs : List (Str × V)} (e : H a = some (.ins C dx fs)) (cl : Cls K C) (ha : PySem.W.findIn K (.ref C) "__class__" = some (some (.builtin "object.__class__")))
      (hn : PySem.W.specialIn K (.builtin "object.__class__") "__get__" = some (some (.builtin "getset_descriptor.__get__"))) (htk : PySem.W.takesIn K (.builtin "object.__class__") = some true)
      (hm : PySem.W.mroIn K C (.type "object") = some true) : TyOf K H (.ref a) (.ref C)
/-- isinstance(x, c) for one class c, a built-in or an own one: kitOne's answer -/
theorem isinst_ok {x : V} {u t : Value} (I : Inv X pins σ H s) (rx : RelV x u) (ty : TyOf X.K H x t) (e : PySem.W.kitOne X.K t c = some b) (h : ∀ tk, Q (.bool b) { s with toks := tk }) :
    wpAny (model X.prog X.w) A (call (.builtin "isinstance") [u, c]) Q E s := by
  cases ty with
  | non => cases (show u = Value.none from rx); exact PySem.W.kia_one PySem.W.kitx_none I.kIn True.intro e (fun z => nomatch z) h
  | bl y => cases (show u = Value.bool y from rx); exact PySem.W.kia_one PySem.W.kitx_bool I.kIn True.intro e (fun z => nomatch z) h
  | int i => obtain ⟨t, q⟩ := (show ∃ t, u = Value.int i t from rx); cases q; exact PySem.W.kia_one PySem.W.kitx_int I.kIn True.intro e (fun z => nomatch z) h
  | str y => obtain ⟨t, q⟩ := (show ∃ t, u = Value.str y t from rx); cases q; exact PySem.W.kia_one PySem.W.kitx_str I.kIn True.intro e (fun z => nomatch z) h
  | flt y => obtain ⟨t, q⟩ := (show ∃ t, u = Value.float y t from rx); cases q; exact PySem.W.kia_one PySem.W.kitx_float I.kIn True.intro e (fun z => nomatch z) h
  | @lst a xs ea =>
    cases (show u = Value.ref a from rx)
    obtain ⟨_, _, n, _, h1⟩ := (show ObjOk X.prog X.w H s.heap a (.lst xs) from I.hok a _ ea)
    exact PySem.W.kia_one PySem.W.kitx_list I.kIn ⟨_, h1, rfl⟩ e (fun z => nomatch z) h
  | @frz a ob xs ea =>
    cases (show u = Value.ref a from rx)
    obtain ⟨_, _, _, n, _, h1⟩ := (show ObjOk X.prog X.w H s.heap a (.frz ob (.lst xs)) from I.hok a _ ea)
    exact PySem.W.kia_one PySem.W.kitx_list I.kIn ⟨_, h1, rfl⟩ e (fun z => nomatch z) h
  | @tup a xs ea =>
    cases (show u = Value.ref a from rx)
    obtain ⟨_, _, _, p⟩ := (show ObjOk X.prog X.w H s.heap a (.tup xs) from I.hok a _ ea)
    obtain ⟨o, h1, h2, _⟩ := p
    exact PySem.W.kia_one PySem.W.kitx_tuple I.kIn ⟨o, h1, h2⟩ e (fun z => nomatch z) h
  | @dK a kvs ea =>
    cases (show u = Value.ref a from rx)
    obtain ⟨_, _, vs, _, p⟩ := (show ObjOk X.prog X.w H s.heap a (.dK kvs) from I.hok a _ ea)
    obtain ⟨o, es, ep, h1, h2, _⟩ := p
    exact PySem.W.kia_one PySem.W.kitx_dict I.kIn ⟨o, h1, h2.1⟩ e (fun z => nomatch z) h
  | @dT a kvs ea =>
    cases (show u = Value.ref a from rx)
    obtain ⟨_, _, xs, _, o, es, ep, h1, h2, _⟩ := (show ObjOk X.prog X.w H s.heap a (.dT kvs) from I.hok a _ ea)
    exact PySem.W.kia_one PySem.W.kitx_dict I.kIn ⟨o, h1, h2.1⟩ e (fun z => nomatch z) h
  | @ins a C dx fs ea cl ha hn htk hm =>
    cases (show u = Value.ref a from rx)
    obtain ⟨mA, O, _⟩ := ins_get I.hok ea
    obtain ⟨od, J, _⟩ := O.look
    exact PySem.W.kia_one (PySem.W.kitx_own (cl.get _) cl.hd ha hn htk hm) I.kIn J e (fun z => nomatch z) h
end
end L2

namespace L2
open PySem PySem.Spec PyProof.Rows

structure Room (k : Nat) (A : Around) : Prop where
  hd : A.handled = none
  dp : A.depth + 3 * k + 5 < recursionLimit
  un : A.units + 16 * k + 200 < cLine
theorem Room.mono {j k : Nat} {A : Around} (r : Room k A) (h : j ≤ k) : Room j A := ⟨r.hd, by have := r.dp; omega, by have := r.un; omega⟩
theorem Room.deeper {k : Nat} {A : Around} (r : Room (k + 1) A) (env : Env) : Room k (A.deeper env) :=
  ⟨r.hd, by have := r.dp; show A.depth + 1 + 3 * k + 5 < _; omega, by have := r.un; show A.units + 3 + 16 * k + 200 < _; omega⟩
theorem make_depth {A : Around} {C : Addr} {us : List Value} {kw : List (Str × Value)} : (A.under (.builtin "type.__call__" ⟨.ref C :: us, kw⟩)).depth = A.depth + 1 := by
  first | rfl | simp [Around.under, Code.weight, Code.isCreation, Code.isGuard, Code.isCaller, Code.frames, Code.isFrame, guardIds]
theorem make_units {A : Around} {C : Addr} {us : List Value} {kw : List (Str × Value)} : (A.under (.builtin "type.__call__" ⟨.ref C :: us, kw⟩)).units = A.units + 1 := by
  first | rfl | simp [Around.under, Code.cUnits, Code.frames, Code.isFrame]
theorem Room.make {k : Nat} {A : Around} (r : Room (k + 1) A) (C : Addr) (us : List Value) (kw : List (Str × Value)) : Room k (A.under (.builtin "type.__call__" ⟨.ref C :: us, kw⟩)) :=
  ⟨r.hd, by have := r.dp; rw [make_depth]; omega, by have := r.un; rw [make_units]; omega⟩
theorem Room.depth {k : Nat} {A : Around} (r : Room k A) : A.depth < recursionLimit := by have := r.dp; omega
theorem Room.units {k : Nat} {A : Around} (r : Room k A) : A.units + 64 < cLine := by have := r.un; omega
theorem Room.units0 {k : Nat} {A : Around} (r : Room k A) : A.units < cLine := by have := r.un; omega

def tNil : TA := fun _ H Q => Q [] H
def tCons (ta : TE) (tr : TA) : TA := fun σ H Q => ta σ H fun x H1 => tr σ H1 fun xs H2 => Q (x :: xs) H2
section
variable {X : Cx} {e : Expr} {es : List Expr} {te : TE} {t : TA} {pos : Pos}
theorem pa_nil : PA X [] tNil := fun _ _ _ _ H Q I h => Calls.spliced_nil ⟨[], H, I, .nil, h⟩
theorem pa_cons (ha : PE X e te) (hr : PA X es t) (hs : starEach (e :: es) X.env = (false, eval e X.env) :: starEach es X.env := by rfl) : PA X (e :: es) (tCons te t) := by
  intro pos pins s σ H Q I h
  rw [hs]
  show wpAny _ _ (spliced ((false, eval e X.env) :: backTo pos (starEach es X.env))) _ _ s
  refine Calls.spliced_cons (thn (ha pins s σ H _ I h) fun u s1 ⟨x, H1, I1, r1, q1⟩ => ?_)
  exact thn (hr pos pins s1 σ H1 _ I1 q1) fun us s2 ⟨xs, H2, I2, r2, q2⟩ => ⟨x :: xs, H2, I2, .cons r1 r2, q2⟩

/-- a tuple, a list of written items -/
def tTup (t : TA) : TE := fun σ H Q => t σ H fun xs H1 => xs.length ≤ sizeLine ∧ ∀ p, H1 p = none → Q (.ref p) (upd H1 p (.tup xs))
def tLst (t : TA) : TE := fun σ H Q => t σ H fun xs H1 => xs.length ≤ sizeLine ∧ ∀ p, H1 p = none → Q (.ref p) (upd H1 p (.lst xs))
theorem pe_tup {x1} (h : PA X es t) : PE X (.Tuple es x1 pos) (tTup t) := by
  intro pins s σ H Q I hq
  refine wpAny_Tuple_spliced (thn (h pos pins s σ H _ I hq) fun us s1 ⟨xs, H1, I1, r, z, q⟩ => ⟨by rw [← r.length]; exact z, ?_⟩)
  have hf : H1 s1.heap.objs.size = none := I1.hok.fresh (Nat.le_refl _)
  refine ⟨.ref s1.heap.objs.size, upd H1 s1.heap.objs.size (.tup xs), I1.laid (t' := s1.toks) (fun b u e => Heap.get?_push_of_some _ e) (Nat.le_refl _) ?_, rfl, q _ hf⟩
  exact ⟨z, us, r, ⟨_, Heap.get?_push_size _ rfl, rfl, _, rfl⟩⟩
theorem pe_lst (h : PA X es t) : PE X (.List es pos) (tLst t) := by
  intro pins s σ H Q I hq
  refine wpAny_List_spliced (thn (h pos pins s σ H _ I hq) fun us s1 ⟨xs, H1, I1, r, z, q⟩ => ⟨by rw [← r.length]; exact z, ?_⟩)
  have hf : H1 s1.heap.objs.size = none := I1.hok.fresh (Nat.le_refl _)
  refine ⟨.ref s1.heap.objs.size, upd H1 s1.heap.objs.size (.lst xs), I1.laid (t' := s1.toks) (fun b u e => Heap.get?_push_of_some _ e) (Nat.le_refl _) ?_, rfl, q _ hf⟩
  exact ⟨z, us, 0, r, Heap.get?_push_size _ rfl⟩
end

/-- a def's promise: the bound arguments in the parameters' order, the heap, the wanted end, the wanted exception -/
abbrev Sp := List V → Hp → VK → XK → Prop
/-- how an exception lies behind a call (file 08 gives it): the callers' frames, abstract heap and state ahead of the call, the wish, the exception, the state -/
abbrev CXT := List Env → Hp → Shared → XK → Value → Shared → Prop

/-- the state at a call -/
structure Env0 (P : Program) (w : World) (K : PySem.W.Frag) (mg : Str → Option Value) (base : Heap) (A : Around) (outer : List Env) (s : Shared) (H : Hp) : Prop where
  frames : A.frames = some outer
  mod : Mod K mg base
  bs : ∀ b o, base.get? b = some o → s.heap.get? b = some o ∧ H b = none
  bsz : base.objs.size ≤ s.heap.objs.size
  funs : s.heap.FunFrames base outer
  frf : ∀ b ∈ frs outer, H b = none
  hok : HOk P w H s.heap
  bare : AllBare s.gens
/-- a call's end -/
def CE (outer : List Env) (P : Program) (w : World) (H : Hp) (s : Shared) (Q : VK) (u : Value) (s' : Shared) : Prop :=
  ∃ v H', s'.os = s.os ∧ AllBare s'.gens ∧ Un (frs outer) [] H H' s.heap s'.heap ∧ HOk P w H' s'.heap ∧ RelV v u ∧ Q v H'
def CR (CX : CXT) (outer : List Env) (P : Program) (w : World) (H : Hp) (s : Shared) (Q : VK) (E : XK) (r : Result) (s' : Shared) : Prop :=
  match r with
  | .ok (.ret u) => CE outer P w H s Q u s'
  | .ok _ => False
  | .error e => CX outer H s E e s'
structure FnOk (P : Program) (w : World) (K : PySem.W.Frag) (mg : Str → Option Value) (base : Heap) (CX : CXT) (k : Nat) (f : Addr) (fd : FuncData) (ps : List Str) (sp : Sp) : Prop where
  len : ∀ vs H Q E, sp vs H Q E → vs.length = ps.length
  run : ∀ (A : Around) (outer : List Env) (s : Shared) (H : Hp) (args : Args) (us : List Value) (vs : List V) (Q : VK) (E : XK), Room k A → Env0 P w K mg base A outer s H → BindsTo s fd args (ps.zip us) → Vals vs us → sp vs H Q E →
    codeAny (model P w) A (.call (.ref f) args) (CR CX outer P w H s Q E) s
theorem FnOk.mono {P : Program} {w : World} {K : PySem.W.Frag} {mg : Str → Option Value} {base : Heap} {CX : CXT} {j k : Nat} {f : Addr} {fd : FuncData} {ps : List Str} {sp : Sp} (F : FnOk P w K mg base CX j f fd ps sp) (h : j ≤ k) :
    FnOk P w K mg base CX k f fd ps sp := ⟨F.len, fun A outer s H args us vs Q E hr => F.run A outer s H args us vs Q E (hr.mono h)⟩
/-- a weaker promise -/
theorem FnOk.imp {P : Program} {w : World} {K : PySem.W.Frag} {mg : Str → Option Value} {base : Heap} {CX : CXT} {k : Nat} {f : Addr} {fd : FuncData} {ps : List Str} {sp sp' : Sp} (F : FnOk P w K mg base CX k f fd ps sp)
    (h : ∀ vs H Q E, sp' vs H Q E → sp vs H Q E) : FnOk P w K mg base CX k f fd ps sp' :=
  ⟨fun vs H Q E q => F.len vs H Q E (h _ _ _ _ q), fun A outer s H args us vs Q E hr he hb hv hs => F.run A outer s H args us vs Q E hr he hb hv (h _ _ _ _ hs)⟩

theorem Env0.make {P : Program} {w : World} {K : PySem.W.Frag} {mg : Str → Option Value} {base : Heap} {A : Around} {outer : List Env} {s : Shared} {H : Hp} (e : Env0 P w K mg base A outer s H) (C : Addr) (us : List Value) (kw : List (Str × Value)) :
    Env0 P w K mg base (A.under (.builtin "type.__call__" ⟨.ref C :: us, kw⟩)) outer s H := ⟨by first | exact e.frames | (simpa [Around.under, Code.envs, Code.isFrame, pushEnvs] using e.frames), e.mod, e.bs, e.bsz, e.funs, e.frf, e.hok, e.bare⟩
section
variable {X : Cx} {pins : List (Addr × Obj)} {σ : St} {H : Hp} {s s' : Shared}
/-- from a body: what a callee wants -/
theorem Inv.env0 (I : Inv X pins σ H s) : Env0 X.prog X.w X.K X.mg X.base X.A X.stack s H :=
  ⟨I.ok.frames, I.ok.mod, I.bs, Nat.le_trans I.ok.bsz I.sz, I.stack, I.stkFree, I.hok, I.bare⟩
/-- behind a call -/
theorem Inv.after {Q : VK} {u : Value} (I : Inv X pins σ H s) (h : CE X.stack X.prog X.w H s Q u s') : EP X pins σ Q u s' := by
  obtain ⟨v, H', os, bare, un, hok, r, q⟩ := h
  obtain ⟨hh, g, d, t, os'⟩ := s'
  obtain rfl : os' = s.os := os
  exact ⟨v, H', I.call (h' := hh) (g' := g) (d' := d) (t' := t) (ch := []) un hok bare (fun b z => absurd z (by simp)), r, q⟩
end

/-- f(..): the written arguments, then the defaults dvs; E: what is wanted of an exception -/
def tCall (sp : Sp) (dvs : List V) (E : XK) (t : TA) : TE := fun σ H Q => t σ H fun vs H1 => sp (vs ++ dvs) H1 Q E
/-- C(..): a new instance and its dict, then __init__ -/
def tMake (C : Addr) (sp : Sp) (dvs : List V) (E : XK) (t : TA) : TE := fun σ H Q => t σ H fun vs H1 => ∀ x dx, H1 x = none → H1 dx = none → dx ≠ x →
  sp (.ref x :: (vs ++ dvs)) (upd (upd H1 dx (.own x)) x (.ins C dx [])) (fun v H2 => v = .non ∧ Q (.ref x) H2) E

/-- how the parameters are bound: us the positional arguments, kw the keywords' values by name, ds the defaults that fill up -/
def Binds (K : PySem.W.Frag) (fd : FuncData) (ps : List Str) (ds : List Value) : Prop :=
  ∀ (s : Shared) (us : List Value), K.In s.heap → (us ++ ds).length = ps.length → BindsTo s fd ⟨us, []⟩ (ps.zip (us ++ ds))
/-- every parameter is given -/
theorem Binds.all {K : PySem.W.Frag} {fd : FuncData} {ps : List Str} (h : ∀ us : List Value, us.length = ps.length → bindArgs fd ⟨us, []⟩ = pure (ps.zip us)) : Binds K fd ps [] := fun s us _ hl => by
  rw [List.append_nil] at hl ⊢
  exact .of_eq (h us hl)

/-- an exception of a callee reaches what this body wants of exceptions -/
def Passes (CX : CXT) (X : Cx) (E : XK) : Prop := ∀ (pins : List (Addr × Obj)) (σ : St) (H : Hp) (s : Shared) (e : Value) (s' : Shared), Inv X pins σ H s → CX X.stack H s E e s' → X.xe e s'

section
variable {X : Cx} {CX : CXT} {k : Nat} {f C : Addr} {fd : FuncData} {ps : List Str} {sp : Sp} {dvs : List V} {ds : List Value} {E : XK} {x m : Str} {p pos apos : Pos} {e o : Expr} {es : List Expr} {ta : TE} {t : TA}

/-- the callee runs -/
theorem run_fn {pins : List (Addr × Obj)} {σ : St} {H : Hp} {s : Shared} {Q : VK} {us : List Value} {vs : List V} (F : FnOk X.prog X.w X.K X.mg X.base CX k f fd ps sp) (hr : Room k X.A) (hb : Binds X.K fd ps ds) (hd : Vals dvs ds) (hx : Passes CX X E)
    (I : Inv X pins σ H s) (r : Vals vs us) (h : sp (vs ++ dvs) H Q E) : wpAny (model X.prog X.w) X.A (call (.ref f) us) (EP X pins σ Q) X.xe s := by
  have r2 : Vals (vs ++ dvs) (us ++ ds) := r.append hd
  have hl : (us ++ ds).length = ps.length := by rw [← r2.length]; exact F.len _ _ _ _ h
  refine wpAny_call (codeAny_mono (F.run X.A X.stack s H ⟨us, []⟩ (us ++ ds) (vs ++ dvs) Q E hr I.env0 (hb s us I.kIn hl) r2 h) fun r s' hq => ?_)
  cases r with
  | error e => exact hx pins σ H s e s' I hq
  | ok fl =>
    cases fl with
    | ret u => exact I.after hq
    | next => exact False.elim hq
    | brk => exact False.elim hq
    | cont => exact False.elim hq

theorem pe_call (F : FnOk X.prog X.w X.K X.mg X.base CX k f fd ps sp) (hr : Room k X.A) (hg : Gl X x) (hm : X.mg x = some (.ref f)) (hk : PySem.W.keepIn X.K (.ref f) = true) (hb : Binds X.K fd ps ds) (hd : Vals dvs ds) (hx : Passes CX X E)
    (ha : PA X (e :: es) t) (hdb : (x == ("__debug__" : Str)) = false := by decide) (he : starEach (e :: es) X.env = (false, eval e X.env) :: starEach es X.env := by rfl) (hpl : (backTo pos (starEach es X.env)).any (·.1) = false := by rfl) :
    PE X (.Call (.Name x p) (e :: es) [] pos) (tCall sp dvs E t) := by
  intro pins s σ H Q I h
  refine wpAny_Call_Name_kw (ld_glob I hg hm ?_ hdb)
  refine PySem.W.callWith_K (h₀ := X.base) I.ok.mod.kin hk (thn (ha pos pins s σ H _ I h) fun us s1 ⟨vs, H1, I1, r, q⟩ => ⟨I1.kIn, ?_⟩) he hpl
  exact run_fn F hr hb hd hx I1 r q
/-- what a class must have to be made -/
structure Mk (K : PySem.W.Frag) (C f : Addr) : Prop where
  makes : PySem.W.makesIn K C = true
  init : PySem.W.findIn K (.ref C) "__init__" = some (some (.ref f))
  fn : PySem.W.isFn K (.ref f) = true
  kp : PySem.W.keepIn K (.ref C) = true

theorem run_make {pins : List (Addr × Obj)} {σ : St} {H : Hp} {s : Shared} {Q : VK} {us : List Value} {vs : List V} (M : Mk X.K C f) (F : FnOk X.prog X.w X.K X.mg X.base CX k f fd ps sp) (hr : Room (k + 1) X.A) (hb : Binds X.K fd ps ds) (hd : Vals dvs ds)
    (hx : Passes CX X E) (I : Inv X pins σ H s) (r : Vals vs us)
    (h : ∀ x dx, H x = none → H dx = none → dx ≠ x → sp (.ref x :: (vs ++ dvs)) (upd (upd H dx (.own x)) x (.ins C dx [])) (fun v H2 => v = .non ∧ Q (.ref x) H2) E) :
    wpAny (model X.prog X.w) X.A (call (.ref C) us) (EP X pins σ Q) X.xe s := by
  have hq := h (s.heap.objs.size + 1) s.heap.objs.size (I.hok.fresh (Nat.le_succ _)) (I.hok.fresh (Nat.le_refl _)) (Nat.ne_of_lt (Nat.lt_succ_self _))
  have I2 := Inv.made (C := C) I
  have r2 : Vals (V.ref (s.heap.objs.size + 1) :: (vs ++ dvs)) (Value.ref (s.heap.objs.size + 1) :: (us ++ ds)) := .cons rfl (r.append hd)
  have hl : (Value.ref (s.heap.objs.size + 1) :: us ++ ds).length = ps.length := by
    have e := r2.length
    rw [F.len _ _ _ _ hq] at e
    exact e.symm
  refine wpAny_call (make_map (f := f) I.kIn M.makes M.init (beq_iff_eq.mp M.fn) (codeAny_mono (F.run _ X.stack _ _ ⟨Value.ref (s.heap.objs.size + 1) :: us, []⟩ (Value.ref (s.heap.objs.size + 1) :: (us ++ ds)) _ _ E (hr.make C us [])
    (I2.env0.make C us []) (hb _ (Value.ref (s.heap.objs.size + 1) :: us) I2.kIn hl) r2 hq) fun r s' hq' => ?_))
  cases r with
  | error e => exact hx pins σ _ _ e s' I2 hq'
  | ok fl =>
    cases fl with
    | ret u =>
      obtain ⟨v, H', I3, rv, ev, q3⟩ := I2.after hq'
      subst ev
      exact ⟨rv, ⟨V.ref (s.heap.objs.size + 1), H', I3, rfl, q3⟩⟩
    | next => exact False.elim hq'
    | brk => exact False.elim hq'
    | cont => exact False.elim hq'
theorem pe_make0 (M : Mk X.K C f) (F : FnOk X.prog X.w X.K X.mg X.base CX k f fd ps sp) (hr : Room (k + 1) X.A) (hg : Gl X x) (hm : X.mg x = some (.ref C)) (hb : Binds X.K fd ps ds) (hd : Vals dvs ds) (hx : Passes CX X E)
    (hdb : (x == ("__debug__" : Str)) = false := by decide) : PE X (.Call (.Name x p) [] [] pos) (tMake C sp dvs E tNil) := by
  intro pins s σ H Q I h
  refine wpAny_Call_Name_kw (ld_glob I hg hm ?_ hdb)
  exact PySem.W.callWith_K0 I.kIn M.kp (run_make (us := []) M F hr hb hd hx I .nil h)
end

section
variable {X : Cx} {CX : CXT} {k : Nat} {f C : Addr} {fd : FuncData} {ps ks : List Str} {sp : Sp} {E : XK} {x m : Str} {p pos apos kpos : Pos} {e o : Expr} {es : List Expr} {kws : List Keyword} {te ta : TE} {t tk : TA} {nm : Option Str}
variable {g : List Value → List Value → List Value} {gV : List V → List V → List V}
end

/-- names: the parameters first -/
structure FnScope (N P : List Str) (sc : Scope) : Prop where
  kind : sc.kind = .function
  co : sc.isCoroutine = false
  gen : sc.isGenerator = false
  nd : N.Nodup
  pre : N.take P.length = P
  par : ∀ x ∈ P, sc.names.lookup x = some .local ∨ sc.names.lookup x = some .cell
  nofree : ∀ y ∈ sc.names, y.2 ≠ .free

theorem bindL_out {kindOf : Str → Option NameKind} {x : Str} : ∀ {binds : List (Str × Value)} {m : Str → Option Value}, (∀ v, (x, v) ∉ binds) → bindL kindOf binds m x = m x
  | [], _, _ => rfl
  | (n, v) :: r, m, h => by
    unfold bindL
    rw [bindL_out fun w hw => h w (List.mem_cons_of_mem _ hw)]
    split
    · have : x ≠ n := by rintro rfl; exact h v List.mem_cons_self
      simp [this]
    · rfl
theorem bindC_out {kindOf : Str → Option NameKind} {x : Str} : ∀ {binds : List (Str × Value)} {m : Str → Option Value}, (∀ v, (x, v) ∉ binds) → bindC kindOf binds m x = m x
  | [], _, _ => rfl
  | (n, v) :: r, m, h => by
    unfold bindC
    rw [bindC_out fun w hw => h w (List.mem_cons_of_mem _ hw)]
    split
    · rfl
    · have : x ≠ n := by rintro rfl; exact h v List.mem_cons_self
      simp [this]
theorem bindL_get {kindOf : Str → Option NameKind} {x : Str} {v : Value} : ∀ {P : List Str} {vs : List Value} {i : Nat} {m : Str → Option Value}, P.Nodup → P[i]? = some x → vs[i]? = some v → kindOf x = some .local →
    bindL kindOf (P.zip vs) m x = some v
  | [], _, _, _, _, h, _, _ => by simp at h
  | _ :: _, [], _, _, _, _, h, _ => by simp at h
  | p :: P, w :: vs, 0, m, nd, h1, h2, hk => by
    simp at h1 h2; subst h1; subst h2
    show bindL kindOf ((p, w) :: P.zip vs) m p = _
    unfold bindL
    rw [bindL_out fun v hv => (List.nodup_cons.mp nd).1 (List.of_mem_zip hv).1, if_pos hk]
    simp
  | p :: P, w :: vs, i + 1, m, nd, h1, h2, hk => by
    show bindL kindOf ((p, w) :: P.zip vs) m x = _
    unfold bindL
    exact bindL_get (i := i) (List.nodup_cons.mp nd).2 (by simpa using h1) (by simpa using h2) hk
theorem bindC_get {kindOf : Str → Option NameKind} {x : Str} {v : Value} : ∀ {P : List Str} {vs : List Value} {i : Nat} {m : Str → Option Value}, P.Nodup → P[i]? = some x → vs[i]? = some v → kindOf x ≠ some .local →
    bindC kindOf (P.zip vs) m x = some v
  | [], _, _, _, _, h, _, _ => by simp at h
  | _ :: _, [], _, _, _, _, h, _ => by simp at h
  | p :: P, w :: vs, 0, m, nd, h1, h2, hk => by
    simp at h1 h2; subst h1; subst h2
    show bindC kindOf ((p, w) :: P.zip vs) m p = _
    unfold bindC
    rw [bindC_out fun v hv => (List.nodup_cons.mp nd).1 (List.of_mem_zip hv).1, if_neg hk]
    simp
  | p :: P, w :: vs, i + 1, m, nd, h1, h2, hk => by
    show bindC kindOf ((p, w) :: P.zip vs) m x = _
    unfold bindC
    exact bindC_get (i := i) (List.nodup_cons.mp nd).2 (by simpa using h1) (by simpa using h2) hk

/-- the names' values at the entry -/
def start (N : List Str) (vs : List V) : St := vs.map some ++ List.replicate (N.length - vs.length) none

/-- the context of a def's body, at its entry; an exception leaves the frame, then lies as CX says -/
def cxOf (CX : CXT) (P : Program) (w : World) (K : PySem.W.Frag) (mg : Str → Option Value) (base : Heap) (N : List Str) (qual : Str) (scope : Scope) (f : Addr) (cd : Value) (A : Around) (outer : List Env) (s : Shared) (H : Hp) (E : XK) : Cx where
  prog := P
  w := w
  K := K
  mg := mg
  base := base
  A := A.deeper (envOfC qual scope s.heap.objs.size f cd)
  N := N
  s₀ := s
  H₀ := H
  env := envOfC qual scope s.heap.objs.size f cd
  outer := outer
  stack := envOfC qual scope s.heap.objs.size f cd :: outer
  ex := []
  calm := true
  fn := fun _ => true
  pn := []
  xe := fun e s' => wpAny (model P w) (A.deeper (envOfC qual scope s.heap.objs.size f cd)) (leaving (envOfC qual scope s.heap.objs.size f cd) e) (fun _ s'' => CX outer H s E e s'') (fun e' s'' => CX outer H s E e' s'') s'

theorem cell_has {sc : Scope} {n : Nat} {x : Str} (h : sc.names.lookup x = some .cell) : ∃ c, (cellsFrom n sc.names []).lookup x = some c := by
  have q := PySem.W.cellsFrom_some sc.names n [] (.inl h)
  exact Option.isSome_iff_exists.mp q

theorem inv_start {CX : CXT} {P : Program} {w : World} {K : PySem.W.Frag} {mg : Str → Option Value} {base : Heap} {N ps : List Str} {qual : Str} {scope : Scope} {f : Addr} {cd : Value} {A : Around} {outer : List Env} {s s1 : Shared} {H : Hp} {E : XK} {us : List Value} {vs : List V}
    (S : FnScope N ps scope) (hd : A.handled = none) (e0 : Env0 P w K mg base A outer s H) (hl : vs.length = ps.length) (r : Vals vs us)
    (x : InCallC s s.heap.objs.size (bindL (envOfC qual scope s.heap.objs.size f cd).kindOf (ps.zip us) fun _ => none) (cellsFrom (s.heap.objs.size + 1) scope.names []) (bindC (envOfC qual scope s.heap.objs.size f cd).kindOf (ps.zip us) fun _ => none) s1) :
    Inv (cxOf CX P w K mg base N qual scope f cd A outer s H E) [] (start N vs) H s1 := by
  have hpl : ps.length ≤ N.length := by have := congrArg List.length S.pre; rw [List.length_take] at this; omega
  obtain ⟨h1, tk, rfl, hk⟩ := x.done
  have noA : ∀ b : Addr, b ∉ (cxOf CX P w K mg base N qual scope f cd A outer s H E).ex := fun b z => absurd (show b ∈ ([] : List Addr) from z) (by simp)
  refine ⟨⟨e0.mod, S.kind, rfl, rfl, Nat.le_refl _, fun y z c h1 h2 => ?_, fun y hy => ?_, fun y c _ h => ?_, fun _ => hd, Around.frames_deeper e0.frames, .inr ⟨rfl, rfl⟩, fun b z => absurd z (noA b), e0.bs, e0.bsz, fun b _ _ => noA b, fun b z => absurd z (noA b), e0.funs, e0.frf⟩,
    rfl, e0.bare, Un.kept hk, ⟨_, x.toInCall.ns, fun i y v h1 h2 h3 => ?_⟩, fun y c h => ⟨_, x.cell y c h⟩, e0.hok.fresh (Nat.le_refl _), fun y c h => ?_, fun p hp => absurd (show p ∈ ([] : List (Addr × Obj)) from hp) (by simp), e0.hok.kept hk, ?_⟩
  · exact name_of_addr x.apart (PySem.mem_of_lookup h1) (PySem.mem_of_lookup h2)
  · have hy : scope.names.lookup y = some .cell ∨ scope.names.lookup y = some .free := hy
    rcases hy with hy | hy
    · exact cell_has hy
    · exact absurd rfl (S.nofree _ (PySem.mem_of_lookup hy))
  · exact Nat.le_of_lt (x.above y c (PySem.mem_of_lookup h))
  · have hi : i < vs.length := by
      unfold start at h2
      by_cases hi : i < vs.length
      · exact hi
      · rw [List.getElem?_append_right (by simpa using hi)] at h2
        rw [List.getElem?_replicate] at h2
        split at h2 <;> cases h2
    have ha : vs[i]? = some v := by
      unfold start at h2
      rw [List.getElem?_append_left (by simpa using hi), List.getElem?_map] at h2
      cases e : vs[i]? with
      | none => rw [e] at h2; cases h2
      | some a => rw [e] at h2; cases h2; rfl
    obtain ⟨u, hu, rv⟩ := r.get ha
    have hp : ps[i]? = some y := by
      rw [← S.pre, List.getElem?_take_of_lt (by omega)]; exact h1
    have ndP : ps.Nodup := by rw [← S.pre]; exact S.nd.sublist (List.take_sublist _ _)
    refine ⟨u, rv, ?_⟩
    rcases S.par y (List.mem_of_getElem? hp) with k | k
    · exact .inl ⟨k, bindL_get ndP hp hu k⟩
    · obtain ⟨c, e⟩ := cell_has (n := s.heap.objs.size + 1) k
      refine .inr ⟨.inl k, c, e, ?_⟩
      have q := x.cell y c e
      rw [bindC_get ndP hp hu (by show scope.names.lookup y ≠ _; rw [k]; decide)] at q
      exact q
  · exact e0.hok.fresh (Nat.le_of_lt (x.above y c (PySem.mem_of_lookup h)))
  · unfold start
    show _ = N.length
    rw [List.length_append, List.length_map, List.length_replicate]
    omega

/-- THE RULE: a def (or a method) of the text, by its body. The body's reading t is chosen for each entry; it is run at the parameters' values -/
theorem fn_of {CX : CXT} {P : Program} {w : World} {K : PySem.W.Frag} {mg : Str → Option Value} {base : Heap} {k : Nat} {f : Addr} {name qual : Str} {params : Arguments} {body : List Stmt} {scope : Scope} {dV kV doc pm cdv ct oc : Value} {an od : Option Addr}
    {osl : Array (Option Value)} {N ps : List Str} {sp : Sp} (lk : K.lookup f = some ⟨oc, od, .func (PySem.W.fnOf name qual params body scope dV kV doc pm an cdv ct), osl⟩) (hcd : PySem.W.codeIn K cdv qual = true) (S : FnScope N ps scope)
    (len : ∀ vs H Q E, sp vs H Q E → vs.length = ps.length)
    (hbody : ∀ (A : Around) (outer : List Env) (s : Shared) (H : Hp) (vs : List V) (Q : VK) (E : XK), Room k (A.deeper (envOfC qual scope s.heap.objs.size f cdv)) → sp vs H Q E →
      ∃ t, PSs (cxOf CX P w K mg base N qual scope f cdv A outer s H E) body t ∧ t { nx := fun _ H' => Q .non H', rt := Q } (start N vs) H) :
    FnOk P w K mg base CX (k + 1) f (PySem.W.fnOf name qual params body scope dV kV doc pm an cdv ct) ps sp := by
  refine ⟨len, fun A outer s H args us vs Q E hr e0 hb r hsp => ?_⟩
  have hl := len _ _ _ _ hsp
  have KX : K.In s.heap := e0.mod.kin.keeps fun b o e => (e0.bs b o e).1
  have lim : s.heap.NoLimit := e0.mod.nolimit.keeps fun b o e => (e0.bs b o e).1
  have hkind : ∀ y ∈ ps.zip us, scope.names.lookup y.1 = some .local ∨ (scope.names.lookup y.1 = some .cell ∧ ((cellsFrom (s.heap.objs.size + 1) scope.names []).lookup y.1).isSome = true) := fun ⟨n, v⟩ hy => by
    rcases S.par n (List.of_mem_zip hy).1 with q | q
    · exact .inl q
    · exact .inr ⟨q, PySem.W.cellsFrom_some _ _ _ (.inl q)⟩
  refine codeAny_call_function hr.depth (KX _ _ lk) rfl S.co S.gen rfl (PySem.W.codeRec_of KX hcd) (hb _ _ _ _ ?_)
  refine wpAny_newFunctionEnv_cells S.kind hkind fun env he s1 x => ?_
  subst he
  refine ⟨lim.keeps x.toInCall.keep, codeAny_func ?_⟩
  obtain ⟨t, ht, hq⟩ := hbody A outer s H vs Q E (hr.deeper _) hsp
  have I : Inv (cxOf CX P w K mg base N qual scope f cdv A outer s H E) [] (start N vs) H s1 := inv_start S hr.hd e0 hl r x
  refine wpAny_mono (ht [] s1 (start N vs) H _ I hq) (fun fl s' hs => ?_) fun e s' hs => hs
  have fin : ∀ {σ' : St} {H' : Hp} {v : V} {u : Value}, Inv (cxOf CX P w K mg base N qual scope f cdv A outer s H E) [] σ' H' s' → RelV v u → Q v H' → CE outer P w H s Q u s' :=
    fun {σ' H' v u} J rv q => ⟨v, H', J.os, J.bare, J.base, J.hok, rv, q⟩
  cases fl with
  | ret u =>
    obtain ⟨v, σ', H', J, rv, q⟩ := hs
    exact fin J rv q
  | next =>
    obtain ⟨σ', H', J, q⟩ := hs
    exact fin (v := V.non) (u := Value.none) J rfl q
  | brk =>
    obtain ⟨_, _, _, q⟩ := hs
    exact False.elim q
  | cont =>
    obtain ⟨_, _, _, q⟩ := hs
    exact False.elim q
end L2

namespace L2
open PySem PySem.Spec PyProof.Rows
section
variable {X : Cx} {x : Str} {p pos : Pos} {e : Expr} {es : List Expr} {t : TA} {id T : String} {r : List V → Hp → VK → Prop}

def tCB (r : List V → Hp → VK → Prop) (t : TA) : TE := fun σ H Q => t σ H fun vs H1 => r vs H1 Q
/-- f(e, ..), f a built-in function -/
theorem pe_callB (hc : CallR X (.builtin id) r) (hg : Gl X x) (hm : X.mg x = none) (hv : bootBuiltins x = some (.builtin id)) (ha : PA X (e :: es) t) (hn : x ≠ "__name__" := by decide) (hdb : (x == ("__debug__" : Str)) = false := by decide)
    (he : starEach (e :: es) X.env = (false, eval e X.env) :: starEach es X.env := by rfl) (hpl : (backTo pos (starEach es X.env)).any (·.1) = false := by rfl) : PE X (.Call (.Name x p) (e :: es) [] pos) (tCB r t) := by
  intro pins s σ H Q I h
  refine wpAny_Call_Name_kw (ld_blt I hg hm hv ?_ hn hdb)
  exact PyProof.Rows.callWith_builtin1 (thn (ha pos pins s σ H _ I h) fun us s1 ⟨vs, H1, I1, r1, q1⟩ => hc pins s1 σ H1 vs us Q I1 r1 q1) he hpl
/-- T(e, ..), T a built-in type -/
theorem pe_callTy (hc : CallR X (.type T) r) (hg : Gl X x) (hm : X.mg x = none) (hv : bootBuiltins x = some (.type T)) (ha : PA X (e :: es) t) (hn : x ≠ "__name__" := by decide) (hdb : (x == ("__debug__" : Str)) = false := by decide)
    (he : starEach (e :: es) X.env = (false, eval e X.env) :: starEach es X.env := by rfl) (hpl : (backTo pos (starEach es X.env)).any (·.1) = false := by rfl) : PE X (.Call (.Name x p) (e :: es) [] pos) (tCB r t) := by
  intro pins s σ H Q I h
  refine wpAny_Call_Name_kw (ld_blt I hg hm hv ?_ hn hdb)
  exact PyProof.Rows.callWith_type1 (thn (ha pos pins s σ H _ I h) fun us s1 ⟨vs, H1, I1, r1, q1⟩ => hc pins s1 σ H1 vs us Q I1 r1 q1) he hpl
end
end L2

namespace HT
open PySem PyProof.Rows

section
open PySem.SeqAt
open PySem.AutoSeq1 (wpAny_loadPart')
open PySem.MeetsSeq PySem.MeetsSeq2 PySem.MeetsSeq3

end

section
variable {prog : Program} {w : World} {A : Around} {E : Value → Shared → Prop} {s : Shared}

/-- t + u, t not empty -/
theorem cat_tup {t b : Addr} {vs ws : List Value} {Q : Value → Shared → Prop} (ht : IsTup s.heap t vs.toArray) (hb : IsTup s.heap b ws.toArray) (hv : vs ≠ [])
    (h1 : ws = [] → Q (.ref t) s) (h2 : ws ≠ [] → Q (.ref s.heap.objs.size) { s with heap := s.heap.push { cls := .type "tuple", data := .seq (vs ++ ws).toArray } })
    (hsz : vs.length + ws.length ≤ sizeLine) : wpAny (model prog w) A (binaryOp .Add (.ref t) (.ref b)) Q E s := by
  obtain ⟨⟨cls, dd, data, sl⟩, ho, hc, n, hd⟩ := id ht
  obtain ⟨⟨cls2, dd2, data2, sl2⟩, ho2, hc2, n2, hd2⟩ := id hb
  simp only at hc hd hc2 hd2
  subst hc hd hc2 hd2
  have e : vs.toArray ++ ws.toArray = (vs ++ ws).toArray := by simp
  by_cases hw : ws = []
  · exact concat_meets ⟨_, ho, rfl⟩ ⟨_, ho2, rfl⟩ noFill_tuple_add seq_tuple_add PySem.F.slot_tuple_add PySem.F.entry_tuple_add (PySem.F.args_tuple_add_2 _ _)
      (tuple_addW1 t b vs.toArray ws.toArray n n2 dd dd2 sl sl2 (by simpa using hv) (by simp [hw])) ⟨ho, ho2, h1 hw⟩
  · refine concat_meets ⟨_, ho, rfl⟩ ⟨_, ho2, rfl⟩ noFill_tuple_add seq_tuple_add PySem.F.slot_tuple_add PySem.F.entry_tuple_add (PySem.F.args_tuple_add_2 _ _)
      (tuple_addW2 t b vs.toArray ws.toArray n n2 dd dd2 sl sl2 (by simpa using hv) (by simpa using hw) (by rw [List.size_toArray, List.size_toArray]; exact hsz)) ⟨ho, ho2, ?_⟩
    rw [e]
    exact h2 hw

/-- a slice's bound as a place among n (d where it is left out) -/
def sIx (n d : Nat) : Option Int → Nat
  | none => d
  | some v => if v < 0 then (v + (n : Int)).toNat else min v.toNat n
theorem sIx_none (n d : Nat) : sIx n d none = d := rfl
theorem sIx_nat (n d k : Nat) : sIx n d (some (k : Int)) = min k n := by
  show (if (k : Int) < 0 then ((k : Int) + (n : Int)).toNat else min (k : Int).toNat n) = min k n
  rw [if_neg (by omega), Int.toNat_natCast]
end
end HT

namespace L2
open PySem PySem.Spec PyProof.Rows

abbrev TO := St → Hp → (Option Int → Hp → Prop) → Prop
/-- a slice's part (left out, or an int) -/
def PO (X : Cx) (e : Option Expr) (t : TO) : Prop :=
  ∀ (pins : List (Addr × Obj)) (s : Shared) (σ : St) (H : Hp) (Q : Option Int → Hp → Prop), Inv X pins σ H s → t σ H Q →
    wpAny (model X.prog X.w) X.A (evalPart e X.env) (fun u s' => ∃ o H', Inv X pins σ H' s' ∧ IsPart u o ∧ Q o H') X.xe s
def tNoPart : TO := fun _ H Q => Q none H
def tPart (t : TE) : TO := fun σ H Q => t σ H fun x H1 => ∃ i, x = .int i ∧ Q (some i) H1

section
variable {X : Cx} {e : Expr} {te : TE} {lo hi : Option Expr} {tl th : TO} {pos p2 : Pos}

theorem po_none : PO X none tNoPart := by
  intro pins s σ H Q I h
  rw [evalPart_none]
  exact wpAny_pure ⟨none, H, I, .none, h⟩
theorem po_some (h : PE X e te) : PO X (some e) (tPart te) := by
  intro pins s σ H Q I hw
  rw [evalPart_some]
  refine thn (h pins s σ H _ I hw) fun u s1 ⟨x, H1, I1, r1, q1⟩ => ?_
  obtain ⟨i, rfl, q⟩ := q1
  obtain ⟨t, rfl⟩ := r1
  exact ⟨some i, H1, I1, .int i t, q⟩

/-- what a slice of a value is, by values: the slice object stands at sl -/
def SlR (X : Cx) (r : V → Option Int → Option Int → Hp → VK → Prop) : Prop :=
  ∀ (pins : List (Addr × Obj)) (s : Shared) (σ : St) (H : Hp) (x : V) (v vl vu : Value) (lo hi : Option Int) (sl : Addr) (Q : VK), Inv X pins σ H s → RelV x v → s.heap.IsSliceOf sl vl vu .none → IsPart vl lo → IsPart vu hi → r x lo hi H Q →
    ∃ T id, typeLookup (.type T) "__getitem__" = pure (some (.builtin id)) ∧ s.TypeIs v T ∧ wpAny (model X.prog X.w) X.A (getItem v (.ref sl)) (EP X pins σ Q) X.xe s
def tSl (r : V → Option Int → Option Int → Hp → VK → Prop) (te : TE) (tl th : TO) : TE := fun σ H Q => te σ H fun x H1 => tl σ H1 fun l H2 => th σ H2 fun u H3 => r x l u H3 Q
/-- a[lo:hi], any a -/
theorem pe_slice {r : V → Option Int → Option Int → Hp → VK → Prop} (hr : SlR X r) (he : PE X e te) (hl : PO X lo tl) (hu : PO X hi th) : PE X (.Subscript e (.Slice lo hi none p2) pos) (tSl r te tl th) := by
  intro pins s σ H Q I h
  refine Subscript_ (thn (he pins s σ H _ I h) fun v s1 ⟨x, H1, I1, r1, q1⟩ => ?_)
  refine wpAny_Slice (thn (hl pins s1 σ H1 _ I1 q1) fun vl s2 ⟨l, H2, I2, pl, q2⟩ => thn (hu pins s2 σ H2 _ I2 q2) fun vu s3 ⟨u, H3, I3, pu, q3⟩ => ?_)
  rw [evalPart_none]
  refine wpAny_pure ?_
  have I4 : Inv X pins σ H3 { s3 with heap := s3.heap.push { cls := .type "slice", data := .fields #[vl, vu, .none] } } := I3.kept (t' := s3.toks) fun b ob q => Heap.get?_push_of_some _ q
  obtain ⟨T, id, hT, ht, hg⟩ := hr pins { s3 with heap := s3.heap.push { cls := .type "slice", data := .fields #[vl, vu, .none] } } σ H3 x v vl vu l u s3.heap.objs.size Q I4 r1 (Heap.IsSliceOf.new ..) pl pu q3
  show wpAny (model X.prog X.w) X.A (subscriptTail e (.Slice lo hi none p2) v (.ref s3.heap.objs.size)) (EP X pins σ Q) X.xe { s3 with heap := s3.heap.push { cls := .type "slice", data := .fields #[vl, vu, .none] } }
  exact tail_any (ops := [.ref s3.heap.objs.size, v]) ht hT hg (by with_unfolding_all rfl)

/-- the items of xs[lo:hi] -/
def cutV (xs : List V) (lo hi : Option Int) : List V := (xs.drop (HT.sIx xs.length 0 lo)).take (HT.sIx xs.length xs.length hi - HT.sIx xs.length 0 lo)
theorem cutV_length (xs : List V) (lo hi : Option Int) : (cutV xs lo hi).length ≤ xs.length := by
  unfold cutV
  rw [List.length_take, List.length_drop]
  omega
/-- t + u, t not empty: u empty gives t itself -/
def rCatT (K : PySem.W.Frag) : R2 := fun x y H Q => ∃ a b xs ys, x = .ref a ∧ y = .ref b ∧ SqT K H a xs ∧ SqT K H b ys ∧ xs ≠ [] ∧ xs.length + ys.length ≤ sizeLine ∧
  (ys = [] → Q (.ref a) H) ∧ (ys ≠ [] → ∀ p, H p = none → Q (.ref p) (upd H p (.tup (xs ++ ys))))
theorem Vals.nil_iff {xs : List V} {us : List Value} (r : Vals xs us) : us = [] ↔ xs = [] := by
  cases r with
  | nil => simp
  | cons _ _ => simp
theorem op_catT : OpR X (binaryOp .Add) (rCatT X.K) := by
  intro pins s σ H x y v u Q I rx ry h
  obtain ⟨a, b, xs, ys, rfl, rfl, ha, hb, hx, hz, q1, q2⟩ := h
  cases rx
  cases ry
  obtain ⟨its, r1, p1, _⟩ := I.tuple ha
  obtain ⟨its2, r2, p2, _⟩ := I.tuple hb
  refine HT.cat_tup p1 p2 (fun z => hx (r1.nil_iff.mp z)) (fun z => ⟨.ref a, H, I, rfl, q1 (r2.nil_iff.mp z)⟩) (fun z => ?_) (by rw [← r1.length, ← r2.length]; exact hz)
  refine ⟨.ref s.heap.objs.size, _, I.laid (t' := s.toks) (o := .tup (xs ++ ys)) (fun b ob q => Heap.get?_push_of_some _ q) (Nat.le_refl _) ?_, rfl, q2 (fun w => z (r2.nil_iff.mpr w)) _ (I.hok.fresh (Nat.le_refl _))⟩
  exact ⟨by rw [List.length_append]; exact hz, _, r1.append r2, IsTup.new _ _⟩
end
end L2

namespace L2
open PySem PySem.Spec PyProof.Rows

/-- the place that an index of any sign means -/
def ixN (n : Nat) (i : Int) : Option Nat := if 0 ≤ i then (if i < n then some i.toNat else none) else if -(n : Int) ≤ i then some (i + n).toNat else none
def atI {α : Type} (xs : List α) (i : Int) : Option α := (ixN xs.length i).bind fun j => xs[j]?
theorem ixN_seq {n : Nat} {i : Int} {j : Nat} (h : ixN n i = some j) : seqIndex? i n = some j ∧ j < n ∧ -(n : Int) ≤ i ∧ i < n := by
  unfold ixN at h
  by_cases h0 : 0 ≤ i
  · rw [if_pos h0] at h
    by_cases h1 : i < n
    · rw [if_pos h1] at h
      have e : i.toNat = j := Option.some.inj h
      exact ⟨by rw [seqIndex_of h0 h1, e], by omega, by omega, h1⟩
    · rw [if_neg h1] at h; cases h
  · rw [if_neg h0] at h
    by_cases h1 : -(n : Int) ≤ i
    · rw [if_pos h1] at h
      have e : (i + n).toNat = j := Option.some.inj h
      exact ⟨by rw [seqIndex_neg (by omega) h1, e], by omega, h1, by omega⟩
    · rw [if_neg h1] at h; cases h
theorem atI_get {α : Type} {xs : List α} {i : Int} {v : α} (h : atI xs i = some v) : ∃ j, seqIndex? i xs.length = some j ∧ xs[j]? = some v ∧ j < xs.length ∧ -(xs.length : Int) ≤ i ∧ i < xs.length := by
  unfold atI at h
  cases e : ixN xs.length i with
  | none => rw [e] at h; cases h
  | some j =>
    rw [e] at h
    obtain ⟨h1, h2, h3, h4⟩ := ixN_seq e
    exact ⟨j, h1, h, h2, h3, h4⟩
theorem atI_nat {α : Type} {xs : List α} {j : Nat} {v : α} (h : xs[j]? = some v) : atI xs (j : Int) = some v := by
  have hj : j < xs.length := (List.getElem?_eq_some_iff.mp h).1
  have e : ixN xs.length (j : Int) = some j := by
    unfold ixN
    rw [if_pos (by omega), if_pos (by omega)]; simp
  unfold atI; rw [e]; exact h
theorem atI_last {α : Type} (xs : List α) (v : α) : atI (xs ++ [v]) (-1) = some v := by
  have hl : (xs ++ [v]).length = xs.length + 1 := by simp
  have e : ixN (xs ++ [v]).length (-1) = some xs.length := by
    unfold ixN
    rw [hl, if_neg (by decide), if_pos (by omega)]
    congr 1
    omega
  unfold atI
  rw [e]
  show (xs ++ [v])[xs.length]? = some v
  simp

/-- what stands as an index of a plain subscript -/
def PlainIx (b : Expr) : Prop := ∀ o i, subscripted b false o i = operate [o, i] (getItem o i)
/-- a subscript by values -/
def IxR (X : Cx) (r : R2) : Prop :=
  ∀ (value slice : Expr) (pins : List (Addr × Obj)) (s : Shared) (σ : St) (H : Hp) (x y : V) (v u : Value) (Q : VK), Inv X pins σ H s → RelV x v → RelV y u → r x y H Q →
    subscripted slice false v u = operate [v, u] (getItem v u) → wpAny (model X.prog X.w) X.A (subscriptTail value slice v u) (EP X pins σ Q) X.xe s
/-- a call of a builtin's method by values: the receiver, the arguments -/
def MtR (X : Cx) (id : String) (r : V → List V → Hp → VK → Prop) : Prop :=
  ∀ (pins : List (Addr × Obj)) (s : Shared) (σ : St) (H : Hp) (x : V) (xs : List V) (v : Value) (us : List Value) (Q : VK), Inv X pins σ H s → RelV x v → Vals xs us → r x xs H Q →
    wpAny (model X.prog X.w) X.A (call (.builtin id) (v :: us)) (EP X pins σ Q) X.xe s
section
variable {X : Cx} {a b : Expr} {ta tb : TE} {pos : Pos}
/-- a[b] -/
theorem pe_ix {r : R2} (hr : IxR X r) (ha : PE X a ta) (hb : PE X b tb) (hs : PlainIx b) : PE X (.Subscript a b pos) (tOp r ta tb) := by
  intro pins s σ H Q I h
  exact Subscript_ (binT ha hb I h fun v u s2 x y H2 I2 rx ry q => hr a b pins s2 σ H2 x y v u Q I2 rx ry q (hs _ _))

def rIxL (K : PySem.W.Frag) : R2 := fun x y H Q => ∃ p xs i v, x = .ref p ∧ y = .int i ∧ SqL K H p xs ∧ atI xs i = some v ∧ Q v H
def rIxT (K : PySem.W.Frag) : R2 := fun x y H Q => ∃ p xs i v, x = .ref p ∧ y = .int i ∧ SqT K H p xs ∧ atI xs i = some v ∧ Q v H
def rIxS : R2 := fun x y H Q => ∃ z i c, x = .str z ∧ y = .int i ∧ z.length ≤ sizeLine ∧ atI z.cps.toList i = some c ∧ Q (.str ⟨#[c]⟩) H
theorem ix_list : IxR X (rIxL X.K) := by
  intro value slice pins s σ H x y v u Q I rx ry h hs
  obtain ⟨p, xs, i, z, rfl, rfl, hq, he, q⟩ := h
  cases rx
  obtain ⟨t, rfl⟩ := ry
  obtain ⟨its, r, pl, hz⟩ := I.list hq
  obtain ⟨j, h1, h2, h3, h4, h5⟩ := atI_get he
  obtain ⟨w, ew, rw'⟩ := r.get h2
  have hl := r.length
  have hn := line63
  have fin : EP X pins σ Q w s := ⟨z, H, I, rw', q⟩
  by_cases h0 : 0 ≤ i
  · have hj : i.toNat = j := by
      rw [seqIndex_of h0 h5] at h1
      exact Option.some.inj h1
    exact item_listR pl.isList h0 (by omega) (by rw [hj]; simpa using ew) fin hs
  · have hj : (i + (its.toArray.size : Int)).toNat = j := by
      rw [seqIndex_neg (by omega) h4] at h1
      rw [List.size_toArray, ← hl]
      exact Option.some.inj h1
    exact subscriptTail_builtinR (x := w) pl.isList.typeIs slot_list_getitem.lookup
      (wpAny_getItem_list_neg (Q := fun r s' => r = w ∧ EP X pins σ Q r s') pl.isList (by omega) (by rw [List.size_toArray] <;> omega) (by omega) (by rw [hj]; simpa using ew) ⟨rfl, fin⟩) hs
theorem ix_tup : IxR X (rIxT X.K) := by
  intro value slice pins s σ H x y v u Q I rx ry h hs
  obtain ⟨p, xs, i, z, rfl, rfl, hq, he, q⟩ := h
  cases rx
  obtain ⟨t, rfl⟩ := ry
  obtain ⟨its, r, pl, hz⟩ := I.tuple hq
  obtain ⟨j, h1, h2, h3, h4, h5⟩ := atI_get he
  obtain ⟨w, ew, rw'⟩ := r.get h2
  have hl := r.length
  have hn := line63
  have fin : EP X pins σ Q w s := ⟨z, H, I, rw', q⟩
  exact subscriptTail_builtinR (x := w) pl.typeIs slot_tuple_getitem.lookup
    (getItem_tuple (j := j) (Q := fun r s' => r = w ∧ EP X pins σ Q r s') pl (by omega) (by omega) (by rw [List.size_toArray, ← hl]; exact h1) (by simpa using ew) ⟨rfl, fin⟩) hs
theorem ix_str : IxR X rIxS := by
  intro value slice pins s σ H x y v u Q I rx ry h hs
  obtain ⟨z, i, c, rfl, rfl, hz, he, q⟩ := h
  obtain ⟨t, rfl⟩ := rx
  obtain ⟨t', rfl⟩ := ry
  obtain ⟨j, h1, h2, h3, h4, h5⟩ := atI_get he
  have hl : z.cps.toList.length = z.length := by simp [Str.length]
  rw [hl] at h1 h4 h5
  have hn := line63
  exact tail_any (typeIs_str s z t) slot_str_getitem.lookup (getItem_str (c := c) (by
    have e1 : decide (i < -(2 ^ 63 : Int)) = false := decide_eq_false (by omega)
    have e2 : decide (i ≥ 2 ^ 63) = false := decide_eq_false (by omega)
    rw [e1, e2, Bool.or_false]) (by rw [h1]; simpa using h2) ⟨.str ⟨#[c]⟩, H, I.tok _, ⟨_, rfl⟩, q⟩) hs
/-- the list's object behind a store -/
theorem mapSeq_set (its : List Value) (n j : Nat) (u : Value) : Obj.mapSeq (·.setIfInBounds j u) { cls := .type "list", data := .seq its.toArray n } = { cls := .type "list", data := .seq (its.set j u).toArray n } := by
  simp [Obj.mapSeq]
theorem Inv.lst {pins : List (Addr × Obj)} {σ : St} {H : Hp} {s : Shared} {p : Addr} {xs : List V} (I : Inv X pins σ H s) (h : H p = some (.lst xs)) :
    ∃ (its : List Value) (n : Nat), Vals xs its ∧ s.heap.get? p = some { cls := .type "list", data := .seq its.toArray n } ∧ xs.length ≤ sizeLine := by
  obtain ⟨z, its, n, r, e⟩ := I.hok p _ h
  exact ⟨its, n, r, e, z⟩
/-- the list at p is written by an update of its object -/
theorem Inv.lstUpd {pins : List (Addr × Obj)} {σ : St} {H : Hp} {s : Shared} {p : Addr} {xs ys : List V} {its its' : List Value} {n n' : Nat} {f : Obj → Obj} (I : Inv X pins σ H s) (h : H p = some (.lst xs))
    (ho : s.heap.get? p = some { cls := .type "list", data := .seq its.toArray n }) (hf : f { cls := .type "list", data := .seq its.toArray n } = { cls := .type "list", data := .seq its'.toArray n' }) (r : Vals ys its') (hz : ys.length ≤ sizeLine) (t : Nat) :
    Inv X pins σ (upd H p (.lst ys)) { s with heap := s.heap.update p f, toks := t } := by
  have e : (s.heap.update p f).get? p = some { cls := .type "list", data := .seq its'.toArray n' } := by
    rw [Heap.get?_update_self f ho (by rw [hf] <;> rfl), hf]
  refine I.write (x := p) (e := p) (by rw [h]; trivial) (.inl rfl) (fun b u hb q => (Heap.get?_update_other _ _ (Ne.symm hb)).trans q) ⟨_, e⟩ ?_
  exact ⟨hz, its', n', r, e⟩
def rSetL : V → V → V → Hp → (Hp → Prop) → Prop := fun o i v H Q => ∃ p xs k j, o = .ref p ∧ i = .int k ∧ H p = some (.lst xs) ∧ ixN xs.length k = some j ∧ Q (upd H p (.lst (xs.set j v)))
theorem set_list : PSet X rSetL := by
  intro pins s σ H o i v ov iv u Q I ro ri rv h
  obtain ⟨p, xs, k, j, rfl, rfl, hp, hj, q⟩ := h
  cases ro
  obtain ⟨t, rfl⟩ := ri
  obtain ⟨its, n, r, ho, hz⟩ := I.lst hp
  obtain ⟨h1, h2, h3, h4⟩ := ixN_seq hj
  have hl := r.length
  have hn := line63
  have I' : Inv X pins σ (upd H p (.lst (xs.set j v))) { s with heap := s.heap.update p (Obj.mapSeq (·.setIfInBounds j u)) } :=
    I.lstUpd hp ho (mapSeq_set its n j u) (r.set rv j) (by rw [List.length_set]; exact hz) s.toks
  by_cases h0 : 0 ≤ k
  · have hk : k.toNat = j := by
      rw [seqIndex_of h0 h4] at h1
      exact Option.some.inj h1
    exact PySem.W.ki_setAt ho h0 (by omega) (by rw [List.size_toArray, ← hl]; exact h4) (by rw [hk]; exact ⟨_, I', q⟩)
  · have hk : (k + (its.toArray.size : Int)).toNat = j := by
      rw [seqIndex_neg (by omega) h3] at h1
      rw [List.size_toArray, ← hl]
      exact Option.some.inj h1
    exact PySem.W.ki_setBack ho (by omega) (by rw [List.size_toArray, ← hl]; exact h3) (by omega) (by rw [hk]; exact ⟨_, I', q⟩)

theorem slice_bounds (lo hi : Option Int) (n : Nat) : (sliceBounds lo hi none n).1 = ((HT.sIx n 0 lo : Nat) : Int) ∧ (sliceBounds lo hi none n).2.1 = ((HT.sIx n n hi : Nat) : Int) ∧ (sliceBounds lo hi none n).2.2 = 1 := by
  refine ⟨?_, ?_, rfl⟩
  · cases lo with
    | none => simp [sliceBounds, HT.sIx]
    | some i =>
      simp only [sliceBounds, HT.sIx, Option.getD_none, show (1 : Int) > 0 by decide, if_true]
      by_cases h : i < 0
      · simp only [h, if_true] <;> omega
      · simp only [h, if_false] <;> omega
  · cases hi with
    | none => simp [sliceBounds, HT.sIx]
    | some i =>
      simp only [sliceBounds, HT.sIx, Option.getD_none, show (1 : Int) > 0 by decide, if_true]
      by_cases h : i < 0
      · simp only [h, if_true] <;> omega
      · simp only [h, if_false] <;> omega
theorem slicePick_cut (its : List Value) (lo hi : Option Int) : slicePick its.toArray lo hi none = ((its.drop (HT.sIx its.length 0 lo)).take (HT.sIx its.length its.length hi - HT.sIx its.length 0 lo)).toArray := by
  obtain ⟨h1, h2, h3⟩ := slice_bounds lo hi its.toArray.size
  unfold slicePick
  rw [h1, h2, h3]
  simp only [sliceRange_one, pick_run, List.size_toArray] <;> rfl
/-- xs[lo:hi] of a list: a new list -/
def rSlL (K : PySem.W.Frag) : V → Option Int → Option Int → Hp → VK → Prop := fun x lo hi H Q => ∃ a xs, x = .ref a ∧ SqL K H a xs ∧ ∀ p, H p = none → Q (.ref p) (upd H p (.lst (cutV xs lo hi)))
theorem sl_list : SlR X (rSlL X.K) := by
  intro pins s σ H x v vl vu lo hi sl Q I rx hs pl pu h
  obtain ⟨a, xs, rfl, hx, q⟩ := h
  cases rx
  obtain ⟨its, r, ht, hz⟩ := I.list hx
  have hlen := r.length
  refine ⟨"list", _, slot_list_getitem.lookup, ht.isList.typeIs, ?_⟩
  refine wpAny_getItem_list_slice ht.isList hs pl pu .none (by simp) ?_ (by rw [List.size_toArray] <;> omega)
  rw [slicePick_cut, ← hlen]
  refine ⟨.ref s.heap.objs.size, _, I.laid (t' := s.toks) (o := .lst (cutV xs lo hi)) (fun b ob q => Heap.get?_push_of_some _ q) (Nat.le_refl _) ?_, rfl, q _ (I.hok.fresh (Nat.le_refl _))⟩
  exact ⟨Nat.le_trans (cutV_length xs lo hi) hz, _, 0, (r.drop (HT.sIx xs.length 0 lo)).take (HT.sIx xs.length xs.length hi - HT.sIx xs.length 0 lo), Heap.get?_push_size _ rfl⟩

def flatV : V → Bool
  | .non => true
  | .bl _ => true
  | .int _ => true
  | .str _ => true
  | _ => false
/-- == of flat values -/
def eqV : V → V → Bool
  | .non, .non => true
  | .bl a, .bl b => a == b
  | .bl a, .int b => (if a then 1 else 0) == b
  | .int a, .bl b => a == (if b then 1 else 0)
  | .int a, .int b => a == b
  | .str a, .str b => a == b
  | _, _ => false
theorem eqAt_V {A : Around} {s : Shared} {y x : V} {u v : Value} (ry : RelV y u) (rx : RelV x v) (fy : flatV y = true) (fx : flatV x = true) : SeqAt.EqAt A s u v (eqV y x) := by
  cases y with
  | non =>
    cases ry
    cases x with
    | non => cases rx; exact SeqAt.EqAt.same _
    | bl b => cases rx; exact SeqAt.EqAt.none_bool b
    | int b => obtain ⟨t, rfl⟩ := rx; exact SeqAt.EqAt.none_int b t
    | str b => obtain ⟨t, rfl⟩ := rx; exact SeqAt.EqAt.none_str b t
    | _ => exact absurd (show false = true from fx) Bool.false_ne_true
  | bl a =>
    cases ry
    cases x with
    | non => cases rx; exact SeqAt.EqAt.bool_none a
    | bl b => cases rx; exact SeqAt.EqAt.bool_bool a b
    | int b => obtain ⟨t, rfl⟩ := rx; exact SeqAt.EqAt.bool_int a b t
    | str b => obtain ⟨t, rfl⟩ := rx; exact SeqAt.EqAt.bool_str a b t
    | _ => exact absurd (show false = true from fx) Bool.false_ne_true
  | int a =>
    obtain ⟨t', rfl⟩ := ry
    cases x with
    | non => cases rx; exact SeqAt.EqAt.int_none a t'
    | bl b => cases rx; exact SeqAt.EqAt.int_bool a t' b
    | int b => obtain ⟨t, rfl⟩ := rx; exact SeqAt.EqAt.int_int a t' b t
    | str b => obtain ⟨t, rfl⟩ := rx; exact SeqAt.EqAt.int_str a t' b t
    | _ => exact absurd (show false = true from fx) Bool.false_ne_true
  | str a =>
    obtain ⟨t', rfl⟩ := ry
    cases x with
    | non => cases rx; exact SeqAt.EqAt.str_none a t'
    | bl b => cases rx; exact SeqAt.EqAt.str_bool a t' b
    | int b => obtain ⟨t, rfl⟩ := rx; exact SeqAt.EqAt.str_int a t' b t
    | str b => obtain ⟨t, rfl⟩ := rx; exact SeqAt.EqAt.str_str a t' b t
    | _ => exact absurd (show false = true from fx) Bool.false_ne_true
  | _ => exact absurd (show false = true from fy) Bool.false_ne_true
/-- the items' answers, read off the values (a value's own answer does not lean on its token) -/
def eqU (x : V) (u : Value) : Bool := match u with
  | .none => eqV .non x
  | .bool b => eqV (.bl b) x
  | .int i _ => eqV (.int i) x
  | .str z _ => eqV (.str z) x
  | _ => false
theorem eqU_of {x y : V} {u : Value} (r : RelV y u) (f : flatV y = true) : eqU x u = eqV y x := by
  cases y with
  | non => cases r; rfl
  | bl b => cases r; rfl
  | int i => obtain ⟨t, rfl⟩ := r; rfl
  | str z => obtain ⟨t, rfl⟩ := r; rfl
  | _ => exact absurd (show false = true from f) Bool.false_ne_true
theorem any_eqU {x : V} : ∀ {xs : List V} {us : List Value}, Vals xs us → xs.all flatV = true → us.any (eqU x) = xs.any fun y => eqV y x
  | _, _, .nil, _ => rfl
  | y :: xs, u :: us, .cons r t, f => by
    rw [List.all_cons, Bool.and_eq_true] at f
    rw [List.any_cons, List.any_cons, eqU_of r f.1, any_eqU t f.2]
theorem mem_eqAt {A : Around} {s : Shared} {x : V} {v : Value} (rx : RelV x v) (fx : flatV x = true) : ∀ {xs : List V} {us : List Value}, Vals xs us → xs.all flatV = true → ∀ u ∈ us, SeqAt.EqAt A s u v (eqU x u)
  | _, _, .nil, _ => fun u hu => by cases hu
  | y :: xs, u :: us, .cons r t, f => fun u' hu => by
    rw [List.all_cons, Bool.and_eq_true] at f
    rcases List.mem_cons.mp hu with rfl | hu
    · rw [eqU_of r f.1]; exact eqAt_V r rx f.1 fx
    · exact mem_eqAt rx fx t f.2 u' hu
def inV (x : V) (xs : List V) : Bool := xs.any fun y => eqV y x
/-- x in a list or tuple of flat items -/
def rIn (K : PySem.W.Frag) (neg : Bool) : R2 := fun x y H Q => ∃ p xs, y = .ref p ∧ (SqL K H p xs ∨ SqT K H p xs) ∧ flatV x = true ∧ xs.all flatV = true ∧ Q (.bl (if neg then !inV x xs else inV x xs)) H
theorem op_in_seq : OpR X (compareOp .In) (rIn X.K false) := by
  intro pins s σ H x y v u Q I rx ry h
  obtain ⟨p, xs, rfl, hq, fx, fs, q⟩ := h
  cases ry
  rcases hq with hq | hq
  · obtain ⟨its, r, pl, hz⟩ := I.list hq
    refine SeqAt.in_listAt (eqU x) pl.isList (fun w hw => mem_eqAt rx fx r fs w (by simpa using hw)) ⟨.bl _, H, I, rfl, ?_⟩
    rw [show its.toArray.any (eqU x) = its.any (eqU x) by simp, any_eqU r fs]
    exact q
  · obtain ⟨its, r, pl, hz⟩ := I.tuple hq
    refine SeqAt.in_tupleAt (eqU x) pl (fun w hw => mem_eqAt rx fx r fs w (by simpa using hw)) ⟨.bl _, H, I, rfl, ?_⟩
    rw [show its.toArray.any (eqU x) = its.any (eqU x) by simp, any_eqU r fs]
    exact q
theorem op_notIn_seq : OpR X (compareOp .NotIn) (rIn X.K true) := by
  intro pins s σ H x y v u Q I rx ry h
  obtain ⟨p, xs, rfl, hq, fx, fs, q⟩ := h
  cases ry
  rcases hq with hq | hq
  · obtain ⟨its, r, pl, hz⟩ := I.list hq
    refine SeqAt.notIn_listAt (eqU x) pl.isList (fun w hw => mem_eqAt rx fx r fs w (by simpa using hw)) ⟨.bl _, H, I, rfl, ?_⟩
    rw [show its.toArray.any (eqU x) = its.any (eqU x) by simp, any_eqU r fs]
    exact q
  · obtain ⟨its, r, pl, hz⟩ := I.tuple hq
    refine SeqAt.notIn_tupleAt (eqU x) pl (fun w hw => mem_eqAt rx fx r fs w (by simpa using hw)) ⟨.bl _, H, I, rfl, ?_⟩
    rw [show its.toArray.any (eqU x) = its.any (eqU x) by simp, any_eqU r fs]
    exact q
theorem call_len_seq : CallR X (.builtin "len") (fun xs H Q => ∃ p ys, xs = [.ref p] ∧ (SqL X.K H p ys ∨ SqT X.K H p ys) ∧ Q (.int ys.length) H) := by
  intro pins s σ H xs us Q I r h
  obtain ⟨p, ys, rfl, hq, q⟩ := h
  obtain ⟨u, rfl, rx⟩ := vals1 r
  cases rx
  have hn := line63
  rcases hq with hq | hq
  · obtain ⟨its, r', pl, hz⟩ := I.list hq
    have hlen := r'.length
    exact Calls.call_len_list pl.isList (by simp only [List.size_toArray] <;> omega) ⟨.int ys.length, H, I.tok _, ⟨s.toks + 1, by rw [List.size_toArray, hlen]⟩, q⟩
  · obtain ⟨its, r', pl, hz⟩ := I.tuple hq
    have hlen := r'.length
    exact len_tuple pl (by simp only [List.size_toArray] <;> omega) ⟨.int ys.length, H, I.tok _, ⟨s.toks + 1, by rw [List.size_toArray, hlen]⟩, q⟩
theorem call_len_str : CallR X (.builtin "len") (fun xs H Q => ∃ z, xs = [.str z] ∧ z.length ≤ sizeLine ∧ Q (.int z.length) H) := by
  intro pins s σ H xs us Q I r h
  obtain ⟨z, rfl, hz, q⟩ := h
  obtain ⟨u, rfl, t, rfl⟩ := vals1 r
  have hn := line63
  exact len_str (by omega) ⟨.int z.length, H, I.tok _, ⟨_, rfl⟩, q⟩
theorem call_tuple_of : CallR X (.type "tuple") (fun xs H Q => ∃ p ys, xs = [.ref p] ∧ ((SqL X.K H p ys ∧ ∀ l, H l = none → Q (.ref l) (upd H l (.tup ys))) ∨ (SqT X.K H p ys ∧ Q (.ref p) H))) := by
  intro pins s σ H xs us Q I r h
  obtain ⟨p, ys, rfl, h⟩ := h
  obtain ⟨u, rfl, rx⟩ := vals1 r
  cases rx
  rcases h with ⟨hq, q⟩ | ⟨hq, q⟩
  · obtain ⟨its, r', pl, hz⟩ := I.list hq
    have hlen := r'.length
    refine call_tuple_list pl.isList (fun h' kp => ?_) (by simp only [List.size_toArray] <;> omega)
    have I1 : Inv X pins σ H { s with heap := h' } := I.kept (t' := s.toks) kp
    have I2 : Inv X pins σ (upd H h'.objs.size (.tup ys)) { s with heap := h'.push { cls := .type "tuple", data := .seq its.toArray } } :=
      I1.laid (t' := s.toks) (fun b o e => Heap.get?_push_of_some _ e) (Nat.le_refl _) (show ObjOk X.prog X.w _ _ _ (.tup ys) from ⟨hz, its, r', IsTup.new _ _⟩)
    exact ⟨.ref h'.objs.size, _, I2, rfl, q _ (I1.hok.fresh (Nat.le_refl _))⟩
  · obtain ⟨its, r', pl, hz⟩ := I.tuple hq
    exact call_tuple_same pl ⟨.ref p, H, I, rfl, q⟩

/-- the value is of that builtin type -/
def tyV (K : PySem.W.Frag) (T : String) (x : V) (H : Hp) : Prop := match x with
  | .str _ => T = "str"
  | .int _ => T = "int"
  | .ref p => (T = "list" ∧ ∃ xs, SqL K H p xs) ∨ (T = "tuple" ∧ ∃ o, K.lookup p = some o ∧ o.cls = .type "tuple" ∧ o.dict = none) ∨
      (T = "dict" ∧ ((∃ kvs, H p = some (.dK kvs)) ∨ ∃ kvs, H p = some (.dT kvs))) ∨ (T = "set" ∧ ∃ S n, H p = some (.set S n))
  | _ => False
theorem tyV_is {pins : List (Addr × Obj)} {σ : St} {H : Hp} {s : Shared} {T : String} {x : V} {v : Value} (I : Inv X pins σ H s) (r : RelV x v) (ty : tyV X.K T x H) :
    s.TypeIs v T ∧ ∀ a, v = .ref a → ∃ ob, s.heap.get? a = some ob ∧ ob.dict = none := by
  cases x with
  | str z =>
    obtain ⟨t, rfl⟩ := r
    cases (show T = "str" from ty)
    exact ⟨typeIs_str s z t, fun _ e => nomatch e⟩
  | int i =>
    obtain ⟨t, rfl⟩ := r
    cases (show T = "int" from ty)
    exact ⟨typeIs_int s i t, fun _ e => nomatch e⟩
  | ref p =>
    cases r
    rcases ty with ⟨rfl, xs, hq⟩ | ⟨rfl, o, hk, hc, hd⟩ | ⟨rfl, hk⟩ | ⟨rfl, S, n, hk⟩
    · obtain ⟨its, _, pl, _⟩ := I.list hq
      refine ⟨pl.isList.typeIs, fun a e => ?_⟩
      cases e
      obtain ⟨o, n, e, c, hd, _⟩ := pl
      exact ⟨o, e, hd⟩
    · refine ⟨⟨o, I.kIn p o hk, hc⟩, fun a e => ?_⟩
      cases e
      exact ⟨o, I.kIn _ o hk, hd⟩
    · have z : ∃ o, s.heap.get? p = some o ∧ o.ExactDict := by
        rcases hk with ⟨kvs, hk⟩ | ⟨kvs, hk⟩
        · obtain ⟨_, _, _, _, o, _, _, e, ex, _⟩ := I.hok p _ hk
          exact ⟨o, e, ex⟩
        · obtain ⟨_, _, _, _, o, _, _, e, ex, _⟩ := I.hok p _ hk
          exact ⟨o, e, ex⟩
      obtain ⟨o, e, ex⟩ := z
      refine ⟨⟨o, e, ex.1⟩, fun a e2 => ?_⟩
      cases e2
      exact ⟨o, e, ex.2.1⟩
    · obtain ⟨o, _, _, _, e, ex, _⟩ := I.hok p _ hk
      refine ⟨⟨o, e, ex.1⟩, fun a e2 => ?_⟩
      cases e2
      exact ⟨o, e, ex.2.1⟩
  | _ => exact False.elim ty
def tBM0 (K : PySem.W.Frag) (T : String) (r : V → List V → Hp → VK → Prop) (to : TE) : TE := fun σ H Q => to σ H fun x H1 => tyV K T x H1 ∧ r x [] H1 Q
def tBM (K : PySem.W.Frag) (T : String) (r : V → List V → Hp → VK → Prop) (to : TE) (t : TA) : TE := fun σ H Q => to σ H fun x H1 => tyV K T x H1 ∧ t σ H1 fun xs H2 => r x xs H2 Q
variable {o e : Expr} {es : List Expr} {to : TE} {t : TA} {name : Str} {apos cpos : Pos} {T id : String} {r : V → List V → Hp → VK → Prop}
theorem pe_bm0 (pa : PlainAttrs T) (slot : Slot T name id) (hty : typeOf (.builtin id) = pure (.type "method_descriptor")) (hm : MtR X id r) (ho : PE X o to)
    (hbase : attributeBase o name X.env (eval o X.env) = eval o X.env := by rfl) (hline : (apos.endLine == cpos.line) = true := by rfl) : PE X (.Call (.Attribute o name apos) [] [] cpos) (tBM0 X.K T r to) := by
  intro pins s σ H Q I h
  refine wpAny_Call_method0_late hbase hline (thn (ho pins s σ H _ I h) fun v s1 ⟨x, H1, I1, r1, ty, q1⟩ => ?_)
  obtain ⟨h1, h2⟩ := tyV_is I1 r1 ty
  exact ⟨T, id, pa, slot, hty, h1, h2, Calls.callWith_builtin rfl (PySem.evalArgs_none (hm pins s1 σ H1 x [] v [] Q I1 r1 .nil q1))⟩
theorem pe_bm (pa : PlainAttrs T) (slot : Slot T name id) (hty : typeOf (.builtin id) = pure (.type "method_descriptor")) (hm : MtR X id r) (ho : PE X o to) (ha : PA X (e :: es) t)
    (hbase : attributeBase o name X.env (eval o X.env) = eval o X.env := by rfl)
    (hfew : ((backTo cpos (starEach (e :: es) X.env)).all (fun x => !x.1) && (backToKw cpos (keywordEach [] X.env)).all (fun x => x.1.isSome)
      && decide ((e :: es).length + ([] : List Keyword).length + (if ([] : List Keyword).isEmpty then 0 else 1) < 30)) = true := by rfl)
    (hline : (apos.endLine == cpos.line) = true := by rfl) (hs : starEach (e :: es) X.env = (false, eval e X.env) :: starEach es X.env := by rfl) (hplain : (backTo cpos (starEach es X.env)).any (·.1) = false := by rfl) :
    PE X (.Call (.Attribute o name apos) (e :: es) [] cpos) (tBM X.K T r to t) := by
  intro pins s σ H Q I h
  refine wpAny_Call_method_late hbase hfew hline rfl (thn (ho pins s σ H _ I h) fun v s1 ⟨x, H1, I1, r1, ty, q1⟩ => ?_)
  obtain ⟨h1, h2⟩ := tyV_is I1 r1 ty
  refine ⟨T, id, pa, slot, hty, h1, h2, ?_⟩
  have hA := ha cpos pins s1 σ H1 _ I1 q1
  rw [hs] at hA ⊢
  refine Calls.callWith_builtin (by show (false || (backTo cpos (starEach es X.env)).any (·.1)) = false; rw [hplain] <;> rfl) (Calls.evalArgs_plain ?_)
  exact thn hA fun us s2 ⟨vs, H2, I2, r2, q2⟩ => hm pins s2 σ H2 x vs v us Q I2 r1 r2 q2
/- xs.append(e), list.index on a module's tuple .. are MtR facts of 06m -/
end
end L2

namespace L2
open PySem PySem.Spec PyProof.Rows

def MtM (X : Cx) (id : String) (r : V → List V → Hp → VK → Prop) : Prop :=
  ∀ (pins : List (Addr × Obj)) (s : Shared) (σ : St) (H : Hp) (x : V) (xs : List V) (v : Value) (us : List Value) (Q : VK), Inv X pins σ H s → RelV x v → Vals xs us → r x xs H Q →
    wpAny (model X.prog X.w) X.A (call (.builtin id) (v :: us)) (EP X pins σ Q) X.xe s

theorem Vals.one : ∀ {x : V} {us : List Value}, Vals [x] us → ∃ u, us = [u] ∧ RelV x u
  | _, _, .cons r .nil => ⟨_, rfl, r⟩
theorem Vals.two : ∀ {x y : V} {us : List Value}, Vals [x, y] us → ∃ u v, us = [u, v] ∧ RelV x u ∧ RelV y v
  | _, _, _, .cons r (.cons q .nil) => ⟨_, _, rfl, r, q⟩
theorem Vals.zero : ∀ {us : List Value}, Vals [] us → us = []
  | _, .nil => rfl
theorem Vals.dropLast {xs : List V} {us : List Value} (h : Vals xs us) : Vals xs.dropLast us.dropLast := by
  induction h with
  | nil => exact .nil
  | cons r t ih =>
    cases t with
    | nil => exact .nil
    | cons q t' => exact .cons r ih
theorem erase_last {α : Type} (l : List α) : l.eraseIdx (l.length - 1) = l.dropLast := by
  induction l with
  | nil => rfl
  | cons a r ih =>
    cases r with
    | nil => rfl
    | cons b r =>
      have e : (a :: b :: r).length - 1 = ((b :: r).length - 1) + 1 := by
        have h1 : (a :: b :: r).length = r.length + 2 := rfl
        have h2 : (b :: r).length = r.length + 1 := rfl
        omega
      rw [e, List.eraseIdx_cons_succ, ih]
      all_goals rfl
section
variable {X : Cx} {pins : List (Addr × Obj)} {σ : St} {H : Hp} {s : Shared} {l b : Addr} {xs ys zs : List V}

theorem Inv.lset {its its' : List Value} {n : Nat} {f : Array Value → Array Value} {t' : Nat} (I : Inv X pins σ H s) (hH : H l = some (.lst xs))
    (e : s.heap.get? l = some { cls := .type "list", data := .seq its.toArray n }) (hf : f its.toArray = its'.toArray) (hv : Vals ys its') (hz : ys.length ≤ sizeLine) :
    Inv X pins σ (upd H l (.lst ys)) { s with heap := s.heap.update l (Obj.mapSeq f), toks := t' } := by
  have q := PySem.IsL.update e f
  rw [hf] at q
  refine I.write (x := l) (e := l) (by rw [hH]; exact trivial) (.inl rfl) (fun b' u hb hu => (Heap.get?_update_other s.heap (Obj.mapSeq f) (Ne.symm hb)).trans hu) ⟨_, q⟩ ?_
  exact ⟨hz, its', _, hv, q⟩
theorem Inv.lnew {its : List Value} {t' : Nat} (I : Inv X pins σ H s) (hv : Vals ys its) (hz : ys.length ≤ sizeLine) :
    Inv X pins σ (upd H s.heap.objs.size (.lst ys)) { s with heap := s.heap.push { cls := .type "list", data := .seq its.toArray }, toks := t' } :=
  I.laid (fun _ _ q => Heap.get?_push_of_some _ q) (Nat.le_refl _) ⟨hz, its, 0, hv, Heap.get?_push_size _ rfl⟩
theorem Inv.fresh (I : Inv X pins σ H s) : H s.heap.objs.size = none := I.hok.fresh (Nat.le_refl _)
theorem Inv.lstM (I : Inv X pins σ H s) (hH : H l = some (.lst xs)) : xs.length ≤ sizeLine ∧ ∃ (its : List Value) (n : Nat), Vals xs its ∧ xs.length = its.length ∧ s.heap.get? l = some { cls := .type "list", data := .seq its.toArray n } := by
  obtain ⟨z, its, n, r, e⟩ := I.hok l _ hH
  exact ⟨z, its, n, r, r.length, e⟩

end

section
variable {X : Cx}

def rAppend : V → List V → Hp → VK → Prop := fun x vs H Q => ∃ l xs y, x = .ref l ∧ vs = [y] ∧ H l = some (.lst xs) ∧ xs.length < sizeLine ∧ Q .non (upd H l (.lst (xs ++ [y])))
theorem mt_append : MtM X "list.append" rAppend := by
  intro pins s σ H x vs v us Q I rx rv h
  obtain ⟨l, xs, y, rfl, rfl, hH, hz, q⟩ := h
  cases rx
  obtain ⟨u, rfl, ru⟩ := rv.one
  obtain ⟨z, its, n, r, hl, e⟩ := I.lstM hH
  refine call_meets F.slot_list_append ⟨_, e, rfl⟩ F.entry_list_append (F.args_list_append_2 _ _) (PySem.list_append l its.toArray n u (by rw [List.size_toArray]; omega)) ⟨e, ?_⟩
  refine ⟨.non, _, I.lset (its' := its ++ [u]) hH e (by simp) (r.append (.cons ru .nil)) ?_, rfl, q⟩
  rw [List.length_append, List.length_singleton]
  omega

def rPop : V → List V → Hp → VK → Prop := fun x vs H Q => ∃ l xs y, x = .ref l ∧ vs = [] ∧ H l = some (.lst xs) ∧ xs[xs.length - 1]? = some y ∧ Q y (upd H l (.lst xs.dropLast))
theorem mt_pop : MtM X "list.pop" rPop := by
  intro pins s σ H x vs v us Q I rx rv h
  obtain ⟨l, xs, y, rfl, rfl, hH, hy, q⟩ := h
  cases rx
  have hus := rv.zero
  subst hus
  obtain ⟨z, its, n, r, hl, e⟩ := I.lstM hH
  obtain ⟨u, hu, ru⟩ := r.get hy
  have hy' : its.toArray[its.toArray.size - 1]? = some u := by
    show its.toArray[its.length - 1]? = some u
    rw [← Array.getElem?_toList, ← hl]
    exact hu
  refine call_meets F.slot_list_pop ⟨_, e, rfl⟩ F.entry_list_pop (F.args_list_pop_1 _) (MeetsSeq.list_pop_last l its.toArray n u hy' (by rw [List.size_toArray]; omega)) ⟨e, ?_⟩
  refine ⟨y, _, I.lset (its' := its.dropLast) hH e ?_ r.dropLast ?_, ru, q⟩
  · show its.toArray.eraseIdxIfInBounds (its.toArray.size - 1) = its.dropLast.toArray
    rw [List.size_toArray, List.eraseIdxIfInBounds_toArray, erase_last]
  · rw [List.length_dropLast]
    omega

def rCat : R2 := fun x y H Q => ∃ l b xs zs, x = .ref l ∧ y = .ref b ∧ H l = some (.lst xs) ∧ H b = some (.lst zs) ∧ xs.length + zs.length ≤ sizeLine ∧ ∀ p, H p = none → Q (.ref p) (upd H p (.lst (xs ++ zs)))
theorem op_cat : OpR X (binaryOp .Add) rCat := by
  intro pins s σ H x y v u Q I rx ry h
  obtain ⟨l, b, xs, zs, rfl, rfl, hH, hB, hz, q⟩ := h
  cases rx
  cases ry
  obtain ⟨z, its, n, r, hl, e⟩ := I.lstM hH
  obtain ⟨z2, its2, n2, r2, hl2, e2⟩ := I.lstM hB
  refine PySem.P.add_list e e2 ?_ (by rw [List.size_toArray, List.size_toArray]; omega)
  have ea : its.toArray ++ its2.toArray = (its ++ its2).toArray := by simp
  rw [ea]
  exact ⟨.ref _, _, I.lnew (t' := s.toks) (r.append r2) (by rw [List.length_append]; omega), rfl, q _ I.fresh⟩
end

section
variable {prog : Program} {w : World} {A : Around} {E : Value → Shared → Prop} {s : Shared}
end

section
variable {X : Cx}
end
end L2

namespace Att
open PySem PySem.W PySem.Calls PyProof.Rows

theorem ints_of_wellAll {P : Params} {h : Heap} : ∀ (ns : List Int) (vs : List Value), WellAll P h vs (ns.map WData.int) → IntsAre vs ns := by
  intro ns
  induction ns with
  | nil =>
    intro vs w
    rw [List.map_nil] at w
    cases w
    exact .nil
  | cons n ns ih =>
    intro vs w
    rw [List.map_cons] at w
    cases w with
    | cons a b =>
      cases a
      exact .cons _ _ (ih _ b)

theorem script_of {l : OpenLaw} {n : Nat} (hn : l.most = some n) {P : Params} {h : Heap} {args : List WData} {vals : List Value}
    (hpre : l.row.toRowW.claim.pre args = true) (hwl : WellAll P h vals args) :
    ∃ a vs ns, vals = [Value.ref a] ∧ args = [WData.list (ns.map WData.int)] ∧ h.get? a = some { cls := .type "list", data := .seq vs.toArray } ∧ IntsAre vs ns ∧ ns.length ≤ n := by
  have hsh : WShape.hasAll [] args [.list .int] = true := (pre_splitW hpre).1
  have hc : l.pre.holds [] { args := args } = true := (pre_splitW hpre).2
  obtain ⟨d, r, rfl, h1, h2⟩ := hasAllW_cons hsh
  obtain rfl := hasAllW_nil h2
  obtain ⟨xs, rfl, h3⟩ := hasW_list h1
  obtain ⟨ns, rfl⟩ := items_int h3
  have hlen : ns.length ≤ n := by
    unfold OpenLaw.pre at hc
    have h4 : (WTm.not (.lt (.lit (.int (n : Int))) (.len (.arg 0)))).holds [] { args := [.list (ns.map .int)] } = true := by
      have h4 := (holds_andW hc).1
      rw [hn] at h4
      exact h4
    have h5 := condW_of h4 (w_not (w_lt w_lit (w_len_list (w_arg rfl))))
    rw [List.length_map] at h5
    refine Nat.le_of_not_lt fun q => ?_
    have q' : (n : Int) < ((ns.length : Nat) : Int) := by omega
    first
      | (rw [decide_eq_true q'] at h5; exact absurd h5 (by decide))
      | (simp at h5; omega)
  cases hwl with
  | cons w1 w2 =>
    cases w2
    cases w1 with
    | list ho hall => exact ⟨_, _, ns, rfl, rfl, ho, ints_of_wellAll ns _ hall, hlen⟩

theorem post_true (l : OpenLaw) (args : List WData) : l.row.toRowW.claim.post args (.bool true) args = true :=
  postW_of (r := l.row.toRowW) (X := (true == true))
    (show WShape.has [] (.bool true) .bool = true by first | rfl | decide | simp [WShape.has, WShape.arms, WShape.armsAll])
    (show (WTm.eq .res (.lit (.bool true))).value [] { args := args, res := some (.bool true), after := args } = some (.bool (true == true)) from w_eq_bool (w_res rfl) w_lit) rfl

/-- the same from a codeAny of the CALL (for a layer whose function contracts speak of calls) -/
theorem attach_call {l : OpenLaw} {n : Nat} {q : Program} {loose : List Str} {XP : (Str → Option Value) → Heap → Prop} {YP : World → Heap → Prop} {d : DefRec}
    (hn : l.most = some n) (hdf : d.params.defaults = [])
    (call : ∀ (w : World) (s₀ s₁ : Shared) (mg mb : Str → Option Value) (fa : Addr) (o : Obj) (pm cd doc : Value) (a : Addr) (vs : List Value) (ns : List Int),
      Ground q loose [] XP w s₀ mg mb s₁.heap → YP w s₁.heap →
      s₁.heap.get? fa = some o → o.data = .func (docDef d.name d.params d.body d.scope pm cd doc) → s₁.heap.CodeRec cd d.name → mg d.name = some (.ref fa) →
      s₁.heap.get? a = some { cls := .type "list", data := .seq vs.toArray } → IntsAre vs ns → ns.length ≤ n → s₁.gens = #[] →
      codeAny (model l.prog w) callerA (.call (.ref fa) ⟨[.ref a], []⟩) (fun r s' => r = .ok (.ret (.bool true)) ∧ OldK s₁.heap s'.heap ∧ s'.os = s₁.os ∧ AllBare s'.gens) s₁) :
    WalkO q loose XP YP l.row.toRowW d [] (fun f vs => PySem.call f vs) := by
  intro w s₀ s₁ mg mb G Y fa o pm cd doc dV kV ho hd hcd hD hmg hg args vals as hpre hlay hrd hwl hlo
  obtain rfl : dV = .none := Dflts.none hD hdf
  obtain rfl : kV = .none := Dflts.noKw hD
  obtain ⟨a, vs, ns, rfl, rfl, hobj, hints, hlen⟩ := script_of hn hpre hwl
  refine enter_call (codeAny_mono (call w s₀ s₁ mg mb fa o pm cd doc a vs ns G Y ho (fd_plain hd) hcd hmg hobj hints hlen hg) fun r s' hq => ?_)
  obtain ⟨rfl, h2, h3, h4⟩ := hq
  exact ⟨.inl ⟨.bool true, .bool true, [], rfl, fun _ => rfl, .bool true, post_true l _, fun _ => ⟨List.Pairwise.nil, fun _ hm => (nomatch hm)⟩⟩, h2, h3, h4⟩

section
variable {prog : Program} {w : World} {A : Around} {E : Value → Shared → Prop} {s : Shared} {K : Frag}

end
end Att

namespace L2
open PySem PySem.Spec PyProof.Rows

theorem vals_ints : ∀ {vs : List Value} {ns : List Int}, IntsAre vs ns → Vals (ns.map V.int) vs
  | _, _, .nil => .nil
  | _, _, .cons n t h => .cons ⟨t, rfl⟩ (vals_ints h)

/-- nothing is tracked but the script, known to the object (or it is an object of the module) -/
def Only (H : Hp) : Prop := ∀ b, H b = none ∨ ∃ o xs, H b = some (.frz o (.lst xs))

/-- THE HEAD: the law's promise, at the heap behind the top. F, the promise of the law's def, may use that base is part of the heap (so K.In base, base.Ns mainGlobals mg stand in Mod) -/
theorem law_call {P : Program} {w : World} {K : PySem.W.Frag} {mg mb : Str → Option Value} {CX : CXT} {k : Nat} {fa a : Addr} {fd : FuncData} {x : Str} {sp : Sp} {s₁ : Shared} {vs : List Value} {ns : List Int}
    (KX : K.In s₁.heap) (hns : s₁.heap.Ns mainGlobals mg) (hb : s₁.heap.Ns builtinsNs mb) (hbb : ∀ x : Str, x ≠ "__name__" → mb x = bootBuiltins x) (hlim : s₁.heap.NoLimit) (hg : s₁.gens = #[])
    (ha : s₁.heap.get? a = some { cls := .type "list", data := .seq vs.toArray }) (hi : IntsAre vs ns) (hl : ns.length ≤ sizeLine) (hr : Room k callerA)
    (F : ∀ base : Heap, K.In base → base.Ns mainGlobals mg → FnOk P w K mg base CX k fa fd [x] sp) (hbind : ∀ (s : Shared) (u : Value), BindsTo s fd ⟨[u], []⟩ [(x, u)])
    (hsp : ∀ H : Hp, Only H → SqL K H a (ns.map V.int) → sp [.ref a] H (fun v _ => v = .bl true) fun _ _ _ => False)
    (hCX : ∀ H e s', CX [] H s₁ (fun _ _ _ => False) e s' → False) :
    codeAny (model P w) callerA (.call (.ref fa) ⟨[.ref a], []⟩) (fun r s' => r = .ok (.ret (.bool true)) ∧ OldK s₁.heap s'.heap ∧ s'.os = s₁.os ∧ AllBare s'.gens) s₁ := by
  have rv := vals_ints hi
  have lenV := hi.length
  -- from an abstract heap in which nothing but the script may be tracked
  have core : ∀ H : Hp, Only H → SqL K H a (ns.map V.int) → HOk P w H s₁.heap → (∀ b, H b ≠ none → b = a) → (H a ≠ none → K.lookup a = none) →
      codeAny (model P w) callerA (.call (.ref fa) ⟨[.ref a], []⟩) (fun r s' => r = .ok (.ret (.bool true)) ∧ OldK s₁.heap s'.heap ∧ s'.os = s₁.os ∧ AllBare s'.gens) s₁ := by
    intro H hO hS hok hA hK
    have base_of : ∀ {b : Addr} {o : Obj}, s₁.heap.get? b = some o → H b = none → (hidT s₁.heap H).get? b = some o := fun e n => hidT_get e n
    have noA : ∀ {b : Addr} {o : Obj} {es : Array DictEntry} {ep : Nat}, s₁.heap.get? b = some o → o.data = .dict es ep → H b = none := fun {b o es ep} e d => by
      cases q : H b with
      | none => rfl
      | some u =>
        have e' : b = a := hA b (by rw [q]; simp)
        subst e'
        rw [ha] at e; cases e
        have d' : Data.seq vs.toArray _ = Data.dict es ep := d
        cases d'
    have nsK : ∀ {b : Addr} {m : Str → Option Value}, s₁.heap.Ns b m → (hidT s₁.heap H).Ns b m := fun {b m} ⟨o, es, ep, e, d, r⟩ => ⟨o, es, ep, base_of e (noA e d), d, r⟩
    have hKb : K.In (hidT s₁.heap H) := fun b o e => base_of (KX b o e) (by
      cases q : H b with
      | none => rfl
      | some u =>
        have e' : b = a := hA b (by rw [q]; simp)
        subst e'
        rw [hK (by rw [q]; simp)] at e; cases e)
    have hM : Mod K mg (hidT s₁.heap H) := ⟨hKb, nsK hns, ⟨mb, nsK hb, hbb⟩, let ⟨mc, h1, h2⟩ := hlim; ⟨mc, nsK h1, h2⟩⟩
    have e0 : Env0 P w K mg (hidT s₁.heap H) callerA [] s₁ H := ⟨rfl, hM, fun b o e => of_hidT e, Nat.le_of_eq (hidT_size _ _), trivial, fun b hb => absurd (show b ∈ ([] : List Addr) from hb) (by simp), hok, .of_eq hg⟩
    refine codeAny_mono ((F _ hKb (nsK hns)).run callerA [] s₁ H ⟨[.ref a], []⟩ [.ref a] [.ref a] _ _ hr e0 (hbind s₁ (.ref a)) (.cons rfl .nil) (hsp H hO hS)) fun r s' h => ?_
    cases r with
    | error e => exact (hCX H e s' h).elim
    | ok fl =>
      cases fl with
      | next => exact False.elim h
      | brk => exact False.elim h
      | cont => exact False.elim h
      | ret u =>
        obtain ⟨v, H', os, bare, un, hok', r', q⟩ := h
        have q' : v = .bl true := q
        subst q'
        obtain rfl : u = Value.bool true := r'
        refine ⟨rfl, OldK.of_keep fun b o e => ?_, os, bare⟩
        cases q : H b with
        | none => exact un.keep b o e q (by intro z; exact absurd (show b ∈ ([] : List Addr) from z) (by simp)) (by simp)
        | some u =>
          rcases hO b with z | ⟨ob, xs, z⟩
          · rw [q] at z; cases z
          · have z2 := un.frzs b ob _ z
            obtain ⟨e1, _⟩ := hok b _ z
            obtain ⟨e2, _⟩ := hok' b _ z2
            rw [e] at e1; cases e1
            exact e2
  cases hk : K.lookup a with
  | some o =>
    -- the script is one of the module's own objects
    have e := KX a o hk
    rw [ha] at e
    cases e
    refine core (fun _ => none) (fun _ => .inl rfl) (.inr ⟨_, vs.toArray, _, hk, rfl, rfl, rfl, by rw [List.size_toArray, lenV]; exact hl, by simpa using rv⟩) (fun b u z => by have z' : (none : Option HO) = some u := z; cases z') (fun b z => absurd rfl z) fun z => absurd rfl z
  | none =>
    refine core (fun b => if b = a then some (.frz { cls := .type "list", data := .seq vs.toArray } (.lst (ns.map V.int))) else none) (fun b => ?_) (.inl (.inr ⟨{ cls := .type "list", data := .seq vs.toArray }, if_pos rfl⟩)) (fun b u z => ?_) (fun b z => ?_) fun _ => hk
    · by_cases hb : b = a
      · exact .inr ⟨_, _, if_pos hb⟩
      · exact .inl (if_neg hb)
    · by_cases hb : b = a
      · have z' := (if_pos hb).symm.trans z
        cases z'
        subst hb
        exact ⟨ha, by rw [List.length_map]; exact hl, vs, _, rv, ha⟩
      · have z' := (if_neg hb).symm.trans z
        cases z'
    · by_cases hb : b = a
      · exact hb
      · exact absurd (if_neg hb) z
end L2

namespace L2
open PySem PySem.Spec PyProof.Rows

abbrev KOf {K : PySem.W.Frag} {h : Heap} (_ : K.In h) : PySem.W.Frag := K

/-- the goal that k_head leaves (case hc), from the law's promise. F gives the function object fd (K's own) once, then the promise over every base -/
theorem walk_of {l : PySem.W.OpenLaw} {n k : Nat} {q : Program} {loose : List Str} {XP : (Str → Option Value) → Heap → Prop} {YP : World → Heap → Prop} {d : DefRec} {K : Params → PySem.W.Frag} {CX : World → CXT} {sp : World → Sp} {x : Str}
    (hn : l.most = some n) (hn2 : n ≤ sizeLine) (hdf : d.params.defaults = []) (hr : Room k callerA)
    (hY : ∀ (w : World) (h : Heap), YP w h → (K w.params).In h)
    (F : ∀ (w : World) (mg : Str → Option Value) (fa : Addr) (h : Heap), (K w.params).In h → h.Ns mainGlobals mg → mg d.name = some (.ref fa) →
      ∃ fd : FuncData, (∀ (s : Shared) (u : Value), BindsTo s fd ⟨[u], []⟩ [(x, u)]) ∧
        ∀ base : Heap, (K w.params).In base → base.Ns mainGlobals mg → FnOk l.prog w (K w.params) mg base (CX w) k fa fd [x] (sp w))
    (hsp : ∀ (w : World) (H : Hp) (a : Addr) (ns : List Int), ns.length ≤ n → Only H → SqL (K w.params) H a (ns.map V.int) → sp w [.ref a] H (fun v _ => v = .bl true) fun _ _ _ => False)
    (hCX : ∀ (w : World) (H : Hp) (s : Shared) (e : Value) (s' : Shared), CX w [] H s (fun _ _ _ => False) e s' → False) :
    PySem.W.WalkO q loose XP YP l.row.toRowW d [] (fun f vs => PySem.call f vs) := by
  refine Att.attach_call hn hdf fun w s₀ s₁ mg mb fa o pm cd doc a vs ns G Y ho hd hcd hmg hobj hints hlen hg => ?_
  have KX := hY w _ Y
  obtain ⟨fd, hb, hF⟩ := F w mg fa _ KX G.T.g hmg
  exact law_call KX G.T.g G.T.b G.T.builtins G.T.nolimit hg hobj hints (Nat.le_trans hlen hn2) hr hF hb (fun H hO hS => hsp w H a ns hlen hO hS) fun H e s' => hCX w H s₁ e s'
end L2

/- THE LAST THEOREM (shape; LID, My.* are yours):
   My.Adr: a structure of the addresses that your layer names (classes, functions); My.Txt K t: a structure (Prop) of the equations over K;
   My.txt_mk : {K} {implicit addresses ..} (e1 : nsIn K mainGlobals "law" = some (some (.ref f))) (e2 : K.lookup f = some ⟨oc, od, .func (fnOf "law" "law" params body scope dV kV doc pm an cdv ct), sl⟩) (e3 : codeIn K cdv "law" = true) .. : ∃ t, My.Txt K t

set_option maxRecDepth 100000 in
set_option maxHeartbeats 0 in
theorem PySem.Challenge.cw_LID_holds : PySem.Challenge.rw_LID.Holds := by
  w_on; o_law; k_head; (case hw => w_witness2)
  k_fill
  refine L2.walk_of (l := PySem.Challenge.rw_LID) (n := 63) (k := 40) (x := "script") (CX := fun w => ..) (sp := fun _ => My.sp_law) rfl (by decide) rfl ⟨rfl, by decide, by decide⟩ (fun w h Y => PySem.W.kIn_of Y) ?F ?S ?C
  case F =>
    intro w mg fa h KX G hmg
    have T : ∃ t, My.Txt (L2.KOf KX) t := by
      dsimp only [L2.KOf]                          -- K must stand as «<heap const> w.params» for k_is
      refine' My.txt_mk ?e1 ?e2 ?e3 ..
      (case e1 => PySem.W.k_is)                    -- in the order: a name -> its address -> its object -> its parts
      (case e2 => PySem.W.k_is)
      ..
    obtain ⟨t, T⟩ := T
    have e0 := hmg.symm.trans (PySem.W.mg_of KX G T.law)
    cases e0                                       -- fa is the law's own address
    exact ⟨_, fun s u => .of_eq rfl, fun base kb nb => My.law_fn T kb nb⟩     -- if «.of_eq rfl» comes too early: refine' ⟨_, ?b, fun base kb nb => My.law_fn T kb nb⟩; exact fun s u => .of_eq rfl
  case S => exact fun w H a ns hl hO hS => ..
  case C => exact ..
(the tactic k_is has no namespace: write k_is) -/

namespace L2
open PySem PySem.Spec PyProof.Rows

def defArgs (s : Stmt) : Arguments := match s with
  | .FunctionDef _ a _ _ _ _ _ _ _ _ => a
  | _ => { posonlyargs := [], args := [], vararg := none, kwonlyargs := [], kw_defaults := [], kwarg := none, defaults := [] }
def defBody (s : Stmt) : List Stmt := match s with
  | .FunctionDef _ _ b _ _ _ _ _ _ _ => b
  | _ => []
def defScope (s : Stmt) : Scope := match s with
  | .FunctionDef _ _ _ _ _ _ sc _ _ _ => sc
  | _ => { kind := .function, names := [], isGenerator := false, isCoroutine := false }

abbrev CX0 : CXT := fun _ _ _ _ _ _ => False
abbrev E0 : XK := fun _ _ _ => False
theorem pass0 {X : Cx} : Passes CX0 X E0 := fun _ _ _ _ _ _ _ h => h.elim

structure Fun (K : PySem.W.Frag) (x qual : Str) (st : Stmt) (f : Addr) (fd : FuncData) : Prop where
  ex : ∃ (oc : Value) (od : Option Addr) (kV doc pm : Value) (an : Option Addr) (cdv ct : Value) (osl : Array (Option Value)),
    fd = PySem.W.fnOf x qual (defArgs st) (defBody st) (defScope st) .none kV doc pm an cdv ct ∧ K.lookup f = some ⟨oc, od, .func fd, osl⟩ ∧ PySem.W.codeIn K cdv qual = true
  kp : PySem.W.keepIn K (.ref f) = true
section
variable {P : Program} {w : World} {K : PySem.W.Frag} {mg : Str → Option Value} {base : Heap}
/-- THE RULE for a def: its body as a term of rules, and the reading of that term -/
theorem Fun.ok {x qual : Str} {st : Stmt} {f : Addr} {fd : FuncData} {N ps : List Str} {k : Nat} {sp : Sp} (F : Fun K x qual st f fd) (S : FnScope N ps (defScope st)) (len : ∀ vs H Q E, sp vs H Q E → vs.length = ps.length)
    (hbody : ∀ (cdv : Value) (A : Around) (outer : List Env) (s : Shared) (H : Hp) (vs : List V) (Q : VK) (E : XK), Room k (A.deeper (envOfC qual (defScope st) s.heap.objs.size f cdv)) → sp vs H Q E →
      ∃ t, PSs (cxOf CX0 P w K mg base N qual (defScope st) f cdv A outer s H E).nox (defBody st) t ∧ t { nx := fun _ H' => Q .non H', rt := Q } (start N vs) H) : FnOk P w K mg base CX0 (k + 1) f fd ps sp := by
  obtain ⟨oc, od, kV, doc, pm, an, cdv, ct, osl, rfl, lk, hcd⟩ := F.ex
  refine fn_of lk hcd S len fun A outer s H vs Q E hr hsp => ?_
  obtain ⟨t, h, q⟩ := hbody cdv A outer s H vs Q E hr hsp
  exact ⟨t, h.nox, q⟩
theorem fun_mk {x qual : Str} {st : Stmt} {f : Addr} {oc : Value} {od an : Option Addr} {osl : Array (Option Value)} {kV doc pm cdv ct : Value} (l : K.lookup f = some ⟨oc, od, .func (PySem.W.fnOf x qual (defArgs st) (defBody st) (defScope st) .none kV doc pm an cdv ct), osl⟩)
    (c : PySem.W.codeIn K cdv qual = true) (k : PySem.W.keepIn K (.ref f) = true) : Fun K x qual st f (PySem.W.fnOf x qual (defArgs st) (defBody st) (defScope st) .none kV doc pm an cdv ct) := ⟨⟨oc, od, kV, doc, pm, an, cdv, ct, osl, rfl, l, c⟩, k⟩
end
theorem hu_of {A : Around} {k : Nat} (hr : Room k A) : A.units + 1 < cLine := Nat.lt_of_le_of_lt (Nat.add_le_add_left (by decide : 1 ≤ 64) _) hr.units
section
variable {X : Cx}
theorem pv (i : Nat) {x : Str} {pos : Pos} (hN : X.N[i]? = some x := by rfl) (hv : Vis X.env.scope x := by first | exact Or.inl rfl | exact Or.inr (Or.inl rfl) | exact Or.inr (Or.inr rfl)) (hd : (x == ("__debug__" : Str)) = false := by decide)
    (hcd : (x == ("__classdict__" : Str)) = false := by decide) : PE X (.Name x pos) (tVar i) := pe_var hN hv hd hcd
end

theorem iteF {A B : Prop} (h : B) : if false = true then A else B := by
  rw [if_neg Bool.false_ne_true]
  exact h
theorem iteT {A B : Prop} (h : A) : if true = true then A else B := by
  rw [if_pos rfl]
  exact h
theorem ite2 {c A B : Prop} [Decidable c] (h1 : c → A) (h2 : ¬ c → B) : if c then A else B := by
  by_cases h : c
  · rw [if_pos h]
    exact h1 h
  · rw [if_neg h]
    exact h2 h
/-- all that was tracked is as it was -/
def Same (H H' : Hp) : Prop := ∀ b o, H b = some o → H' b = some o
theorem Same.refl (H : Hp) : Same H H := fun _ _ h => h
theorem Same.trans {H H1 H2 : Hp} (a : Same H H1) (b : Same H1 H2) : Same H H2 := fun c o h => b c o (a c o h)
theorem Same.seq {K : PySem.W.Frag} {H H' : Hp} {a : Addr} {xs : List V} (e : Same H H') (h : SqL K H a xs) : SqL K H' a xs := by
  rcases h with (h | ⟨o, h⟩) | h
  · exact .inl (.inl (e _ _ h))
  · exact .inl (.inr ⟨o, e _ _ h⟩)
  · exact .inr h

end L2

section
set_option Elab.async false
set_option linter.all false
set_option maxRecDepth 100000
set_option maxHeartbeats 4000000
namespace L2
open PySem PySem.Spec PyProof.Rows

def Its (x : Str) : It := ⟨fun i _ => i < x.cps.size, fun i H v H' => H' = H ∧ ∃ c, x.cps[i]? = some c ∧ v = .str ⟨#[c]⟩, fun i _ => i = x.cps.size⟩
theorem turn_str {P : Program} {w : World} {K : PySem.W.Frag} {y : Str} {py : Pos} (it : Addr) (x : Str) (t : Tok) {ty : String}
    (W : ∀ A : Around, A.handled = none → Walks P w A it [it] [it] x.cps.size (SignAt x) (fun i h => h.IsStrIter it ty x t i))
    (S : ∀ (A : Around) (i : Nat) (s : Shared) (Q : Value → Shared → Prop) (E : Value → Shared → Prop), s.heap.IsStrIter it ty x t i → Q (.ref it) s → wpAny (model P w) A (pyIter (.ref it)) Q E s) :
    Turn P w K (.Name y py) (Its x) [it] it (fun i h => h.IsStrIter it ty x t i) where
  mem := by simp
  obj := fun i h st b hb => by
    have e : b = it := by simpa using hb
    subst e
    obtain ⟨o, e, c, d⟩ := st
    exact ⟨o, e, fun v z => by rw [d] at z; cases z⟩
  keep := fun i h h' st k => let ⟨o, ho, r⟩ := st; ⟨o, k it (by simp) o ho, r⟩
  item := by
    intro X hP hw hK hc i pins s σ H E I hf st hg
    subst hP hw hK
    obtain ⟨f0, f1, f2, f3, f4, f5⟩ := hf it (by simp)
    refine (W X.A (I.ok.hd hc)).item i s _ _ hg st fun v h' tk hv st' kk => ?_
    obtain ⟨c, u, e, rfl⟩ := hv
    have I1 : Inv X pins σ H { s with heap := h', toks := tk } := I.turned (fun b o hb e => kk b o (by simpa using hb) e) f0 f1 f3 f4 f5
    exact ⟨_, rfl, wpAny_pure ⟨.str ⟨#[c]⟩, H, I1, ⟨u, rfl⟩, ⟨rfl, c, e, rfl⟩, st', fun b hb => (hf b hb).1⟩⟩
  done := by
    intro X hP hw hK hc i pins s σ H E I hf st hg
    subst hP hw hK
    obtain ⟨f0, f1, f2, f3, f4, f5⟩ := hf it (by simp)
    have e : i = x.cps.size := hg
    subst e
    exact (W X.A (I.ok.hd hc)).done s _ _ st fun h' tk kk => ⟨rfl, I.turned (fun b o hb e => kk b o (by simpa using hb) e) f0 f1 f3 f4 f5⟩
  self := fun A i s Q E st h => S A i s Q E st h
section
variable {X : Cx}
def iStr (tl : TE) : TI := fun σ H R => tl σ H fun v H1 => ∃ x, v = .str x ∧ R (Its x) H1
theorem pi_str {l : Expr} {tl : TE} {y : Str} {py : Pos} (hl : PE X l tl) : PI X (.Name y py) l (iStr tl) := by
  intro pins s σ H R I h
  refine thn (hl pins s σ H _ I h) fun v s1 ⟨z, H1, I1, r1, q1⟩ => ?_
  obtain ⟨x, rfl, q⟩ := q1
  obtain ⟨t, rfl⟩ := r1
  have fin : ∀ (o : Obj) (ty : String), (∀ A : Around, A.handled = none → Walks X.prog X.w A s1.heap.objs.size [s1.heap.objs.size] [s1.heap.objs.size] x.cps.size (SignAt x) (fun i h => h.IsStrIter s1.heap.objs.size ty x t i)) →
      (∀ (A : Around) (i : Nat) (s : Shared) (Q : Value → Shared → Prop) (E : Value → Shared → Prop), s.heap.IsStrIter s1.heap.objs.size ty x t i → Q (.ref s1.heap.objs.size) s → wpAny (model X.prog X.w) A (pyIter (.ref s1.heap.objs.size)) Q E s) →
      (s1.heap.push o).IsStrIter s1.heap.objs.size ty x t 0 → PIE X pins σ (.Name y py) R (.ref s1.heap.objs.size) { s1 with heap := s1.heap.push o } := fun o ty W S st => by
    refine ⟨s1.heap.objs.size, [s1.heap.objs.size], _, _, H1, rfl, I1.kept (t' := s1.toks) fun b o e => Heap.get?_push_of_some _ e, turn_str s1.heap.objs.size x t W S, st, fun b hb => ?_, q⟩
    have e : b = s1.heap.objs.size := by simpa using hb
    subst e
    exact I1.fpOk (Nat.le_refl _) (I1.hok.fresh (Nat.le_refl _))
  cases ha : x.cps.all (· < 128)
  · exact wpAny_pyIter_wide ha (fin _ "str_iterator" (fun A hA => Walks.strWide hA _ x t) (fun _ _ _ _ _ st h => wpAny_pyIter_striter_wide st h) ⟨_, Heap.get?_push_size _ rfl, rfl, rfl⟩)
  · exact wpAny_pyIter_ascii ha (fin _ "str_ascii_iterator" (fun A hA => Walks.strAscii hA _ x t) (fun _ _ _ _ _ st h => wpAny_pyIter_striter_ascii st h) ⟨_, Heap.get?_push_size _ rfl, rfl, rfl⟩)
end
def clOf (env : Env) : List (Str × NameKind) → List (Str × Addr) → List (Str × Addr)
  | [], cs => cs
  | (n, k) :: r, cs => clOf env r (if k == .free then match env.cells.lookup n with | some a => (n, a) :: cs | none => cs else cs)
theorem clOf_from {env : Env} {x : Str} {c : Addr} : ∀ {ns : List (Str × NameKind)} {cs : List (Str × Addr)}, (∀ p ∈ cs, env.cells.lookup p.1 = some p.2) → (clOf env ns cs).lookup x = some c → env.cells.lookup x = some c
  | [], cs, h, e => by
    unfold clOf at e
    exact h (x, c) (PySem.mem_of_lookup e)
  | (n, k) :: r, cs, h, e => by
    unfold clOf at e
    refine clOf_from (ns := r) ?_ e
    intro p hp
    split at hp
    · split at hp
      · rename_i a ea
        rcases List.mem_cons.mp hp with rfl | hp
        · exact ea
        · exact h p hp
      · exact h p hp
    · exact h p hp
theorem lookup_ne_none {x : Str} : ∀ {cs : List (Str × Addr)}, (∃ c, (x, c) ∈ cs) → ∃ c, cs.lookup x = some c
  | [], ⟨_, h⟩ => nomatch h
  | (n, a) :: r, ⟨c, h⟩ => by
    rw [List.lookup_cons]
    cases e : x == n with
    | true => exact ⟨a, rfl⟩
    | false =>
      rcases List.mem_cons.mp h with h | h
      · cases h
        rw [beq_self_eq_true] at e; cases e
      · exact lookup_ne_none ⟨c, h⟩
theorem clOf_has {env : Env} {x : Str} : ∀ {ns : List (Str × NameKind)} {cs : List (Str × Addr)}, ((∃ c, (x, c) ∈ cs) ∨ ((x, NameKind.free) ∈ ns ∧ ∃ c, env.cells.lookup x = some c)) → ∃ c, (x, c) ∈ clOf env ns cs
  | [], cs, h => by
    unfold clOf
    rcases h with h | ⟨h, _⟩
    · exact h
    · cases h
  | (n, k) :: r, cs, h => by
    unfold clOf
    refine clOf_has (ns := r) ?_
    rcases h with ⟨c, h⟩ | ⟨h, c, hc⟩
    · refine .inl ⟨c, ?_⟩
      split
      · split
        · exact List.mem_cons_of_mem _ h
        · exact h
      · exact h
    · rcases List.mem_cons.mp h with h | h
      · cases h
        refine .inl ⟨c, ?_⟩
        rw [if_pos (by decide), hc]
        exact List.mem_cons_self
      · exact .inr ⟨h, c, hc⟩
theorem closureFor_eq {sc : Scope} {env : Env} (h : ∀ p ∈ sc.names, p.2 = NameKind.free → ∃ c, env.cells.lookup p.1 = some c) : closureFor sc env = pure (clOf env sc.names []) := by
  have go : ∀ (ns : List (Str × NameKind)) (cs : List (Str × Addr)), (∀ p ∈ ns, p.2 = NameKind.free → ∃ c, env.cells.lookup p.1 = some c) →
      (forIn ns cs fun (x : Str × NameKind) (r : List (Str × Addr)) => (if (x.2 == NameKind.free) = true then do
          let y ← cellOf env x.1
          pure (ForInStep.yield ((x.1, y) :: r)) else pure (ForInStep.yield r) : Sem (ForInStep (List (Str × Addr))))) = (pure (clOf env ns cs) : Sem (List (Str × Addr))) := by
    intro ns
    induction ns with
    | nil => intro cs _; rfl
    | cons p r ih =>
      intro cs hp
      obtain ⟨n, k⟩ := p
      rw [List.forIn_cons]
      unfold clOf
      by_cases hk : k = NameKind.free
      · subst hk
        obtain ⟨c, hc⟩ := hp (n, .free) List.mem_cons_self rfl
        have e1 : cellOf env n = pure c := by unfold cellOf; rw [hc]
        simp only [beq_self_eq_true, if_true, e1, hc, pure_bind]
        exact ih _ fun q hq => hp q (List.mem_cons_of_mem _ hq)
      · have hb : (k == NameKind.free) = false := by simpa using hk
        simp only [hb, Bool.false_eq_true, if_false, pure_bind]
        exact ih _ fun q hq => hp q (List.mem_cons_of_mem _ hq)
  unfold closureFor
  have := go sc.names [] h
  simp only [bind_pure_comp, id_map'] at this ⊢
  rw [this]
  rfl
end L2

end

section
set_option Elab.async false
set_option linter.all false
set_option maxRecDepth 100000
set_option maxHeartbeats 4000000
namespace L2
open PySem PySem.Spec PyProof.Rows

theorem relabel_lookup {env : Env} {x : Str} {k' : NameKind} : ∀ {ns : List (Str × NameKind)},
    (ns.map fun (n, k) => if (k == NameKind.free && env.scope.kind == .function && env.kindOf n == some .cell) then (n, NameKind.cell) else (n, k)).lookup x = some k' →
    ∃ k, ns.lookup x = some k ∧ (k' = k ∨ (k = .free ∧ k' = .cell))
  | [], h => by simp at h
  | (n, k) :: r, h => by
    have h' : List.lookup x ((if (k == NameKind.free && env.scope.kind == .function && env.kindOf n == some .cell) = true then (n, NameKind.cell) else (n, k)) :: (r.map fun (n, k) => if (k == NameKind.free && env.scope.kind == .function && env.kindOf n == some .cell) then (n, NameKind.cell) else (n, k))) = some k' := h
    rw [List.lookup_cons]
    by_cases hc : (k == NameKind.free && env.scope.kind == .function && env.kindOf n == some .cell) = true
    · rw [if_pos hc, List.lookup_cons] at h'
      cases e : x == n with
      | true =>
        rw [e] at h'
        cases h'
        refine ⟨k, rfl, .inr ⟨?_, rfl⟩⟩
        rw [Bool.and_eq_true, Bool.and_eq_true] at hc
        exact eq_of_beq hc.1.1
      | false =>
        rw [e] at h'
        exact relabel_lookup h'
    · rw [if_neg hc, List.lookup_cons] at h'
      cases e : x == n with
      | true =>
        rw [e] at h'
        cases h'
        exact ⟨_, rfl, .inl rfl⟩
      | false =>
        rw [e] at h'
        exact relabel_lookup h'
theorem relabel_has {env : Env} {x : Str} {k : NameKind} : ∀ {ns : List (Str × NameKind)}, ns.lookup x = some k →
    ∃ k', (ns.map fun (n, k) => if (k == NameKind.free && env.scope.kind == .function && env.kindOf n == some .cell) then (n, NameKind.cell) else (n, k)).lookup x = some k' ∧ (k' = k ∨ (k = .free ∧ k' = .cell))
  | [], h => by simp at h
  | (n, k0) :: r, h => by
    show ∃ k', List.lookup x ((if (k0 == NameKind.free && env.scope.kind == .function && env.kindOf n == some .cell) = true then (n, NameKind.cell) else (n, k0)) :: (r.map fun (n, k) => if (k == NameKind.free && env.scope.kind == .function && env.kindOf n == some .cell) then (n, NameKind.cell) else (n, k))) = some k' ∧ _
    rw [List.lookup_cons] at h
    by_cases hc : (k0 == NameKind.free && env.scope.kind == .function && env.kindOf n == some .cell) = true
    · rw [if_pos hc, List.lookup_cons]
      cases e : x == n with
      | true =>
        rw [e] at h
        cases h
        refine ⟨_, rfl, .inr ⟨?_, rfl⟩⟩
        rw [Bool.and_eq_true, Bool.and_eq_true] at hc
        exact eq_of_beq hc.1.1
      | false =>
        rw [e] at h
        exact relabel_has h
    · rw [if_neg hc, List.lookup_cons]
      cases e : x == n with
      | true =>
        rw [e] at h
        cases h
        exact ⟨_, rfl, .inl rfl⟩
      | false =>
        rw [e] at h
        exact relabel_has h

/-- which slot of the def's a slot of the block has its value from (none: the block's own) -/
abbrev Cap := List (Option Nat)
def capt (ix : Cap) (σ : St) : St := ix.map fun o => (o.bind fun j => σ[j]?).join
def capOk (N N' : List Str) (sc sc' : Scope) (ix : Cap) : Bool :=
  (ix.length == N'.length) && (sc'.kind == .function) &&
  (sc'.names.all fun p => p.2 != .cell && (p.2 != .local || sc'.names.lookup p.1 == some .local) && (p.2 != .free || (sc.names.lookup p.1 == some .cell || sc.names.lookup p.1 == some .free))) &&
  (List.range ix.length).all fun k => match ix[k]? with
    | some (some j) => match N'[k]? with
      | some x => N[j]? == some x && sc'.names.lookup x == some .free
      | none => false
    | _ => true
structure CapOk (N N' : List Str) (sc sc' : Scope) (ix : Cap) : Prop where
  len : ix.length = N'.length
  kind : sc'.kind = .function
  nocell : ∀ p ∈ sc'.names, p.2 ≠ .cell
  loc : ∀ p ∈ sc'.names, p.2 = .local → sc'.names.lookup p.1 = some .local
  fre : ∀ p ∈ sc'.names, p.2 = .free → sc.names.lookup p.1 = some .cell ∨ sc.names.lookup p.1 = some .free
  cap : ∀ (k j : Nat), ix[k]? = some (some j) → ∃ x, N'[k]? = some x ∧ N[j]? = some x ∧ sc'.names.lookup x = some .free
theorem capOk_of {N N' : List Str} {sc sc' : Scope} {ix : Cap} (h : capOk N N' sc sc' ix = true) : CapOk N N' sc sc' ix := by
  unfold capOk at h
  simp only [Bool.and_eq_true, List.all_eq_true, beq_iff_eq] at h
  obtain ⟨⟨⟨h1, h2⟩, h3⟩, h4⟩ := h
  refine ⟨h1, h2, fun p hp => ?_, fun p hp hl => ?_, fun p hp hf => ?_, fun k j hk => ?_⟩
  · have := (h3 p hp).1.1
    simpa using this
  · have := (h3 p hp).1.2
    rw [hl] at this
    simpa using this
  · have := (h3 p hp).2
    rw [hf] at this
    simpa using this
  · have hlt : k < ix.length := (List.getElem?_eq_some_iff.mp hk).1
    have := h4 k (List.mem_range.mpr hlt)
    rw [hk] at this
    simp only at this
    cases e : N'[k]? with
    | none => rw [e] at this; simp at this
    | some x =>
      rw [e] at this
      simp only [Bool.and_eq_true, beq_iff_eq] at this
      exact ⟨x, rfl, this.1, this.2⟩

/-- the block's context -/
abbrev Cx.comp (X : Cx) (sc : Scope) (N' : List Str) (C : Addr) (s₀ : Shared) (H₀ : Hp) (ex : List Addr) : Cx :=
  { X with N := N', s₀ := s₀, H₀ := H₀, env := compEnvC sc (clOf X.env sc.names []) C X.env, outer := X.stack, stack := X.stack, ex := ex, fn := fun _ => false, pn := [], xe := fun _ _ => False }

/-- more is known -/
def Ext (σ σ' : St) : Prop := σ.length = σ'.length ∧ ∀ (i : Nat) v, σ[i]? = some (some v) → σ'[i]? = some (some v)
theorem ext_set {σ : St} {i : Nat} {v : Option V} (h : σ[i]? = some none) : Ext σ (σ.set i v) := by
  refine ⟨by simp, fun j w e => ?_⟩
  by_cases hj : i = j
  · subst hj; rw [h] at e; cases e
  · rw [List.getElem?_set_ne hj]; exact e
/-- the tests of a comprehension's clause -/
def PTs (X : Cx) (ifs : List Expr) (t : TT) : Prop :=
  ∀ (pins : List (Addr × Obj)) (s : Shared) (σ : St) (H : Hp) (Q : Bool → Hp → Prop), Inv X pins σ H s → t σ H Q →
    wpAny (model X.prog X.w) X.A (forIn ifs true fun c r => if r = true then do let ok ← isTrue c X.env (eval c X.env); pure (ForInStep.yield ok) else pure (ForInStep.yield r)) (TP X pins σ Q) X.xe s
def tYes : TT := fun _ H Q => Q true H
theorem pts_nil {X : Cx} : PTs X [] tYes := fun _ _ _ H _ I h => wpAny_tests_nil ⟨H, I, h⟩
/-- what a comprehension's reading asks behind its iterator -/
def CompGo (J : It) (ix : Cap) (g : TG) (tt : TT) (te : TE) (σ : St) (H1 : Hp) (Q : VK) : Prop := ∃ W : Nat → Nat → List V → Hp → Prop, (∃ m, W 0 m [] H1) ∧ ∀ i m ys H, W i m ys H →
  (J.stop i H ∧ ∀ D, H D = none → Q (.ref D) (upd H D (.lst ys))) ∨
  (J.go i H ∧ ys.length < sizeLine ∧ ∀ x H', J.yld i H x H' → g x (capt ix σ) H' fun σ2 H2 => Ext (capt ix σ) σ2 ∧ tt σ2 H2 fun b H3 =>
    if b = true then te σ2 H3 fun y H4 => ∃ m', m' < m ∧ W (i + 1) m' (ys ++ [y]) H4 else ∃ m', m' < m ∧ W (i + 1) m' ys H3)
def tComp (ix : Cap) (wi : TI) (g : TG) (tt : TT) (te : TE) : TE := fun σ H Q => wi σ H fun J H1 => CompGo J ix g tt te σ H1 Q

theorem HOk.track {P : Program} {w : World} {H : Hp} {h : Heap} {a : Addr} {o : HO} (x : HOk P w H h) (hn : H a = none) (new : ObjOk P w (upd H a o) h a o) : HOk P w (upd H a o) h := fun b u e => by
  by_cases hb : b = a
  · subst hb; rw [upd_same] at e; cases e; exact new
  · rw [upd_ne hb] at e
    exact (x b u e).stay (fun c v _ q => q) (fun c q => by rw [upd_ne (ne_of_none q hn)]; exact q) fun c xs q => by rw [upd_ne (ne_of_none q hn)]; exact q

theorem codeAny_compLoop_own {prog : Program} {w : World} {A : Around} {R : Result → Shared → Prop} {s : Shared} {elt target iter : Expr} {ifs : List Expr} {scope : Scope} {pos : Pos} {it acc : Value} {env : Env} (I : Nat → Shared → Prop)
    (turn : ∀ n s, I n s → wpAny (model prog w) A (pyNext it) (fun r s₁ => match r with
      | none => R (.ok .next) s₁
      | some v => wpAny (model prog w) A (letOwnedTupleGo target it v) (fun _ s₁' => wpAny (model prog w) A (assign target env v) (fun _ s₂ =>
          wpAny (model prog w) A (forIn ifs true fun c r => if r = true then do let ok ← isTrue c env (eval c env); pure (ForInStep.yield ok) else pure (ForInStep.yield r)) (fun ok s₃ =>
            if ok = true then wpAny (model prog w) A (eval elt env) (fun x s₄ =>
              wpAny (model prog w) A (call (.builtin "list.append") [acc, x]) (fun _ s₅ => ∃ m, m < n ∧ I m s₅) (notedBy (model prog w) A env fun e s' => R (.error e) s') s₄) (notedBy (model prog w) A env fun e s' => R (.error e) s') s₃
            else ∃ m, m < n ∧ I m s₃) (notedBy (model prog w) A env fun e s' => R (.error e) s') s₂) (notedBy (model prog w) A env fun e s' => R (.error e) s') s₁') (notedBy (model prog w) A env fun e s' => R (.error e) s') s₁) (notedBy (model prog w) A env fun e s' => R (.error e) s') s)
    (n : Nat) (h : I n s) :
    codeAny (model prog w) A (.compLoop (.ListComp elt [⟨target, iter, ifs, 0⟩] scope pos) 0 it acc env) R s := by
  refine codeAny_loop rfl I (fun n s hI => ?_) n h
  show wpAny _ A ((compTurn (.ListComp elt [⟨target, iter, ifs, 0⟩] scope pos) 0 it acc env).onRaise (fun x => do noteFrame x env; theTreesLotGoes x)) _ _ s
  refine wpAny_noted ?_
  rw [compTurn_list]
  refine wpAny_bind (wpAny_standAt (wpAny_bind (wpAny_mono (turn n s hI) (fun r s₁ h₁ => ?_) fun _ _ h' => h')))
  cases r with
  | none => exact wpAny_pure h₁
  | some v =>
    refine wpAny_bind (wpAny_mono h₁ (fun _ s₁' h₁' => ?_) fun _ _ h' => h')
    refine wpAny_bind (wpAny_mono h₁' (fun _ s₂ h₂ => wpAny_bind (wpAny_mono h₂ (fun ok s₃ h₃ => ?_) fun _ _ h' => h')) fun _ _ h' => h')
    cases ok with
    | false => exact wpAny_pure ⟨rfl, h₃⟩
    | true =>
      exact wpAny_bind (wpAny_bind (wpAny_mono h₃ (fun x s₄ h₄ => wpAny_bind (wpAny_mono h₄ (fun _ s₅ h₅ => wpAny_pure (wpAny_pure ⟨rfl, h₅⟩)) fun _ _ h' => h')) fun _ _ h' => h'))

section
variable {X : Cx}
theorem no_exc {M : Model} {A : Around} {α : Type} {t : Sem α} {Q : α → Shared → Prop} {E : Value → Shared → Prop} {s : Shared} (h : wpAny M A t Q (fun _ _ => False) s) : wpAny M A t Q E s := wpAny_mono h (fun _ _ q => q) fun _ _ z => z.elim

/-- the block of a comprehension, from its iterator on: at its end the frame is as it was, a new list is tracked, and the block's own dict may be let go -/
theorem comp_block {elt tg iter : Expr} {ifs : List Expr} {sc : Scope} {pos : Pos} {N' : List Str} {ix : Cap} {g : TG} {tt : TT} {te : TE} {pins : List (Addr × Obj)} {σ : St} {s : Shared} {Q : VK} {RR : Value → Addr → Result → Shared → Prop} {E : Value → Shared → Prop}
    {itv : Value} (hc : X.calm = true) (ok : CapOk X.N N' X.env.scope sc ix)
    (hg : ∀ C s₀ H₀ ex, PG (X.comp sc N' C s₀ H₀ ex) tg g) (ht : ∀ C s₀ H₀ ex, PTs (X.comp sc N' C s₀ H₀ ex) ifs tt) (he : ∀ C s₀ H₀ ex, PE (X.comp sc N' C s₀ H₀ ex) elt te)
    (hi : PIE X pins σ tg (fun J H1 => CompGo J ix g tt te σ H1 Q) itv s)
    (fin : ∀ (D C : Addr) (s' : Shared) (H' : Hp) (m : Str → Option Value), Inv X pins σ H' s' → Q (.ref D) H' → s'.heap.Ns C m → H' C = none → C ≠ X.env.locals → X.s₀.heap.objs.size ≤ C → (∀ x c, X.env.cells.lookup x = some c → c ≠ C) → (∀ p ∈ X.pn ++ pins, p.1 ≠ C) →
      RR (.ref D) C (.ok .next) s') :
    wpAny (model X.prog X.w) X.A (newList []) (fun acc s₃ => wpAny (model X.prog X.w) X.A (newFunctionEnv sc X.env.globals (clOf X.env sc.names []) [] X.env.qual none .none (some X.env)) (fun cenv s₄ =>
      codeAny (model X.prog X.w) X.A (.compStart (.ListComp elt [⟨tg, iter, ifs, 0⟩] sc pos) 0 itv acc { cenv with scope := relabel sc X.env }) (RR acc cenv.locals) s₄) E s₃) E s := by
  obtain ⟨it, fp, tn, J, H2, rfl, I2, T, st2, f2, W, ⟨m0, w0⟩, turn⟩ := hi
  refine wpAny_newObj_type (wpAny_newFunctionEnv ok.nocell (by intro y hy; simp at hy) (fun h₁ hns₁ hsb₁ => ?_) ok.kind)
  dsimp only at hns₁ hsb₁ ⊢
  generalize hHD : s.heap.push { cls := .type "list", dict := none, data := .seq ([] : List Value).toArray } = hD at hns₁ hsb₁ ⊢
  have hCs : hD.objs.size = s.heap.objs.size + 1 := by rw [← hHD, Heap.size_push]
  have upC : s.heap.objs.size < hD.objs.size := by rw [hCs]; exact Nat.lt_succ_self _
  have hDC : s.heap.objs.size ≠ hD.objs.size := by rw [hCs]; exact Nat.ne_of_lt (Nat.lt_succ_self _)
  have below : ∀ b o, s.heap.get? b = some o → b ≠ hD.objs.size ∧ b ≠ s.heap.objs.size := fun b o e => by
    have := Heap.lt_size e
    exact ⟨Nat.ne_of_lt (by rw [hCs]; exact Nat.lt_succ_of_lt this), Nat.ne_of_lt this⟩
  have old : ∀ b o, s.heap.get? b = some o → h₁.get? b = some o := fun b o e => hsb₁.extBut b o (below b o e).1 (Heap.get?_push_of_some _ (hHD ▸ Heap.get?_push_of_some _ e))
  have hacc : h₁.get? s.heap.objs.size = some { cls := .type "list", data := .seq ([] : List Value).toArray 0 } := hsb₁.extBut _ _ hDC (Heap.get?_push_of_some _ (hHD ▸ Heap.get?_push_size _ rfl))
  -- the context
  have fpo : ∀ b ∈ fp, b < s.heap.objs.size := fun b hb => let ⟨o, e, _⟩ := T.obj _ _ st2 b hb; Heap.lt_size e
  have cellX : ∀ x c, (clOf X.env sc.names []).lookup x = some c → X.env.cells.lookup x = some c := fun x c e => clOf_from (fun p hp => absurd hp (by simp)) e
  have cellLt : ∀ x c, X.env.cells.lookup x = some c → c < s.heap.objs.size := fun x c e => let ⟨v, z⟩ := I2.cell x c e; z.lt
  have hasC : ∀ x, (x, NameKind.free) ∈ sc.names → ∃ c, (clOf X.env sc.names []).lookup x = some c := fun x hx => by
    have h1 := I2.ok.has x (ok.fre (x, .free) hx rfl)
    exact lookup_ne_none (clOf_has (.inr ⟨hx, h1⟩))
  have okX : (X.comp sc N' hD.objs.size s H2 fp).Ok := by
    refine ⟨I2.ok.mod, ok.kind, I2.ok.glob, I2.ok.blt, ?_, ?_, ?_, ?_, I2.ok.hd, I2.ok.frames, .inl rfl, ?_, I2.bs, Nat.le_trans I2.ok.bsz I2.sz, ?_, ?_, I2.stack, I2.stkFree⟩
    · exact Nat.le_of_lt upC
    · intro x y c h1 h2
      exact I2.ok.inj x y c (cellX x c h1) (cellX y c h2)
    · intro x hx
      have hx' : (relabel sc X.env).names.lookup x = some .cell ∨ (relabel sc X.env).names.lookup x = some .free := hx
      have : ∃ k, sc.names.lookup x = some k ∧ (k = .free ∨ k = .cell) := by
        rcases hx' with h | h
        · obtain ⟨k, e, z⟩ := relabel_lookup h
          rcases z with z | ⟨z, _⟩
          · exact ⟨k, e, .inr z.symm⟩
          · exact ⟨k, e, .inl z⟩
        · obtain ⟨k, e, z⟩ := relabel_lookup h
          rcases z with z | ⟨_, z⟩
          · exact ⟨k, e, .inl z.symm⟩
          · cases z
      obtain ⟨k, e, z⟩ := this
      rcases z with rfl | rfl
      · exact hasC x (PySem.mem_of_lookup e)
      · exact absurd rfl (ok.nocell _ (PySem.mem_of_lookup e))
    · intro x c h _
      cases h
    · intro b hb
      refine ⟨?_, fun x c e => (f2 b hb).2.2.2.2.1 x c (cellX x c e)⟩
      exact Nat.ne_of_lt (by rw [hCs]; exact Nat.lt_succ_of_lt (fpo b hb))
    · intro b o e hb
      rcases (f2 b hb).2.2.2.1 with z | z
      · exact I2.ok.noex b o e z
      · exact absurd (Nat.lt_of_lt_of_le (Heap.lt_size (I2.ok.bs b o e).1) z) (Nat.lt_irrefl _)
    · intro b hb z
      rcases List.mem_cons.mp (I2.stkSub b z) with z | z
      · exact (f2 b hb).2.1 z
      · exact (f2 b hb).2.2.1 z
  have hnD : H2 s.heap.objs.size = none := I2.hok.fresh (Nat.le_refl _)
  have hnC : H2 hD.objs.size = none := I2.hok.fresh (Nat.le_of_lt upC)
  have nofsD : ∀ a, s.heap.objs.size ≤ a → a ∉ frs X.stack := fun a ha z => by
    rcases List.mem_cons.mp (I2.stkSub a z) with z | z
    · exact absurd (Nat.lt_of_lt_of_le I2.lt ha) (by rw [z]; exact Nat.lt_irrefl _)
    · exact I2.nofs ha z
  have start : Inv (X.comp sc N' hD.objs.size s H2 fp) [(s.heap.objs.size, { cls := .type "list", data := .seq ([] : List Value).toArray 0 })] (capt ix σ) H2 { s with heap := h₁, toks := s.toks + ([] : List (Str × Value)).length } := by
    refine ⟨okX, rfl, I2.bare, Un.kept old, ⟨_, hns₁, ?_⟩, fun x c e => ?_, hnC, fun x c e => I2.freeC x c (cellX x c e), fun p hp => ?_, I2.hok.kept old, ?_⟩
    · intro i x v hN hv hvis
      have hl : i < ix.length := by rw [ok.len]; exact (List.getElem?_eq_some_iff.mp hN).1
      have hv' : (ix.map fun o => (o.bind fun j => σ[j]?).join)[i]? = some (some v) := hv
      rw [List.getElem?_map, List.getElem?_eq_getElem hl] at hv'
      have hv'' : ((ix[i].bind fun j => σ[j]?).join) = some v := Option.some.inj hv'
      cases ej : ix[i] with
      | none => rw [ej] at hv''; cases hv''
      | some j =>
        rw [ej] at hv''
        have hσ : σ[j]? = some (some v) := by
          have z : (σ[j]?).join = some v := hv''
          cases q : σ[j]? with
          | none => rw [q] at z; cases z
          | some o => rw [q] at z; exact congrArg some z
        obtain ⟨x', e1, e2, e3⟩ := ok.cap i j (by rw [List.getElem?_eq_getElem hl, ej])
        rw [show N'[i]? = some x from hN] at e1
        cases e1
        have hk := ok.fre (x, .free) (PySem.mem_of_lookup e3) rfl
        obtain ⟨m, hm, hl'⟩ := I2.loc
        obtain ⟨u, ru, lk⟩ := hl' j x v e2 hσ (hk.elim (fun z => .inr (.inl z)) fun z => .inr (.inr z))
        refine ⟨u, ru, .inr ⟨?_, ?_⟩⟩
        · show (relabel sc X.env).names.lookup x = some .cell ∨ (relabel sc X.env).names.lookup x = some .free
          obtain ⟨k', q1, q2⟩ := relabel_has (env := X.env) e3
          rcases q2 with q2 | ⟨_, q2⟩
          · exact .inr (q1.trans (congrArg some q2))
          · exact .inl (q1.trans (congrArg some q2))
        · obtain ⟨c, hc'⟩ := hasC x (PySem.mem_of_lookup e3)
          refine ⟨c, hc', ?_⟩
          rcases lk with ⟨z, _⟩ | ⟨_, c', ec, ⟨o, ho, hd⟩⟩
          · have z' : X.env.scope.names.lookup x = some .local := z
            rcases hk with hk | hk
            · rw [z'] at hk; cases hk
            · rw [z'] at hk; cases hk
          · rw [cellX x c hc'] at ec
            cases ec
            exact ⟨o, old _ _ ho, hd⟩
    · obtain ⟨v, o, ho, hd⟩ := I2.cell x c (cellX x c e)
      exact ⟨v, o, old _ _ ho, hd⟩
    · have e : p = (s.heap.objs.size, { cls := .type "list", data := .seq ([] : List Value).toArray 0 }) := by simpa using hp
      subst e
      exact ⟨hacc, hnD, hDC, nofsD _ (Nat.le_refl _), fun v z => by cases z⟩
    · show (ix.map _).length = N'.length
      rw [List.length_map]
      exact ok.len
  have st1 : tn 0 h₁ := T.keep _ _ _ st2 fun b hb o e => old b o e
  have loop : ∀ s₃ : Shared, s₃ = { s with heap := h₁, toks := s.toks + ([] : List (Str × Value)).length } →
      codeAny (model X.prog X.w) X.A (.compLoop (.ListComp elt [⟨tg, iter, ifs, 0⟩] sc pos) 0 (.ref it) (.ref s.heap.objs.size) (compEnvC sc (clOf X.env sc.names []) hD.objs.size X.env))
        (RR (.ref s.heap.objs.size) hD.objs.size) s₃ := by
    rintro s₃ rfl
    have fpI : ∀ {H' : Hp} {o : Obj}, (∀ b ∈ fp, H' b = none) → ∀ b ∈ fp, FpOk (X.comp sc N' hD.objs.size s H2 fp) [(s.heap.objs.size, o)] H' b := fun {H' o} hn b hb => by
      have hlt := fpo b hb
      refine ⟨hn b hb, (okX.exf b hb).1, okX.exfs b hb, .inl hb, (okX.exf b hb).2, fun p hp => ?_⟩
      have e : p = (s.heap.objs.size, o) := by simpa using hp
      subst e
      exact Nat.ne_of_gt hlt
    refine codeAny_compLoop_own (fun n s' => ∃ i ys its k H', Inv (X.comp sc N' hD.objs.size s H2 fp) [(s.heap.objs.size, { cls := .type "list", data := .seq its.toArray k })] (capt ix σ) H' s' ∧ Vals ys its ∧ ys.length ≤ sizeLine ∧ tn i s'.heap ∧ (∀ b ∈ fp, H' b = none) ∧ W i n ys H')
      ?_ m0 ⟨0, [], [], 0, H2, start, .nil, Nat.zero_le _, st1, fun b hb => (f2 b hb).1, w0⟩
    rintro n s4 ⟨i, ys, its, k, H4, I4, r4, z4, st4, fr4, w4⟩
    rcases turn i n ys H4 w4 with ⟨stop, q⟩ | ⟨go, hz, step⟩
    · refine no_exc (thn (T.done (X.comp sc N' hD.objs.size s H2 fp) rfl rfl rfl hc i _ s4 _ H4 (fun _ _ => False) I4 (fpI fr4) st4 stop) fun r s5 ⟨hr, I5⟩ => ?_)
      subst hr
      show RR (.ref s.heap.objs.size) hD.objs.size (.ok .next) s5
      obtain ⟨pD, nD, _, _, _⟩ := I5.pin (s.heap.objs.size, { cls := .type "list", data := .seq its.toArray k }) (by simp)
      obtain ⟨m5, hm5, _⟩ := I5.loc
      have okD : HOk X.prog X.w (upd H4 s.heap.objs.size (.lst ys)) s5.heap := I5.hok.track nD ⟨z4, its, k, r4, pD⟩
      have un : Un (frs X.stack) fp H2 (upd H4 s.heap.objs.size (.lst ys)) s.heap s5.heap := by
        have B : Un (frs X.stack) fp H2 H4 s.heap s5.heap := I5.base
        have ne : ∀ b u, H2 b = some u → b ≠ s.heap.objs.size := fun b u e => ne_of_none e hnD
        refine ⟨B.keep, B.slot, fun b o e n hb => ?_, B.there, fun b xs e => ?_, fun b o u e => ?_, fun b ps e => ?_⟩
        · rw [upd_ne (below b o e).2]; exact B.free b o e n hb
        · rw [upd_ne (ne b _ e)]; exact B.tups b xs e
        · rw [upd_ne (ne b _ e)]; exact B.frzs b o u e
        · rw [upd_ne (ne b _ e)]; exact B.tbls b ps e
      have IX : Inv X pins σ (upd H4 s.heap.objs.size (.lst ys)) s5 := I2.call' (ch := fp) I5.os un okD I5.bare fun b hb => ⟨(f2 b hb).2.2.2.1, (f2 b hb).2.1, (f2 b hb).2.2.2.2.1, (f2 b hb).2.2.2.2.2⟩
      refine fin _ _ s5 _ m5 IX (q _ nD) hm5 ?_ (Nat.ne_of_gt (Nat.lt_trans I2.lt upC)) (Nat.le_of_lt (Nat.lt_of_le_of_lt I2.sz upC)) (fun x c e => Nat.ne_of_lt (Nat.lt_trans (cellLt x c e) upC)) (fun p hp => Nat.ne_of_lt (Nat.lt_trans (Heap.lt_size (I2.pin p hp).1) upC))
      rw [upd_ne (Ne.symm hDC)]; exact I5.free
    · refine no_exc (thn (T.item (X.comp sc N' hD.objs.size s H2 fp) rfl rfl rfl hc i _ s4 _ H4 (fun _ _ => False) I4 (fpI fr4) st4 go) fun r s5 ⟨u, hr, h5⟩ => ?_)
      subst hr
      refine no_exc (thn h5 fun _ s6 ⟨x, H6, I6, r6, y6, st6, fr6⟩ => ?_)
      have I6' := I6.pinned (fpI fr6) (T.obj _ _ st6)
      refine no_exc (thn (hg _ _ _ _ _ s6 _ H6 x u _ I6' r6 (step x H6 y6)) fun _ s7 ⟨σ7, H7, I7, x7, q7⟩ => ?_)
      refine no_exc (thn (ht _ _ _ _ _ s7 σ7 H7 _ I7 q7) fun b s8 ⟨H8, I8, q8⟩ => ?_)
      -- what is left of a turn
      have back : ∀ {s9 : Shared} {H9 : Hp}, Inv (X.comp sc N' hD.objs.size s H2 fp) ([(s.heap.objs.size, { cls := .type "list", data := .seq its.toArray k })] ++ pinsAt fp s6.heap) σ7 H9 s9 →
          Inv (X.comp sc N' hD.objs.size s H2 fp) [(s.heap.objs.size, { cls := .type "list", data := .seq its.toArray k })] (capt ix σ) H9 s9 ∧ tn (i + 1) s9.heap ∧ (∀ b ∈ fp, H9 b = none) := fun {s9 H9} J9 => by
        refine ⟨(J9.unpinned).weak x7.1 x7.2, T.keep _ _ _ st6 fun b hb o e => (J9.pin (b, o) (List.mem_append_right _ (List.mem_append_right _ (mem_pinsAt hb e)))).1, fun b hb => ?_⟩
        obtain ⟨o, e, d⟩ := T.obj _ _ st6 b hb
        exact (J9.pin (b, o) (List.mem_append_right _ (List.mem_append_right _ (mem_pinsAt hb e)))).2.1
      cases b with
      | false =>
        rw [if_neg Bool.false_ne_true] at q8 ⊢
        obtain ⟨m', hm, w8⟩ := q8
        obtain ⟨J8, st8, fr8⟩ := back I8
        exact ⟨m', hm, i + 1, ys, its, k, H8, J8, r4, z4, st8, fr8, w8⟩
      | true =>
        rw [if_pos rfl] at q8 ⊢
        refine no_exc (thn (he _ _ _ _ _ s8 σ7 H8 _ I8 q8) fun y s9 ⟨v9, H9, I9, r9, q9⟩ => ?_)
        obtain ⟨m', hm, w9⟩ := q9
        obtain ⟨J9, st9, fr9⟩ := back I9
        obtain ⟨pD, nD, neC, nf, _⟩ := J9.pin (s.heap.objs.size, { cls := .type "list", data := .seq its.toArray k }) (by simp)
        have hlen := r4.length
        refine call_meets F.slot_list_append ⟨_, pD, rfl⟩ F.entry_list_append (F.args_list_append_2 _ _) (PySem.list_append s.heap.objs.size its.toArray k y (by rw [List.size_toArray]; omega)) ⟨pD, ?_⟩
        have q := PySem.IsL.update pD (·.push y)
        have ep : its.toArray.push y = (its ++ [y]).toArray := by simp
        dsimp only at q
        rw [ep] at q
        obtain ⟨k', q⟩ : ∃ k', (s9.heap.update s.heap.objs.size (Obj.mapSeq (·.push y))).get? s.heap.objs.size = some { cls := .type "list", data := .seq (its ++ [y]).toArray k' } := ⟨_, q⟩
        have J0 : Inv (X.comp sc N' hD.objs.size s H2 fp) [] (capt ix σ) H9 s9 := J9.pins_of fun p hp => absurd hp (by simp)
        have J1 : Inv (X.comp sc N' hD.objs.size s H2 fp) [] (capt ix σ) H9 { s9 with heap := s9.heap.update s.heap.objs.size (Obj.mapSeq (·.push y)) } :=
          J0.turned (it := s.heap.objs.size) (t' := s9.toks) (fun b o hb e => (Heap.get?_update_other _ _ (Ne.symm hb)).trans e) nD neC (.inr (Nat.le_refl _)) (fun x c e => Nat.ne_of_lt (cellLt x c (cellX x c e))) fun p hp => absurd hp (by simp)
        refine ⟨m', hm, i + 1, ys ++ [v9], its ++ [y], k', H9, J1.pins_of fun p hp => ?_, r4.append (.cons r9 .nil), ?_, T.keep _ _ _ st9 fun b hb o e => (Heap.get?_update_other _ _ ?_).trans e, fr9, w9⟩
        · have e : p = _ := List.mem_singleton.mp hp
          subst e
          exact ⟨q, nD, neC, nf, fun v z => by cases z⟩
        · rw [List.length_append, List.length_singleton]; omega
        · exact Nat.ne_of_gt (fpo b hb)
  exact codeAny_compStart_list (loop _ rfl) (T.self _ 0 _ _ _ st1 (loop _ rfl))

/-- letting the block's dict go -/
theorem Inv.letGo {pins : List (Addr × Obj)} {σ : St} {H : Hp} {s : Shared} {C : Addr} {h' : Heap} (I : Inv X pins σ H s) (hs : Heap.SameBut C s.heap h') (h0 : H C = none) (h1 : C ≠ X.env.locals) (h2 : X.s₀.heap.objs.size ≤ C) (h3 : ∀ x c, X.env.cells.lookup x = some c → c ≠ C)
    (h4 : ∀ p ∈ X.pn ++ pins, p.1 ≠ C) : Inv X pins σ H { s with heap := h' } := I.turned (t' := s.toks) (fun b o hb e => (hs.2 b hb).trans e) h0 h1 (.inr h2) h3 h4

/-- [elt for tg in iter if ..] -/
theorem pe_comp {elt tg iter : Expr} {ifs : List Expr} {sc : Scope} {pos : Pos} (N' : List Str) (ix : Cap) {wi : TI} {g : TG} {tt : TT} {te : TE} (hc : X.calm = true) (hok : capOk X.N N' X.env.scope sc ix = true)
    (hi : PI X tg iter wi) (hg : ∀ C s₀ H₀ ex, PG (X.comp sc N' C s₀ H₀ ex) tg g) (ht : ∀ C s₀ H₀ ex, PTs (X.comp sc N' C s₀ H₀ ex) ifs tt) (he : ∀ C s₀ H₀ ex, PE (X.comp sc N' C s₀ H₀ ex) elt te)
    (hs : ∀ x, foldedSetIterable iter X.env x = pure x := by intro _; rfl) : PE X (.ListComp elt [⟨tg, iter, ifs, 0⟩] sc pos) (tComp ix wi g tt te) := by
  intro pins s σ H Q I h
  have ok := capOk_of hok
  rw [eval_ListComp]
  refine wpAny_comprehension_free (use := none) rfl hs (closureFor_eq fun p hp hk => I.ok.has p.1 (ok.fre p hp hk)) ok.kind ok.loc (thn (hi pins s σ H _ I h) fun v s1 h1 => thn h1 fun itv s2 h2 => ?_)
  refine comp_block (RR := fun acc C => compPost (model X.prog X.w) X.A X.xe none (EP X pins σ Q) acc C) hc ok hg ht he h2 ?_
  intro D C s' H' m I' q hm h0 h1 h2 h3 h4
  exact ⟨m, hm, fun h' hsb => ⟨.ref D, H', I'.letGo hsb h0 h1 h2 h3 h4, rfl, q⟩⟩
/-- name = [elt for tg in iter if ..] -/
theorem ps_setComp {elt tg iter : Expr} {ifs : List Expr} {sc : Scope} {pos spos py : Pos} {i : Nat} {y : Str} (N' : List Str) (ix : Cap) {wi : TI} {g : TG} {tt : TT} {te : TE} (hc : X.calm = true) (hok : capOk X.N N' X.env.scope sc ix = true)
    (hN : X.N.Nodup) (hy : X.N[i]? = some y) (hx : Loc X.env.scope y)
    (hi : PI X tg iter wi) (hg : ∀ C s₀ H₀ ex, PG (X.comp sc N' C s₀ H₀ ex) tg g) (ht : ∀ C s₀ H₀ ex, PTs (X.comp sc N' C s₀ H₀ ex) ifs tt) (he : ∀ C s₀ H₀ ex, PE (X.comp sc N' C s₀ H₀ ex) elt te)
    (hs : ∀ x, foldedSetIterable iter X.env x = pure x := by intro _; rfl) (hsw : swapsWith (.ListComp elt [⟨tg, iter, ifs, 0⟩] sc pos) (some (.Name y py)) spos.line X.env = pure true := by rfl)
    (hf : X.fn y = true ∨ X.env.scope.names.lookup y = some .local := by first | exact .inl rfl | exact .inr rfl | assumption) :
    PS X (.Assign [.Name y py] (.ListComp elt [⟨tg, iter, ifs, 0⟩] sc pos) spos) (tAsg (tComp ix wi g tt te) (gName i)) := by
  intro pins s σ H D I h
  have ok := capOk_of hok
  rw [exec_Assign_Name_used _ _ _ _ hsw]
  refine wpAny_bind (wpAny_standAt (wpAny_bind ?_))
  show wpAny _ X.A (do let _ ← comprehension (.ListComp elt [⟨tg, iter, ifs, 0⟩] sc pos) sc X.env _ (newList []) false (eval iter X.env) (some (assign (.Name y py) X.env))) _ _ s
  refine wpAny_bind (wpAny_mono (wpAny_comprehension_free (use := some (assign (.Name y py) X.env)) (Q := fun _ s' => SP X pins D .next s') rfl hs (closureFor_eq fun p hp hk => I.ok.has p.1 (ok.fre p hp hk)) ok.kind ok.loc
    (thn (hi pins s σ H _ I h) fun v s1 h1 => thn h1 fun itv s2 h2 => ?_)) (fun _ s' hq => wpAny_pure (wpAny_pure hq)) fun _ _ e => e)
  refine comp_block (Q := fun x H1 => gName i x σ H1 D.nx) (RR := fun acc C => compPost (model X.prog X.w) X.A X.xe (some (assign (.Name y py) X.env)) (fun _ s' => SP X pins D .next s') acc C) hc ok hg ht he h2 ?_
  intro Dl C s' H' m I' q hm h0 h1 h2 h3 h4
  refine wpAny_assign_Name (store_ok2 I' hN hy hx (v := .ref Dl) rfl (fun s3 I3 sb => ?_) hf)
  obtain ⟨a, hsb, ha⟩ := sb
  have hne : C ≠ a := by
    rcases ha with e | e
    · rw [e]; exact h1
    · exact Ne.symm (h3 y a e)
  exact ⟨m, hm.sameBut hsb hne, fun h' hs' => ⟨_, H', I3.letGo hs' h0 h1 h2 h3 h4, q⟩⟩
end

section
variable {ix : Cap} {tt : TT} {te : TE} {g : TG} {σ : St} {H : Hp} {Q : VK}
/-- what a turn is to reach -/
def Nxt (Pv : Nat → List V → Hp → Prop) (n i : Nat) (ys : List V) : VK := fun y H2 => ∃ m', m' < n - i ∧ m' = n - (i + 1) ∧ i + 1 ≤ n ∧ (ys ++ [y]).length = i + 1 ∧ Pv (i + 1) (ys ++ [y]) H2
theorem nxt {Pv : Nat → List V → Hp → Prop} {n i : Nat} {ys : List V} {y : V} {H2 : Hp} (hi : i < n) (hl : ys.length = i) (h : Pv (i + 1) (ys ++ [y]) H2) : Nxt Pv n i ys y H2 :=
  ⟨n - (i + 1), by omega, rfl, hi, by rw [List.length_append, List.length_singleton, hl], h⟩
/-- over a range, a Name target in slot j, no test -/
theorem comp_range {lo : Int} {n j : Nat} (Pv : Nat → List V → Hp → Prop) (hj : (capt ix σ)[j]? = some none) (h0 : Pv 0 [] H) (hn : n < sizeLine)
    (hs : ∀ i ys H, i < n → ys.length = i → Pv i ys H → te ((capt ix σ).set j (some (.int (lo + i)))) H (Nxt Pv n i ys))
    (hd : ∀ ys H, ys.length = n → Pv n ys H → ∀ D, H D = none → Q (.ref D) (upd H D (.lst ys))) : CompGo (Itr lo n) ix (gName j) tYes te σ H Q := by
  refine ⟨fun i m ys H => m = n - i ∧ i ≤ n ∧ ys.length = i ∧ Pv i ys H, ⟨n, by simp, Nat.zero_le _, rfl, h0⟩, ?_⟩
  rintro i m ys H ⟨rfl, hi, hl, p⟩
  by_cases hlt : i < n
  · refine .inr ⟨hlt, by omega, fun x H' y => ?_⟩
    obtain ⟨e, y⟩ := y
    subst e y
    refine ⟨ext_set hj, ?_⟩
    unfold tYes
    dsimp only
    rw [if_pos rfl]
    exact hs i ys _ hlt hl p
  · have e : i = n := by omega
    subst e
    exact .inl ⟨Nat.le_refl _, hd ys H hl p⟩
/-- over a text's signs -/
theorem comp_str {x : Str} {j : Nat} (Pv : Nat → List V → Hp → Prop) (hj : (capt ix σ)[j]? = some none) (h0 : Pv 0 [] H) (hn : x.cps.size < sizeLine)
    (hs : ∀ i c ys H, x.cps[i]? = some c → ys.length = i → Pv i ys H → te ((capt ix σ).set j (some (.str ⟨#[c]⟩))) H (Nxt Pv x.cps.size i ys))
    (hd : ∀ ys H, ys.length = x.cps.size → Pv x.cps.size ys H → ∀ D, H D = none → Q (.ref D) (upd H D (.lst ys))) : CompGo (Its x) ix (gName j) tYes te σ H Q := by
  refine ⟨fun i m ys H => m = x.cps.size - i ∧ i ≤ x.cps.size ∧ ys.length = i ∧ Pv i ys H, ⟨x.cps.size, by simp, Nat.zero_le _, rfl, h0⟩, ?_⟩
  rintro i m ys H ⟨rfl, hi, hl, p⟩
  by_cases hlt : i < x.cps.size
  · refine .inr ⟨hlt, by omega, fun v H' y => ?_⟩
    obtain ⟨e, c, hc, ev⟩ := y
    subst e ev
    refine ⟨ext_set hj, ?_⟩
    unfold tYes
    dsimp only
    rw [if_pos rfl]
    exact hs i c ys _ hc hl p
  · have e : i = x.cps.size := by omega
    subst e
    exact .inl ⟨rfl, hd ys H hl p⟩
/-- over a list that stays as it is -/
theorem comp_list {K : PySem.W.Frag} {a : Addr} {xs : List V} {j : Nat} (Pv : Nat → List V → Hp → Prop) (hj : (capt ix σ)[j]? = some none) (h0 : Pv 0 [] H) (hn : xs.length < sizeLine) (hl' : ∀ i ys H, i ≤ xs.length → Pv i ys H → SqL K H a xs)
    (hs : ∀ i x ys H, xs[i]? = some x → ys.length = i → Pv i ys H → te ((capt ix σ).set j (some x)) H (Nxt Pv xs.length i ys))
    (hd : ∀ ys H, ys.length = xs.length → Pv xs.length ys H → ∀ D, H D = none → Q (.ref D) (upd H D (.lst ys))) : CompGo (Itl K a) ix (gName j) tYes te σ H Q := by
  refine ⟨fun i m ys H => m = xs.length - i ∧ i ≤ xs.length ∧ ys.length = i ∧ Pv i ys H, ⟨xs.length, by simp, Nat.zero_le _, rfl, h0⟩, ?_⟩
  rintro i m ys H ⟨rfl, hi, hl, p⟩
  have q := hl' i ys H hi p
  by_cases hlt : i < xs.length
  · refine .inr ⟨⟨xs, xs[i], q, by simp [hlt]⟩, by omega, fun v H' y => ?_⟩
    obtain ⟨e, y⟩ := y
    subst e
    refine ⟨ext_set hj, ?_⟩
    unfold tYes
    dsimp only
    rw [if_pos rfl]
    exact hs i v ys _ (y xs q) hl p
  · have e : i = xs.length := by omega
    subst e
    exact .inl ⟨⟨xs, q, Nat.le_refl _⟩, hd ys H hl p⟩
end
end L2

end

section
set_option Elab.async false
set_option linter.all false
set_option maxRecDepth 100000
set_option maxHeartbeats 4000000
namespace L2
open PySem PySem.Spec PyProof.Rows

section
variable {X : Cx}
def CDivB (i j : Int) : Prop := 0 < j ∧ j < 2 ^ 64
theorem op_fdivB : OpR X (binaryOp .FloorDiv) (rI CDivB fun i j => .int (i / j)) := opI fun i j _ _ _ _ _ hc q => by
  have h1 : (0 : Int) < j := hc.1
  have h2 : j < 2 ^ 64 := hc.2
  refine floordiv_int (by omega) (by rw [Int.fdiv_eq_ediv_of_nonneg i (by omega)]; exact q) (.inl (PyProof.noPylong_of_log2 ?_))
  have h3 : j.natAbs < 2 ^ 64 := by omega
  have h0 : j.natAbs ≠ 0 := by omega
  have h4 : j.natAbs.log2 < 64 := (Nat.log2_lt h0).mpr h3
  omega

theorem strsAre_of {ys : List Str} : ∀ {us : List Value}, Vals (ys.map V.str) us → StrsAre us ys := by
  induction ys with
  | nil => intro us r; rw [List.map_nil] at r; cases r; exact .nil
  | cons n ns ih =>
    intro us r
    rw [List.map_cons] at r
    cases r with
    | cons r1 r2 =>
      obtain ⟨t, e⟩ := r1
      subst e
      exact .cons n t (ih r2)
def rJoin (K : PySem.W.Frag) : V → List V → Hp → VK → Prop := fun x vs H Q => ∃ (sep : Str) (p : Addr) (ys : List Str), x = .str sep ∧ vs = [.ref p] ∧ SqL K H p (ys.map V.str) ∧ (ys.map (·.length)).sum + ys.length * sep.length ≤ 16777216 ∧ Q (.str (Txt.join sep ys)) H
theorem mt_join : MtR X "str.join" (rJoin X.K) := by
  intro pins s σ H x vs v us Q I rx rv h
  obtain ⟨sep, p, ys, rfl, rfl, hq, hz, q⟩ := h
  obtain ⟨t, rfl⟩ := rx
  obtain ⟨u, rfl, ru⟩ := rv.one
  cases ru
  obtain ⟨its, r, pl, _⟩ := I.list hq
  exact join_list pl.isList (by simpa using strsAre_of r) hz fun t' k => ⟨.str _, H, I.tok k, ⟨t', rfl⟩, q⟩
/-- x[lo:hi] of a text -/
def rSlS : V → Option Int → Option Int → Hp → VK → Prop := fun x lo hi H Q => ∃ z : Str, x = .str z ∧ z.length ≤ sizeLine ∧ Q (.str (Txt.slice z lo hi)) H
theorem sl_str : SlR X rSlS := by
  intro pins s σ H x v vl vu lo hi sl Q I rx hs pl pu h
  obtain ⟨z, rfl, hz, q⟩ := h
  obtain ⟨t, rfl⟩ := rx
  refine ⟨"str", _, F.slot_str_getitem.lookup, typeIs_str _ _ _, ?_⟩
  have hq : ∀ (o : Str), o = Txt.slice z lo hi → o.length ≤ sizeLine ∧ ∀ t' k, EP X pins σ Q (.str o t') { s with toks := k } := fun o e => by
    subst e
    exact ⟨Nat.le_trans (Txt.slice_le z _ _) hz, fun t' k => ⟨.str _, H, I.tok k, ⟨t', rfl⟩, q⟩⟩
  obtain ⟨os, hos, hcs, hds⟩ := hs
  cases pl with
  | none =>
    cases pu with
    | none => exact wpAny_getItem_str_slice (l := none) (u := none) (st := none) ⟨os, hos, hcs, hds⟩ rfl (post_val_or_str (hq _ rfl))
    | int j uj => exact wpAny_getItem_str_slice (l := none) (u := some (j, uj)) (st := none) ⟨os, hos, hcs, hds⟩ rfl (post_val_or_str (hq _ rfl))
  | int i ui =>
    cases pu with
    | none => exact wpAny_getItem_str_slice (l := some (i, ui)) (u := none) (st := none) ⟨os, hos, hcs, hds⟩ rfl (post_val_or_str (hq _ rfl))
    | int j uj => exact wpAny_getItem_str_slice (l := some (i, ui)) (u := some (j, uj)) (st := none) ⟨os, hos, hcs, hds⟩ rfl (post_val_or_str (hq _ rfl))

theorem call_all (hc : X.calm = true) : CallR X (.builtin "all") (fun xs H Q => ∃ (p : Addr) (bs : List Bool), xs = [.ref p] ∧ SqL X.K H p (bs.map V.bl) ∧ Q (.bl (bs.all id)) H) := by
  intro pins s σ H xs us Q I r h
  obtain ⟨p, bs, rfl, hq, q⟩ := h
  obtain ⟨u, rfl, ru⟩ := vals1 r
  cases ru
  obtain ⟨its, rv, pl, hz⟩ := I.list hq
  have hlen := rv.length
  rw [List.length_map] at hlen
  have hlt : p < s.heap.objs.size := by obtain ⟨_, e, _⟩ := pl.isList; exact Heap.lt_size e
  refine call_all_walk (wpAny_pyIter_list pl.isList ?_)
  refine ⟨s.heap.objs.size, _, _, _, _, _, fun i => bs.getD i true, rfl, Walks.list (A := X.A.in1) (I.ok.hd hc) s.heap.objs.size p (Nat.ne_of_lt hlt) its.toArray, ⟨⟨_, Heap.get?_push_size _ rfl, rfl, rfl⟩, pl.isList.push _⟩, ?_, ?_⟩
  · intro i v s' Q' E' hv hQ
    have hv' : its[i]? = some v := by simpa using hv
    have hi : i < bs.length := by
      have := (List.getElem?_eq_some_iff.mp hv').1
      omega
    obtain ⟨u', e, ru⟩ := rv.get (i := i) (x := V.bl bs[i]) (by rw [List.getElem?_map, List.getElem?_eq_getElem hi] <;> rfl)
    rw [hv'] at e
    cases e
    cases ru
    dsimp only at hQ
    rw [List.getD_eq_getElem?_getD, List.getElem?_eq_getElem hi] at hQ
    exact wpAny_truthy_bool hQ
  · intro h' tk kk
    have I1 : Inv X pins σ H { s with heap := s.heap.push { cls := .type "list_iterator", data := .fields #[.ref p, .int 0 0] } } := I.kept (t' := s.toks) fun b o e => Heap.get?_push_of_some _ e
    obtain ⟨f0, f1, f2, f3, f4, f5⟩ := I.fpOk (b := s.heap.objs.size) (Nat.le_refl _) (I.hok.fresh (Nat.le_refl _))
    have I2 : Inv X pins σ H { s with heap := h', toks := tk } := I1.turned (fun b o hb e => kk b o (by simpa using hb) e) f0 f1 f3 f4 f5
    refine ⟨.bl _, H, I2, rfl, ?_⟩
    have e : (List.range its.toArray.size).all (fun i => bs.getD i true) = bs.all id := by
      rw [List.size_toArray, ← hlen]
      rw [Bool.eq_iff_iff]
      simp only [List.all_eq_true, List.mem_range, id]
      constructor
      · intro h b hb
        obtain ⟨i, hi, e⟩ := List.mem_iff_getElem.mp hb
        have := h i hi
        rw [List.getD_eq_getElem?_getD, List.getElem?_eq_getElem hi] at this
        rw [← e]
        exact this
      · intro h i hi
        rw [List.getD_eq_getElem?_getD, List.getElem?_eq_getElem hi]
        exact h _ (List.getElem_mem hi)
    rw [e]
    exact q

theorem call_isinst : CallR X (.builtin "isinstance") (fun xs H Q => ∃ x y c t b, xs = [x, y] ∧ (∀ u, RelV y u → u = c) ∧ TyOf X.K H x t ∧ PySem.W.kitOne X.K t c = some b ∧ Q (.bl b) H) := by
  intro pins s σ H xs us Q I r h
  obtain ⟨x, y, c, t, b, rfl, hy, ty, e, q⟩ := h
  obtain ⟨u, v, rfl, ru, rv⟩ := r.two
  obtain rfl := hy v rv
  exact isinst_ok I ru ty e fun tk => ⟨.bl b, H, I.tok tk, rfl, q⟩

def eqVs : List V → List V → Bool
  | [], [] => true
  | x :: xs, y :: ys => eqV x y && eqVs xs ys
  | _, _ => false
theorem eqVs_len : ∀ {xs ys : List V}, xs.length ≠ ys.length → eqVs xs ys = false
  | [], [], h => absurd rfl h
  | [], _ :: _, _ => rfl
  | _ :: _, [], _ => rfl
  | x :: xs, y :: ys, h => by
    show (eqV x y && eqVs xs ys) = false
    rw [eqVs_len (xs := xs) (ys := ys) (by simpa using h), Bool.and_false]
theorem eqVs_range : ∀ {xs ys : List V}, xs.length = ys.length → (List.range xs.length).all (fun i => eqV (xs.getD i .non) (ys.getD i .non)) = eqVs xs ys
  | [], [], _ => rfl
  | [], _ :: _, h => by cases h
  | _ :: _, [], h => by cases h
  | x :: xs, y :: ys, h => by
    rw [List.length_cons, List.range_succ_eq_map, List.all_cons, List.all_map]
    show (eqV x y && (List.range xs.length).all (fun i => eqV (xs.getD i .non) (ys.getD i .non))) = (eqV x y && eqVs xs ys)
    rw [eqVs_range (xs := xs) (ys := ys) (by simpa using h)]
def rEqL (K : PySem.W.Frag) : R2 := fun x y H Q => ∃ a b xs ys, x = .ref a ∧ y = .ref b ∧ SqL K H a xs ∧ SqL K H b ys ∧ xs.all flatV = true ∧ ys.all flatV = true ∧ Q (.bl (eqVs xs ys)) H
theorem op_eqL (hu : X.A.units < cLine) : OpR X (compareOp .Eq) (rEqL X.K) := by
  intro pins s σ H x y v u Q I rx ry h
  obtain ⟨a, b, xs, ys, rfl, rfl, ha, hb, fa, fb, q⟩ := h
  cases rx
  cases ry
  obtain ⟨its, r1, p1, _⟩ := I.list ha
  obtain ⟨its2, r2, p2, _⟩ := I.list hb
  have l1 := r1.length
  have l2 := r2.length
  by_cases hl : xs.length = ys.length
  · refine SeqAt.eq_listAt (e := fun i => eqV (xs.getD i .non) (ys.getD i .non)) p1.isList p2.isList (by simp only [List.size_toArray]; omega) hu (fun j h1 h2 => ?_) ⟨.bl _, H, I, rfl, ?_⟩
    · have j1 : j < xs.length := by simp only [List.size_toArray] at h1; omega
      have j2 : j < ys.length := by simp only [List.size_toArray] at h2; omega
      obtain ⟨u1, e1, q1⟩ := r1.get (i := j) (x := xs[j]) (List.getElem?_eq_getElem j1)
      obtain ⟨u2, e2, q2⟩ := r2.get (i := j) (x := ys[j]) (List.getElem?_eq_getElem j2)
      have g1 : its.toArray[j] = u1 := by
        have : its[j]? = some its[j] := List.getElem?_eq_getElem (by omega)
        rw [e1] at this
        simpa using (Option.some.inj this).symm
      have g2 : its2.toArray[j] = u2 := by
        have : its2[j]? = some its2[j] := List.getElem?_eq_getElem (by omega)
        rw [e2] at this
        simpa using (Option.some.inj this).symm
      rw [g1, g2, List.getD_eq_getElem?_getD, List.getD_eq_getElem?_getD, List.getElem?_eq_getElem j1, List.getElem?_eq_getElem j2]
      exact eqAt_V q1 q2 (List.all_eq_true.mp fa _ (List.getElem_mem j1)) (List.all_eq_true.mp fb _ (List.getElem_mem j2))
    · rw [List.size_toArray, ← l1, eqVs_range hl]
      exact q
  · refine SeqAt.eq_list_lengthsAt p1.isList p2.isList (by simp only [List.size_toArray]; simp; omega) hu ⟨.bl _, H, I, rfl, ?_⟩
    rw [eqVs_len hl] at q
    exact q
end

/-- all that was tracked is as it was but for what stands at a -/
def SameBut (a : Addr) (H H' : Hp) : Prop := ∀ b o, H b = some o → b ≠ a → H' b = some o
theorem SameBut.trans {a : Addr} {H H1 H2 : Hp} (h : SameBut a H H1) (k : SameBut a H1 H2) : SameBut a H H2 := fun b o e n => k b o (h b o e n) n
theorem SameBut.upd (a : Addr) (H : Hp) (o : HO) : SameBut a H (upd H a o) := fun b u e n => by rw [upd_ne n]; exact e
theorem Same.but {a : Addr} {H H' : Hp} (h : Same H H') : SameBut a H H' := fun b o e _ => h b o e
theorem Same.new {H : Hp} {p : Addr} (h : H p = none) (o : HO) : Same H (upd H p o) := fun b u q => by rw [upd_ne (ne_of_none q h)]; exact q
theorem none_of_same {H H' : Hp} {p : Addr} (h : Same H H') (n : H' p = none) : H p = none := by
  cases e : H p with
  | none => rfl
  | some o => rw [h p o e] at n; cases n
end L2

end

section
set_option Elab.async false
set_option linter.all false
set_option maxRecDepth 100000
set_option maxHeartbeats 4000000
namespace L2
open PySem PySem.Spec PyProof.Rows
structure DefTx (K : PySem.W.Frag) (mg : Str → Option Value) (x : Str) (st : Stmt) (ps : List Str) : Prop where
  ex : ∃ (f : Addr) (fd : FuncData), Fun K x x st f fd ∧ mg x = some (.ref f) ∧ ∀ us : List Value, us.length = ps.length → bindArgs fd ⟨us, []⟩ = pure (ps.zip us)
structure DefIs (P : Program) (w : World) (K : PySem.W.Frag) (mg : Str → Option Value) (base : Heap) (n : Nat) (x : Str) (ps : List Str) (sp : Sp) : Prop where
  ex : ∃ (f : Addr) (fd : FuncData), FnOk P w K mg base CX0 n f fd ps sp ∧ Binds K fd ps [] ∧ PySem.W.keepIn K (.ref f) = true ∧ mg x = some (.ref f) ∧ ∃ oc od osl, K.lookup f = some ⟨oc, od, .func fd, osl⟩
theorem fun_at {K : PySem.W.Frag} {x : Str} {st : Stmt} {f : Addr} {fd : FuncData} (F : Fun K x x st f fd) : ∃ oc od osl, K.lookup f = some ⟨oc, od, .func fd, osl⟩ := by
  obtain ⟨oc, od, kV, doc, pm, an, cdv, ct, osl, _, l, _⟩ := F.ex
  exact ⟨oc, od, osl, l⟩
section
variable {P : Program} {w : World} {K : PySem.W.Frag} {mg : Str → Option Value} {base : Heap} {n m : Nat} {x : Str} {ps N : List Str} {sp : Sp} {st : Stmt}
theorem DefIs.mono (D : DefIs P w K mg base n x ps sp) (h : n ≤ m) : DefIs P w K mg base m x ps sp := by
  obtain ⟨f, fd, F, r⟩ := D.ex
  exact ⟨f, fd, F.mono h, r⟩
theorem DefIs.imp {sp' : Sp} (D : DefIs P w K mg base n x ps sp) (h : ∀ vs H Q E, sp' vs H Q E → sp vs H Q E) : DefIs P w K mg base n x ps sp' := by
  obtain ⟨f, fd, F, r⟩ := D.ex
  exact ⟨f, fd, F.imp h, r⟩
theorem DefIs.of (T : DefTx K mg x st ps) (S : FnScope N ps (defScope st)) (len : ∀ vs H Q E, sp vs H Q E → vs.length = ps.length)
    (hbody : ∀ (f : Addr) (cdv : Value) (A : Around) (outer : List Env) (s : Shared) (H : Hp) (vs : List V) (Q : VK) (E : XK), Room n (A.deeper (envOfC x (defScope st) s.heap.objs.size f cdv)) → sp vs H Q E →
      ∃ t, PSs (cxOf CX0 P w K mg base N x (defScope st) f cdv A outer s H E).nox (defBody st) t ∧ t { nx := fun _ H' => Q .non H', rt := Q } (start N vs) H) : DefIs P w K mg base (n + 1) x ps sp := by
  obtain ⟨f, fd, F, m, b⟩ := T.ex
  exact ⟨f, fd, F.ok S len (fun cdv A outer s H vs Q E hr h => hbody f cdv A outer s H vs Q E hr h), Binds.all b, F.kp, m, fun_at F⟩
theorem DefIs.none (T : DefTx K mg x st ps) (no : ∀ vs H Q E, ¬ sp vs H Q E) : DefIs P w K mg base n x ps sp := by
  obtain ⟨f, fd, F, m, b⟩ := T.ex
  exact ⟨f, fd, ⟨fun vs H Q E h => absurd h (no vs H Q E), fun A outer s H args us vs Q E _ _ _ _ h => absurd h (no vs H Q E)⟩, Binds.all b, F.kp, m, fun_at F⟩
end
section
variable {X : Cx} {n : Nat} {x : Str} {ps : List Str} {sp : Sp} {e : Expr} {es : List Expr} {p pos : Pos} {t : TA}
theorem pe_dcall (D : DefIs X.prog X.w X.K X.mg X.base n x ps sp) (hr : Room n X.A) (ha : PA X (e :: es) t) (hg : Gl X x := by rfl) (hdb : (x == ("__debug__" : Str)) = false := by decide)
    (he : starEach (e :: es) X.env = (false, eval e X.env) :: starEach es X.env := by rfl) (hpl : (backTo pos (starEach es X.env)).any (·.1) = false := by rfl) : PE X (.Call (.Name x p) (e :: es) [] pos) (tCall sp [] E0 t) := by
  obtain ⟨f, fd, F, b, k, m, _⟩ := D.ex
  exact pe_call F hr hg m k b .nil pass0 ha hdb he hpl
/-- a global int, text -/
theorem pe_gint {i : Int} (hm : ∃ t, X.mg x = some (.int i t)) (hg : Gl X x := by rfl) (hd : (x == ("__debug__" : Str)) = false := by decide) : PE X (.Name x pos) (tC (.int i)) := by
  obtain ⟨t, h⟩ := hm
  exact pe_glob hg h ⟨t, rfl⟩ hd
theorem pe_gstr {z : Str} (hm : ∃ t, X.mg x = some (.str z t)) (hg : Gl X x := by rfl) (hd : (x == ("__debug__" : Str)) = false := by decide) : PE X (.Name x pos) (tC (.str z)) := by
  obtain ⟨t, h⟩ := hm
  exact pe_glob hg h ⟨t, rfl⟩ hd
theorem pe_gref {a : Addr} (hm : X.mg x = some (.ref a)) (hg : Gl X x := by rfl) (hd : (x == ("__debug__" : Str)) = false := by decide) : PE X (.Name x pos) (tC (.ref a)) := pe_glob hg hm rfl hd
theorem pe_gty {T : String} (hm : X.mg x = none) (hv : bootBuiltins x = some (.type T)) (hg : Gl X x := by rfl) (hn : x ≠ "__name__" := by decide) (hd : (x == ("__debug__" : Str)) = false := by decide) : PE X (.Name x pos) (tC (.ty T)) := pe_bltn hg hm hv rfl hn hd
end
/-- the feed at a holds two ints, all else is as it was -/
def Fed (a : Addr) (H H' : Hp) : Prop := SameBut a H H' ∧ ∃ p q : Int, H' a = some (.lst [.int p, .int q])
theorem Fed.trans {a : Addr} {H H1 H2 : Hp} (h : Fed a H H1) (k : Fed a H1 H2) : Fed a H H2 := ⟨h.1.trans k.1, k.2⟩
theorem Fed.of {a : Addr} {H : Hp} {p q : Int} : Fed a H (upd H a (.lst [.int p, .int q])) := ⟨SameBut.upd a H _, p, q, upd_same⟩
theorem Fed.new {a D : Addr} {H H' : Hp} (h : Fed a H H') (n : H' D = none) (o : HO) : Fed a H (upd H' D o) := by
  obtain ⟨s, p, q, e⟩ := h
  exact ⟨s.trans (Same.new n o).but, p, q, Same.new n o _ _ e⟩
theorem Fed.same {a : Addr} {H H' H'' : Hp} (h : Fed a H H') (s : Same H' H'') : Fed a H H'' := by
  obtain ⟨k, p, q, e⟩ := h
  exact ⟨k.trans s.but, p, q, s _ _ e⟩
end L2
namespace L2
open PySem PySem.Spec PyProof.Rows
theorem deftx_mk {K : PySem.W.Frag} {h : Heap} {mg : Str → Option Value} (X : K.In h) (G : h.Ns mainGlobals mg) {x : Str} {st : Stmt} {ps : List Str} {f : Addr} {oc : Value} {od an : Option Addr} {osl : Array (Option Value)} {kV doc pm cdv ct : Value}
    (a : PySem.W.nsIn K mainGlobals x = some (some (.ref f))) (l : K.lookup f = some ⟨oc, od, .func (PySem.W.fnOf x x (defArgs st) (defBody st) (defScope st) .none kV doc pm an cdv ct), osl⟩)
    (c : PySem.W.codeIn K cdv x = true) (k : PySem.W.keepIn K (.ref f) = true)
    (b : ∀ (kV doc pm : Value) (an : Option Addr) (cdv ct : Value) (us : List Value), us.length = ps.length → bindArgs (PySem.W.fnOf x x (defArgs st) (defBody st) (defScope st) .none kV doc pm an cdv ct) ⟨us, []⟩ = pure (ps.zip us)) : DefTx K mg x st ps := by
  have F := fun_mk (st := st) l c k
  exact ⟨f, _, F, PySem.W.mg_of X G a, b kV doc pm an cdv ct⟩
/-- the law's own def, for the walk -/
theorem law_top {P : Program} {w : World} {K : PySem.W.Frag} {mg : Str → Option Value} {n : Nat} {x y : Str} {st : Stmt} {sp : Sp} {fa : Addr} (T : DefTx K mg x st [y]) (hmg : mg x = some (.ref fa)) (D : ∀ base, DefIs P w K mg base n x [y] sp) :
    ∃ fd : FuncData, (∀ (s : Shared) (u : Value), BindsTo s fd ⟨[u], []⟩ [(y, u)]) ∧ ∀ base : Heap, K.In base → base.Ns mainGlobals mg → FnOk P w K mg base CX0 n fa fd [y] sp := by
  obtain ⟨f, fd, F, m, b⟩ := T.ex
  rw [hmg] at m
  cases m
  refine ⟨fd, fun s u => .of_eq (b [u] rfl), fun base _ _ => ?_⟩
  obtain ⟨f', fd', G, _, _, m', oc, od, osl, l⟩ := (D base).ex
  rw [hmg] at m'
  cases m'
  obtain ⟨oc2, od2, osl2, l2⟩ := fun_at F
  rw [l] at l2
  cases l2
  exact G
theorem gint_mk {K : PySem.W.Frag} {h : Heap} {mg : Str → Option Value} (X : K.In h) (G : h.Ns mainGlobals mg) {x : Str} {i : Int} {t : Tok} (a : PySem.W.nsIn K mainGlobals x = some (some (.int i t))) : ∃ t, mg x = some (.int i t) := ⟨t, PySem.W.mg_of X G a⟩
theorem gstr_mk {K : PySem.W.Frag} {h : Heap} {mg : Str → Option Value} (X : K.In h) (G : h.Ns mainGlobals mg) {x : Str} {i : Str} {t : Tok} (a : PySem.W.nsIn K mainGlobals x = some (some (.str i t))) : ∃ t, mg x = some (.str i t) := ⟨t, PySem.W.mg_of X G a⟩
theorem gtup_mk {K : PySem.W.Frag} {h : Heap} {mg : Str → Option Value} (X : K.In h) (G : h.Ns mainGlobals mg) {x : Str} {p : Addr} {od : Option Addr} {its : Array Value} {n : Nat} {osl : Array (Option Value)} {xs : List V}
    (a : PySem.W.nsIn K mainGlobals x = some (some (.ref p))) (l : K.lookup p = some ⟨.type "tuple", od, .seq its n, osl⟩) (z : its.size ≤ sizeLine) (r : Vals xs its.toList) : ∃ a, mg x = some (.ref a) ∧ ∀ H, SqT K H a xs :=
  ⟨p, PySem.W.mg_of X G a, fun _ => .inr ⟨_, its, n, l, rfl, rfl, z, r⟩⟩
end L2

end

section
set_option Elab.async false
set_option linter.all false
set_option maxRecDepth 100000
set_option maxHeartbeats 4000000
namespace Zt
open PySem
section
variable {prog : Program} {w : World} {A : Around} {E : Value → Shared → Prop} {s : Shared}
end
section
variable {prog : Program} {w : World} {A : Around} {R : Result → Shared → Prop} {S z TI TO i1 i2 l1 l2 : Addr} {xs ys : Array Value} {n B : Nat}
end
section
variable {prog : Program} {w : World} {A : Around} {R : Result → Shared → Prop} {s : Shared} {S z TI TO i1 i2 l1 l2 : Addr} {xs ys : Array Value} {n B : Nat}
end
section
variable {prog : Program} {w : World} {A : Around} {E : Value → Shared → Prop} {s : Shared} {z TI TO i1 i2 l1 l2 : Addr} {xs ys : Array Value} {n B : Nat}
end
section
variable {prog : Program} {w : World} {A : Around} {E : Value → Shared → Prop} {s : Shared}
end
end Zt

end

section
set_option Elab.async false
set_option linter.all false
set_option maxRecDepth 100000
set_option maxHeartbeats 4000000
namespace L2
open PySem PySem.Spec PyProof.Rows
abbrev TJ := St → Hp → Str → VK → Prop
def PJ (X : Cx) (es : List Expr) (t : TJ) : Prop :=
  ∀ (pins : List (Addr × Obj)) (s : Shared) (σ : St) (H : Hp) (out : Str) (Q : VK), Inv X pins σ H s → t σ H out Q → wpAny (model X.prog X.w) X.A (joinParts out (evalEach es X.env)) (EP X pins σ Q) X.xe s
def jNil : TJ := fun _ H out Q => out.length ≤ sizeLine ∧ Q (.str out) H
def jLit (x : Str) (t : TJ) : TJ := fun σ H out Q => (out ++ x).length ≤ sizeLine ∧ t σ H (out ++ x) Q
def jStr (te : TE) (t : TJ) : TJ := fun σ H out Q => te σ H fun v H1 => ∃ x, v = .str x ∧ x.length ≤ sizeLine ∧ (out ++ x).length ≤ sizeLine ∧ t σ H1 (out ++ x) Q
def jInt (te : TE) (t : TJ) : TJ := fun σ H out Q => te σ H fun v H1 => ∃ i : Int, v = .int i ∧ i.natAbs.log2 < 1920 ∧ (out ++ Str.ofString (toString i)).length ≤ sizeLine ∧ t σ H1 (out ++ Str.ofString (toString i)) Q
section
variable {X : Cx} {e e1 e2 : Expr} {es : List Expr} {te : TE} {t : TJ} {pos : Pos}
theorem pj_nil : PJ X [] jNil := fun _ _ _ H out _ I h => joinParts_nilE (joinParts_nil ⟨.str out, H, I.tok _, ⟨_, rfl⟩, h.2⟩ h.1)
theorem pj_lit {x : Str} {j} (h : PJ X es t) : PJ X (.Constant (.str x) j pos :: es) (jLit x t) := by
  intro pins s σ H out Q I hw
  refine joinParts_consE (joinParts_cons (thn (pe_str (X := X) pins s σ H (fun v H' => v = .str x ∧ H' = H) I ⟨rfl, rfl⟩) fun v s1 ⟨z, H1, I1, r, e1, e2⟩ => ?_))
  subst e1 e2
  obtain ⟨t', rfl⟩ := r
  exact ⟨hw.1, h pins s1 σ _ _ Q I1 hw.2⟩
theorem pj_str (he : PE X e te) (h : PJ X es t) : PJ X (.FormattedValue e (-1) none pos :: es) (jStr te t) := by
  intro pins s σ H out Q I hw
  refine joinParts_consE (joinParts_cons (FormattedValue_plain (thn (he pins s σ H _ I hw) fun v s1 ⟨z, H1, I1, r, x, e, hz, hl, q⟩ => ?_)))
  subst e
  obtain ⟨t', rfl⟩ := r
  exact formatField_str (fun t'' tk => ⟨hl, h pins _ σ H1 _ Q (I1.tok tk) q⟩) hz
theorem pj_int (he : PE X e te) (h : PJ X es t) : PJ X (.FormattedValue e (-1) none pos :: es) (jInt te t) := by
  intro pins s σ H out Q I hw
  refine joinParts_consE (joinParts_cons (FormattedValue_plain (thn (he pins s σ H _ I hw) fun v s1 ⟨z, H1, I1, r, i, e, hz, hl, q⟩ => ?_)))
  subst e
  obtain ⟨t', rfl⟩ := r
  exact formatField_int_small hz ⟨hl, h pins _ σ H1 _ Q (I1.tok _) q⟩
theorem pe_fstr (h : PJ X (e1 :: e2 :: es) t) : PE X (.JoinedStr (e1 :: e2 :: es) pos) (fun σ H Q => t σ H Str.empty Q) := fun pins s σ H Q I hw => JoinedStr_many (h pins s σ H _ Q I hw)
end
section
variable {X : Cx}
theorem strVals_of : ∀ {l : List (Str × Tok)} {ys : List Str}, l.map (·.1) = ys → Vals (ys.map V.str) (strValues l)
  | [], ys, h => by subst h; exact .nil
  | (x, t) :: l, ys, h => by
    subst h
    exact .cons ⟨t, rfl⟩ (strVals_of rfl)
def rSplit : V → List V → Hp → VK → Prop := fun x vs H Q => ∃ z y : Str, x = .str z ∧ vs = [.str y] ∧ (y.length == 0) = false ∧ z.length + 2 ≤ sizeLine ∧ ∀ p, H p = none → Q (.ref p) (upd H p (.lst ((Txt.split z y).map V.str)))
theorem split_few {z y : Str} (h : z.length + 2 ≤ sizeLine) : (Builtin.Str.partsBetween z (Builtin.Str.occurrences z y 0 z.length (z.length + 1)) y.length).length ≤ sizeLine := by
  rw [StrLaws.partsBetween_eq]
  have pl : ∀ (cuts : List Nat) (a : Nat), (StrLaws.partsFrom z y.length a cuts).length = cuts.length + 1 := by
    intro cuts
    induction cuts with
    | nil => intro a; rfl
    | cons c r ih => intro a; show (StrLaws.partsFrom z y.length (c + y.length) r).length + 1 = _; rw [ih]; rfl
  rw [pl]
  have := StrLaws.occ_length_le_len z y 0 z.length (z.length + 1)
  omega
theorem split_len {z y : Str} (h : z.length + 2 ≤ sizeLine) : (Txt.split z y).length ≤ sizeLine := by
  unfold Txt.split
  split
  · show 1 ≤ sizeLine; omega
  · split
    · show 1 ≤ sizeLine; omega
    · exact split_few h
theorem mt_split : MtR X "str.split" rSplit := by
  intro pins s σ H x xs v us Q I rx rv h
  obtain ⟨z, y, rfl, rfl, hy, hz, q⟩ := h
  obtain ⟨t, rfl⟩ := rx
  obtain ⟨u, rfl, ru⟩ := rv.one
  obtain ⟨t', rfl⟩ := ru
  have fin : ∀ (l : List (Str × Tok)) (k : Nat), l.map (·.1) = Txt.split z y → EP X pins σ Q (.ref s.heap.objs.size) { s with heap := s.heap.push { cls := .type "list", data := .seq (strValues l).toArray }, toks := k } := fun l k e => by
    have r := strVals_of e
    have hl : ((Txt.split z y).map V.str).length ≤ sizeLine := by rw [List.length_map]; exact split_len hz
    exact ⟨.ref s.heap.objs.size, upd H s.heap.objs.size (.lst ((Txt.split z y).map V.str)), I.laid (t' := k) (fun b o e => Heap.get?_push_of_some _ e) (Nat.le_refl _) ⟨hl, strValues l, 0, r, Heap.get?_push_size _ rfl⟩, rfl, q _ (I.hok.fresh (Nat.le_refl _))⟩
  have hsz : z.length ≤ sizeLine := by omega
  cases h1 : (decide (z.length < y.length) || decide (Builtin.Str.strKind z < Builtin.Str.strKind y))
  · cases hf : (Builtin.Str.occurrences z y 0 z.length (z.length + 1)).isEmpty
    · refine call_meets F.slot_str_split (typeIs_str _ _ _) F.entry_str_split (F.args_str_split_2 _ _) (meets_str_split_sep z y t t' h1 hy hf hsz (split_few hz)) ?_
      show EP X pins σ Q _ { s with toks := _, heap := s.heap.push { cls := .type "list", data := .seq (strsFrom s.toks (Builtin.Str.partsBetween z (Builtin.Str.occurrences z y 0 z.length (z.length + 1)) y.length)).toArray } }
      rw [strsFrom_eq]
      exact fin (numbered s.toks _) _ ((numbered_texts _ _).trans ((if_neg (ne_true_of_eq_false h1)).trans (if_neg (ne_true_of_eq_false hf))).symm)
    · exact call_meets F.slot_str_split (typeIs_str _ _ _) F.entry_str_split (F.args_str_split_2 _ _) (meets_str_split_not_found z y t t' h1 hy hf)
        (fin [(z, t)] _ ((if_neg (ne_true_of_eq_false h1)).trans (if_pos hf)).symm)
  · exact call_meets F.slot_str_split (typeIs_str _ _ _) F.entry_str_split (F.args_str_split_2 _ _) (meets_str_split_cannot_occur z y t t' h1)
      (fin [(z, t)] _ (if_pos h1).symm)
def rRstrip : V → List V → Hp → VK → Prop := fun x vs H Q => ∃ z y : Str, x = .str z ∧ vs = [.str y] ∧ z.length ≤ sizeLine ∧ Q (.str (Txt.rstripChars z y)) H
theorem mt_rstrip : MtR X "str.rstrip" rRstrip := by
  intro pins s σ H x xs v us Q I rx rv h
  obtain ⟨z, y, rfl, rfl, hz, q⟩ := h
  obtain ⟨t, rfl⟩ := rx
  obtain ⟨u, rfl, ru⟩ := rv.one
  obtain ⟨t', rfl⟩ := ru
  exact SC.rstripChars (fun t'' k => ⟨.str _, H, I.tok k, ⟨t'', rfl⟩, q⟩) hz
def rStarts : V → List V → Hp → VK → Prop := fun x vs H Q => ∃ z y : Str, x = .str z ∧ vs = [.str y] ∧ Q (.bl (Txt.startswith z y)) H
theorem mt_startswith : MtR X "str.startswith" rStarts := by
  intro pins s σ H x xs v us Q I rx rv h
  obtain ⟨z, y, rfl, rfl, q⟩ := h
  obtain ⟨t, rfl⟩ := rx
  obtain ⟨u, rfl, ru⟩ := rv.one
  obtain ⟨t', rfl⟩ := ru
  exact SC.startswith ⟨.bl _, H, I, rfl, q⟩
theorem call_int_str : CallR X (.type "int") (fun xs H Q => ∃ (x : Str) (n : Int), xs = [.str x] ∧ intText? x = some n ∧ x.length ≤ 640 ∧ Q (.int n) H) := by
  intro pins s σ H xs us Q I r h
  obtain ⟨x, n, rfl, hn, hl, q⟩ := h
  obtain ⟨u, rfl, ru⟩ := vals1 r
  obtain ⟨t, rfl⟩ := ru
  exact PySem.W.KIN.call_text hn hl ⟨.int n, H, I.tok _, ⟨_, rfl⟩, q⟩
def rNeE (K : PySem.W.Frag) : R2 := fun x y H Q => ∃ a b xs, x = .ref a ∧ y = .ref b ∧ SqL K H a xs ∧ SqL K H b [] ∧ Q (.bl (!xs.isEmpty)) H
theorem op_neE (hu : X.A.units < cLine) : OpR X (compareOp .NotEq) (rNeE X.K) := by
  intro pins s σ H x y v u Q I rx ry h
  obtain ⟨a, b, xs, rfl, rfl, ha, hb, q⟩ := h
  cases rx
  cases ry
  obtain ⟨its, r1, p1, _⟩ := I.list ha
  obtain ⟨its2, r2, p2, _⟩ := I.list hb
  have l1 := r1.length
  have l2 := r2.length
  cases xs with
  | nil =>
    refine PySem.EqBoolInt.of_rcne (SeqAt.RcNeAt.lists (e := fun _ => true) p1.isList p2.isList (by simp only [List.size_toArray]; omega) hu fun j h1 h2 => ?_) ⟨.bl _, H, I, rfl, ?_⟩
    · simp only [List.size_toArray] at h1
      simp at l1
      omega
    · have : its = [] := List.eq_nil_of_length_eq_zero (by simpa using l1.symm)
      subst this
      exact q
  | cons x xs =>
    refine PySem.EqBoolInt.of_rcne (SeqAt.RcNeAt.lists_lengths p1.isList p2.isList (by simp only [List.size_toArray]; simp at l1 l2 ⊢; omega) hu) ⟨.bl _, H, I, rfl, ?_⟩
    simpa using q
end
section
variable {X : Cx} {a b : Expr} {ta tb : TE} {p1 p2 q1 q2 : Pos}
end
end L2

end

section
set_option Elab.async false
set_option linter.all false
set_option maxRecDepth 100000
set_option maxHeartbeats 4000000
namespace L2
open PySem PySem.Spec PyProof.Rows
section
variable {es : List Expr} {env : Env}
theorem star_const {c k p} : starEach (.Constant c k p :: es) env = (false, eval (.Constant c k p) env) :: starEach es env := rfl
theorem star_name {x p} : starEach (.Name x p :: es) env = (false, eval (.Name x p) env) :: starEach es env := rfl
theorem star_call {a b c d} : starEach (.Call a b c d :: es) env = (false, eval (.Call a b c d) env) :: starEach es env := rfl
theorem star_bin {a b c d} : starEach (.BinOp a b c d :: es) env = (false, eval (.BinOp a b c d) env) :: starEach es env := rfl
theorem star_sub {a b c} : starEach (.Subscript a b c :: es) env = (false, eval (.Subscript a b c) env) :: starEach es env := rfl
theorem star_tup {a b c} : starEach (.Tuple a b c :: es) env = (false, eval (.Tuple a b c) env) :: starEach es env := rfl
theorem star_lst {a b} : starEach (.List a b :: es) env = (false, eval (.List a b) env) :: starEach es env := rfl
theorem star_cmp {a b c d} : starEach (.Compare a b c d :: es) env = (false, eval (.Compare a b c d) env) :: starEach es env := rfl
theorem star_bool {a b c} : starEach (.BoolOp a b c :: es) env = (false, eval (.BoolOp a b c) env) :: starEach es env := rfl
theorem star_un {a b c} : starEach (.UnaryOp a b c :: es) env = (false, eval (.UnaryOp a b c) env) :: starEach es env := rfl
theorem star_fstr {a b} : starEach (.JoinedStr a b :: es) env = (false, eval (.JoinedStr a b) env) :: starEach es env := rfl
theorem star_comp {a b c d} : starEach (.ListComp a b c d :: es) env = (false, eval (.ListComp a b c d) env) :: starEach es env := rfl
theorem star_attr {a b c} : starEach (.Attribute a b c :: es) env = (false, eval (.Attribute a b c) env) :: starEach es env := rfl
end
end L2
namespace L2
open PySem PySem.Spec PyProof.Rows
def str1 : Expr → Option Str
  | .Constant (.str x) _ _ => some x
  | _ => none
def strsOf : List Expr → Option (List Str)
  | [] => some []
  | e :: es => (str1 e).bind fun x => (strsOf es).map (x :: ·)
theorem str1_is {e : Expr} {x : Str} (h : str1 e = some x) : ∃ j p, e = .Constant (.str x) j p := by
  unfold str1 at h
  split at h
  · cases h; exact ⟨_, _, rfl⟩
  · cases h
def tStrs (xs : List Str) : TA := fun _ H Q => Q (xs.map V.str) H
theorem pa_imp {X : Cx} {es : List Expr} {t t' : TA} (h : PA X es t) (i : ∀ σ H Q, t' σ H Q → t σ H Q) : PA X es t' := fun pos pins s σ H Q I hw => h pos pins s σ H Q I (i σ H Q hw)
theorem pa_strs {X : Cx} : ∀ {es : List Expr} (xs : List Str), strsOf es = some xs → PA X es (tStrs xs)
  | [], xs, h => by
    cases h
    exact pa_nil
  | e :: es, xs, h => by
    cases e1 : str1 e with
    | none => rw [strsOf, e1] at h; cases h
    | some x =>
      cases e2 : strsOf es with
      | none => rw [strsOf, e1, e2] at h; cases h
      | some ys =>
        rw [strsOf, e1, e2] at h
        cases h
        obtain ⟨j, p, rfl⟩ := str1_is e1
        exact pa_imp (pa_cons (pe_str (x := x) (j := j) (pos := p)) (pa_strs (X := X) ys e2) star_const) fun σ H Q hw => hw
end L2

end

section
set_option Elab.async false
set_option linter.all false
set_option maxRecDepth 100000
set_option maxHeartbeats 1000000
namespace L2
open PySem PySem.Spec PySem.W PySem.Calls PyProof.Rows
open Builtin Builtin.ObjectAttr

section
variable {prog : Program} {w : World} {A : Around} {E : Value → Shared → Prop} {s : Shared} {K : Frag} {x C : Addr} {ox : Obj} {od : Option Obj} {name : Str}

/-- what an own class of refusals must have -/
structure XCls (K : Frag) (C : Addr) : Prop where
  ga : findIn K (.ref C) "__getattribute__" = some (some (.builtin "BaseException.__getattribute__"))
  gk : findIn K (.ref C) "__getattr__" = some none
  mb : mroIn K C (.type "BaseException") = some true
  mo : mroIn K C (.type "object") = some true
  hd : hasDictIn K C = true
  ca : findIn K (.ref C) "__class__" = some (some (.builtin "object.__class__"))
  cn : specialIn K (.builtin "object.__class__") "__get__" = some (some (.builtin "getset_descriptor.__get__"))
  ct : takesIn K (.builtin "object.__class__") = some true

theorem exc_by {tk : Tok} {fill expr : Bool} {Q P : Value → Shared → Prop} (X : K.In s.heap) (I : InstAt s.heap x ox C od) (c : XCls K C)
    (h : ∀ (A' A'' : Around) (R : Result → Shared → Prop), (∀ v s', P v s' → R (.ok (.ret v)) s') → wpAny (model prog w) A' (Builtin.«object.__getattribute__» ⟨[.ref x, .str name tk], []⟩)
      (fun fin s' => match fin with | .done f => R (.ok f) s' | .again c' => c'.quiet = true ∧ codeAny (model prog w) A'' c' R s') (fun e s' => R (.error e) s') s)
    (hP : ∀ v s', P v s' → wpAny (model prog w) A (handedOut v) Q E s') :
    wpAny (model prog w) A (getAttrBy (.ref x) (.str name tk) fill expr) Q E s := by
  obtain ⟨hh, g, d, t, os⟩ := s
  have L0 := I.type (M := model prog w)
  have L1 := looks_findIn (M := model prog w) X c.ga
  have L2 := looks_findIn (M := model prog w) X c.gk
  have L3 := looks_mroIn (M := model prog w) X c.mb
  have hx2 : (Value.builtin "BaseException.__getattribute__" == Value.builtin "object.__getattribute__") = false := by decide +kernel
  have hx1 : (onTheHeap (Value.ref C) && Value.builtin "BaseException.__getattribute__" == Value.builtin "object.__getattribute__") = false := by rw [hx2]; rfl
  have hx0 : (expr && onTheHeap (Value.builtin "BaseException.__getattribute__")) = false := by cases expr <;> rfl
  unfold getAttrBy
  refine wpAny_holding (wpAny_bind (L0.at (wpAny_bind (L1.at ?_))))
  dsimp only
  rw [if_neg (by rw [hx1]; decide)]
  have FB := PySem.F.attrBase_ValueError
  have hk : builtinKind "BaseException.__getattribute__" = some .slot := by decide +kernel
  have hsplit : splitId "BaseException.__getattribute__" = some ("BaseException", "__getattribute__") := by decide +kernel
  unfold getAttrByItsOwn
  refine wpAny_bind ?_
  unfold hookBefore
  rw [if_pos (show onTheHeap (Value.ref C) = true from rfl)]
  refine L2.at ?_
  refine wpAny_bind (wpAny_attempt (wpAny_holding ?_))
  unfold callGetattribute
  rw [if_neg (by rw [hx0]; decide)]
  unfold boundAndCalled
  rw [FB.ga.bind (.ref x)]
  refine wpAny_bind (wpAny_pure ?_)
  refine wpAny_call (codeAny_mono (R := fun r s' => ∃ v, r = .ok (.ret v) ∧ P v s') (codeAny_call_builtin FB.ga.plain PySem.F.entry_bexc_ga ?_) fun r s' ⟨v, e, p⟩ => ?_)
  · show wpAny _ _ (checkBuiltinCall "BaseException.__getattribute__" ⟨[.ref x, .str name tk], []⟩) _ _ _
    have ha : argsOk "BaseException.__getattribute__" ⟨[.ref x, .str name tk], []⟩ := PySem.F.args_bexc_ga (.ref x) (.str name tk)
    have hI : Looks (model prog w) hh (isInstance (.ref x) (.type "BaseException")) true := L0.andThen L3
    refine check_slot (i := "BaseException.__getattribute__") (owner := "BaseException") (n := "__getattribute__") (self := .ref x) (rest := [.str name tk]) (kw := []) hk hsplit hI ha ?_
    exact h _ _ (fun r s' => ∃ v, r = .ok (.ret v) ∧ P v s') fun v s' p => ⟨v, rfl, p⟩
  · subst e
    exact hP v s' p

/-- an attribute that lies in the refusal's own dict -/
theorem exc_attr {expr : Bool} {v : Value} {Q : Value → Shared → Prop} (X : K.In s.heap) (I : InstAt s.heap x ox C od) (c : XCls K C) (hf : findObj K C od name = some (.value v)) (hh : handedIn v = true)
    (h : Q v { s with toks := s.toks + 1 }) : wpAny (model prog w) A (getAttr (.ref x) name expr) Q E s := by
  unfold getAttr
  refine wpAny_bind (wpAny_mkText ?_)
  refine exc_by (s := { s with toks := s.toks + 1 }) (P := fun v' s' => v' = v ∧ s' = { s with toks := s.toks + 1 }) X I c (fun A' A'' R hR => ?_) fun v' s' ⟨e1, e2⟩ => ?_
  · obtain ⟨h0, g, d, t, os⟩ := s
    have L0 := I.type (M := model prog w)
    have L1 := looks_find (M := model prog w) X I hf
    unfold Builtin.«object.__getattribute__»
    refine wpAny_bind (wpAny_pure ?_)
    refine wpAny_bind (wpAny_pure (wpAny_bind (L0.at (wpAny_bind (L1.at ?_)))))
    exact wpAny_pure (hR _ _ ⟨rfl, rfl⟩)
  · subst e1 e2
    rw [handedOut_of hh]
    exact wpAny_pure h

theorem exc_class {Q : Option Value → Shared → Prop} (X : K.In s.heap) (I : InstAt s.heap x ox C od) (c : XCls K C) (h : Q (some (.ref C)) { s with toks := s.toks + 1 }) :
    wpAny (model prog w) A (getAttr? (.ref x) "__class__") Q E s := by
  have hf : findObj K C od "__class__" = some (.bind (.builtin "getset_descriptor.__get__") (.builtin "object.__class__")) := by
    obtain ⟨cd, hc, _⟩ := any_some c.hd
    unfold findObj
    rw [hc, Option.bind_some, c.ca, Option.bind_some]
    dsimp only
    rw [c.cn, Option.bind_some]
    dsimp only
    rw [c.ct, Option.bind_some]
  unfold getAttr?
  refine wpAny_bind (wpAny_mkText ?_)
  unfold getAttrBy?
  refine wpAny_bind (wpAny_attempt ?_)
  refine exc_by (s := { s with toks := s.toks + 1 }) (P := fun v' s' => v' = .ref C ∧ s' = { s with toks := s.toks + 1 }) X I c (fun A' A'' R hR => ?_) fun v' s' ⟨e1, e2⟩ => ?_
  · obtain ⟨h0, g, d, t, os⟩ := s
    have L0 := I.type (M := model prog w)
    have L1 := looks_find (M := model prog w) X I hf
    unfold Builtin.«object.__getattribute__»
    refine wpAny_bind (wpAny_pure ?_)
    refine wpAny_bind (wpAny_pure (wpAny_bind (L0.at (wpAny_bind (L1.at ?_)))))
    show wpAny _ _ (bindTo (Value.builtin "getset_descriptor.__get__") (Value.builtin "object.__class__") (.ref x) (.ref C)) _ _ _
    unfold bindTo
    dsimp only
    exact wpAny_bind (wpAny_holding (wpAny_call (class_get (s := ⟨h0, g, d, t + 1, os⟩) (ox := ox) (od := od) X I c.mo (wpAny_pure (hR _ _ ⟨rfl, rfl⟩)))))
  · subst e1 e2
    exact wpAny_pure (wpAny_pure h)

/-- an exception, as isinstance takes it -/
theorem kitx_exc (c : XCls K C) : KitX K (.ref x) (.ref C) (fun h => ∃ ox od, InstAt h x ox C od) where
  ty := fun _ _ _ ⟨_, _, I⟩ => I.type
  it := fun _ _ X _ => by
    obtain ⟨cdD, hcD, _⟩ := any_some c.hd
    unfold clsIn at hcD
    split at hcD
    · rename_i c' d' cd' sl' ho
      intro A' Q' E' s' k q
      unfold isType loadHead
      exact wpAny_bind (wpAny_loadPart (k _ _ (X _ _ ho)) (wpAny_pure q))
    · cases hcD
  ne := fun h tp dd its n sl X htp => by
    obtain ⟨cdD, hcD, _⟩ := any_some c.hd
    refine Bool.eq_false_iff.mpr fun q => ?_
    have e : C = tp := Value.ref.inj (beq_iff_eq.mp q)
    subst e
    unfold clsIn at hcD
    split at hcD
    · rename_i c' d' cd' sl' ho
      have z := (X _ _ ho).symm.trans htp
      cases z
    · cases hcD
  ca := fun X ⟨_, _, I⟩ k => exc_class X I c k
end

section
variable {prog : Program} {w : World} {A : Around} {E : Value → Shared → Prop} {h : Heap} {g : Array GenState} {d : Drawn} {t : Nat} {os : OsState}
variable {nm q : Str} {C N : Addr} {bs bm bmB : List Value} {hdct : Bool} {sn : List Str} {sub : List Value} {ab : Bool} {col : Option Bool} {dd : Option Addr} {k0 k1 k2 k3 k5 : Option Value} {B newId initId : String}

abbrev newExc (C t : Addr) (dx : Option Addr) : Obj := { cls := .ref C, dict := dx, data := .fields #[.ref t, .none, .none, .none, .bool false, .none] }
abbrev newArgs (rest : List Value) : Obj := { cls := .type "tuple", data := .seq rest.toArray }

theorem exc_type_call (F : ExcBaseFacts B newId initId bmB) (T : OwnTail h bmB bm) {rest : List Value} {init : Value} {Q : Fin → Shared → Prop}
    (hC : h.get? C = some (excClassObj nm q C N bs bm hdct sn sub ab col dd k0 k1 k2 k3 k5 newId)) (hi : Looks (model prog w) h (typeLookup (.ref C) "__init__") (some init))
    (hb : ∀ self, Looks (model prog w) h (bindSpecial init self) (init, [self]))
    (hq : wpAny (model prog w) A (call init (.ref (h.objs.size + 1) :: rest)) (fun r s' => r = .none ∧ Q (.done (.ret (.ref (h.objs.size + 1)))) s') E ⟨(h.push (newArgs rest)).push (newExc C h.objs.size none), g, d, t, os⟩) (hrest : rest.length ≤ sizeLine) :
    wpAny (model prog w) A (Builtin.«type.__call__» ⟨.ref C :: rest, []⟩) Q E ⟨h, g, d, t, os⟩ := by
  repeat (first | with_reducible refine wpAny_loadPart_at hC ?_ | with_reducible refine wpAny_madeBy_exc hC ?_ | wp_step)
  refine codeAny_call_builtin_code (Code.quiet_builtin _ F.quiet) (wpAny_check_new_subT F T hC ?_)
  refine codeAny_exc_new_subT F T hC ?_ hrest
  show wpAny _ _ _ _ _ _
  have up : ∀ b o, h.get? b = some o → ((h.push (newArgs rest)).push (newExc C h.objs.size none)).get? b = some o := fun b o e => Heap.get?_push_of_some _ (Heap.get?_push_of_some _ e)
  have hC₁ := up _ _ hC
  have hget : ((h.push (newArgs rest)).push (newExc C h.objs.size none)).get? (h.objs.size + 1) = some (newExc C h.objs.size none) := by heap_get
  have hcC : (Value.ref C :: bm).contains (.ref C) = true := by simp
  unfold isInstance
  repeat (first | with_reducible refine wpAny_loadPart_at hget ?_ | (with_reducible refine wpAny_isSubtype_exc hC₁ ?_; rw [hcC]) | wp_step)
  show wpAny _ _ (typeLookup (.ref C) _) _ _ _
  refine hi _ _ _ _ up ?_
  refine wpAny_holding (wpAny_bind (hb _ _ _ _ _ up ?_))
  refine wpAny_bind (wpAny_mono hq (fun r s' hr => ?_) fun _ _ x => x)
  obtain ⟨rfl, hQ⟩ := hr
  wp_walk
  exact hQ

theorem exc_call (F : ExcBaseFacts B newId initId bmB) (T : OwnTail h bmB bm) {rest : List Value} {init : Value} {Q : Value → Shared → Prop}
    (hC : h.get? C = some (excClassObj nm q C N bs bm hdct sn sub ab col dd k0 k1 k2 k3 k5 newId)) (hi : Looks (model prog w) h (typeLookup (.ref C) "__init__") (some init))
    (hb : ∀ self, Looks (model prog w) h (bindSpecial init self) (init, [self]))
    (hq : wpAny (model prog w) (A.under (.builtin "type.__call__" ⟨.ref C :: rest, []⟩)) (call init (.ref (h.objs.size + 1) :: rest)) (fun r s' => r = .none ∧ Q (.ref (h.objs.size + 1)) s') E
      ⟨(h.push (newArgs rest)).push (newExc C h.objs.size none), g, d, t, os⟩) (hrest : rest.length ≤ sizeLine) :
    wpAny (model prog w) A (call (.ref C) rest) Q E ⟨h, g, d, t, os⟩ := by
  have f1 := tc_lookup
  have f2 := tc_bind (.ref C)
  have hT : (⟨h, g, d, t, os⟩ : Shared).TypeIs (.ref C) "type" := ⟨_, hC, rfl⟩
  refine wpAny_call (codeAny_of_tree ?_)
  show wpAny _ _ (callAny (.ref C) _) _ _ _
  repeat (any_goals (first | assumption | with_reducible refine wpAny_loadPart_at hC ?_ | wp_step))
  refine ⟨rfl, ?_⟩
  refine codeAny_call_builtin_at (Code.quiet_builtin _ (by decide +kernel)) entry_typeCall (wpAny_check_type_call_sub hC (exc_type_call F T hC hi hb ?_ hrest))
  exact wpAny_mono hq (fun r s' z => z) fun _ _ z => z

/-- the built-in __init__ of a refusal that is made, its own dict not begun -/
theorem exc_init (F : ExcBaseFacts B newId initId bmB) (T : OwnTail h bmB bm) {e t0 : Addr} {rest : List Value} {Q : Value → Shared → Prop}
    (hC : h.get? C = some (excClassObj nm q C N bs bm hdct sn sub ab col dd k0 k1 k2 k3 k5 newId)) (he : h.get? e = some (newExc C t0 none))
    (hq : ∀ h', (∀ b o, b ≠ e → h.get? b = some o → h'.get? b = some o) → h'.get? e = some (newExc C h.objs.size none) → Q .none ⟨h', g, d, t, os⟩) (hrest : rest.length ≤ sizeLine) :
    wpAny (model prog w) A (call (.builtin initId) (.ref e :: rest)) Q E ⟨h, g, d, t, os⟩ := by
  refine wpAny_call (codeAny_call_builtin F.init.plain F.initEntry (wpAny_check_init_subT F T hC he rfl ?_))
  wp_walk
  show Q .none _
  refine hq _ (fun b o hb e0 => ?_) ?_
  · rw [Heap.get?_update_other _ _ (Ne.symm hb)]
    exact Heap.get?_push_of_some _ e0
  · exact Heap.get?_update_self _ (Heap.get?_push_of_some _ he) rfl
end
end L2

end

section
set_option Elab.async false
set_option linter.all false
set_option maxRecDepth 100000
set_option maxHeartbeats 1000000
namespace L2
open PySem PySem.Spec PySem.W PySem.Calls PyProof.Rows
open Builtin Builtin.ObjectAttr

/-- an own class of refusals, over the built-in base of mro bmB -/
def xIn (K : Frag) (C : Addr) (bmB : List Value) (newId : String) : Bool := match K.lookup C with
  | some ⟨.type "type", _, .cls cd, sl⟩ => (match cd.mro, sl.toList with
    | .ref C' :: bm, [_, _, _, _, some (.builtin n), _] => C' == C && n == newId && !cd.hasDel && cd.hasDict && tailIn K bmB bm
    | _, _ => false)
  | _ => false
def XObj (h : Heap) (C : Addr) (bmB : List Value) (newId : String) : Prop :=
  ∃ nm q N bs bm sn sub ab col dd k0 k1 k2 k3 k5, h.get? C = some (excClassObj nm q C N bs bm true sn sub ab col dd k0 k1 k2 k3 k5 newId) ∧ OwnTail h bmB bm
theorem x_of_in {K : Frag} {h : Heap} {C : Addr} {bmB : List Value} {newId : String} (X : K.In h) (e : xIn K C bmB newId = true) : XObj h C bmB newId := by
  unfold xIn at e
  split at e
  · rename_i dd cd sl ho
    split at e
    · rename_i C' bm k0 k1 k2 k3 n k5 hm hs
      simp only [Bool.and_eq_true, beq_iff_eq, Bool.not_eq_true'] at e
      obtain ⟨⟨⟨⟨rfl, rfl⟩, hdel⟩, hd⟩, ht⟩ := e
      obtain ⟨nm, bs, mro, ns, qn, hdct, sn, sub, ab, col, del⟩ := cd
      dsimp only at hm hdel hd
      subst hm hdel hd
      obtain ⟨sl⟩ := sl
      dsimp only at hs
      subst hs
      exact ⟨nm, qn, ns, bs, bm, sn, sub, ab, col, dd, k0, k1, k2, k3, k5, X _ _ ho, tail_of_in X ht⟩
    · cases e
  · cases e

theorem refuse_tail {h : Heap} {bmB tl : List Value} {self : Value} {what : Str} (T : OwnTail h bmB tl) : refuseLoop self what tl = refuseLoop self what bmB := by
  induction T with
  | base => rfl
  | own _ _ _ _ ih => rw [refuseLoop_ref]; exact ih

section
variable {prog : Program} {w : World} {A : Around} {E : Value → Shared → Prop} {h : Heap} {g : Array GenState} {d : Drawn} {t : Nat} {os : OsState} {K : Frag} {x C t0 : Addr} {name : Str} {v : Value} {bmB : List Value} {newId : String} {B sa owner : String}

theorem exc_store_entry {tk : Tok} {Q : Fin → Shared → Prop} (SF : StoreFacts B bmB sa owner) (X : K.In h) (O : XObj h C bmB newId) (hn : findIn K (.ref C) name = some none) (hx : h.get? x = some (newExc C t0 none))
    (hq : ∀ h' tk', (∀ b o, b ≠ x → h.get? b = some o → h'.get? b = some o) → h'.get? x = some (newExc C t0 (some h.objs.size)) → h'.Ns1 h.objs.size (fun y => if y = name then some v else none) → Q (.done (.ret .none)) ⟨h', g, d, tk', os⟩) :
    wpAny (model prog w) A (Builtin.«object.__setattr__» ⟨[.ref x, .str name tk, v], []⟩) Q E ⟨h, g, d, t, os⟩ := by
  obtain ⟨nm, qn, N, bs, bm, sn, sub, ab, col, dd, k0, k1, k2, k3, k5, hC, T⟩ := O
  have hpass := (refuse_tail (self := .ref x) (what := "__setattr__") T).trans (SF.passes (.ref x))
  have LN := looks_findIn (M := model prog w) X hn
  obtain ⟨o, ho⟩ : ∃ o, o = newExc C t0 none := ⟨_, rfl⟩
  have hc : o.cls = .ref C := by rw [ho]
  have hdn : o.dict = none := by rw [ho]
  have hnc : ∀ c, o.data ≠ .cls c := fun c z => by rw [ho] at z; cases z
  rw [← ho] at hx
  unfold Builtin.«object.__setattr__»
  repeat (first | rw [refuse_eq] | (rw [refuseLoop_ref, hpass]) | (with_reducible refine wpAny_loadPart_at hx ?_; rw [hc]) | with_reducible refine wpAny_mroOf_exc hC ?_ | with_reducible refine LN.at ?_ | wp_step)
  rw [hdn, if_neg (by simp [typeHasDict])]
  split
  · rename_i hcd
    cases hcd
  split
  · rename_i c hcd
    exact absurd hcd (hnc c)
  · have hx₁ : (h.push { cls := .type "dict", data := .dict #[] }).get? x = some o := Heap.get?_push_of_some _ hx
    have hxs : x ≠ h.objs.size := Nat.ne_of_lt (Heap.lt_size hx)
    refine wpAny_bind (wpAny_alloc' ?_)
    refine wpAny_bind (wpAny_update' hx₁ ?_)
    refine wpAny_pure ?_
    have hgd : ((h.push { cls := .type "dict", data := .dict #[] }).update x fun o => { cls := o.cls, dict := some h.objs.size, data := o.data, slots := o.slots }).get? h.objs.size
        = some { cls := .type "dict", data := .dict #[] } :=
      (Heap.get?_update_ne _ _ _ _ hxs.symm).trans (Heap.get?_push_at rfl rfl)
    have hnd : ((h.push { cls := .type "dict", data := .dict #[] }).update x fun o => { cls := o.cls, dict := some h.objs.size, data := o.data, slots := o.slots }).Ns h.objs.size (fun _ => none) :=
      ⟨_, #[], _, hgd, rfl, fun e he => absurd he (by simp), fun _ => rfl⟩
    show wpAny _ _ (storeInDict h.objs.size (.str name tk) name v) _ _ _
    unfold storeInDict newKeyGuard
    refine wpAny_bind (wpAny_pure (wpAny_bind (wpAny_nsSet1 (Heap.Ns1.of_empty hnd) fun h' hn' hs => ?_)))
    obtain ⟨oD, esD, epD, hoD, hdD, hcD⟩ := hn'.count (Within.cons name v Within.nil)
    refine wpAny_bind (wpAny_lookBehind hoD (by rw [hdD]; exact pastItsLine_dict (Nat.le_trans hcD (by rw [List.length_cons, List.length_nil, sizeLine_eq]; omega))) ?_)
    wp_walk
    refine hq h' _ (fun b ob hbx hb => ?_) ?_ hn'
    · exact (hs.2 b (Nat.ne_of_lt (Heap.lt_size hb))).trans ((Heap.get?_update_ne _ _ _ _ hbx).trans (Heap.get?_push_of_some _ hb))
    · subst ho
      exact (hs.2 x hxs).trans (Heap.get?_update_self _ hx₁ rfl)

theorem exc_store {Q : Unit → Shared → Prop} (SF : StoreFacts B bmB sa owner) (X : K.In h) (O : XObj h C bmB newId) (hs : findIn K (.ref C) "__setattr__" = some (some (.builtin sa))) (hw : mroIn K C (.type owner) = some true)
    (hn : findIn K (.ref C) name = some none) (hx : h.get? x = some (newExc C t0 none))
    (hq : ∀ h' tk', (∀ b o, b ≠ x → h.get? b = some o → h'.get? b = some o) → h'.get? x = some (newExc C t0 (some h.objs.size)) → h'.Ns1 h.objs.size (fun y => if y = name then some v else none) → Q () ⟨h', g, d, tk', os⟩) :
    wpAny (model prog w) A (setAttr (.ref x) name v) Q E ⟨h, g, d, t, os⟩ := by
  have L0 : Looks (model prog w) h (typeOf (.ref x)) (.ref C) := (Looks.ld hx).andThen .now
  have LS := looks_findIn (M := model prog w) X hs
  have LW := looks_mroIn (M := model prog w) X hw
  have f3 := SF.slot.bind (.ref x)
  unfold setAttr callSpecial? specialOf
  refine wpAny_bind (wpAny_mkText ?_)
  refine wpAny_bind (wpAny_bind (wpAny_bind (L0.at (LS.at ?_))))
  refine wpAny_holding ?_
  rw [f3]
  refine wpAny_bind (wpAny_pure ?_)
  have ha : argsOk sa ⟨[.ref x, .str name t, v], []⟩ := SF.args (.ref x) (.str name t) v
  have hI : Looks (model prog w) h (isInstance (.ref x) (.type owner)) true := L0.andThen LW
  refine wpAny_bind (wpAny_call (codeAny_call_builtin SF.slot.plain SF.entry ?_))
  show wpAny _ _ (checkBuiltinCall sa ⟨[.ref x, .str name t, v], []⟩) _ _ _
  refine check_slot (i := sa) (owner := owner) (n := "__setattr__") (self := .ref x) (rest := [.str name t, v]) (kw := []) SF.kind SF.split hI ha ?_
  refine exc_store_entry SF X O hn hx fun h' tk' k1 k2 k3 => ?_
  exact wpAny_pure (wpAny_pure (hq h' tk' k1 k2 k3))
end
end L2

end

section
set_option Elab.async false
set_option linter.all false
set_option maxRecDepth 100000
set_option maxHeartbeats 1000000
namespace L2
open PySem PySem.Spec PyProof.Rows

/-- a refusal of the class at C that is made and was never raised; its own dict -/
def excO (e C : Addr) (d : Option Addr) : HO := .ext fun h => ∃ t : Addr, h.get? e = some (newExc C t d)
abbrev bmV : List Value := [.type "ValueError", .type "Exception", .type "BaseException", .type "object"]
structure XCl (K : PySem.W.Frag) (C : Addr) : Prop where
  cls : XCls K C
  obj : xIn K C bmV "ValueError.__new__" = true
  kp : PySem.W.keepIn K (.ref C) = true
  sa : PySem.W.findIn K (.ref C) "__setattr__" = some (some (.builtin "object.__setattr__"))

theorem ObjOk.exc {P : Program} {w : World} {H : Hp} {h : Heap} {e C t : Addr} {d : Option Addr} (he : h.get? e = some (newExc C t d)) : ObjOk P w H h e (excO e C d) :=
  ⟨⟨t, he⟩, ⟨_, he⟩, fun h1 h2 ⟨t', a⟩ k => ⟨t', k _ a⟩⟩
theorem HOk.exc {P : Program} {w : World} {H : Hp} {h : Heap} {e C : Addr} {d : Option Addr} (x : HOk P w H h) (q : H e = some (excO e C d)) : ∃ t, h.get? e = some (newExc C t d) :=
  (show ObjOk P w H h e (excO e C d) from x e _ q).1

section
variable {X : Cx} {pins : List (Addr × Obj)} {σ : St} {H : Hp} {s : Shared} {C : Addr} {Q : VK} {us : List Value} {vs : List V} {CX : CXT} {k : Nat} {f : Addr} {fd : FuncData} {ps : List Str} {sp : Sp} {E : XK}

theorem get_push_ne {h : Heap} {o u : Obj} {b : Addr} (e : (h.push o).get? b = some u) (q : b ≠ h.objs.size) : h.get? b = some u := by
  rwa [Heap.get?_push_ne h b o q] at e
theorem get_new {h : Heap} {rest : List Value} {C : Addr} : ((h.push (newArgs rest)).push (newExc C h.objs.size none)).get? (h.objs.size + 1) = some (newExc C h.objs.size none) := by heap_get
theorem Inv.newExc (I : Inv X pins σ H s) : Inv X pins σ (upd H (s.heap.objs.size + 1) (excO (s.heap.objs.size + 1) C none)) { s with heap := (s.heap.push (newArgs us)).push (newExc C s.heap.objs.size none) } :=
  I.laid (t' := s.toks) (fun b u e => Heap.get?_push_of_some _ (Heap.get?_push_of_some _ e)) (Nat.le_succ _) (ObjOk.exc get_new)

theorem run_excI (M : XCl X.K C) (hi : PySem.W.findIn X.K (.ref C) "__init__" = some (some (.ref f))) (hf : PySem.W.isFn X.K (.ref f) = true) (F : FnOk X.prog X.w X.K X.mg X.base CX k f fd ps sp) (hr : Room (k + 1) X.A) (hb : Binds X.K fd ps [])
    (hx : Passes CX X E) (I : Inv X pins σ H s) (r : Vals vs us) (hl : vs.length ≤ sizeLine)
    (h : ∀ e, H e = none → sp (.ref e :: vs) (upd H e (excO e C none)) (fun v H2 => v = .non ∧ Q (.ref e) H2) E) : wpAny (model X.prog X.w) X.A (call (.ref C) us) (EP X pins σ Q) X.xe s := by
  have hl' : us.length ≤ sizeLine := by rw [← r.length]; exact hl
  have kin := I.kIn
  obtain ⟨nm, qn, N, bs, bm, sn, sub, ab, col, dd, k0, k1, k2, k3, k5, hC, T⟩ := x_of_in kin M.obj
  have hq := h (s.heap.objs.size + 1) (I.hok.fresh (Nat.le_succ _))
  have I2 := Inv.newExc (C := C) (us := us) I
  have r2 : Vals (V.ref (s.heap.objs.size + 1) :: vs) (Value.ref (s.heap.objs.size + 1) :: us) := .cons rfl r
  have hlen : (Value.ref (s.heap.objs.size + 1) :: us ++ []).length = ps.length := by
    rw [List.append_nil, ← r2.length]; exact F.len _ _ _ _ hq
  have hbd := hb _ (Value.ref (s.heap.objs.size + 1) :: us) I2.kIn hlen
  rw [List.append_nil] at hbd
  obtain ⟨hh, g, d, t, os⟩ := s
  refine exc_call PySem.F.excBase_ValueError T hC (PySem.W.looks_findIn kin hi) (fun self => PySem.W.bind_fn kin self (beq_iff_eq.mp hf)) ?_ hl'
  refine wpAny_call (codeAny_mono (F.run _ X.stack _ _ ⟨Value.ref (hh.objs.size + 1) :: us, []⟩ (Value.ref (hh.objs.size + 1) :: us) _ _ E (hr.make C us []) (I2.env0.make C us []) hbd r2 hq) fun r s' hq' => ?_)
  cases r with
  | error e => exact hx pins σ _ _ e s' I2 hq'
  | ok fl =>
    cases fl with
    | ret u =>
      obtain ⟨v, H', I3, rv, ev, q3⟩ := I2.after hq'
      subst ev
      exact ⟨rv, ⟨V.ref (hh.objs.size + 1), H', I3, rfl, q3⟩⟩
    | next => exact False.elim hq'
    | brk => exact False.elim hq'
    | cont => exact False.elim hq'

variable {x : Str} {p pos : Pos} {e : Expr} {es : List Expr} {t : TA}
def tExcI (C : Addr) (sp : Sp) (E : XK) (t : TA) : TE := fun σ H Q => t σ H fun vs H1 => vs.length ≤ sizeLine ∧ ∀ e, H1 e = none → sp (.ref e :: vs) (upd H1 e (excO e C none)) (fun v H2 => v = .non ∧ Q (.ref e) H2) E

theorem pe_excI (M : XCl X.K C) (hi : PySem.W.findIn X.K (.ref C) "__init__" = some (some (.ref f))) (hf : PySem.W.isFn X.K (.ref f) = true) (F : FnOk X.prog X.w X.K X.mg X.base CX k f fd ps sp) (hr : Room (k + 1) X.A) (hb : Binds X.K fd ps [])
    (hx : Passes CX X E) (hg : Gl X x) (hm : X.mg x = some (.ref C)) (ha : PA X (e :: es) t)
    (hdb : (x == ("__debug__" : Str)) = false := by decide) (he : starEach (e :: es) X.env = (false, eval e X.env) :: starEach es X.env := by rfl) (hpl : (backTo pos (starEach es X.env)).any (·.1) = false := by rfl) :
    PE X (.Call (.Name x p) (e :: es) [] pos) (tExcI C sp E t) := by
  intro pins s σ H Q I h
  refine wpAny_Call_Name_kw (ld_glob I hg hm ?_ hdb)
  refine PySem.W.callWith_K (h₀ := X.base) I.ok.mod.kin M.kp (thn (ha pos pins s σ H _ I h) fun us s1 ⟨vs, H1, I1, r, q⟩ => ⟨I1.kIn, ?_⟩) he hpl
  exact run_excI M hi hf F hr hb hx I1 r q.1 q.2

def tInitX (K : PySem.W.Frag) (t : TA) : TE := fun σ H Q => t σ H fun vs H1 => ∃ e C rest, vs = .ref e :: rest ∧ H1 e = some (excO e C none) ∧ XCl K C ∧ rest.length ≤ sizeLine ∧ Q .non (upd H1 e (excO e C none))
structure XSup (K : PySem.W.Frag) (C : Addr) : Prop where
  reads : PySem.W.readsIn K C (.type "type") = true
  ga : PySem.W.specialIn K (.ref C) "__getattribute__" = some (some (.builtin "type.__getattribute__"))
  init : PySem.W.findCls K (.ref C) (.type "type") "__init__" = some (.val (.builtin "ValueError.__init__"))
theorem pe_initX {pl : Sem Bool} {apos : Pos} (S : XSup X.K C) (hg : Gl X x) (hm : X.mg x = some (.ref C)) (ha : PA X (e :: es) t)
    (hdb : (x == ("__debug__" : Str)) = false := by decide) (he : starEach (e :: es) X.env = (false, eval e X.env) :: starEach es X.env := by rfl) (hpl : (backTo pos (starEach es X.env)).any (·.1) = false := by rfl)
    (ht : eval (.Call (.Attribute (.Name x p) "__init__" apos) (e :: es) [] pos) X.env = (do
      let ov ← eval (.Name x p) X.env
      standAt apos.atName
      let (f, first) ← holding [ov] (getMethod ov "__init__" pl)
      callWith pos f first (backTo pos (starEach (e :: es) X.env)) (backToKw pos (keywordEach [] X.env))) := by rfl) :
    PE X (.Call (.Attribute (.Name x p) "__init__" apos) (e :: es) [] pos) (tInitX X.K t) := by
  intro pins s σ H Q I h
  refine PySem.W.methodCall_KW (pl := pl) (ld_glob I hg hm ?_ hdb) ht
  refine PySem.W.method_cls I.kIn S.ga (PySem.W.cls_value I.kIn S.reads S.init (by decide) ?_)
  have I0 : Inv X pins σ H { s with toks := s.toks + 1 } := I.tok _
  refine PyProof.Rows.callWith_builtin1 (thn (ha pos pins _ σ H _ I0 h) fun us s1 ⟨vs, H1, I1, r, e0, C0, rest, ev, ea, M, hl, q⟩ => ?_) he hpl
  subst ev
  obtain ⟨u, us', rfl, r1, r2⟩ : ∃ u us', us = u :: us' ∧ RelV (.ref e0) u ∧ Vals rest us' := by cases r with | cons a b => exact ⟨_, _, rfl, a, b⟩
  obtain rfl : u = Value.ref e0 := r1
  ·
    obtain ⟨t0, hx⟩ := I1.hok.exc ea
    obtain ⟨nm, qn, N, bs, bm, sn, sub, ab, col, dd, k0, k1, k2, k3, k5, hC, T⟩ := x_of_in I1.kIn M.obj
    have mu : Mut (H1 e0) := by rw [ea]; exact True.intro
    have hl' : us'.length ≤ sizeLine := by rw [← r2.length]; exact hl
    obtain ⟨hh, g, d, tk, os⟩ := s1
    refine exc_init PySem.F.excBase_ValueError T hC hx (fun h' kk e' => ?_) hl'
    exact ⟨.non, _, I1.write (t' := tk) mu (.inl rfl) kk ⟨_, e'⟩ (ObjOk.exc e'), rfl, q⟩

def sFldX (K : PySem.W.Frag) (ta tv : TE) (f : Str) : TS := fun D σ H => tv σ H fun y H1 => ta σ H1 fun x H2 => ∃ e C, x = .ref e ∧ H2 e = some (excO e C none) ∧ XCl K C ∧ NoAttr K C f ∧
  ∀ dx, H2 dx = none → dx ≠ e → D.nx σ (upd (upd H2 dx (.xd [(f, y)])) e (excO e C (some dx)))
theorem setattrX {a : Addr} {fl : Str} {y : V} {u : Value} {A : Around} {E' : Value → Shared → Prop} {Q : Unit → Shared → Prop} (I : Inv X pins σ H s) (ea : H a = some (excO a C none)) (M : XCl X.K C) (n : NoAttr X.K C fl) (ry : RelV y u)
    (h : ∀ dx s', H dx = none → dx ≠ a → Inv X pins σ (upd (upd H dx (.xd [(fl, y)])) a (excO a C (some dx))) s' → Q () s') : wpAny (model X.prog X.w) A (setAttr (.ref a) fl u) Q E' s := by
  obtain ⟨t0, hx⟩ := I.hok.exc ea
  have kin := I.kIn
  have hne : s.heap.objs.size ≠ a := fun z => by have := Heap.lt_size hx; rw [← z] at this; exact Nat.lt_irrefl _ this
  have hfr : H s.heap.objs.size = none := I.hok.fresh (Nat.le_refl _)
  obtain ⟨hh, g, d, tk, os⟩ := s
  refine exc_store PySem.F.store_ValueError kin (x_of_in kin M.obj) M.sa M.cls.mo n hx fun h' tk' k1 k2 k3 => h hh.objs.size _ hfr hne ?_
  obtain ⟨oD, es, ep, e1, e2, e3, eu, e4⟩ := id k3
  have g1 : (hh.push oD).get? hh.objs.size = some oD := Heap.get?_push_at rfl (Heap.get?_some_iff.mp e1).2
  have I1 : Inv X pins σ (upd H hh.objs.size (.xd [(fl, y)])) ⟨hh.push oD, g, d, tk, os⟩ :=
    I.laid (t' := tk) (fun b u e => Heap.get?_push_of_some _ e) (Nat.le_refl _) ⟨_, ⟨oD, es, ep, g1, e2, e3, eu, e4⟩, fun z => by
      by_cases q : z = fl
      · subst q; simp [RelO, ry]
      · have q' : (z == fl) = false := by simpa using q
        simp [RelO, q, List.lookup, q']⟩
  have ea' : upd H hh.objs.size (.xd [(fl, y)]) a = some (excO a C none) := by rw [upd_ne (Ne.symm hne)]; exact ea
  exact I1.write (t' := tk') (x := a) (e := a) (by rw [ea']; exact True.intro) (.inl rfl) (fun b u hb e => by
    by_cases q : b = hh.objs.size
    · subst q
      have e' : (hh.push oD).get? hh.objs.size = some u := e
      rw [g1] at e'
      cases e'
      exact e1
    · exact k1 b u hb (get_push_ne e q)) ⟨_, k2⟩ (ObjOk.exc k2)
variable {o value : Expr} {fl : Str} {pos' : Pos} {ta tv : TE}
theorem ps_fldX (ha : PE X o ta) (hv : PE X value tv) (hs : swapsWith value (some (.Attribute o fl pos')) pos.line X.env = pure false) : PS X (.Assign [.Attribute o fl pos'] value pos) (sFldX X.K ta tv fl) := by
  intro pins s σ H D I h
  refine plainObj_wpAny_Assign_Attribute (thn (hv pins s σ H _ I h) fun u s1 ⟨y, H1, I1, ry, q⟩ => thn (ha pins s1 σ H1 _ I1 q) fun ov s2 ⟨x, H2, I2, rx, a, C, ex, ea, c, n, q2⟩ => ?_) hs
  subst ex
  obtain rfl : ov = Value.ref a := rx
  exact setattrX I2 ea c n ry fun dx s3 z1 z2 I3 => ⟨σ, _, I3, q2 dx z1 z2⟩
end
end L2

end

section
set_option Elab.async false
set_option linter.all false
set_option maxRecDepth 100000
set_option maxHeartbeats 1000000
namespace L2
open PySem PySem.Spec PyProof.Rows
section
variable {X : Cx} {pins : List (Addr × Obj)} {σ : St} {H : Hp} {s : Shared} {h' : Heap}
/-- several untracked records of ours have turned -/
theorem Inv.turnedL {t' : Nat} {fp : List Addr} (I : Inv X pins σ H s) (k : ∀ b o, b ∉ fp → s.heap.get? b = some o → h'.get? b = some o) (hf : ∀ b ∈ fp, FpOk X pins H b) : Inv X pins σ H { s with heap := h', toks := t' } := by
  have nit : ∀ b u, H b = some u → b ∉ fp := fun b u e z => by rw [(hf b z).1] at e; cases e
  refine I.step (g' := s.gens) (d' := s.drawn) (ch := fp) (fun b hb => ?_) (fun b o _ _ hc e _ => k b o hc e) (fun b o _ _ hc e _ => ⟨o.slots, k b o hc e⟩) (fun _ _ _ _ n => n)
    (fun b o hc e => ⟨o, k b o hc e⟩) (fun _ _ e => e) (fun _ _ _ e => e) (fun b ps e => ⟨#[], by rw [e]; simp⟩) (fun m hm => ?_) (fun b u e => ?_) I.bare
  · obtain ⟨f0, f1, f2, f3, f4, f5⟩ := hf b hb
    exact ⟨f3, f1, f4, f5⟩
  · obtain ⟨o, es, ep, ho, r⟩ := hm
    exact ⟨o, es, ep, k _ o (fun z => (hf _ z).2.1 rfl) ho, r⟩
  · refine (I.hok b u e).stay (fun c v hc q => k c v ?_ q) (fun _ q => q) fun _ _ q => q
    rcases hc with z | z
    · rw [z]; exact nit b u e
    · exact nit c _ z

/-- enumerate of the list at a -/
def Ite (K : PySem.W.Frag) (a : Addr) : It :=
  ⟨fun i H => ∃ xs x, SqL K H a xs ∧ xs[i]? = some x, fun i H x H' => ∃ p y, x = .ref p ∧ H p = none ∧ H' = upd H p (.tup [.int (i : Nat), y]) ∧ ∀ xs, SqL K H a xs → xs[i]? = some y, fun i H => ∃ xs, SqL K H a xs ∧ xs.length ≤ i⟩
theorem turn_enum {P : Program} {w : World} {K : PySem.W.Frag} {elts : List Expr} {x1} {pos : Pos} (a e it : Addr) (hne : e ≠ it) : Turn P w K (.Tuple elts x1 pos) (Ite K a) [e, it] e (fun i h => (∃ old, IsEnum h e it (i : Nat) old) ∧ h.IsListIter it a i) where
  mem := by simp
  obj := fun i h st b hb => by
    obtain ⟨⟨old, s1⟩, s2⟩ := st
    rcases List.mem_cons.mp hb with z | z
    · subst z
      exact ⟨_, s1, fun v z => by cases z⟩
    · have z' : b = it := by simpa using z
      subst z'
      obtain ⟨o, e, c, d⟩ := s2
      exact ⟨o, e, fun v z => by rw [d] at z; cases z⟩
  keep := fun i h h' st k => by
    obtain ⟨⟨old, s1⟩, s2⟩ := st
    exact ⟨⟨old, k e (by simp) _ s1⟩, s2.at fun o q => k it (by simp) o q⟩
  item := by
    intro X hP hw hK hc i pins s σ H E I hf st hg
    subst hP hw hK
    obtain ⟨xs, x, hq, hx⟩ := hg
    obtain ⟨its, rv, p, hz⟩ := I.list hq
    obtain ⟨u, hu, ru⟩ := rv.get hx
    obtain ⟨⟨old, s1⟩, s2⟩ := st
    refine wpAny_pyNext_enum_item s1 s2 p.isList (x := u) (by simpa using hu) hne fun h1 a1 a2 a3 a4 a5 => ⟨_, rfl, ?_⟩
    refine wpAny_letOwnedTupleGo_enum a1 fun h2 b1 b2 => ?_
    have lt1 : e < s.heap.objs.size := Heap.lt_size s1
    have hp0 : H s.heap.objs.size = none := I.hok.fresh (Nat.le_refl _)
    have g1 : (s.heap.push { cls := .type "tuple", data := .seq #[.int (i : Nat) s.toks, u] }).get? s.heap.objs.size = some { cls := .type "tuple", data := .seq #[.int (i : Nat) s.toks, u] } := Heap.get?_push_size _ rfl
    have I1 : Inv X pins σ (upd H s.heap.objs.size (.tup [.int (i : Nat), x])) { s with heap := s.heap.push { cls := .type "tuple", data := .seq #[.int (i : Nat) s.toks, u] }, toks := s.toks + 1 } :=
      I.laid (fun b o q => Heap.get?_push_of_some _ q) (Nat.le_refl _) ⟨by show 2 ≤ sizeLine; decide, [.int (i : Nat) s.toks, u], .cons ⟨_, rfl⟩ (.cons ru .nil), ⟨_, g1, rfl, _, rfl⟩⟩
    have hf1 : ∀ b ∈ [e, it], FpOk X pins (upd H s.heap.objs.size (.tup [.int (i : Nat), x])) b := fun b hb => by
      refine ⟨?_, (hf b hb).2⟩
      have lb : b ≠ s.heap.objs.size := by
        rcases List.mem_cons.mp hb with z | z
        · subst z; exact Nat.ne_of_lt lt1
        · have z' : b = it := by simpa using z
          subst z'
          obtain ⟨o, q, _⟩ := s2
          exact Nat.ne_of_lt (Heap.lt_size q)
      rw [upd_ne lb]
      exact (hf b hb).1
    have I2 : Inv X pins σ (upd H s.heap.objs.size (.tup [.int (i : Nat), x])) { s with heap := h2, toks := s.toks + 1 } :=
      I1.turnedL (t' := s.toks + 1) (fun b o hb q => by
        have nb : b ≠ e ∧ b ≠ it := by simpa using hb
        have q1 : h1.get? b = some o := by
          by_cases z : b = s.heap.objs.size
          · subst z
            have q' : (s.heap.push { cls := .type "tuple", data := .seq #[.int (i : Nat) s.toks, u] }).get? s.heap.objs.size = some o := q
            rw [g1] at q'
            cases q'
            exact a3
          · exact a5 b o nb.1 nb.2 (get_push_ne q z)
        exact (b2.2 b nb.1).trans q1) hf1
    refine ⟨.ref s.heap.objs.size, _, I2, rfl, ⟨_, x, rfl, hp0, rfl, fun ys hy => by rw [I.list_inj hy hq]; exact hx⟩, ⟨⟨u, ?_⟩, ?_⟩, fun b hb => (hf1 b hb).1⟩
    · exact b1
    · obtain ⟨o, q, r⟩ := a2
      exact ⟨o, (b2.2 it (Ne.symm hne)).trans q, r⟩
  done := by
    intro X hP hw hK hc i pins s σ H E I hf st hg
    subst hP hw hK
    obtain ⟨xs, hq, hx⟩ := hg
    obtain ⟨its, rv, p, hz⟩ := I.list hq
    obtain ⟨⟨old, s1⟩, s2⟩ := st
    have hl := rv.length
    obtain ⟨f0, f1, f2, f3, f4, f5⟩ := hf it (by simp)
    exact wpAny_pyNext_enum_end (I.ok.hd hc) s1 s2 p.isList (by simp; omega) fun h' eb => ⟨rfl, I.turned (t' := s.toks) (fun b o hb q => eb b o hb q) f0 f1 f3 f4 f5⟩
  self := fun _ _ _ _ _ st h => by
    obtain ⟨⟨old, s1⟩, s2⟩ := st
    exact wpAny_pyIter_enum s1 h
def iEnum (K : PySem.W.Frag) (ta : TA) : TI := fun σ H R => ta σ H fun vs H1 => ∃ a, vs = [.ref a] ∧ (∃ xs, SqL K H1 a xs) ∧ R (Ite K a) H1
theorem pi_enum {a : Expr} {ta : TA} {p pos : Pos} {elts : List Expr} {x1} {tp : Pos} (hg : Gl X "enumerate") (hm : X.mg "enumerate" = none) (ha : PA X [a] ta) (hs : starEach [a] X.env = [(false, eval a X.env)] := by rfl) : PI X (.Tuple elts x1 tp) (.Call (.Name "enumerate" p) [a] [] pos) (iEnum X.K ta) := by
  intro pins s σ H R I h
  refine Call_ (ld_blt I hg hm boot_enumerate (PyProof.Rows.callWith_type1 (thn (ha pos pins s σ H _ I h) fun us s1 ⟨vs, H1, I1, r1, q1⟩ => ?_) hs rfl))
  obtain ⟨l, e, ⟨xs, hq⟩, q⟩ := q1
  subst e
  cases r1 with
  | cons r rr =>
    cases rr
    obtain rfl := r
    obtain ⟨its, rv, pl, hz⟩ := I1.list hq
    refine call_enumerate_list pl.isList fun h' e1 e2 e3 e4 => wpAny_pyIter_enum e1 ?_
    refine ⟨s1.heap.objs.size + 1, [s1.heap.objs.size + 1, s1.heap.objs.size], _, _, H1, rfl, I1.kept (t' := s1.toks) e4, turn_enum l _ _ (Nat.succ_ne_self _), ⟨⟨_, e1⟩, e2⟩, fun b hb => ?_, q⟩
    have hb' : b = s1.heap.objs.size + 1 ∨ b = s1.heap.objs.size := by simpa using hb
    rcases hb' with z | z <;> subst z
    · exact I1.fpOk (Nat.le_succ _) (I1.hok.fresh (Nat.le_succ _))
    · exact I1.fpOk (Nat.le_refl _) (I1.hok.fresh (Nat.le_refl _))
end
end L2

end

section
set_option Elab.async false
set_option linter.all false
set_option maxRecDepth 100000
set_option maxHeartbeats 4000000
namespace M
open PySem
inductive Tr where
  | w (x : List Nat)
  | l (ts : List Tr)
mutual
def Tr.cs : Tr → List Nat
  | .w x => x
  | .l ts => 40 :: (bs ts).tail ++ [41]
/-- each behind a blank -/
def bs : List Tr → List Nat
  | [] => []
  | t :: ts => 32 :: (t.cs ++ bs ts)
end
mutual
def Tr.nest : Tr → Nat
  | .w _ => 0
  | .l ts => nests ts + 1
def nests : List Tr → Nat
  | [] => 0
  | t :: ts => max t.nest (nests ts)
end
def Plain (x : List Nat) : Prop := x ≠ [] ∧ ∀ c ∈ x, c ≠ 32 ∧ c ≠ 40 ∧ c ≠ 41
mutual
def Tr.Good : Tr → Prop
  | .w x => Plain x
  | .l ts => 2 ≤ ts.length ∧ (∃ h r, ts = .w h :: r) ∧ Goods ts
def Goods : List Tr → Prop
  | [] => True
  | t :: ts => t.Good ∧ Goods ts
end
abbrev Pile := List (List Tr)
def push (t : Tr) : Pile → Pile
  | [] => []
  | top :: st => (top ++ [t]) :: st
def close : Nat → Pile → Pile
  | 0, st => st
  | k + 1, top :: par :: st => close k ((par ++ [.l top]) :: st)
  | _ + 1, st => st
def coreOf (x : List Nat) : List Nat := (x.reverse.dropWhile (· == 41)).reverse
def closeN (c : Nat) (st : Pile) : Option Pile := if c < st.length then some (close c st) else none
def putC (core : List Nat) (c : Nat) (st : Pile) : Option Pile :=
  if core.head? = some 40 then (if st.length ≤ 20 then closeN c (push (.w core.tail) ([] :: st)) else none) else closeN c (push (.w core) st)
def putW (x : List Nat) (st : Pile) : Option Pile := putC (coreOf x) (x.length - (coreOf x).length) st
def runW : List (List Nat) → Pile → Option Pile
  | [], st => some st
  | x :: xs, st => (putW x st).bind (runW xs)
theorem runW_append : ∀ (a b : List (List Nat)) (st : Pile), runW (a ++ b) st = (runW a st).bind (runW b)
  | [], _, _ => rfl
  | x :: a, b, st => by
    show (putW x st).bind (runW (a ++ b)) = ((putW x st).bind (runW a)).bind (runW b)
    cases putW x st with
    | none => rfl
    | some st' => exact runW_append a b st'
theorem push_length (t : Tr) (st : Pile) : (push t st).length = st.length := by
  cases st <;> rfl
/-- closings behind a word -/
theorem coreOf_rep {x : List Nat} (k : Nat) (h : x ≠ []) (hx : ∀ c ∈ x, c ≠ 41) : coreOf (x ++ List.replicate k 41) = x := by
  unfold coreOf
  rw [List.reverse_append, List.reverse_replicate]
  have e : ∀ k : Nat, ((List.replicate k 41 ++ x.reverse).dropWhile (· == 41)) = x.reverse := by
    intro k
    induction k with
    | zero =>
      rw [List.replicate_zero, List.nil_append]
      cases hr : x.reverse with
      | nil => rfl
      | cons c r =>
        have hc : c ∈ x := by
          have : c ∈ x.reverse := by rw [hr]; exact List.mem_cons_self
          exact List.mem_reverse.mp this
        rw [List.dropWhile_cons, if_neg]
        simpa using hx c hc
    | succ k ih =>
      rw [List.replicate_succ, List.cons_append, List.dropWhile_cons, if_pos (by rfl)]
      exact ih
  rw [e, List.reverse_reverse]
theorem put_plain {x : List Nat} (k : Nat) (st : Pile) (h : Plain x) : putW (x ++ List.replicate k 41) st = closeN k (push (.w x) st) := by
  have e := coreOf_rep k h.1 (fun c hc => (h.2 c hc).2.2)
  unfold putW
  rw [e]
  unfold putC
  rw [if_neg, List.length_append, List.length_replicate, Nat.add_sub_cancel_left]
  intro hh
  cases x with
  | nil => cases hh
  | cons c r =>
    have := (h.2 c List.mem_cons_self).2.1
    simp at hh
    exact this hh
theorem put_open {x : List Nat} (k : Nat) (st : Pile) (h : Plain x) (hs : st.length ≤ 20) : putW (40 :: x ++ List.replicate k 41) st = closeN k (push (.w x) ([] :: st)) := by
  have e := coreOf_rep (x := 40 :: x) k (by simp) (fun c hc => by
    rcases List.mem_cons.mp hc with rfl | hc
    · decide
    · exact (h.2 c hc).2.2)
  unfold putW
  rw [e]
  unfold putC
  rw [if_pos (show (40 :: x).head? = some 40 from rfl), if_pos hs, List.length_append, List.length_replicate, Nat.add_sub_cancel_left]
  rfl
theorem put_open_no {x : List Nat} (k : Nat) (st : Pile) (h : Plain x) (hs : ¬ st.length ≤ 20) : putW (40 :: x ++ List.replicate k 41) st = none := by
  have e := coreOf_rep (x := 40 :: x) k (by simp) (fun c hc => by
    rcases List.mem_cons.mp hc with rfl | hc
    · decide
    · exact (h.2 c hc).2.2)
  unfold putW
  rw [e]
  unfold putC
  rw [if_pos (show (40 :: x).head? = some 40 from rfl), if_neg hs]
/-- words joined by blanks -/
def joinB : List (List Nat) → List Nat
  | [] => []
  | [x] => x
  | x :: y :: r => x ++ 32 :: joinB (y :: r)
theorem joinB_append : ∀ (a b : List (List Nat)), a ≠ [] → b ≠ [] → joinB (a ++ b) = joinB a ++ 32 :: joinB b
  | [], _, h, _ => absurd rfl h
  | [x], b, _, h => by
    cases b with
    | nil => exact absurd rfl h
    | cons y r => rfl
  | x :: y :: a, b, _, h => by
    show x ++ 32 :: joinB ((y :: a) ++ b) = (x ++ 32 :: joinB (y :: a)) ++ 32 :: joinB b
    rw [joinB_append (y :: a) b (by simp) h]
    simp
theorem joinB_last (a : List (List Nat)) (x y : List Nat) : joinB (a ++ [x ++ y]) = joinB (a ++ [x]) ++ y := by
  cases a with
  | nil => rfl
  | cons z r =>
    rw [joinB_append _ _ (by simp) (by simp), joinB_append _ _ (by simp) (by simp)]
    show _ ++ 32 :: (x ++ y) = (_ ++ 32 :: x) ++ y
    simp
theorem close_length : ∀ (a : Nat) (st : Pile), a < st.length → (close a st).length + a = st.length
  | 0, st, _ => rfl
  | a + 1, st, h => by
    match st, h with
    | [], h => simp at h
    | [_], h => simp at h
    | top :: par :: st, h =>
      have := close_length a ((par ++ [.l top]) :: st) (by simp at h ⊢; omega)
      show (close a ((par ++ [.l top]) :: st)).length + (a + 1) = _
      simp at this ⊢
      omega
/-- the words of a tree: all but the last, the last -/
structure Words (t : Tr) (pre : List (List Nat)) (last : List Nat) : Prop where
  join : joinB (pre ++ [last]) = t.cs
  free : ∀ x ∈ pre ++ [last], 32 ∉ x
  run : ∀ (k : Nat) (st : Pile), 1 ≤ st.length → st.length + t.nest ≤ 21 → k < st.length → runW (pre ++ [last ++ List.replicate k 41]) st = some (close k (push t st))
structure WordsL (ts : List Tr) (pre : List (List Nat)) (last : List Nat) : Prop where
  join : joinB (pre ++ [last]) = (bs ts).tail
  free : ∀ x ∈ pre ++ [last], 32 ∉ x
  run : ∀ (k : Nat) (top : List Tr) (st : Pile), st.length + 1 + nests ts ≤ 21 → k < st.length + 1 → runW (pre ++ [last ++ List.replicate k 41]) (top :: st) = some (close k ((top ++ ts) :: st))
theorem closeN_some {k : Nat} {st : Pile} (h : k < st.length) : closeN k st = some (close k st) := by
  unfold closeN
  rw [if_pos h]
theorem words_w {x : List Nat} (h : Plain x) : Words (.w x) [] x where
  join := rfl
  free := fun y hy => by
    simp at hy
    subst hy
    intro hm
    exact (h.2 _ hm).1 rfl
  run := fun k st h1 _ hk => by
    show (putW (x ++ List.replicate k 41) st).bind (runW []) = _
    rw [put_plain k st h, closeN_some (by rw [push_length]; exact hk)]
    rfl
theorem bs_tail (t : Tr) (ts : List Tr) : (bs (t :: ts)).tail = t.cs ++ bs ts := rfl
theorem bs_cons {ts : List Tr} (h : ts ≠ []) : bs ts = 32 :: (bs ts).tail := by
  cases ts with
  | nil => exact absurd rfl h
  | cons t r => rfl
mutual
theorem words : ∀ (t : Tr), t.Good → ∃ pre last, Words t pre last
  | .w x, h => ⟨[], x, words_w h⟩
  | .l [], h => by have := h.1; simp at this
  | .l (t :: ts), h => by
    obtain ⟨h2, ⟨hd, r, e⟩, g⟩ := h
    cases e
    have hne : ts ≠ [] := by
      intro e
      subst e
      simp at h2
    have g0 : Plain hd := g.1
    obtain ⟨pre, last, W⟩ := wordsL ts hne g.2
    refine ⟨(40 :: hd) :: pre, last ++ [41], ?_, ?_, ?_⟩
    · show joinB (((40 :: hd) :: pre) ++ [last ++ [41]]) = 40 :: (bs (.w hd :: ts)).tail ++ [41]
      rw [joinB_last, bs_tail, List.cons_append]
      rw [show (40 :: hd) :: (pre ++ [last]) = [40 :: hd] ++ (pre ++ [last]) from rfl, joinB_append _ _ (by simp) (by simp), W.join, bs_cons hne]
      show (40 :: hd ++ _) ++ [41] = 40 :: (hd ++ _) ++ [41]
      simp
    · intro x hx
      rw [List.cons_append] at hx
      rcases List.mem_cons.mp hx with rfl | hx
      · intro hm
        rcases List.mem_cons.mp hm with e | hm
        · exact absurd e (by decide)
        · exact (g0.2 _ hm).1 rfl
      · rcases List.mem_append.mp hx with hx | hx
        · exact W.free x (List.mem_append_left _ hx)
        · have := List.mem_singleton.mp hx
          subst this
          intro hm
          rcases List.mem_append.mp hm with hm | hm
          · exact W.free last (List.mem_append_right _ (by simp)) hm
          · simp at hm
    · intro k st h1 hn hk
      have hn' : st.length + (max 0 (nests ts) + 1) ≤ 21 := hn
      have hn2 : st.length + 1 + nests ts ≤ 21 := by omega
      have e : last ++ [41] ++ List.replicate k 41 = last ++ List.replicate (k + 1) 41 := by
        rw [List.append_assoc, List.replicate_succ]
        rfl
      rw [List.cons_append]
      show (putW (40 :: hd) st).bind (runW (pre ++ [last ++ [41] ++ List.replicate k 41])) = _
      rw [e]
      have p := put_open 0 st g0 (by omega)
      rw [List.replicate_zero, List.append_nil] at p
      rw [p, closeN_some (by rw [push_length]; simp)]
      show runW (pre ++ [last ++ List.replicate (k + 1) 41]) ([.w hd] :: st) = _
      rw [W.run (k + 1) [.w hd] st (by omega) (by omega)]
      cases st with
      | nil => simp at h1
      | cons par st' => rfl
theorem wordsL : ∀ (ts : List Tr), ts ≠ [] → Goods ts → ∃ pre last, WordsL ts pre last
  | [], h, _ => absurd rfl h
  | t :: ts, _, g => by
    obtain ⟨pre, last, W⟩ := words t g.1
    by_cases hne : ts = []
    · subst hne
      refine ⟨pre, last, ?_, W.free, ?_⟩
      · rw [W.join, bs_tail]
        show _ = t.cs ++ []
        simp
      · intro k top st hn hk
        have hn' : st.length + 1 + max t.nest 0 ≤ 21 := hn
        rw [W.run k (top :: st) (by simp) (by simp; omega) (by simpa using hk)]
        rfl
    · obtain ⟨pre2, last2, W2⟩ := wordsL ts hne g.2
      refine ⟨pre ++ [last] ++ pre2, last2, ?_, ?_, ?_⟩
      · rw [List.append_assoc, joinB_append _ _ (by simp) (by simp), W.join, W2.join, bs_tail, ← bs_cons hne]
      · intro x hx
        rw [List.append_assoc] at hx
        rcases List.mem_append.mp hx with hx | hx
        · exact W.free x hx
        · exact W2.free x hx
      · intro k top st hn hk
        have hn' : st.length + 1 + max t.nest (nests ts) ≤ 21 := hn
        rw [List.append_assoc, runW_append]
        have r1 := W.run 0 (top :: st) (by simp) (by simp; omega) (by simp)
        rw [List.replicate_zero, List.append_nil] at r1
        rw [r1]
        show runW (pre2 ++ [last2 ++ List.replicate k 41]) ((top ++ [t]) :: st) = _
        rw [W2.run k (top ++ [t]) st (by omega) hk]
        simp
end
end M

end

section
set_option Elab.async false
set_option linter.all false
set_option maxRecDepth 100000
set_option maxHeartbeats 4000000
namespace M
open PySem
inductive D where
  | int (i : Int)
  | str (x : Str)
  | tup (ds : List D)
inductive All2 {α β : Type} (R : α → β → Prop) : List α → List β → Prop where
  | nil : All2 R [] []
  | cons {a b as bs} (h : R a b) (t : All2 R as bs) : All2 R (a :: as) (b :: bs)
theorem All2.length {α β : Type} {R : α → β → Prop} {as : List α} {bs : List β} (h : All2 R as bs) : as.length = bs.length := by
  induction h with
  | nil => rfl
  | cons _ _ ih => simp [ih]
theorem All2.imp {α β : Type} {R S : α → β → Prop} {as : List α} {bs : List β} (h : All2 R as bs) (f : ∀ a b, R a b → S a b) : All2 S as bs := by
  induction h with
  | nil => exact .nil
  | cons h _ ih => exact .cons (f _ _ h) ih
theorem All2.get {α β : Type} {R : α → β → Prop} {as : List α} {bs : List β} (h : All2 R as bs) : ∀ {i : Nat} {a : α}, as[i]? = some a → ∃ b, bs[i]? = some b ∧ R a b := by
  induction h with
  | nil => intro i a e; simp at e
  | cons h _ ih =>
    intro i a e
    cases i with
    | zero => simp at e; subst e; exact ⟨_, by simp, h⟩
    | succ i => simpa using ih (i := i) (a := a) (by simpa using e)
def S (s : String) : Str := Str.ofString s
def isLetter (c : Nat) : Bool := 97 ≤ c && c ≤ 122
def isFigure (c : Nat) : Bool := 48 ≤ c && c ≤ 57
def nameL (x : List Nat) : Bool := 1 ≤ x.length && x.length ≤ 6 && x.all isLetter && x != [110, 117, 109] && x != [105, 116]
def Name (x : Str) : Prop := nameL x.cps.toList = true
def ops : List Str := [S "+", S "-", S "*", S "<", S "="]
def tx (x : Str) : Tr := .w x.cps.toList
theorem letter_plain {c : Nat} (h : isLetter c = true) : c ≠ 32 ∧ c ≠ 40 ∧ c ≠ 41 := by
  simp [isLetter] at h
  omega
theorem figure_plain {c : Nat} (h : isFigure c = true) : c ≠ 32 ∧ c ≠ 40 ∧ c ≠ 41 := by
  simp [isFigure] at h
  omega
theorem Name.letters {x : Str} (h : Name x) : ∀ c ∈ x.cps.toList, isLetter c = true := by
  unfold Name nameL at h
  simp only [Bool.and_eq_true, List.all_eq_true] at h
  exact h.1.1.2
theorem Name.pos {x : Str} (h : Name x) : x.cps.toList ≠ [] := by
  unfold Name nameL at h
  simp only [Bool.and_eq_true, decide_eq_true_eq] at h
  intro e
  rw [e] at h
  simp at h
theorem Name.le {x : Str} (h : Name x) : x.cps.toList.length ≤ 6 := by
  unfold Name nameL at h
  simp only [Bool.and_eq_true, decide_eq_true_eq] at h
  exact h.1.1.1.2
theorem Name.plain {x : Str} (h : Name x) : Plain x.cps.toList := ⟨h.pos, fun c hc => letter_plain (h.letters c hc)⟩
def numS (n : Int) : Str := Str.ofString (toString n)
def Leaf (d : D) (t : Tr) : Prop :=
  (∃ n : Int, 0 ≤ n ∧ n < 10 ^ 10 ∧ d = .tup [.str (S "num"), .int n] ∧ t = tx (numS n)) ∨ (∃ x : Str, Name x ∧ d = .tup [.str (S "box"), .str x] ∧ t = tx x)
/-- an arm -/
def Arm (R : D → Tr → Prop) (d : D) (t : Tr) : Prop := ∃ g x e te, Name g ∧ Name x ∧ R e te ∧ d = .tup [.str g, .str x, e] ∧ t = .l [tx g, tx x, te]
/-- a term that is no leaf, its terms by R -/
def Node (R : D → Tr → Prop) (d : D) (t : Tr) : Prop :=
    (∃ s a b ta tb, s ∈ ops ∧ R a ta ∧ R b tb ∧ d = .tup [.str (S "op"), .str s, a, b] ∧ t = .l [tx s, ta, tb])
    ∨ (∃ k es ts, Name k ∧ es.length ≤ 5 ∧ All2 R es ts ∧ d = .tup [.str (S "rec"), .str k, .tup es] ∧ t = .l (tx (S "rec") :: tx k :: ts))
    ∨ (∃ a ta f, Name f ∧ R a ta ∧ d = .tup [.str (S "get"), a, .str f] ∧ t = .l [tx (S "get"), ta, tx f])
    ∨ (∃ k g a ta, Name k ∧ Name g ∧ R a ta ∧ d = .tup [.str (S "tag"), .str k, .str g, a] ∧ t = .l [tx (S "tag"), tx k, tx g, ta])
    ∨ (∃ a ta arms ts, R a ta ∧ 1 ≤ arms.length ∧ arms.length ≤ 4 ∧ All2 (Arm R) arms ts ∧ d = .tup [.str (S "case"), a, .tup arms] ∧ t = .l (tx (S "case") :: ta :: ts))
    ∨ (∃ a b c ta tb tc, R a ta ∧ R b tb ∧ R c tc ∧ d = .tup [.str (S "if"), a, b, c] ∧ t = .l [tx (S "if"), ta, tb, tc])
def T2 : Nat → D → Tr → Prop
  | 0, d, t => Leaf d t
  | n + 1, d, t => Leaf d t ∨ Node (T2 n) d t
theorem T2.leaf {n : Nat} {d : D} {t : Tr} (h : Leaf d t) : T2 n d t := by
  cases n with
  | zero => exact h
  | succ n => exact .inl h
theorem num_reads (m : Nat) : (numS (m : Int)).cps.toList = (Nat.toDigits 10 m).map Char.toNat := by
  unfold numS
  rw [Str.ofString_eq_toList]
  show (Nat.repr m).toList.map Char.toNat = _
  rw [Nat.toList_repr]
theorem num_figures {n : Int} (h : 0 ≤ n) : ∀ c ∈ (numS n).cps.toList, isFigure c = true := by
  obtain ⟨m, rfl⟩ := Int.eq_ofNat_of_zero_le h
  intro c hc
  rw [num_reads] at hc
  obtain ⟨ch, hch, e⟩ := List.mem_map.mp hc
  have r := Nat.isDigit_of_mem_toDigits (by decide) (by decide) hch
  subst e
  simp [isFigure]
  simp [Char.isDigit] at r
  have h1 : (48 : Nat) ≤ ch.val.toNat := r.1
  have h2 : ch.val.toNat ≤ 57 := r.2
  exact ⟨h1, h2⟩
theorem num_ne {n : Int} (h : 0 ≤ n) : (numS n).cps.toList ≠ [] := by
  obtain ⟨m, rfl⟩ := Int.eq_ofNat_of_zero_le h
  rw [num_reads]
  intro e
  have := Nat.length_toDigits_pos (b := 10) (n := m)
  rw [List.map_eq_nil_iff.mp e] at this
  simp at this
theorem num_len {n : Int} (h : 0 ≤ n) (h1 : n < 10 ^ 10) : (numS n).cps.toList.length ≤ 10 := by
  obtain ⟨m, rfl⟩ := Int.eq_ofNat_of_zero_le h
  rw [num_reads, List.length_map]
  have hm : m < 10 ^ 10 := by omega
  exact (Nat.length_toDigits_le_iff (b := 10) (k := 10) (by decide) (by decide)).mpr hm
end M

end

section
set_option Elab.async false
set_option linter.all false
set_option maxRecDepth 100000
set_option maxHeartbeats 4000000
namespace M
open PySem
theorem goods_of {R : D → Tr → Prop} {es : List D} {ts : List Tr} (h : All2 R es ts) (g : ∀ d t, R d t → t.Good) : Goods ts := by
  induction h with
  | nil => exact True.intro
  | cons h _ ih => exact ⟨g _ _ h, ih⟩
theorem leaf_good {d : D} {t : Tr} (h : Leaf d t) : t.Good := by
  rcases h with ⟨n, h0, h1, _, rfl⟩ | ⟨x, hx, _, rfl⟩
  · exact ⟨num_ne h0, fun c hc => figure_plain (num_figures h0 c hc)⟩
  · exact hx.plain
theorem plain_ops : ∀ s ∈ ops, Plain s.cps.toList := by
  have e : ∀ s ∈ ops, (decide (s.cps.toList ≠ []) && s.cps.toList.all fun c => c != 32 && c != 40 && c != 41) = true := by decide +kernel
  intro s hs
  have := e s hs
  simp only [Bool.and_eq_true, decide_eq_true_eq, List.all_eq_true, bne_iff_ne] at this
  exact ⟨this.1, fun c hc => ⟨(this.2 c hc).1.1, (this.2 c hc).1.2, (this.2 c hc).2⟩⟩
def heads : List Str := [S "rec", S "get", S "tag", S "case", S "if"]
theorem plain_heads : ∀ s ∈ heads, Plain s.cps.toList := by
  have e : ∀ s ∈ heads, (decide (s.cps.toList ≠ []) && s.cps.toList.all fun c => c != 32 && c != 40 && c != 41) = true := by decide +kernel
  intro s hs
  have := e s hs
  simp only [Bool.and_eq_true, decide_eq_true_eq, List.all_eq_true, bne_iff_ne] at this
  exact ⟨this.1, fun c hc => ⟨(this.2 c hc).1.1, (this.2 c hc).1.2, (this.2 c hc).2⟩⟩
theorem arm_good {R : D → Tr → Prop} (g : ∀ d t, R d t → t.Good) {d : D} {t : Tr} (h : Arm R d t) : t.Good := by
  obtain ⟨a, x, e, te, ha, hx, he, _, rfl⟩ := h
  exact ⟨by simp, ⟨_, _, rfl⟩, ha.plain, hx.plain, g _ _ he, True.intro⟩
theorem T2.good : ∀ {n : Nat} {d : D} {t : Tr}, T2 n d t → t.Good
  | 0, d, t, h => leaf_good h
  | n + 1, d, t, h => by
    have ih : ∀ d t, T2 n d t → t.Good := fun d t h => T2.good h
    rcases h with h | ⟨s, a, b, ta, tb, hs, ha, hb, _, rfl⟩ | ⟨k, es, ts, hk, _, hes, _, rfl⟩ | ⟨a, ta, f, hf, ha, _, rfl⟩ | ⟨k, g, a, ta, hk, hg, ha, _, rfl⟩ | ⟨a, ta, arms, ts, ha, h1, _, hs, _, rfl⟩ | ⟨a, b, c, ta, tb, tc, ha, hb, hc, _, rfl⟩
    · exact leaf_good h
    · exact ⟨by simp, ⟨_, _, rfl⟩, plain_ops s hs, ih _ _ ha, ih _ _ hb, True.intro⟩
    · exact ⟨by simp, ⟨_, _, rfl⟩, plain_heads _ (by decide +kernel), hk.plain, goods_of hes ih⟩
    · exact ⟨by simp, ⟨_, _, rfl⟩, plain_heads _ (by decide +kernel), ih _ _ ha, hf.plain, True.intro⟩
    · exact ⟨by simp, ⟨_, _, rfl⟩, plain_heads _ (by decide +kernel), hk.plain, hg.plain, ih _ _ ha, True.intro⟩
    · exact ⟨by simp, ⟨_, _, rfl⟩, plain_heads _ (by decide +kernel), ih _ _ ha, goods_of hs fun d t h => arm_good ih h⟩
    · exact ⟨by simp, ⟨_, _, rfl⟩, plain_heads _ (by decide +kernel), ih _ _ ha, ih _ _ hb, ih _ _ hc, True.intro⟩
end M

end

section
set_option Elab.async false
set_option linter.all false
set_option maxRecDepth 100000
set_option maxHeartbeats 4000000
namespace M
open PySem
def L (x : Str) : List Nat := x.cps.toList
def ofL (l : List Nat) : Str := ⟨l.toArray⟩
theorem ofL_L (x : Str) : ofL (L x) = x := by
  cases x
  rfl
theorem L_inj {x y : Str} (h : L x = L y) : x = y := by
  rw [← ofL_L x, ← ofL_L y, h]
theorem L_append (x y : Str) : L (x ++ y) = L x ++ L y := by
  show (x.cps ++ y.cps).toList = _
  simp [L]
theorem L_length (x : Str) : (L x).length = x.length := by
  simp [L, Str.length]
theorem L_join (sep : Nat) : ∀ ys : List Str, sep = 32 → L (Str.join ⟨#[sep]⟩ ys) = joinB (ys.map L)
  | [], _ => rfl
  | [x], _ => rfl
  | x :: y :: r, h => by
    subst h
    show L (x ++ ⟨#[32]⟩ ++ Str.join ⟨#[32]⟩ (y :: r)) = L x ++ 32 :: joinB ((y :: r).map L)
    rw [L_append, L_append, L_join 32 (y :: r) rfl, List.append_assoc]
    rfl
theorem cut_eq {x y a b : List Nat} (hx : 32 ∉ x) (hy : 32 ∉ y) (h : x ++ 32 :: a = y ++ 32 :: b) : x = y ∧ a = b := by
  induction x generalizing y with
  | nil =>
    cases y with
    | nil => simpa using h
    | cons c y =>
      simp at h
      exact absurd (by rw [h.1]; simp) hy
  | cons c x ih =>
    cases y with
    | nil =>
      simp at h
      exact absurd (by rw [h.1]; simp) hx
    | cons d y =>
      simp at h
      obtain ⟨h1, h2⟩ := h
      obtain ⟨e1, e2⟩ := ih (y := y) (fun hm => hx (List.mem_cons_of_mem _ hm)) (fun hm => hy (List.mem_cons_of_mem _ hm)) (by simpa using h2)
      exact ⟨by rw [h1, e1], e2⟩
theorem joinB_inj : ∀ (a b : List (List Nat)), a ≠ [] → b ≠ [] → (∀ x ∈ a, 32 ∉ x) → (∀ x ∈ b, 32 ∉ x) → joinB a = joinB b → a = b
  | [], _, h, _, _, _, _ => absurd rfl h
  | _, [], _, h, _, _, _ => absurd rfl h
  | [x], [y], _, _, _, _, h => by
    have : x = y := h
    rw [this]
  | [x], y :: z :: r, _, _, ha, _, h => by
    have h' : x = y ++ 32 :: joinB (z :: r) := h
    exact absurd (by rw [h']; simp) (ha x (by simp))
  | x :: z :: r, [y], _, _, _, hb, h => by
    have h' : x ++ 32 :: joinB (z :: r) = y := h
    exact absurd (by rw [← h']; simp) (hb y (by simp))
  | x :: z :: r, y :: z' :: r', _, _, ha, hb, h => by
    obtain ⟨e1, e2⟩ := cut_eq (ha x (by simp)) (hb y (by simp)) h
    have := joinB_inj (z :: r) (z' :: r') (by simp) (by simp) (fun u hu => ha u (List.mem_cons_of_mem _ hu)) (fun u hu => hb u (List.mem_cons_of_mem _ hu)) e2
    rw [e1, this]
theorem split_ne (x y : Str) : Txt.split x y ≠ [] := by
  unfold Txt.split
  split
  · simp
  · split
    · simp
    · rw [StrLaws.partsBetween_eq]
      obtain ⟨p, r, e⟩ := StrLaws.partsFrom_ne x y.length 0 (Builtin.Str.occurrences x y 0 x.length (x.length + 1))
      rw [e]
      simp
theorem split_is {x : Str} {ws : List (List Nat)} (hn : ws ≠ []) (hf : ∀ z ∈ ws, 32 ∉ z) (hj : joinB ws = L x) : (Txt.split x ⟨#[32]⟩).map L = ws := by
  refine joinB_inj _ _ ?_ hn ?_ hf ?_
  · intro e
    exact split_ne x ⟨#[32]⟩ (List.map_eq_nil_iff.mp e)
  · intro z hz
    obtain ⟨p, hp, rfl⟩ := List.mem_map.mp hz
    exact StrLaws.split_free x 32 p hp
  · rw [← L_join 32 _ rfl, StrLaws.join_split, hj]
theorem parts_len (x : Str) (w : Nat) : ∀ (cuts : List Nat) (a : Nat), (StrLaws.partsFrom x w a cuts).length = cuts.length + 1
  | [], _ => rfl
  | c :: r, a => by
    show (StrLaws.partsFrom x w (c + w) r).length + 1 = _
    rw [parts_len x w r]
    rfl
/-- a text of a good tree is read to it -/
theorem read_tree {t : Tr} (g : t.Good) (hn : t.nest ≤ 20) {x : Str} (hx : L x = t.cs) : ∃ ws, (Txt.split x ⟨#[32]⟩).map L = ws ∧ runW ws [[]] = some [[t]] := by
  obtain ⟨pre, last, W⟩ := words t g
  refine ⟨pre ++ [last], split_is (by simp) W.free (by rw [W.join, hx]), ?_⟩
  have := W.run 0 [[]] (by simp) (by simp; omega) (by simp)
  rw [List.replicate_zero, List.append_nil] at this
  rw [this]
  rfl
end M

end

section
set_option Elab.async false
set_option linter.all false
set_option maxRecDepth 100000
set_option maxHeartbeats 4000000
namespace M
open PySem
theorem take_core (p : Nat → Bool) (l : List Nat) : l.take (l.length - (l.reverse.takeWhile p).length) = (l.reverse.dropWhile p).reverse := by
  have e : l = (l.reverse.dropWhile p).reverse ++ (l.reverse.takeWhile p).reverse := by
    rw [← List.reverse_append, List.takeWhile_append_dropWhile, List.reverse_reverse]
  generalize ha : (l.reverse.dropWhile p).reverse = a at *
  generalize hb : (l.reverse.takeWhile p) = b at *
  rw [e, List.length_append, List.length_reverse, Nat.add_sub_cancel]
  simp
theorem contains41 (c : Nat) : (⟨#[41]⟩ : Str).cps.contains c = (c == 41) := by
  show (#[41] : Array Nat).contains c = _
  simp
  rfl
theorem rstrip_core (x : Str) : L (Txt.rstripChars x ⟨#[41]⟩) = coreOf (L x) := by
  have hp : (⟨#[41]⟩ : Str).cps.contains = fun c => c == 41 := funext contains41
  have key : L (stripped (⟨#[41]⟩ : Str).cps.contains false true x) = coreOf (L x) := by
    unfold stripped
    show (Builtin.Str.strSub x _ _).cps.toList = _
    rw [StrLaws.strSub_toList, hp]
    unfold stripLo stripHi coreOf L
    simp only [Bool.false_eq_true, if_false, if_true, List.drop_zero, Nat.sub_zero]
    have hl : x.length = x.cps.toList.length := by simp [Str.length]
    rw [hl]
    exact take_core _ _
  unfold Txt.rstripChars Txt.stripBy
  split
  · rename_i h
    unfold stripSame at h
    rw [Bool.and_eq_true, beq_iff_eq, beq_iff_eq] at h
    rw [← key]
    unfold stripped
    have h1 := h.1
    have h2 := h.2
    rw [h1] at h2
    rw [h1, h2, StrLaws.sub_whole]
  · exact key
theorem rstrip_len (x : Str) : (Txt.rstripChars x ⟨#[41]⟩).length ≤ x.length := by
  have h := rstrip_core x
  rw [← L_length, h, ← L_length]
  unfold coreOf
  rw [List.length_reverse]
  have := (List.dropWhile_suffix (l := (L x).reverse) (· == 41)).length_le
  simpa using this
theorem starts_open (x : Str) : Txt.startswith x ⟨#[40]⟩ = decide ((L x).head? = some 40) := by
  unfold Txt.startswith
  rw [StrLaws.subAt_eq]
  have hl : x.length = (L x).length := (L_length x).symm
  show (decide (0 + 1 ≤ x.length) && ((L x).drop 0).take 1 == [40]) = _
  rw [hl]
  cases L x with
  | nil => rfl
  | cons c r =>
    simp
    rw [Bool.eq_iff_iff]
    simp
theorem slice_tail (x : Str) (h : 1 ≤ x.length) : L (Txt.slice x (some 1) none) = (L x).tail := by
  have e : Txt.slice x (some 1) none = StrLaws.sliceText x (some 1) none := rfl
  rw [e, StrLaws.sliceText_from ⟨by decide, by rw [show x.cps.toList.length = x.length by simp [Str.length]]; omega⟩]
  show ((L x).drop 1).take _ = _
  rw [List.drop_one]
  refine List.take_of_length_le ?_
  rw [List.length_tail]
  show (L x).length - 1 ≤ (((L x).length : Int) - 1).toNat
  omega
end M

end

section
set_option Elab.async false
set_option linter.all false
set_option maxRecDepth 100000
set_option maxHeartbeats 4000000
namespace M
open PySem
def letters : Str := S "abcdefghijklmnopqrstuvwxyz"
def figures : Str := S "0123456789"
/-- a sign is among those of y -/
def inS (y : Str) (c : Nat) : Bool := !(Builtin.Str.occurrences y ⟨#[c]⟩ 0 y.length 1).isEmpty
theorem inS_mem (y : Str) (c : Nat) : inS y c = decide (c ∈ L y) := StrLaws.found_one y c
def madeOf (x y : Str) (m : Int) : Bool := decide (1 ≤ x.length) && decide ((x.length : Int) ≤ m) && (L x).all (inS y)
theorem letters_is (c : Nat) : inS letters c = isLetter c := by
  rw [inS_mem]
  have e : L letters = List.range' 97 26 := by decide +kernel
  rw [e, Bool.eq_iff_iff]
  simp [isLetter, List.mem_range']
  constructor
  · rintro ⟨i, h1, h2⟩; omega
  · rintro ⟨h1, h2⟩; exact ⟨c - 97, by omega, by omega⟩
theorem figures_is (c : Nat) : inS figures c = isFigure c := by
  rw [inS_mem]
  have e : L figures = List.range' 48 10 := by decide +kernel
  rw [e, Bool.eq_iff_iff]
  simp [isFigure, List.mem_range']
  constructor
  · rintro ⟨i, h1, h2⟩; omega
  · rintro ⟨h1, h2⟩; exact ⟨c - 48, by omega, by omega⟩
def numL (x : List Nat) : Bool := decide (1 ≤ x.length) && decide (x.length ≤ 10) && x.all isFigure && (decide (x = [48]) || decide (x.head? ≠ some 48))
theorem made_letters (x : Str) : madeOf x letters 6 = (decide (1 ≤ (L x).length) && decide ((L x).length ≤ 6) && (L x).all isLetter) := by
  unfold madeOf
  rw [show inS letters = isLetter from funext letters_is, L_length]
  congr 2
  rw [Bool.eq_iff_iff]
  simp
  omega
theorem made_figures (x : Str) : madeOf x figures 10 = (decide (1 ≤ (L x).length) && decide ((L x).length ≤ 10) && (L x).all isFigure) := by
  unfold madeOf
  rw [show inS figures = isFigure from funext figures_is, L_length]
  congr 2
  rw [Bool.eq_iff_iff]
  simp
  omega
theorem name_is (x : Str) : nameL (L x) = (madeOf x letters 6 && !(decide (x = S "num") || decide (x = S "it"))) := by
  rw [made_letters]
  unfold nameL
  have e1 : (L x != [110, 117, 109]) = !decide (x = S "num") := by
    by_cases h : x = S "num"
    · subst h
      decide +kernel
    · rw [decide_eq_false h]
      have : L x ≠ [110, 117, 109] := fun e => h (L_inj (e.trans (by decide +kernel)))
      simpa using this
  have e2 : (L x != [105, 116]) = !decide (x = S "it") := by
    by_cases h : x = S "it"
    · subst h
      decide +kernel
    · rw [decide_eq_false h]
      have : L x ≠ [105, 116] := fun e => h (L_inj (e.trans (by decide +kernel)))
      simpa using this
  rw [e1, e2, Bool.not_or, Bool.and_assoc]
theorem number_is (x : Str) : numL (L x) = (madeOf x figures 10 && (decide (x = S "0") || !decide ((⟨#[(L x).getD 0 0]⟩ : Str) = S "0"))) := by
  rw [made_figures]
  unfold numL
  cases h : (decide (1 ≤ (L x).length) && decide ((L x).length ≤ 10) && (L x).all isFigure)
  · rfl
  · rw [Bool.true_and, Bool.true_and]
    have h1 : 1 ≤ (L x).length := by
      simp only [Bool.and_eq_true, decide_eq_true_eq] at h
      exact h.1.1
    have e1 : decide (L x = [48]) = decide (x = S "0") := by
      rw [decide_eq_decide]
      constructor
      · intro e; exact L_inj (e.trans (by decide +kernel))
      · intro e; rw [e]; decide +kernel
    have e2 : decide ((L x).head? ≠ some 48) = !decide ((⟨#[(L x).getD 0 0]⟩ : Str) = S "0") := by
      cases hx : L x with
      | nil => rw [hx] at h1; simp at h1
      | cons c r =>
        by_cases hc : c = 48
        · subst hc
          have : (⟨#[(48 :: r).getD 0 0]⟩ : Str) = S "0" := by
            show (⟨#[48]⟩ : Str) = S "0"
            decide +kernel
          rw [decide_eq_true this]
          simp
        · have : ¬ (⟨#[(c :: r).getD 0 0]⟩ : Str) = S "0" := by
            show ¬ (⟨#[c]⟩ : Str) = S "0"
            intro e
            have := congrArg L e
            have e0 : L (S "0") = [48] := by decide +kernel
            rw [e0] at this
            have : [c] = [48] := this
            simp at this
            exact hc this
          rw [decide_eq_false this]
          simpa using hc
    rw [e1, e2]
theorem digits_head : ∀ (m : Nat), 0 < m → ((Nat.toDigits 10 m).map Char.toNat).head? ≠ some 48 := by
  intro m
  induction m using Nat.strongRecOn with
  | _ m ih =>
    intro h0
    by_cases h : m < 10
    · rw [Nat.toDigits_of_lt_base h]
      have : ∀ m : Nat, m < 10 → 0 < m → [(Nat.digitChar m).toNat].head? ≠ some 48 := by decide
      exact this m h h0
    · have hm : m % 10 < 10 := Nat.mod_lt m (by decide)
      have t : Nat.toDigits 10 (m / 10) ++ Nat.toDigits 10 (m % 10) = Nat.toDigits 10 (10 * (m / 10) + m % 10) := Nat.toDigits_append_toDigits (by decide) (by omega) hm
      rw [Nat.div_add_mod] at t
      have hi := ih (m / 10) (by omega) (by omega)
      rw [← t, List.map_append]
      have hp := Nat.length_toDigits_pos (b := 10) (n := m / 10)
      cases hd : Nat.toDigits 10 (m / 10) with
      | nil => rw [hd] at hp; simp at hp
      | cons c r =>
        rw [hd] at hi
        simpa using hi
theorem num_number {n : Int} (h : 0 ≤ n) (h1 : n < 10 ^ 10) : numL (L (numS n)) = true := by
  have hf := num_figures h
  have hl := num_len h h1
  have hn := num_ne h
  unfold numL
  have a1 : 1 ≤ (L (numS n)).length := by
    cases e : L (numS n) with
    | nil => exact absurd e hn
    | cons c r => simp
  rw [decide_eq_true a1, decide_eq_true (show (L (numS n)).length ≤ 10 from hl)]
  have a2 : (L (numS n)).all isFigure = true := List.all_eq_true.mpr hf
  rw [a2, Bool.true_and, Bool.true_and]
  obtain ⟨m, rfl⟩ := Int.eq_ofNat_of_zero_le h
  by_cases hm : m = 0
  · subst hm
    decide +kernel
  · have := digits_head m (by omega)
    rw [← num_reads] at this
    rw [Bool.true_and, Bool.or_eq_true]
    exact .inr (decide_eq_true this)
theorem name_no_number {x : Str} (h : Name x) : numL (L x) = false := by
  cases e : L x with
  | nil => exact absurd e h.pos
  | cons c r =>
    have := h.letters c (by show c ∈ L x; rw [e]; exact List.mem_cons_self)
    have : isFigure c = false := by
      simp [isLetter] at this
      simp [isFigure]
      omega
    unfold numL
    simp [this]
end M

end

section
set_option Elab.async false
set_option linter.all false
set_option maxRecDepth 100000
set_option maxHeartbeats 4000000
namespace M
open PySem L2
mutual
def RelD (H : Hp) : V → D → Prop
  | v, .int i => v = .int i
  | v, .str x => v = .str x
  | v, .tup ds => ∃ a vs, v = .ref a ∧ H a = some (.tup vs) ∧ RelDs H vs ds
def RelDs (H : Hp) : List V → List D → Prop
  | vs, [] => vs = []
  | vs, d :: ds => ∃ v r, vs = v :: r ∧ RelD H v d ∧ RelDs H r ds
end
mutual
def RelT (H : Hp) : V → Tr → Prop
  | v, .w x => v = .str (ofL x)
  | v, .l ts => ∃ a vs, v = .ref a ∧ H a = some (.lst vs) ∧ RelTs H vs ts
def RelTs (H : Hp) : List V → List Tr → Prop
  | vs, [] => vs = []
  | vs, t :: ts => ∃ v r, vs = v :: r ∧ RelT H v t ∧ RelTs H r ts
end
mutual
theorem RelD.same {H H' : Hp} (s : Same H H') : ∀ {v : V} (d : D), RelD H v d → RelD H' v d
  | v, .int i, h => h
  | v, .str x, h => h
  | v, .tup ds, ⟨a, vs, e, ha, h⟩ => ⟨a, vs, e, s _ _ ha, RelDs.same s ds h⟩
theorem RelDs.same {H H' : Hp} (s : Same H H') : ∀ {vs : List V} (ds : List D), RelDs H vs ds → RelDs H' vs ds
  | vs, [], h => h
  | vs, d :: ds, ⟨v, r, e, h1, h2⟩ => ⟨v, r, e, RelD.same s d h1, RelDs.same s ds h2⟩
end
mutual
theorem RelT.same {H H' : Hp} (s : Same H H') : ∀ {v : V} (t : Tr), RelT H v t → RelT H' v t
  | v, .w x, h => h
  | v, .l ts, ⟨a, vs, e, ha, h⟩ => ⟨a, vs, e, s _ _ ha, RelTs.same s ts h⟩
theorem RelTs.same {H H' : Hp} (s : Same H H') : ∀ {vs : List V} (ts : List Tr), RelTs H vs ts → RelTs H' vs ts
  | vs, [], h => h
  | vs, t :: ts, ⟨v, r, e, h1, h2⟩ => ⟨v, r, e, RelT.same s t h1, RelTs.same s ts h2⟩
end
theorem RelDs.length {H : Hp} : ∀ {vs : List V} {ds : List D}, RelDs H vs ds → vs.length = ds.length
  | vs, [], h => by rw [show vs = [] from h]; rfl
  | vs, d :: ds, ⟨v, r, e, _, h2⟩ => by rw [e, List.length_cons, List.length_cons, RelDs.length h2]
theorem RelTs.length {H : Hp} : ∀ {vs : List V} {ds : List Tr}, RelTs H vs ds → vs.length = ds.length
  | vs, [], h => by rw [show vs = [] from h]; rfl
  | vs, d :: ds, ⟨v, r, e, _, h2⟩ => by rw [e, List.length_cons, List.length_cons, RelTs.length h2]
theorem RelDs.append {H : Hp} : ∀ {vs us : List V} {ds es : List D}, RelDs H vs ds → RelDs H us es → RelDs H (vs ++ us) (ds ++ es)
  | vs, us, [], es, h, k => by rw [show vs = [] from h]; exact k
  | vs, us, d :: ds, es, ⟨v, r, e, h1, h2⟩, k => by subst e; exact ⟨v, r ++ us, rfl, h1, RelDs.append h2 k⟩
theorem RelTs.append {H : Hp} : ∀ {vs us : List V} {ds es : List Tr}, RelTs H vs ds → RelTs H us es → RelTs H (vs ++ us) (ds ++ es)
  | vs, us, [], es, h, k => by rw [show vs = [] from h]; exact k
  | vs, us, d :: ds, es, ⟨v, r, e, h1, h2⟩, k => by subst e; exact ⟨v, r ++ us, rfl, h1, RelTs.append h2 k⟩
theorem RelDs.get {H : Hp} : ∀ {vs : List V} {ds : List D} {i : Nat} {v : V}, RelDs H vs ds → vs[i]? = some v → ∃ d, ds[i]? = some d ∧ RelD H v d
  | vs, [], i, v, h, e => by rw [show vs = [] from h] at e; simp at e
  | vs, d :: ds, 0, v, ⟨u, r, e0, h1, _⟩, e => by
    subst e0
    simp at e
    subst e
    exact ⟨d, rfl, h1⟩
  | vs, d :: ds, i + 1, v, ⟨u, r, e0, _, h2⟩, e => by
    subst e0
    obtain ⟨x, hx, hr⟩ := RelDs.get (i := i) (v := v) h2 (by simpa using e)
    exact ⟨x, by simpa using hx, hr⟩
theorem RelTs.get {H : Hp} : ∀ {vs : List V} {ds : List Tr} {i : Nat} {v : V}, RelTs H vs ds → vs[i]? = some v → ∃ d, ds[i]? = some d ∧ RelT H v d
  | vs, [], i, v, h, e => by rw [show vs = [] from h] at e; simp at e
  | vs, d :: ds, 0, v, ⟨u, r, e0, h1, _⟩, e => by
    subst e0
    simp at e
    subst e
    exact ⟨d, rfl, h1⟩
  | vs, d :: ds, i + 1, v, ⟨u, r, e0, _, h2⟩, e => by
    subst e0
    obtain ⟨x, hx, hr⟩ := RelTs.get (i := i) (v := v) h2 (by simpa using e)
    exact ⟨x, by simpa using hx, hr⟩
end M
namespace M
open PySem L2
theorem blank_is : S " " = ⟨#[32]⟩ := by decide +kernel
theorem L_txtjoin (ys : List Str) : L (Txt.join (S " ") ys) = joinB (ys.map L) := by
  rw [blank_is]
  show L (Builtin.Str.glued ⟨#[32]⟩ ys) = _
  rw [StrLaws.glued_eq_join, L_join 32 ys rfl]
theorem iteKF {c A B : Prop} [Decidable c] (h : decide c = false) (b : B) : if decide c = true then A else B := by
  rw [h]
  exact b
theorem iteKT {c A B : Prop} [Decidable c] (h : decide c = true) (a : A) : if decide c = true then A else B := by
  rw [h]
  exact a
theorem iteBF {c : Bool} {A B : Prop} (h : c = false) (b : B) : if c = true then A else B := by
  rw [h]
  exact b
theorem iteBT {c : Bool} {A B : Prop} (h : c = true) (a : A) : if c = true then A else B := by
  rw [h]
  exact a
end M

end

section
set_option Elab.async false
set_option linter.all false
set_option maxRecDepth 100000
set_option maxHeartbeats 4000000
namespace M
open PySem L2
def hide (bad : List Addr) (H : Hp) : Hp := fun b => if b ∈ bad then none else H b
theorem hide_get {bad : List Addr} {H : Hp} {b : Addr} {o : HO} : hide bad H b = some o ↔ b ∉ bad ∧ H b = some o := by
  unfold hide
  by_cases h : b ∈ bad
  · rw [if_pos h]; simp [h]
  · rw [if_neg h]; simp [h]
structure PileAt (H : Hp) (p : Addr) (as : List Addr) (st : Pile) : Prop where
  pile : H p = some (.lst (as.map V.ref).reverse)
  nd : as.Nodup
  np : p ∉ as
  lists : All2 (fun a ts => ∃ vs, H a = some (.lst vs) ∧ RelTs (hide (p :: as) H) vs ts) as st
def sumP (st : Pile) : Nat := (st.map List.length).sum
theorem PileAt.len {H : Hp} {p : Addr} {as : List Addr} {st : Pile} (h : PileAt H p as st) : as.length = st.length := h.lists.length
theorem All2.mono_mem {α β : Type} {R S : α → β → Prop} {as : List α} {bs : List β} (h : All2 R as bs) (f : ∀ a b, a ∈ as → R a b → S a b) : All2 S as bs := by
  induction h with
  | nil => exact .nil
  | cons h t ih => exact .cons (f _ _ List.mem_cons_self h) (ih fun a b ha => f a b (List.mem_cons_of_mem _ ha))
theorem hide_other {bad : List Addr} {H : Hp} {a : Addr} {o : HO} (ha : a ∈ bad) : hide bad (upd H a o) = hide bad H := by
  funext b
  unfold hide
  by_cases h : b ∈ bad
  · rw [if_pos h, if_pos h]
  · rw [if_neg h, if_neg h, upd_ne (fun (e : b = a) => h (e ▸ ha))]
/-- the innermost bracket gets one more -/
theorem PileAt.push {H : Hp} {p a : Addr} {as : List Addr} {top : List Tr} {st : Pile} {vs : List V} {v : V} {t : Tr} (h : PileAt H p (a :: as) (top :: st)) (ha : H a = some (.lst vs)) (hv : RelT (hide (p :: a :: as) H) v t) :
    PileAt (upd H a (.lst (vs ++ [v]))) p (a :: as) ((top ++ [t]) :: st) where
  pile := by rw [upd_ne (fun e => h.np (by rw [e]; exact List.mem_cons_self))]; exact h.pile
  nd := h.nd
  np := h.np
  lists := by
    have hh : hide (p :: a :: as) (upd H a (.lst (vs ++ [v]))) = hide (p :: a :: as) H := hide_other (by simp)
    rw [hh]
    cases h.lists with
    | cons h1 h2 =>
      obtain ⟨vs', e, r⟩ := h1
      rw [ha] at e
      cases e
      refine .cons ⟨_, upd_same, r.append ⟨v, [], rfl, hv, rfl⟩⟩ (h2.mono_mem fun b ts hb ⟨us, e, r⟩ => ⟨us, ?_, r⟩)
      rw [upd_ne (fun (e : b = a) => (List.nodup_cons.mp h.nd).1 (e ▸ hb))]
      exact e
theorem PileAt.push_same {H : Hp} {p a : Addr} {as : List Addr} {o : HO} : Same (hide (p :: a :: as) H) (hide (p :: a :: as) (upd H a o)) := by
  rw [hide_other (by simp)]
  exact Same.refl _
/-- a new bracket: n is new, then the pile gets it -/
theorem PileAt.opens {H : Hp} {p n : Addr} {as : List Addr} {st : Pile} (h : PileAt H p as st) (hn : H n = none) :
    PileAt (upd (upd H n (.lst [])) p (.lst ((as.map V.ref).reverse ++ [.ref n]))) p (n :: as) ([] :: st) ∧ Same (hide (p :: as) H) (hide (p :: n :: as) (upd (upd H n (.lst [])) p (.lst ((as.map V.ref).reverse ++ [.ref n])))) := by
  have pn : p ≠ n := fun e => by have := h.pile; rw [e, hn] at this; cases this
  have na : n ∉ as := fun hm => by
    obtain ⟨i, hi⟩ := List.getElem?_of_mem hm
    obtain ⟨ts, _, vs, e, _⟩ := h.lists.get hi
    rw [hn] at e; cases e
  have sm : Same (hide (p :: as) H) (hide (p :: n :: as) (upd (upd H n (.lst [])) p (.lst ((as.map V.ref).reverse ++ [.ref n])))) := fun b o e => by
    obtain ⟨hb, e⟩ := hide_get.mp e
    have b1 : b ≠ p := fun q => hb (by rw [q]; exact List.mem_cons_self)
    have b2 : b ≠ n := fun q => by rw [q, hn] at e; cases e
    refine hide_get.mpr ⟨fun hm => ?_, by rw [upd_ne b1, upd_ne b2]; exact e⟩
    rcases List.mem_cons.mp hm with q | hm
    · exact b1 q
    · rcases List.mem_cons.mp hm with q | hm
      · exact b2 q
      · exact hb (List.mem_cons_of_mem _ hm)
  refine ⟨⟨by rw [upd_same]; simp, List.nodup_cons.mpr ⟨na, h.nd⟩, fun hm => ?_, .cons ⟨[], ?_, rfl⟩ (h.lists.mono_mem fun b ts hb ⟨us, e, r⟩ => ⟨us, ?_, r.same sm _⟩)⟩, sm⟩
  · rcases List.mem_cons.mp hm with q | hm
    · exact pn q
    · exact h.np hm
  · rw [upd_ne pn.symm, upd_same]
  · rw [upd_ne (fun (q : b = p) => h.np (q ▸ hb)), upd_ne (fun (q : b = n) => na (q ▸ hb))]
    exact e
/-- the innermost bracket is put into the one around it -/
theorem PileAt.shuts {H : Hp} {p a b : Addr} {as : List Addr} {top par : List Tr} {st : Pile} {vs : List V} (h : PileAt H p (a :: b :: as) (top :: par :: st)) (hb : H b = some (.lst vs)) :
    PileAt (upd (upd H p (.lst ((b :: as).map V.ref).reverse)) b (.lst (vs ++ [.ref a]))) p (b :: as) ((par ++ [.l top]) :: st) ∧
    Same (hide (p :: a :: b :: as) H) (hide (p :: b :: as) (upd (upd H p (.lst ((b :: as).map V.ref).reverse)) b (.lst (vs ++ [.ref a])))) := by
  have pb : b ≠ p := fun e => h.np (by rw [← e]; simp)
  have pa : a ≠ p := fun e => h.np (by rw [← e]; simp)
  have ab : a ≠ b := fun e => (List.nodup_cons.mp h.nd).1 (by rw [e]; simp)
  have sm : Same (hide (p :: a :: b :: as) H) (hide (p :: b :: as) (upd (upd H p (.lst ((b :: as).map V.ref).reverse)) b (.lst (vs ++ [.ref a])))) := fun c o e => by
    obtain ⟨hc, e⟩ := hide_get.mp e
    refine hide_get.mpr ⟨fun hm => hc ?_, ?_⟩
    · rcases List.mem_cons.mp hm with q | hm
      · rw [q]; simp
      · exact List.mem_cons_of_mem _ (List.mem_cons_of_mem _ hm)
    · rw [upd_ne (fun q => hc (by rw [q]; simp)), upd_ne (fun q => hc (by rw [q]; simp))]
      exact e
  cases h.lists with
  | cons h1 h2 =>
    cases h2 with
    | cons h2 h3 =>
      obtain ⟨us, ea, ra⟩ := h1
      obtain ⟨vs', eb, rb⟩ := h2
      rw [hb] at eb
      cases eb
      have nd2 := List.nodup_cons.mp h.nd
      have nd3 := List.nodup_cons.mp nd2.2
      refine ⟨⟨by rw [upd_ne pb.symm, upd_same], nd2.2, fun hm => h.np (List.mem_cons_of_mem _ hm), .cons ⟨_, upd_same, ?_⟩ (h3.mono_mem fun c ts hc ⟨ws, e, r⟩ => ⟨ws, ?_, r.same sm _⟩)⟩, sm⟩
      · refine (rb.same sm _).append ⟨.ref a, [], rfl, ⟨a, us, rfl, ?_, ra.same sm _⟩, rfl⟩
        refine hide_get.mpr ⟨fun hm => ?_, by rw [upd_ne ab, upd_ne pa]; exact ea⟩
        rcases List.mem_cons.mp hm with q | hm
        · exact pa q
        · exact nd2.1 hm
      · rw [upd_ne (fun (q : c = b) => nd3.1 (q ▸ hc)), upd_ne (fun q => h.np (by rw [← q]; exact List.mem_cons_of_mem _ (List.mem_cons_of_mem _ hc)))]
        exact e
theorem sum_close : ∀ (k : Nat) (st : Pile), (∀ top r, st = top :: r → 1 ≤ top.length) → sumP (close k st) ≤ sumP st
  | 0, st, _ => Nat.le_refl _
  | k + 1, [], _ => Nat.le_refl _
  | k + 1, [x], _ => Nat.le_refl _
  | k + 1, top :: par :: st, h => by
    have := sum_close k ((par ++ [.l top]) :: st) fun t r e => by cases e; simp
    have h1 := h top (par :: st) rfl
    show sumP (close k ((par ++ [.l top]) :: st)) ≤ _
    refine Nat.le_trans this ?_
    simp [sumP]
    omega
theorem sum_closeN {k : Nat} {st st' : Pile} (h : closeN k st = some st') (ht : ∀ top r, st = top :: r → 1 ≤ top.length) : sumP st' ≤ sumP st := by
  unfold closeN at h
  split at h
  · cases h; exact sum_close k st ht
  · cases h
theorem sum_push (t : Tr) (st : Pile) : sumP (push t st) ≤ sumP st + 1 := by
  cases st with
  | nil => simp [push, sumP]
  | cons top r => simp [push, sumP]; omega
theorem push_ne (t : Tr) (st : Pile) : ∀ top r, push t st = top :: r → 1 ≤ top.length := by
  intro top r e
  cases st with
  | nil => cases e
  | cons a b => cases e; simp
theorem sum_put {x : List Nat} {st st' : Pile} (h : putW x st = some st') : sumP st' ≤ sumP st + 1 := by
  unfold putW putC at h
  split at h
  · split at h
    · have := sum_closeN h (push_ne _ _)
      have h2 := sum_push (.w (coreOf x).tail) ([] :: st)
      have h3 : sumP ([] :: st) = sumP st := by simp [sumP]
      omega
    · cases h
  · have := sum_closeN h (push_ne _ _)
    have h2 := sum_push (.w (coreOf x)) st
    omega
theorem len_closeN {k : Nat} {st st' : Pile} (h : closeN k st = some st') : st'.length + k = st.length := by
  unfold closeN at h
  split at h
  · cases h; exact close_length k st (by assumption)
  · cases h
theorem len_put {x : List Nat} {st st' : Pile} (h : putW x st = some st') (h1 : 1 ≤ st.length) (h2 : st.length ≤ 21) : 1 ≤ st'.length ∧ st'.length ≤ 21 := by
  unfold putW putC at h
  split at h
  · split at h
    · rename_i hl
      have := len_closeN h
      rw [push_length, List.length_cons] at this
      unfold closeN at h
      split at h
      · rename_i hk
        rw [push_length, List.length_cons] at hk
        omega
      · cases h
    · cases h
  · have := len_closeN h
    rw [push_length] at this
    unfold closeN at h
    split at h
    · rename_i hk
      rw [push_length] at hk
      omega
    · cases h
theorem top_le {top : List Tr} {st : Pile} : top.length ≤ sumP (top :: st) := by simp [sumP]
theorem runW_snoc (a : List (List Nat)) (x : List Nat) (st : Pile) : runW (a ++ [x]) st = (runW a st).bind (putW x) := by
  rw [runW_append]
  congr 1
  funext s
  show (putW x s).bind (runW []) = putW x s
  cases putW x s <;> rfl
theorem Txt_split_len (x : Str) : (Txt.split x (S " ")).length ≤ x.length + 2 := by
  unfold Txt.split
  split
  · simp
  · split
    · simp
    · rw [StrLaws.partsBetween_eq, parts_len]
      have := StrLaws.occ_length_le_len x (S " ") 0 x.length (x.length + 1)
      omega
theorem joinB_len : ∀ {ws : List (List Nat)} {z : List Nat}, z ∈ ws → z.length ≤ (joinB ws).length
  | [x], z, h => by
    rw [List.mem_singleton.mp h]
    exact Nat.le_refl _
  | x :: y :: r, z, h => by
    show z.length ≤ (x ++ 32 :: joinB (y :: r)).length
    rw [List.length_append, List.length_cons]
    rcases List.mem_cons.mp h with e | h
    · rw [e]; omega
    · have := joinB_len (ws := y :: r) h
      omega
theorem Txt_split_part (x y : Str) (h : y ∈ Txt.split x (S " ")) : y.length ≤ x.length := by
  have e : joinB ((Txt.split x (S " ")).map L) = L x := by
    rw [blank_is, ← L_join 32 _ rfl, StrLaws.join_split]
  have := joinB_len (ws := (Txt.split x (S " ")).map L) (z := L y) (List.mem_map.mpr ⟨y, h, rfl⟩)
  rw [e, L_length, L_length] at this
  exact this
end M

end

section
set_option Elab.async false
set_option linter.all false
set_option maxRecDepth 100000
set_option maxHeartbeats 4000000
namespace M
open PySem L2
mutual
theorem RelD.tups {H H' : Hp} (s : ∀ b vs, H b = some (.tup vs) → H' b = some (.tup vs)) : ∀ {v : V} (d : D), RelD H v d → RelD H' v d
  | v, .int i, h => h
  | v, .str x, h => h
  | v, .tup ds, ⟨a, vs, e, ha, h⟩ => ⟨a, vs, e, s _ _ ha, RelDs.tups s ds h⟩
theorem RelDs.tups {H H' : Hp} (s : ∀ b vs, H b = some (.tup vs) → H' b = some (.tup vs)) : ∀ {vs : List V} (ds : List D), RelDs H vs ds → RelDs H' vs ds
  | vs, [], h => h
  | vs, d :: ds, ⟨v, r, e, h1, h2⟩ => ⟨v, r, e, RelD.tups s d h1, RelDs.tups s ds h2⟩
end
theorem fed_tups {a : Addr} {H H' : Hp} (hf : ∃ p q : Int, H a = some (.lst [.int p, .int q])) (f : Fed a H H') : ∀ b vs, H b = some (.tup vs) → H' b = some (.tup vs) := fun b vs e => f.1 b _ e fun z => by
  obtain ⟨p, q, h⟩ := hf
  rw [z, h] at e
  cases e
def single (c : Nat) : Str := ⟨#[c]⟩
theorem join_singles : ∀ cs : List Nat, Txt.join (S "") (cs.map single) = ofL cs := by
  have h : ∀ cs : List Nat, L (Str.join (S "") (cs.map single)) = cs := by
    intro cs
    induction cs with
    | nil => rfl
    | cons c r ih =>
      cases r with
      | nil => rfl
      | cons d r =>
        show L (single c ++ S "" ++ Str.join (S "") ((d :: r).map single)) = _
        rw [L_append, L_append, ih]
        have e : L (S "") = [] := by decide +kernel
        rw [e]
        rfl
  intro cs
  apply L_inj
  show L (Builtin.Str.glued (S "") (cs.map single)) = cs
  rw [StrLaws.glued_eq_join, h]
theorem sum_singles (cs : List Nat) : ((cs.map single).map (·.length)).sum = cs.length := by
  induction cs with
  | nil => rfl
  | cons c r ih =>
    show (single c).length + ((r.map single).map (·.length)).sum = r.length + 1
    rw [ih, show (single c).length = 1 from rfl]
    omega
abbrev nA : List Str := [Str.ofString "rec", Str.ofString "alt", Str.ofString "hand", Str.ofString "box", Str.ofString "set", Str.ofString "send", Str.ofString "take", Str.ofString "tell", Str.ofString "go", Str.ofString "if", Str.ofString "end", Str.ofString "get", Str.ofString "tag", Str.ofString "case"]
abbrev nB : List Str := [Str.ofString "numx", Str.ofString "recq", Str.ofString "takes", Str.ofString "iff", Str.ofString "itq", Str.ofString "goes", Str.ofString "sends", Str.ofString "tags", Str.ofString "ends", Str.ofString "gets", Str.ofString "way", Str.ofString "with"]
theorem names26_all : ∀ y ∈ nA ++ nB, nameL (L y) = true := by decide +kernel
theorem name_drawn {cs : List Nat} (h1 : 1 ≤ cs.length) (h6 : cs.length ≤ 6) (hl : ∀ c ∈ cs, isLetter c = true) (n1 : ofL cs ≠ S "num") (n2 : ofL cs ≠ S "it") : Name (ofL cs) := by
  show nameL cs = true
  unfold nameL
  have e1 : (cs != [110, 117, 109]) = true := by
    rw [bne_iff_ne]
    intro e
    apply n1
    rw [e]
    decide +kernel
  have e2 : (cs != [105, 116]) = true := by
    rw [bne_iff_ne]
    intro e
    apply n2
    rw [e]
    decide +kernel
  rw [e1, e2, decide_eq_true h1, decide_eq_true h6, List.all_eq_true.mpr hl]
  rfl
theorem letter_at {r : Int} {c : Nat} (h : atI (S "abcdefghijklmnopqrstuvwxyz").cps.toList r = some c) : isLetter c = true := by
  obtain ⟨j, _, e, _⟩ := atI_get h
  have hm := List.mem_of_getElem? e
  have all : ∀ c ∈ (S "abcdefghijklmnopqrstuvwxyz").cps.toList, isLetter c = true := by decide +kernel
  exact all c hm
theorem at_codes {α : Type} {cs : List α} {r : Int} (h0 : 0 ≤ r) (h : r < (cs.length : Int)) : ∃ c ∈ cs, atI cs r = some c := by
  have hk : r.toNat < cs.length := by omega
  have ek : r = ((r.toNat : Nat) : Int) := by omega
  refine ⟨cs[r.toNat], List.getElem_mem hk, ?_⟩
  have q : atI cs ((r.toNat : Nat) : Int) = some cs[r.toNat] := atI_nat (List.getElem?_eq_getElem hk)
  rw [← ek] at q
  exact q
theorem at26 {r : Int} (h0 : 0 ≤ r) (h : r < 26) : ∃ y ∈ nA ++ nB, atI (nA.map V.str ++ nB.map V.str) r = some (.str y) := by
  have e : nA.map V.str ++ nB.map V.str = (nA ++ nB).map V.str := List.map_append.symm
  obtain ⟨z, hz, hv⟩ := at_codes (cs := (nA ++ nB).map V.str) h0 (by rw [List.length_map]; exact h)
  obtain ⟨y, hy, rfl⟩ := List.mem_map.mp hz
  exact ⟨y, hy, by rw [e]; exact hv⟩
end M

end

section
set_option Elab.async false
set_option linter.all false
set_option maxRecDepth 100000
set_option maxHeartbeats 1000000
namespace L2
open PySem PySem.Spec PyProof.Rows
section
variable {X : Cx}
theorem for_enum {K : PySem.W.Frag} {a : Addr} {xs : List V} {g : TG} {tb : TS} {D : Ends} {σ : St} {H : Hp} (Pv : Nat → St → Hp → Prop) (h0 : Pv 0 σ H) (hl : ∀ i σ H, i ≤ xs.length → Pv i σ H → SqL K H a xs)
    (hs : ∀ i x σ H p, xs[i]? = some x → Pv i σ H → H p = none → g (.ref p) σ (upd H p (.tup [.int (i : Nat), x])) fun σ2 H2 => tb { D with nx := Pv (i + 1), ct := Pv (i + 1), bk := D.nx } σ2 H2) (hd : ∀ σ H, Pv xs.length σ H → D.nx σ H) :
    ∃ W : Nat → Nat → St → Hp → Prop, (∃ m, W 0 m σ H) ∧ ∀ i m σ H, W i m σ H →
      ((Ite K a).stop i H ∧ D.nx σ H) ∨ ((Ite K a).go i H ∧ ∃ N : St → Hp → Prop, (∀ σ' H', N σ' H' → ∃ m', m' < m ∧ W (i + 1) m' σ' H') ∧ ∀ x H', (Ite K a).yld i H x H' → g x σ H' fun σ2 H2 => tb { D with nx := N, ct := N, bk := D.nx } σ2 H2) := by
  refine ⟨fun i m σ H => m = xs.length - i ∧ i ≤ xs.length ∧ Pv i σ H, ⟨xs.length, by simp, Nat.zero_le _, h0⟩, ?_⟩
  rintro i m σ H ⟨rfl, hi, p⟩
  have q := hl i σ H hi p
  by_cases hlt : i < xs.length
  · refine .inr ⟨⟨xs, xs[i], q, by simp [hlt]⟩, Pv (i + 1), fun σ' H' p' => ⟨xs.length - (i + 1), by omega, rfl, hlt, p'⟩, fun x H' y => ?_⟩
    obtain ⟨pp, z, rfl, hp, rfl, hy⟩ := y
    exact hs i z σ H pp (hy xs q) p hp
  · have e : i = xs.length := by omega
    subst e
    exact .inl ⟨⟨xs, q, Nat.le_refl _⟩, hd σ H p⟩
end

open PySem.W in
def ad (K : Frag) (x : Str) : Addr := match nsIn K mainGlobals x with | some (some (.ref C)) => C | _ => 0
theorem ad_of {K : PySem.W.Frag} {x : Str} {C : Addr} (e : PySem.W.nsIn K mainGlobals x = some (some (.ref C))) : ad K x = C := by unfold ad; rw [e]
def names11 : List Str := ["BadText", "Twice", "NoName", "NoCount", "WrongKind", "Lacks", "NotOwn", "Falls", "TooBig", "NoFit", "NoCode"]
def cAt (K : PySem.W.Frag) (i : Nat) : Addr := ad K (names11.getD i "")
open PySem.W in
def xclIn (K : Frag) (C : Addr) : Bool :=
  findIn K (.ref C) "__getattribute__" == some (some (.builtin "BaseException.__getattribute__")) && (findIn K (.ref C) "__getattr__" == some none && (mroIn K C (.type "BaseException") == some true && (mroIn K C (.type "object") == some true &&
  (hasDictIn K C && (findIn K (.ref C) "__class__" == some (some (.builtin "object.__class__")) && (specialIn K (.builtin "object.__class__") "__get__" == some (some (.builtin "getset_descriptor.__get__")) && (takesIn K (.builtin "object.__class__") == some true &&
  (xIn K C bmV "ValueError.__new__" && (keepIn K (.ref C) && findIn K (.ref C) "__setattr__" == some (some (.builtin "object.__setattr__")))))))))))
theorem xcl_of {K : PySem.W.Frag} {C : Addr} (e : xclIn K C = true) : XCl K C := by
  unfold xclIn at e
  simp only [Bool.and_eq_true, beq_iff_eq] at e
  obtain ⟨e1, e2, e3, e4, e5, e6, e7, e8, e9, e10, e11⟩ := e
  exact ⟨⟨e1, e2, e3, e4, e5, e6, e7, e8⟩, e9, e10, e11⟩
open PySem.W in
def xTable (K : Frag) : Bool :=
  (List.range 11).all (fun i => xclIn K (cAt K i)) && ((List.range 11).all (fun i => i == 0 || findIn K (.ref (cAt K i)) "__init__" == some (some (.builtin "ValueError.__init__"))) &&
  ((List.range 11).all (fun i => (List.range 11).all fun j => kitOne K (.ref (cAt K i)) (.ref (cAt K j)) == some (decide (i = j))) &&
  ((List.range 11).all (fun i => kitOne K (.ref (cAt K i)) (.ref (ad K "SwapError")) == some true && kitOne K (.ref (cAt K i)) (.type "ValueError") == some true) &&
  (readsIn K (ad K "SwapError") (.type "type") && (specialIn K (.ref (ad K "SwapError")) "__getattribute__" == some (some (.builtin "type.__getattribute__")) &&
  ((match findCls K (.ref (ad K "SwapError")) (.type "type") "__init__" with | some (.val v) => v == .builtin "ValueError.__init__" | _ => false) &&
  (findIn K (.ref (cAt K 0)) "at" == some none)))))))
structure XTab (K : PySem.W.Frag) : Prop where
  cl : ∀ i, i < 11 → XCl K (cAt K i)
  ini : ∀ i, i < 11 → i ≠ 0 → PySem.W.findIn K (.ref (cAt K i)) "__init__" = some (some (.builtin "ValueError.__init__"))
  kit : ∀ i j, i < 11 → j < 11 → PySem.W.kitOne K (.ref (cAt K i)) (.ref (cAt K j)) = some (decide (i = j))
  kS : ∀ i, i < 11 → PySem.W.kitOne K (.ref (cAt K i)) (.ref (ad K "SwapError")) = some true
  kV : ∀ i, i < 11 → PySem.W.kitOne K (.ref (cAt K i)) (.type "ValueError") = some true
  sup : XSup K (ad K "SwapError")
  na : NoAttr K (cAt K 0) "at"
theorem xtab_of {K : PySem.W.Frag} (e : xTable K = true) : XTab K := by
  unfold xTable at e
  simp only [Bool.and_eq_true, List.all_eq_true, List.mem_range, beq_iff_eq, Bool.or_eq_true] at e
  obtain ⟨e1, e2, e3, e4, e5, e6, e7, e9⟩ := e
  refine ⟨fun i h => xcl_of (e1 i h), fun i h n => (e2 i h).resolve_left n, fun i j h h' => e3 i h j h', fun i h => (e4 i h).1, fun i h => (e4 i h).2, ⟨e5, e6, ?_⟩, e9⟩
  split at e7
  · rename_i v q
    rw [q, beq_iff_eq.mp e7]
  · cases e7

/-- the def __init__ of a class -/
def clsDef (s : Stmt) (j : Nat) : Stmt := match s with
  | .ClassDef _ _ _ b _ _ _ _ _ _ _ => b.getD j (.Pass ⟨0, 0, 0, 0⟩)
  | _ => .Pass ⟨0, 0, 0, 0⟩
structure InitTx (K : PySem.W.Frag) (q : Str) (C : Addr) (st : Stmt) (ps : List Str) : Prop where
  ex : ∃ (f : Addr) (fd : FuncData), PySem.W.findIn K (.ref C) "__init__" = some (some (.ref f)) ∧ PySem.W.isFn K (.ref f) = true ∧ Fun K "__init__" q st f fd ∧ ∀ us : List Value, us.length = ps.length → bindArgs fd ⟨us, []⟩ = pure (ps.zip us)
theorem init_mk {K : PySem.W.Frag} {x q : Str} {C f : Addr} {st : Stmt} {ps : List Str} {oc : Value} {od an : Option Addr} {osl : Array (Option Value)} {kV doc pm cdv ct : Value} (a : PySem.W.nsIn K mainGlobals x = some (some (.ref C)))
    (i : PySem.W.findIn K (.ref C) "__init__" = some (some (.ref f))) (n : PySem.W.isFn K (.ref f) = true)
    (l : K.lookup f = some ⟨oc, od, .func (PySem.W.fnOf "__init__" q (defArgs st) (defBody st) (defScope st) .none kV doc pm an cdv ct), osl⟩) (c : PySem.W.codeIn K cdv q = true) (k : PySem.W.keepIn K (.ref f) = true)
    (b : ∀ (kV doc pm : Value) (an : Option Addr) (cdv ct : Value) (us : List Value), us.length = ps.length → bindArgs (PySem.W.fnOf "__init__" q (defArgs st) (defBody st) (defScope st) .none kV doc pm an cdv ct) ⟨us, []⟩ = pure (ps.zip us)) : InitTx K q (ad K x) st ps := by
  rw [ad_of a]
  exact ⟨f, _, i, n, fun_mk (st := st) l c k, b kV doc pm an cdv ct⟩
structure InitIs (P : Program) (w : World) (K : PySem.W.Frag) (mg : Str → Option Value) (base : Heap) (n : Nat) (C : Addr) (ps : List Str) (sp : Sp) : Prop where
  ex : ∃ (f : Addr) (fd : FuncData), PySem.W.findIn K (.ref C) "__init__" = some (some (.ref f)) ∧ PySem.W.isFn K (.ref f) = true ∧ FnOk P w K mg base CX0 n f fd ps sp ∧ Binds K fd ps []
theorem InitIs.of {P : Program} {w : World} {K : PySem.W.Frag} {mg : Str → Option Value} {base : Heap} {n : Nat} {q : Str} {C : Addr} {st : Stmt} {ps N : List Str} {sp : Sp} (T : InitTx K q C st ps) (S : FnScope N ps (defScope st)) (len : ∀ vs H Q E, sp vs H Q E → vs.length = ps.length)
    (hbody : ∀ (f : Addr) (cdv : Value) (A : Around) (outer : List Env) (s : Shared) (H : Hp) (vs : List V) (Q : VK) (E : XK), Room n (A.deeper (envOfC q (defScope st) s.heap.objs.size f cdv)) → sp vs H Q E →
      ∃ t, PSs (cxOf CX0 P w K mg base N q (defScope st) f cdv A outer s H E).nox (defBody st) t ∧ t { nx := fun _ H' => Q .non H', rt := Q } (start N vs) H) : InitIs P w K mg base (n + 1) C ps sp := by
  obtain ⟨f, fd, i, nn, F, b⟩ := T.ex
  exact ⟨f, fd, i, nn, F.ok S len (fun cdv A outer s H vs Q E hr h => hbody f cdv A outer s H vs Q E hr h), Binds.all b⟩
section
variable {X : Cx} {n : Nat} {x : Str} {C : Addr} {ps : List Str} {sp : Sp} {e : Expr} {es : List Expr} {p pos : Pos} {t : TA}
theorem pe_dexc (D : InitIs X.prog X.w X.K X.mg X.base n C ps sp) (M : XCl X.K C) (hr : Room (n + 1) X.A) (hm : X.mg x = some (.ref C)) (ha : PA X (e :: es) t) (hg : Gl X x := by rfl) (hdb : (x == ("__debug__" : Str)) = false := by decide)
    (he : starEach (e :: es) X.env = (false, eval e X.env) :: starEach es X.env := by rfl) (hpl : (backTo pos (starEach es X.env)).any (·.1) = false := by rfl) : PE X (.Call (.Name x p) (e :: es) [] pos) (tExcI C sp E0 t) := by
  obtain ⟨f, fd, i, nn, F, b⟩ := D.ex
  exact pe_excI M i nn F hr b pass0 hg hm ha hdb he hpl
end
end L2

end

section
set_option Elab.async false
set_option linter.all false
set_option maxRecDepth 100000
set_option maxHeartbeats 1000000
namespace L2
open PySem PySem.Spec PyProof.Rows

/-- a refusal in flight: its class, its own dict, the newest entry of its traceback, whose flight that says -/
def Trc (h : Heap) (e C : Addr) (d : Option Addr) (c2 : Value) (T : Option Addr) (fl : Value) : Prop :=
  ∃ vs : Array Value, (vs.size = 6 ∧ vs[2]? = some c2) ∧ h.get? e = some { cls := .ref C, dict := d, data := .fields vs } ∧
    match T with
    | none => vs[1]? = some .none
    | some T => vs[1]? = some (.ref T) ∧ T ≠ e ∧ ∃ oT ts, h.get? T = some oT ∧ oT.data = .fields ts ∧ ts[3]? = some fl
structure FlyTo (fs : List Addr) (e : Addr) (T : Option Addr) (h h' : Heap) : Prop where
  keep : ∀ b o, b ∉ fs → b ≠ e → T ≠ some b → h.get? b = some o → h'.get? b = some o
  slot : ∀ b o, b ∈ fs → b ≠ e → T ≠ some b → h.get? b = some o → ∃ sl, h'.get? b = some { o with slots := sl }
  size : h.objs.size ≤ h'.objs.size
theorem FlyTo.refl {fs : List Addr} {e : Addr} {T : Option Addr} {h : Heap} : FlyTo fs e T h h := ⟨fun _ _ _ _ _ q => q, fun _ o _ _ _ q => ⟨o.slots, q⟩, Nat.le_refl _⟩
/-- the second begins at the same entry, or at one that came in the first -/
theorem FlyTo.trans {fs : List Addr} {e T' : Addr} {T : Option Addr} {h h1 h2 : Heap} (a : FlyTo fs e T h h1) (b : FlyTo fs e (some T') h1 h2) (t : T = some T' ∨ h.objs.size ≤ T') : FlyTo fs e T h h2 := by
  have nt : ∀ c o, T ≠ some c → h.get? c = some o → (some T' : Option Addr) ≠ some c := fun c o n q z => by
    have z' : T' = c := Option.some.inj z
    rcases t with t | t
    · exact n (by rw [t, z'])
    · exact absurd (Heap.lt_size q) (Nat.not_lt.mpr (by rw [← z']; exact t))
  refine ⟨fun c o n1 n2 n3 q => b.keep c o n1 n2 (nt c o n3 q) (a.keep c o n1 n2 n3 q), fun c o n1 n2 n3 q => ?_, Nat.le_trans a.size b.size⟩
  obtain ⟨sl, q1⟩ := a.slot c o n1 n2 n3 q
  obtain ⟨sl', q2⟩ := b.slot c _ n1 n2 (nt c o n3 q) q1
  exact ⟨sl', q2⟩
section
variable {M : Model} {A : Around} {E : Value → Shared → Prop} {s : Shared} {c2 : Value}

theorem fly_flight {fs : List Addr} {e C T : Addr} {d fr : Option Addr} {fl : Value} {Q : Unit → Shared → Prop} (t : Trc s.heap e C d c2 (some T) fl)
    (h : ∀ h', FlyTo fs e (some T) s.heap h' → Trc h' e C d c2 (some T) (fr.elim .none fun f => rawInt f) → Q () { s with heap := h' }) : wpAny M A (setFlight (.ref e) fr) Q E s := by
  obtain ⟨vs, hz, he, h1, hTe, oT, ts, hT, hdT, h3⟩ := t
  have h1 : vs[1]? = some (.ref T) := h1
  have other : ∀ b, b ≠ T → (s.heap.update T (Obj.mapFields (·.setIfInBounds 3 (fr.elim Value.none fun f => rawInt f)))).get? b = s.heap.get? b := fun b hb => Heap.get?_update_other _ _ (Ne.symm hb)
  unfold setFlight
  refine wpAny_bind (wpAny_field he rfl h1 ?_)
  rw [if_pos (show (Value.ref T != Value.none) = true from by simp)]
  have h3s : 3 < ts.size := (Array.getElem?_eq_some_iff.mp h3).1
  refine wpAny_setField hT hdT h3s (h _ ⟨fun b o _ _ n q => (other b fun z => n (by rw [z])).trans q, fun b o _ _ n q => ⟨o.slots, (other b fun z => n (by rw [z])).trans q⟩, ?_⟩ ?_)
  · rw [Heap.size_after_update]; exact Nat.le_refl _
  · exact ⟨vs, hz, (other e (Ne.symm hTe)).trans he, h1, hTe, _, _, Heap.get?_update_self _ hT (Obj.isFreed_of_fields (Obj.data_mapFields hdT _)), Obj.data_mapFields hdT _, by simp [h3s]⟩

theorem fly_new {base : Heap} {env : Env} {outer : List Env} {L e C : Addr} {d : Option Addr} {vs : Array Value} {head : Value} {hadNext : Bool} {Q : Unit → Shared → Prop}
    (hfr : A.frames = some (env :: outer)) (hl : s.heap.FunFrames base (env :: outer)) (hf : env.frame = some L)
    (he : s.heap.get? e = some { cls := .ref C, dict := d, data := .fields vs }) (hz : vs.size = 6 ∧ vs[2]? = some c2)
    (h : ∀ h', FlyTo (frs (env :: outer)) e none s.heap h' → Trc h' e C d c2 (some s.heap.objs.size) (rawInt L) → Q () { s with heap := h' }) :
    wpAny M A (do let a ← frameOf env; let pl ← entryPlaceOf L hadNext; let b ← EntryCells.newEntry head a .none (rawInt L) .none pl; setField (.ref e) 1 b) Q E s := by
  have hene : e ∉ frs (env :: outer) := fun hm => by
    obtain ⟨_, o, ho, hnf⟩ := hl.mem hm
    rw [he] at ho; injection ho with ho; subst ho; exact hnf vs rfl
  refine wpAny_bind (wpAny_frameOf_fun hfr hl hf fun h₁ hs₁ => ?_)
  refine wpAny_bind (wpAny_entryPlaceOf fun pl hpl => ?_)
  unfold EntryCells.newEntry newFields
  refine wpAny_bind (wpAny_newObj_type ?_ (hpl.sizeOk5 _ _ _ _ _))
  have he₁ : h₁.get? e = some { cls := .ref C, dict := d, data := .fields vs } := (hs₁.2.1 e hene).trans he
  have hz₁ : h₁.objs.size = s.heap.objs.size := hs₁.1
  have he₂ := Heap.get?_push_of_some (h := h₁) { cls := .type "traceback", dict := none, data := .fields ([head, .ref L, .none, rawInt L, .none] ++ (if pl.isEmpty then List.replicate 6 Value.none else pl)).toArray } he₁
  refine wpAny_setField he₂ rfl (by rw [hz.1]; decide) ?_
  have hTe : h₁.objs.size ≠ e := Nat.ne_of_gt (Heap.lt_size he₁)
  have he₃ := Heap.get?_update_self (Obj.mapFields (·.setIfInBounds 1 (Value.ref h₁.objs.size))) he₂ rfl
  have hT₃ := (Heap.get?_update_other (h₁.push { cls := .type "traceback", dict := none, data := .fields ([head, .ref L, .none, rawInt L, .none] ++ (if pl.isEmpty then List.replicate 6 Value.none else pl)).toArray })
    (Obj.mapFields (·.setIfInBounds 1 (Value.ref h₁.objs.size))) (Ne.symm hTe)).trans (Heap.get?_push_size h₁ rfl)
  have keep : ∀ b o, b ≠ e → h₁.get? b = some o →
      ((h₁.push { cls := .type "traceback", dict := none, data := .fields ([head, .ref L, .none, rawInt L, .none] ++ (if pl.isEmpty then List.replicate 6 Value.none else pl)).toArray }).update e (Obj.mapFields (·.setIfInBounds 1 (Value.ref h₁.objs.size)))).get? b = some o := fun b o hbe hb => by
    rw [Heap.get?_update_other _ _ (Ne.symm hbe)]
    exact Heap.get?_push_of_some _ hb
  refine h _ ⟨fun b o hb n _ q => keep b o n ((hs₁.2.1 b hb).trans q), fun b o hb n _ q => ?_, ?_⟩ ?_
  · obtain ⟨sl, hs⟩ := hs₁.2.2 b o q
    exact ⟨sl, keep b _ n hs⟩
  · rw [Heap.size_after_update, Heap.size_push, hz₁]; exact Nat.le_succ _
  · refine ⟨vs.setIfInBounds 1 (Value.ref h₁.objs.size), ⟨by simpa using hz.1, by rw [Array.getElem?_setIfInBounds_ne (by decide)]; exact hz.2⟩, ?_, ?_, ?_, ?_⟩
    · exact he₃
    · rw [hz₁]; simp [hz.1]
    · rw [← hz₁]; exact hTe
    · refine ⟨{ cls := .type "traceback", dict := none, data := .fields ([head, .ref L, .none, rawInt L, .none] ++ (if pl.isEmpty then List.replicate 6 Value.none else pl)).toArray }, _, by rw [← hz₁]; exact hT₃, rfl, ?_⟩
      first | (simp; done) | (rcases hpl with rfl | ⟨_, _, _, _, _, _, _, rfl⟩ <;> simp)

theorem fly_note {base : Heap} {env : Env} {outer : List Env} {L e C : Addr} {d T : Option Addr} {fl : Value} {Q : Unit → Shared → Prop}
    (hfr : A.frames = some (env :: outer)) (hl : s.heap.FunFrames base (env :: outer)) (hf : env.frame = some L) (t : Trc s.heap e C d c2 T fl)
    (h : ∀ h' T', FlyTo (frs (env :: outer)) e T s.heap h' → (T = some T' ∨ s.heap.objs.size ≤ T') → Trc h' e C d c2 (some T') (rawInt L) → Q () { s with heap := h' }) : wpAny M A (noteFrame (.ref e) env) Q E s := by
  obtain ⟨vs, hz, he, tt⟩ := id t
  unfold noteFrame
  simp only [hf]
  cases T with
  | none =>
    refine wpAny_bind (wpAny_field he rfl tt ?_)
    rw [if_neg (by decide)]
    exact fly_new hfr hl hf he hz fun h' a b => h h' _ a (.inr (Nat.le_refl _)) b
  | some T =>
    obtain ⟨h1, hTe, oT, ts, hT, hdT, h3⟩ := tt
    have h1 : vs[1]? = some (.ref T) := h1
    refine wpAny_bind (wpAny_field he rfl h1 ?_)
    rw [if_pos (show (Value.ref T != Value.none) = true from by simp)]
    refine wpAny_bind (wpAny_field hT hdT h3 ?_)
    by_cases q : (fl == rawInt L) = true
    · rw [if_pos q]
      obtain rfl := beq_iff_eq.mp q
      exact wpAny_pure (h _ T FlyTo.refl (.inl rfl) t)
    · rw [if_neg q]
      have h3s : 3 < ts.size := (Array.getElem?_eq_some_iff.mp h3).1
      refine wpAny_bind (wpAny_setField hT hdT h3s ?_)
      have other : ∀ b, b ≠ T → (s.heap.update T (Obj.mapFields (·.setIfInBounds 3 Value.none))).get? b = s.heap.get? b := fun b hb => Heap.get?_update_other _ _ (Ne.symm hb)
      have noRecord : ∀ b o, s.heap.get? b = some o → (∀ vs, o.data ≠ .fields vs) → b ≠ T := fun b o hb hnf q => by
        rw [q, hT] at hb; injection hb with hb; subst hb; exact hnf ts hdT
      have hsz : (s.heap.update T (Obj.mapFields (·.setIfInBounds 3 Value.none))).objs.size = s.heap.objs.size := Heap.size_after_update ..
      refine fly_new (s := { s with heap := s.heap.update T (Obj.mapFields (·.setIfInBounds 3 Value.none)) }) hfr (hl.of_keeps fun b o hb hnf => ⟨o, (other b (noRecord b o hb hnf)).trans hb, rfl⟩) hf ((other e (Ne.symm hTe)).trans he) hz fun h' a b => ?_
      refine h h' _ ⟨fun c o n1 n2 n3 w => a.keep c o n1 n2 (fun z => nomatch z) ((other c fun z => n3 (by rw [z])).trans w), fun c o n1 n2 n3 w => a.slot c o n1 n2 (fun z => nomatch z) ((other c fun z => n3 (by rw [z])).trans w), ?_⟩ (.inr (Nat.le_refl _)) ?_
      · rw [← hsz]; exact a.size
      · rw [← hsz]; exact b

theorem fly_leave {base : Heap} {env : Env} {outer : List Env} {L e C : Addr} {d T : Option Addr} {fl : Value} {Q : Unit → Shared → Prop}
    (hfr : A.frames = some (env :: outer)) (hl : s.heap.FunFrames base (env :: outer)) (hf : env.frame = some L) (t : Trc s.heap e C d c2 T fl)
    (h : ∀ h' T', FlyTo (frs (env :: outer)) e T s.heap h' → (T = some T' ∨ s.heap.objs.size ≤ T') → Trc h' e C d c2 (some T') .none → Q () { s with heap := h' }) : wpAny M A (leaving env (.ref e)) Q E s := by
  unfold leaving
  refine wpAny_bind (fly_note hfr hl hf t fun h1 T' a w b => ?_)
  exact fly_flight (s := { s with heap := h1 }) (fs := frs (env :: outer)) (fr := none) b fun h2 a2 b2 => h h2 T' (a.trans a2 w) w b2
end
end L2

end

section
set_option Elab.async false
set_option linter.all false
set_option maxRecDepth 100000
set_option maxHeartbeats 1000000
namespace L2
open PySem PySem.Spec PyProof.Rows

/-- a refusal that was raised -/
def excF (e C : Addr) (d : Option Addr) (c2 : Value) : HO := .ext fun h => ∃ vs : Array Value, (vs.size = 6 ∧ vs[2]? = some c2) ∧ h.get? e = some { cls := .ref C, dict := d, data := .fields vs }
theorem ObjOk.excF {P : Program} {w : World} {H : Hp} {h : Heap} {e C : Addr} {d : Option Addr} {c2 : Value} {vs : Array Value} (hz : vs.size = 6 ∧ vs[2]? = some c2) (he : h.get? e = some { cls := .ref C, dict := d, data := .fields vs }) : ObjOk P w H h e (L2.excF e C d c2) :=
  ⟨⟨vs, hz, he⟩, ⟨_, he⟩, fun h1 h2 ⟨v, z, a⟩ k => ⟨v, z, k _ a⟩⟩
theorem HOk.excF {P : Program} {w : World} {H : Hp} {h : Heap} {e C : Addr} {d : Option Addr} {c2 : Value} (x : HOk P w H h) (q : H e = some (L2.excF e C d c2)) : ∃ vs : Array Value, (vs.size = 6 ∧ vs[2]? = some c2) ∧ h.get? e = some { cls := .ref C, dict := d, data := .fields vs } :=
  (show ObjOk P w H h e (L2.excF e C d c2) from x e _ q).1

section
variable {X : Cx} {pins : List (Addr × Obj)} {σ : St} {H : Hp} {s : Shared} {h' : Heap} {x C : Addr} {d T T1 : Option Addr} {fl c2 : Value}
/-- a refusal flies on: the frames' slots, its own record and its traceback's change, nothing else -/
theorem Inv.flight (I : Inv X pins σ H s) (hx : H x = some (excF x C d c2)) (hT : ∀ T', T = some T' → FpOk X pins H T') (a : FlyTo (frs X.stack) x T s.heap h') (t : Trc h' x C d c2 T1 fl) : Inv X pins σ H { s with heap := h' } := by
  obtain ⟨vs, hz, he, _⟩ := t
  have nT : ∀ b u, H b = some u → T ≠ some b := fun b u e z => by rw [(hT b z).1] at e; cases e
  have nF : ∀ b u, H b = some u → b ∉ frs X.stack := fun b u e z => by rw [I.stkFree b z] at e; cases e
  have nx : ∀ b, H b = none → b ≠ x := fun b n z => by rw [z, hx] at n; cases n
  have there : ∀ b o, T ≠ some b → s.heap.get? b = some o → ∃ o', h'.get? b = some o' := fun b o n q => by
    by_cases z : b = x
    · exact ⟨_, by rw [z]; exact he⟩
    · by_cases f : b ∈ frs X.stack
      · obtain ⟨sl, w⟩ := a.slot b o f z n q
        exact ⟨_, w⟩
      · exact ⟨_, a.keep b o f z n q⟩
  have tl : ∀ b, b ∉ T.toList → T ≠ some b := fun b n z => n (by rw [z]; simp)
  refine I.call (g' := s.gens) (t' := s.toks) (d' := s.drawn) (ch := T.toList) ⟨fun b o q n hb hc => a.keep b o hb (nx b n) (tl b hc) q, fun b o q n hb hc => a.slot b o hb (nx b n) (tl b hc) q, fun _ _ _ n _ => n, fun b o q hc => there b o (tl b hc) q, fun _ _ q => q, fun _ _ _ q => q, fun b ps q => ⟨#[], by rw [q]; simp⟩⟩ (fun b u e => ?_) I.bare (fun b hb => ?_)
  · by_cases z : b = x
    · subst z
      rw [hx] at e
      cases e
      exact ObjOk.excF hz he
    · refine (I.hok b u e).stay (fun c v hc q => ?_) (fun _ q => q) fun _ _ q => q
      rcases hc with w | w
      · rw [w]
        rw [w] at q
        exact a.keep b v (nF b u e) z (nT b u e) q
      · have cx : c ≠ x := fun z => by rw [z, hx] at w; cases w
        exact a.keep c v (nF c _ w) cx (nT c _ w) q
  · have hb' : T = some b := by simpa using hb
    obtain ⟨f0, f1, f2, f3, f4, f5⟩ := hT b hb'
    exact ⟨f3, f1, f4, f5⟩

/-- what is wanted of a refusal within a body: itself, its own dict, the slots, the abstract heap -/
abbrev XS := Value → Option Addr → St → Hp → Prop
/-- a refusal has been raised in this body -/
def Thrown (X : Cx) (E : XS) (e : Value) (s : Shared) : Prop :=
  ∃ (x C : Addr) (d T : Option Addr) (c2 fl : Value) (pins : List (Addr × Obj)) (σ : St) (H : Hp), e = .ref x ∧ Inv X pins σ H s ∧ H x = some (excF x C d c2) ∧ (∀ T', T = some T' → FpOk X pins H T') ∧ Trc s.heap x C d c2 T fl ∧ E (.ref x) d σ H
abbrev Cx.thr (X : Cx) (E : XS) : Cx := X.wish (Thrown X E)
/-- how it lies behind a call -/
def CX1 (P : Program) (w : World) : CXT := fun outer H s E e s' =>
  ∃ (x C : Addr) (d T : Option Addr) (c2 fl : Value) (H' : Hp), e = .ref x ∧ s'.os = s.os ∧ AllBare s'.gens ∧ Un (frs outer) [] H H' s.heap s'.heap ∧ HOk P w H' s'.heap ∧ H' x = some (excF x C d c2) ∧
    (∀ T', T = some T' → s.heap.objs.size ≤ T' ∧ H' T' = none) ∧ Trc s'.heap x C d c2 T fl ∧ E (.ref x) d H'
/-- a callee's refusal is this body's -/
theorem pass1 {E : XS} {e : Value} {s' : Shared} (I0 : Inv X pins σ H s) (h : CX1 X.prog X.w X.stack H s (fun v d H' => E v d σ H') e s') : Thrown X E e s' := by
  obtain ⟨x, C, d, T, c2, fl, H', rfl, os, bare, un, hok, hx, hT, t, q⟩ := h
  have I1 : Inv X pins σ H' s' := by
    obtain ⟨hh, g, dr, tk, os'⟩ := s'
    obtain rfl : os' = s.os := os
    exact I0.call (h' := hh) (g' := g) (d' := dr) (t' := tk) (ch := []) un hok bare (fun b z => absurd z (by simp))
  exact ⟨x, C, d, T, c2, fl, pins, σ, H', rfl, I1, hx, fun T' z => I0.fpOk (hT T' z).1 (hT T' z).2, t, q⟩
end

section
variable {P : Program} {w : World} {K : PySem.W.Frag} {mg : Str → Option Value} {base : Heap} {N : List Str} {qual : Str} {scope : Scope} {f : Addr} {cd : Value} {A : Around} {outer : List Env} {s : Shared} {H : Hp} {E : XK}
/-- .. and leaves the frame -/
theorem thr_leave {e : Value} {s' : Shared} (h : Thrown (cxOf (CX1 P w) P w K mg base N qual scope f cd A outer s H E) (fun v d _ H' => E v d H') e s') : (cxOf (CX1 P w) P w K mg base N qual scope f cd A outer s H E).xe e s' := by
  obtain ⟨x, C, d, T, c2, fl, pins, σ, H', rfl, I, hx, hT, t, q⟩ := h
  show wpAny (model P w) (A.deeper (envOfC qual scope s.heap.objs.size f cd)) (leaving (envOfC qual scope s.heap.objs.size f cd) (.ref x)) _ _ s'
  refine fly_leave (base := base) I.ok.frames I.stack rfl t fun h2 T' a w2 t2 => ?_
  have I2 := I.flight hx hT a t2
  refine ⟨x, C, d, some T', c2, .none, H', rfl, I2.os, I2.bare, I2.base, I2.hok, hx, fun T2 z => ?_, t2, q⟩
  cases z
  rcases w2 with z | z
  · obtain ⟨f0, f1, f2, f3, f4, f5⟩ := hT T' z
    refine ⟨?_, f0⟩
    rcases f3 with y | y
    · exact absurd y (by show T' ∉ ([] : List Addr); simp)
    · exact y
  · exact ⟨Nat.le_trans I.sz z, I.hok.fresh z⟩
theorem PSs.thr {E : XS} {X : Cx} {st : List Stmt} {t : TS} (h : PSs (X.thr E) st t) (hx : ∀ e s', Thrown X E e s' → X.xe e s') : PSs X st t := fun pins s σ H D I hw =>
  wpAny_mono (h pins s σ H D (I.wish _) hw) (fun _ _ q => q.unwish) fun e s' z => hx e s' z
end

section
variable {X : Cx} {E : XS}
/-- through loops -/
theorem thr_own (hs : X.stack = X.env :: X.outer) (hf : X.env.frame = some X.env.locals) : PassesOwn (model X.prog X.w) X.A X.env (Thrown X E) := by
  intro e s h
  obtain ⟨x, C, d, T, c2, fl, pins, σ, H, rfl, I, hx, hT, t, q⟩ := h
  have fr : X.A.frames = some (X.env :: X.outer) := by rw [I.ok.frames, hs]
  have fn : s.heap.FunFrames X.base (X.env :: X.outer) := by rw [← hs]; exact I.stack
  refine fly_note (base := X.base) fr fn hf t fun h1 T' a w t1 => ?_
  rw [← hs] at a
  have I1 := I.flight hx hT a t1
  have hT1 : FpOk X pins H T' := by
    rcases w with z | z
    · exact hT T' z
    · exact I.fpOk z (I.hok.fresh z)
  show wpAny _ _ _ _ _ _
  obtain ⟨vs, hz, he, h1', _⟩ := id t1
  have h1' : vs[1]? = some (.ref T') := h1'
  refine wpAny_bind (wpAny_field he rfl h1' ?_)
  rw [if_neg (show ¬ ((Value.ref T' == Value.none) = true) from Bool.false_ne_true)]
  show wpAny _ _ (setFlight (.ref x) X.env.frame) _ _ _
  refine fly_flight (fs := frs X.stack) t1 fun h2 a2 t2 => ?_
  exact ⟨x, C, d, some T', c2, _, pins, σ, H, rfl, I1.flight hx (fun T2 z => by cases z; exact hT1) a2 t2, hx, fun T2 z => by cases z; exact hT1, t2, q⟩
end
end L2

end

section
set_option Elab.async false
set_option linter.all false
set_option maxRecDepth 100000
set_option maxHeartbeats 1000000
namespace L2
open PySem PySem.Spec PyProof.Rows

section
variable {M : Model} {A : Around} {E' : Value → Shared → Prop} {env : Env}
theorem raise_made {s : Shared} {x : Sem Value} {Q : Flow → Shared → Prop} (hh : A.handled = none)
    (h : wpAny M A x (fun v s₁ => ∃ e t C d bmB, v = .ref e ∧ bmB.contains (.type "BaseException") = true ∧ XObj s₁.heap C bmB "ValueError.__new__" ∧ s₁.heap.get? e = some (newExc C t d) ∧ E' (.ref e) s₁) E' s) :
    wpAny M A (raiseStmt env (some x) none) Q E' s := by
  unfold raiseStmt
  refine wpAny_bind (wpAny_mono h (fun v s₁ h₁ => ?_) fun _ _ x => x)
  obtain ⟨e, t, C, d, bmB, rfl, hbase, ⟨nm, qn, N, bs, bm, sn, sub, ab, col, dd, k0, k1, k2, k3, k5, hC, T⟩, he, hE⟩ := h₁
  have hcB : (Value.ref C :: bm).contains (.type "BaseException") = true := by rw [List.contains_cons, T.hasType hbase, Bool.or_true]
  obtain ⟨hp, g, d, tk, os⟩ := s₁
  repeat (first | with_reducible refine wpAny_loadPart_at he ?_ | with_reducible refine wpAny_loadPart_at hC ?_ | (with_reducible refine wpAny_isSubtype_exc hC ?_; rw [hcB]) | wp_step)
  exact wpAny_raiseNew_none hh hE
end

section
variable {X : Cx} {E : XS} {ex : Expr} {te : TE} {pos : Pos}
/-- raise e: e is a refusal that was made -/
def sRaise (K : PySem.W.Frag) (E : XS) (te : TE) : TS := fun _ σ H => te σ H fun v H1 => ∃ x C d, v = .ref x ∧ H1 x = some (excO x C d) ∧ XCl K C ∧ E (.ref x) d σ (upd H1 x (excF x C d .none))
theorem ps_raise (hc : X.calm = true) (he : PE (X.thr E) ex te) : PS (X.thr E) (.Raise (some ex) none pos) (sRaise X.K E te) := by
  intro pins s σ H D I h
  rw [arm_exec_Raise]
  simp only [evalOpt, Option.map]
  refine wpAny_bind (wpAny_standAt (raise_made (I.ok.hd hc) ?_))
  refine wpAny_bind (wpAny_mono (he pins s σ H _ I h) (fun v s1 h1 => wpAny_bind (wpAny_standAt (wpAny_pure ?_))) fun _ _ z => z)
  obtain ⟨u, H1, I1, r, x, C, d, ex, ea, c, q⟩ := h1
  subst ex
  obtain rfl : v = Value.ref x := r
  obtain ⟨t0, hx⟩ := I1.hok.exc ea
  refine ⟨x, t0, C, d, bmV, rfl, by decide, x_of_in I1.kIn c.obj, hx, ?_⟩
  have I2 : Inv X pins σ (upd H1 x (excF x C d .none)) s1 := by
    have mu : Mut (H1 x) := by rw [ea]; exact True.intro
    exact I1.unwish.write (h' := s1.heap) (t' := s1.toks) (x := x) (e := x) mu (.inl rfl) (fun _ _ _ q => q) ⟨_, hx⟩ (ObjOk.excF (vs := #[.ref t0, .none, .none, .none, .bool false, .none]) ⟨rfl, rfl⟩ hx)
  exact ⟨x, C, d, none, .none, .none, pins, σ, _, rfl, I2, upd_same, fun T' z => (nomatch z), ⟨#[.ref t0, .none, .none, .none, .bool false, .none], ⟨rfl, rfl⟩, hx, rfl⟩, q⟩
end

structure DefXs (P : Program) (w : World) (K : PySem.W.Frag) (mg : Str → Option Value) (base : Heap) (n : Nat) (x : Str) (ps : List Str) (sp : Sp) : Prop where
  ex : ∃ (f : Addr) (fd : FuncData), FnOk P w K mg base (CX1 P w) n f fd ps sp ∧ Binds K fd ps [] ∧ PySem.W.keepIn K (.ref f) = true ∧ mg x = some (.ref f) ∧ ∃ oc od osl, K.lookup f = some ⟨oc, od, .func fd, osl⟩
section
variable {P : Program} {w : World} {K : PySem.W.Frag} {mg : Str → Option Value} {base : Heap} {n m : Nat} {x : Str} {ps N : List Str} {sp : Sp} {st : Stmt}
theorem DefXs.mono (D : DefXs P w K mg base n x ps sp) (h : n ≤ m) : DefXs P w K mg base m x ps sp := by
  obtain ⟨f, fd, F, r⟩ := D.ex
  exact ⟨f, fd, F.mono h, r⟩
theorem DefXs.imp {sp' : Sp} (D : DefXs P w K mg base n x ps sp) (h : ∀ vs H Q E, sp' vs H Q E → sp vs H Q E) : DefXs P w K mg base n x ps sp' := by
  obtain ⟨f, fd, F, r⟩ := D.ex
  exact ⟨f, fd, F.imp h, r⟩
/-- one that never refuses -/
theorem DefIs.xs (D : DefIs P w K mg base n x ps sp) : DefXs P w K mg base n x ps sp := by
  obtain ⟨f, fd, F, r⟩ := D.ex
  refine ⟨f, fd, ⟨F.len, fun A outer s H args us vs Q E hr he hb hv hs => codeAny_mono (F.run A outer s H args us vs Q E hr he hb hv hs) fun r s' q => ?_⟩, r⟩
  cases r with
  | error e => exact False.elim q
  | ok fl => cases fl <;> exact q
theorem DefXs.of (T : DefTx K mg x st ps) (S : FnScope N ps (defScope st)) (len : ∀ vs H Q E, sp vs H Q E → vs.length = ps.length)
    (hbody : ∀ (f : Addr) (cdv : Value) (A : Around) (outer : List Env) (s : Shared) (H : Hp) (vs : List V) (Q : VK) (E : XK), Room n (A.deeper (envOfC x (defScope st) s.heap.objs.size f cdv)) → sp vs H Q E →
      ∃ t, PSs ((cxOf (CX1 P w) P w K mg base N x (defScope st) f cdv A outer s H E).thr fun v d _ H' => E v d H') (defBody st) t ∧ t { nx := fun _ H' => Q .non H', rt := Q } (start N vs) H) : DefXs P w K mg base (n + 1) x ps sp := by
  obtain ⟨f, fd, F, m, b⟩ := T.ex
  refine ⟨f, fd, ?_, Binds.all b, F.kp, m, fun_at F⟩
  obtain ⟨oc, od, kV, doc, pm, an, cdv, ct, osl, rfl, lk, hcd⟩ := F.ex
  refine fn_of lk hcd S len fun A outer s H vs Q E hr hsp => ?_
  obtain ⟨t, h, q⟩ := hbody f cdv A outer s H vs Q E hr hsp
  exact ⟨t, h.thr fun e s' z => thr_leave z, q⟩
theorem DefXs.none (T : DefTx K mg x st ps) (no : ∀ vs H Q E, ¬ sp vs H Q E) : DefXs P w K mg base n x ps sp := by
  obtain ⟨f, fd, F, m, b⟩ := T.ex
  exact ⟨f, fd, ⟨fun vs H Q E h => absurd h (no vs H Q E), fun A outer s H args us vs Q E _ _ _ _ h => absurd h (no vs H Q E)⟩, Binds.all b, F.kp, m, fun_at F⟩
end
section
variable {X : Cx} {E : XS} {n : Nat} {x : Str} {ps : List Str} {sp : Sp} {e : Expr} {es : List Expr} {p pos : Pos} {t : TA}
def tCallX (sp : Sp) (E : XS) (t : TA) : TE := fun σ H Q => t σ H fun vs H1 => sp vs H1 Q fun v d H' => E v d σ H'
theorem pe_xcall (D : DefXs X.prog X.w X.K X.mg X.base n x ps sp) (hr : Room n X.A) (ha : PA (X.thr E) (e :: es) t) (hg : Gl X x := by rfl) (hdb : (x == ("__debug__" : Str)) = false := by decide)
    (he : starEach (e :: es) X.env = (false, eval e X.env) :: starEach es X.env := by rfl) (hpl : (backTo pos (starEach es X.env)).any (·.1) = false := by rfl) : PE (X.thr E) (.Call (.Name x p) (e :: es) [] pos) (tCallX sp E t) := by
  obtain ⟨f, fd, F, b, k, m, _⟩ := D.ex
  intro pins s σ H Q I h
  refine wpAny_Call_Name_kw (ld_glob (X := X.thr E) I hg m ?_ hdb)
  refine PySem.W.callWith_K (h₀ := X.base) I.ok.mod.kin k (thn (ha pos pins s σ H _ I h) fun us s1 ⟨vs, H1, I1, r, q⟩ => ⟨I1.kIn, ?_⟩) he hpl
  have hl : (us ++ []).length = ps.length := by rw [List.append_nil, ← r.length]; exact F.len _ _ _ _ q
  have hb := b s1 us I1.kIn hl
  rw [List.append_nil] at hb
  refine wpAny_call (codeAny_mono (F.run X.A X.stack s1 H1 ⟨us, []⟩ us vs Q _ hr I1.unwish.env0 hb r q) fun r s' hq => ?_)
  cases r with
  | error e => exact pass1 I1.unwish hq
  | ok fl =>
    cases fl with
    | ret u => exact I1.after hq
    | next => exact False.elim hq
    | brk => exact False.elim hq
    | cont => exact False.elim hq
end
end L2

end

section
set_option Elab.async false
set_option linter.all false
set_option maxRecDepth 100000
set_option maxHeartbeats 1000000
namespace L2
open PySem PySem.Spec PyProof.Rows

abbrev Cx.mkd (X : Cx) (e : Value) : Cx := { X with A := X.A.mark (some e), calm := false }
abbrev Cx.pnd (X : Cx) (pn : List (Addr × Obj)) : Cx := { X with pn := pn }
section
variable {X : Cx} {pins pn : List (Addr × Obj)} {σ : St} {H : Hp} {s : Shared} {e : Value}
theorem Cx.Ok.mkd (ok : X.Ok) (e : Value) : (X.mkd e).Ok :=
  ⟨ok.mod, ok.kind, ok.glob, ok.blt, ok.above, ok.inj, ok.has, ok.cab, fun z => Bool.noConfusion z, ok.frames, ok.stk, ok.exf, ok.bs, ok.bsz, ok.noex, ok.exfs, ok.funs, ok.frf⟩
theorem Cx.Ok.pnd (ok : X.Ok) (pn : List (Addr × Obj)) : (X.pnd pn).Ok :=
  ⟨ok.mod, ok.kind, ok.glob, ok.blt, ok.above, ok.inj, ok.has, ok.cab, ok.hd, ok.frames, ok.stk, ok.exf, ok.bs, ok.bsz, ok.noex, ok.exfs, ok.funs, ok.frf⟩
theorem Inv.mkd (I : Inv X pins σ H s) (e : Value) : Inv (X.mkd e) pins σ H s := ⟨I.ok.mkd e, I.os, I.bare, I.base, I.loc, I.cell, I.free, I.freeC, I.pin, I.hok, I.len⟩
/-- back: the context was right outside -/
theorem Inv.unmkd (ok : X.Ok) (I : Inv (X.mkd e) pins σ H s) : Inv X pins σ H s := ⟨ok, I.os, I.bare, I.base, I.loc, I.cell, I.free, I.freeC, I.pin, I.hok, I.len⟩
theorem Inv.pnd (I : Inv X pins σ H s) : Inv (X.pnd (X.pn ++ pins)) [] σ H s :=
  ⟨I.ok.pnd _, I.os, I.bare, I.base, I.loc, I.cell, I.free, I.freeC, fun p hp => I.pin p (by simpa using hp), I.hok, I.len⟩
theorem Inv.unpnd {pins' : List (Addr × Obj)} (ok : X.Ok) (I : Inv (X.pnd (X.pn ++ pins)) pins' σ H s) : Inv X pins σ H s :=
  ⟨ok, I.os, I.bare, I.base, I.loc, I.cell, I.free, I.freeC, fun p hp => I.pin p (List.mem_append_left _ hp), I.hok, I.len⟩
theorem FpOk.unpnd {pins' : List (Addr × Obj)} {b : Addr} (h : FpOk (X.pnd (X.pn ++ pins)) pins' H b) : FpOk X pins H b :=
  ⟨h.1, h.2.1, h.2.2.1, h.2.2.2.1, h.2.2.2.2.1, fun p hp => h.2.2.2.2.2 p (List.mem_append_left _ hp)⟩
theorem SP.unpnd {D : Ends} {f : Flow} {s' : Shared} (ok : X.Ok) (h : SP (X.pnd (X.pn ++ pins)) [] D f s') : SP X pins D f s' := by
  cases f with
  | next => obtain ⟨σ', H', I, q⟩ := h; exact ⟨σ', H', I.unpnd ok, q⟩
  | brk => obtain ⟨σ', H', I, q⟩ := h; exact ⟨σ', H', I.unpnd ok, q⟩
  | cont => obtain ⟨σ', H', I, q⟩ := h; exact ⟨σ', H', I.unpnd ok, q⟩
  | ret u => obtain ⟨v, σ', H', I, r, q⟩ := h; exact ⟨v, σ', H', I.unpnd ok, r, q⟩

/-- a name is forgotten -/
theorem Inv.forget {h' : Heap} {t' i : Nat} {x : Str} {m : Str → Option Value} {u : Option Value} (I : Inv X pins σ H s) (hN : X.N.Nodup) (hi : X.N[i]? = some x) (hk : X.env.scope.names.lookup x = some .local)
    (hm : ∀ m, s.heap.Ns X.env.locals m → ∃ u, h'.Ns X.env.locals (fun y => if y = x then u else m y)) (hs : ∀ b, b ≠ X.env.locals → h'.get? b = s.heap.get? b) : Inv X pins (σ.set i none) H { s with heap := h', toks := t' } := by
  obtain ⟨m, hn, hl⟩ := id I.loc
  have hiσ : i < σ.length := by rw [I.len]; exact (List.getElem?_eq_some_iff.mp hi).1
  have cne := I.cne
  obtain ⟨u, hn'⟩ := hm m hn
  obtain ⟨oL, _, _, hoL, _⟩ := id hn
  refine ⟨I.ok, I.os, I.bare, ⟨fun b o e n hb hx => ?_, fun b o e n hb hx => ?_, I.base.free, fun b o e hx => ?_, I.base.tups, I.base.frzs, I.base.tbls⟩, ⟨_, hn', fun j y v' e1 e2 e3 => ?_⟩, fun y c e => ?_, I.free, I.freeC, fun p hp => ?_, fun b ob e => ?_, by simpa using I.len⟩
  · exact (hs b (Nat.ne_of_lt (Nat.lt_of_lt_of_le (Heap.lt_size e) I.ok.above))).trans (I.base.keep b o e n hb hx)
  · obtain ⟨sl, e1⟩ := I.base.slot b o e n hb hx
    exact ⟨sl, (hs b (Nat.ne_of_lt (Nat.lt_of_lt_of_le (Heap.lt_size e) I.ok.above))).trans e1⟩
  · obtain ⟨o', e1⟩ := I.base.there b o e hx
    exact ⟨o', (hs b (Nat.ne_of_lt (Nat.lt_of_lt_of_le (Heap.lt_size e) I.ok.above))).trans e1⟩
  · by_cases hj : j = i
    · subst hj
      rw [List.getElem?_set_self hiσ] at e2
      cases e2
    · rw [List.getElem?_set_ne (Ne.symm hj)] at e2
      obtain ⟨u', r', q⟩ := hl j y v' e1 e2 e3
      refine ⟨u', r', ?_⟩
      rcases q with ⟨k, e⟩ | ⟨k, c, e, z⟩
      · refine .inl ⟨k, ?_⟩
        have : y ≠ x := fun e => hj (nodup_ix hN e1 (e ▸ hi))
        simp [this, e]
      · obtain ⟨o, ho, hd⟩ := z
        exact .inr ⟨k, c, e, ⟨o, (hs c (cne y c e)).trans ho, hd⟩⟩
  · obtain ⟨w', o, ho, hd⟩ := I.cell y c e
    exact ⟨w', o, (hs c (cne y c e)).trans ho, hd⟩
  · obtain ⟨e, n, ne, nf, d⟩ := I.pin p hp
    exact ⟨(hs p.1 ne).trans e, n, ne, nf, d⟩
  · refine (I.hok b ob e).stay (fun c w' hc q => (hs c ?_).trans q) (fun _ q => q) fun _ _ q => q
    rintro rfl
    rcases hc with rfl | hc
    · rw [I.free] at e; cases e
    · rw [I.free] at hc; cases hc

/-- the class of an except clause takes it -/
theorem exc_match {M : Model} {A : Around} {E' : Value → Shared → Prop} {s : Shared} {K : PySem.W.Frag} {x C C0 : Addr} {d : Option Addr} {vs : Array Value} {Q : Bool → Shared → Prop} (hx : s.heap.get? x = some { cls := .ref C, dict := d, data := .fields vs })
    (O : XObj s.heap C bmV "ValueError.__new__") (O0 : XObj s.heap C0 bmV "ValueError.__new__") (kin : K.In s.heap) (hsub : PySem.W.mroIn K C (.ref C0) = some true) (hq : Q true s) : wpAny M A (excMatches (.ref x) (.ref C0)) Q E' s := by
  obtain ⟨nm, qn, N, bs, bm, sn, sub, ab, col, dd, k0, k1, k2, k3, k5, hC, T⟩ := O
  obtain ⟨nm', qn', N', bs', bm', sn', sub', ab', col', dd', k0', k1', k2', k3', k5', hC0, T'⟩ := O0
  have hcB : (Value.ref C0 :: bm').contains (.type "BaseException") = true := by rw [List.contains_cons, T'.hasType (show bmV.contains (.type "BaseException") = true by decide), Bool.or_true]
  have LS := PySem.W.looks_mroIn (M := M) kin hsub
  have f := tc_notTuple
  obtain ⟨hp, g, dr, tk, os⟩ := s
  unfold excMatches
  repeat (first | with_reducible refine wpAny_loadPart_at hx ?_ | with_reducible refine wpAny_loadPart_at hC0 ?_ | (with_reducible refine wpAny_isSubtype_exc hC0 ?_; rw [hcB]) | with_reducible refine LS.at ?_ | wp_step)
  exact hq
end
end L2

end

section
set_option Elab.async false
set_option linter.all false
set_option maxRecDepth 100000
set_option maxHeartbeats 1000000
namespace L2
open PySem PySem.Spec PyProof.Rows
section
variable {X : Cx} {pins : List (Addr × Obj)} {σ : St} {H : Hp} {s : Shared}
theorem name_goes {M : Model} {A : Around} {E' : Value → Shared → Prop} {Q : Unit → Shared → Prop} {i : Nat} {n : Str} {hpos : Pos} (I : Inv X pins σ H s) (hN : X.N.Nodup) (hi : X.N[i]? = some n) (hk : X.env.scope.names.lookup n = some .local)
    (h : ∀ s', Inv X pins (σ.set i none) H s' → Q () s') : wpAny M A (do bindName X.env n .none; unbindBehindTheSuite X.env n hpos) Q E' s := by
  obtain ⟨m, hn, _⟩ := id I.loc
  have hcls : (X.env.scope.kind == .class || (X.env.scope.kind == .module && X.env.locals != X.env.globals)) = false := by rw [I.ok.kind]; rfl
  refine wpAny_nameGoes_keeps hk hn hcls fun h' v hn' hs => h _ ?_
  refine I.forget (m := m) (u := v) hN hi hk (fun m2 hm2 => ?_) (fun b hb => hs.2 b hb)
  obtain ⟨o, es, ep, ho, hd, hkk, hm⟩ := hn
  obtain ⟨o2, es2, ep2, ho2, hd2, hkk2, hm2⟩ := hm2
  rw [ho] at ho2
  cases ho2
  rw [hd] at hd2
  cases hd2
  have e : m2 = m := funext fun y => by rw [← hm y, ← hm2 y]
  exact ⟨v, by rw [e]; exact hn'⟩

/-- try: .. except C0 as n: .. -/
def sTryAs (K : PySem.W.Frag) (C0 : Addr) (i : Nat) (tb : XS → TS) (ts : TS) : TS := fun D σ H => ∃ Es : XS, tb Es D σ H ∧ ∀ x C d c2 σ' H', Es (.ref x) d σ' H' → H' x = some (excF x C d c2) →
  XCl K C ∧ PySem.W.mroIn K C (.ref C0) = some true ∧
  ts { nx := fun σ2 H2 => D.nx (σ2.set i none) H2, rt := D.rt, bk := fun σ2 H2 => D.bk (σ2.set i none) H2, ct := fun σ2 H2 => D.ct (σ2.set i none) H2 } (σ'.set i (some (.ref x))) H'
theorem ps_tryAs {body : List Stmt} {b0 : Stmt} {suite : List Stmt} {tb : XS → TS} {ts : TS} {i : Nat} {n y : Str} {C0 : Addr} {np hpos pos : Pos} (hs : X.stack = X.env :: X.outer) (hf : X.env.frame = some X.env.locals) (hN : X.N.Nodup) (hi : X.N[i]? = some n)
    (hk : X.env.scope.names.lookup n = some .local) (hm : X.mg y = some (.ref C0)) (M0 : xIn X.K C0 bmV "ValueError.__new__" = true) (hb : ∀ pn Es, PSs ((X.pnd pn).thr Es) body (tb Es)) (hsu : ∀ e, PSs ((X.mkd e).nox) (b0 :: suite) ts)
    (hg : Gl X y := by rfl) (hdb : (y == ("__debug__" : Str)) = false := by decide) : PS X (.Try body [.ExceptHandler (some (.Name y np)) (some n) (b0 :: suite) hpos] [] [] pos) (sTryAs X.K C0 i tb ts) := by
  intro pins s σ H D I h
  obtain ⟨Es, hb', hh⟩ := h
  refine wpAny_Try_except ?_
  refine wpAny_mono (hb (X.pn ++ pins) Es [] s σ H D (I.pnd.wish _) hb') (fun f s1 q => ?_) (fun e s1 q => ?_)
  · have q' : SP X pins D f s1 := SP.unpnd I.ok q.unwish
    cases f with
    | next => exact wpAny_execs_nil q'
    | brk => exact q'
    | cont => exact q'
    | ret u => exact q'
  · obtain ⟨x, C, d, T, c2, fl, pins', σ', H', rfl, I1, hx, hT, t, qe⟩ := q
    have I1' : Inv X pins σ' H' s1 := I1.unpnd I.ok
    have hT' : ∀ T', T = some T' → FpOk X pins H' T' := fun T' z => (hT T' z).unpnd
    obtain ⟨M, hsub, qs⟩ := hh x C d c2 σ' H' qe hx
    have fr : X.A.frames = some (X.env :: X.outer) := by rw [I.ok.frames, hs]
    have fn : s1.heap.FunFrames X.base (X.env :: X.outer) := by rw [← hs]; exact I1'.stack
    refine fly_note (base := X.base) fr fn hf t fun h1 T' a w t1 => ?_
    rw [← hs] at a
    have I2 := I1'.flight hx hT' a t1
    have hT1 : ∀ T2, some T' = some T2 → FpOk X pins H' T2 := fun T2 z => by
      cases z
      rcases w with z | z
      · exact hT' T' z
      · exact I1'.fpOk z (I1'.hok.fresh z)
    refine fly_flight (s := { s1 with heap := h1 }) (fs := frs X.stack) (fr := none) t1 fun h2 a2 t2 => ?_
    have I3 := I2.flight hx hT1 a2 t2
    refine wpAny_handleBy_cons (codeAny_handlers_test ?_) (by intro q; cases q)
    refine ld_glob (X := X.mkd (.ref x)) (I3.mkd _) hg hm ?_ hdb
    obtain ⟨vs, hz, he, _⟩ := id t2
    refine exc_match he (x_of_in I3.kIn M.obj) (x_of_in I3.kIn M0) I3.kIn hsub ?_
    refine codeAny_handlers_suite_as ?_
    refine fly_flight (s := { s1 with heap := h2 }) (fs := frs X.stack) (fr := none) t2 fun h3 a3 t3 => ?_
    have I4 := I3.flight hx hT1 a3 t3
    refine store_ok (X := X.mkd (.ref x)) (I4.mkd _) hN hi (.inl hk) (v := .ref x) rfl (fun s5 I5 => ?_) (.inr hk)
    refine wpAny_mono (hsu (.ref x) pins s5 _ H' _ (I5.wish _) qs) (fun f s6 q6 => ?_) (fun _ _ z => False.elim z)
    have q7 := q6.unwish
    show wpAny _ _ (do bindName X.env n .none; unbindBehindTheSuite X.env n hpos) (fun _ s3 => SP X pins D f s3) _ s6
    cases f with
    | next => obtain ⟨σ2, H2, I6, q⟩ := q7; exact name_goes (I6.unmkd I.ok) hN hi hk fun s7 I7 => ⟨_, H2, I7, q⟩
    | brk => obtain ⟨σ2, H2, I6, q⟩ := q7; exact name_goes (I6.unmkd I.ok) hN hi hk fun s7 I7 => ⟨_, H2, I7, q⟩
    | cont => obtain ⟨σ2, H2, I6, q⟩ := q7; exact name_goes (I6.unmkd I.ok) hN hi hk fun s7 I7 => ⟨_, H2, I7, q⟩
    | ret u => obtain ⟨v, σ2, H2, I6, r, q⟩ := q7; exact name_goes (I6.unmkd I.ok) hN hi hk fun s7 I7 => ⟨v, _, H2, I7, r, q⟩
end
end L2

end

section
set_option Elab.async false
set_option linter.all false
set_option maxRecDepth 100000
set_option maxHeartbeats 1000000
namespace L2
open PySem PySem.Spec PyProof.Rows
section
variable {X : Cx} {pins : List (Addr × Obj)} {σ : St} {H : Hp} {s : Shared} {C : Addr} {o : Expr} {fl : Str} {pos : Pos} {ta : TE}
/-- e.f of a refusal that was caught -/
def tFldF (K : PySem.W.Frag) (ta : TE) (f : Str) : TE := fun σ H Q => ta σ H fun x H1 => ∃ a C dx c2 fs v, x = .ref a ∧ H1 a = some (excF a C (some dx) c2) ∧ H1 dx = some (.xd fs) ∧ XCl K C ∧ NoAttr K C f ∧ fs.lookup f = some v ∧ Q v H1
theorem pe_fldF (he : PE X o ta) (hb : attributeBase o fl X.env (eval o X.env) = eval o X.env) : PE X (.Attribute o fl pos) (tFldF X.K ta fl) := by
  intro pins s σ H Q I h
  refine attr_of hb (thn (he pins s σ H _ I h) fun u s1 ⟨x, H1, I1, rx, a, C, dx, c2, fs, v, ex, ea, ed, c, n, l, q⟩ => ?_)
  subst ex
  obtain rfl : u = Value.ref a := rx
  obtain ⟨vs, hz, hx⟩ := I1.hok.excF ea
  obtain ⟨mA, hn, hr⟩ := (show ObjOk X.prog X.w H1 s1.heap dx (.xd fs) from I1.hok dx _ ed)
  obtain ⟨od, hod, hl⟩ := lookIn_ns hn
  obtain ⟨u', hu, ru⟩ := RelO.some_of (v := v) (o := mA fl) (by rw [← l]; exact hr fl)
  have J : PySem.W.InstAt s1.heap a { cls := .ref C, dict := some dx, data := .fields vs } C (some od) := ⟨hx, rfl, rfl, hod⟩
  exact exc_attr I1.kIn J c.cls (PySem.W.findObj_own c.cls.hd n rfl (by rw [hl, hu])) (handed_of ru) ⟨v, H1, I1.tok _, ru, q⟩
theorem excF_inst {a : Addr} {dx : Option Addr} {c2 : Value} (I : Inv X pins σ H s) (ea : H a = some (excF a C dx c2)) (hd : ∀ d, dx = some d → ∃ fs, H d = some (.xd fs)) : ∃ ox od, PySem.W.InstAt s.heap a ox C od := by
  obtain ⟨vs, hz, hx⟩ := I.hok.excF ea
  cases dx with
  | none => exact ⟨_, none, hx, rfl, rfl, True.intro⟩
  | some d =>
    obtain ⟨fs, ed⟩ := hd d rfl
    obtain ⟨mA, hn, hr⟩ := (show ObjOk X.prog X.w H s.heap d (.xd fs) from I.hok d _ ed)
    obtain ⟨od, hod, hl⟩ := lookIn_ns hn
    exact ⟨_, some od, hx, rfl, rfl, hod⟩
theorem call_isinstF : CallR X (.builtin "isinstance") (fun xs H Q => ∃ a C dx c2 y c b, xs = [.ref a, y] ∧ (∀ u, RelV y u → u = c) ∧ H a = some (excF a C dx c2) ∧ (∀ d, dx = some d → ∃ fs, H d = some (.xd fs)) ∧ XCl X.K C ∧
    PySem.W.kitOne X.K (.ref C) c = some b ∧ Q (.bl b) H) := by
  intro pins s σ H xs us Q I r h
  obtain ⟨a, C, dx, c2, y, c, b, rfl, hy, ea, hd, M, e, q⟩ := h
  obtain ⟨u, v, rfl, ru, rv⟩ := r.two
  obtain rfl := hy v rv
  obtain rfl : u = Value.ref a := ru
  exact PySem.W.kia_one (kitx_exc M.cls) I.kIn (excF_inst I ea hd) e (fun z => nomatch z) fun tk => ⟨.bl b, H, I.tok tk, rfl, q⟩
theorem refs_of : ∀ {cs : List Addr} {us : List Value}, Vals (cs.map V.ref) us → us = cs.map Value.ref
  | [], _, .nil => rfl
  | c :: cs, _, .cons r t => by
    rw [List.map_cons, ← refs_of t]
    exact congrArg (· :: _) r
/-- isinstance(e, (C1, C2, ..)) -/
theorem call_isinstFT : CallR X (.builtin "isinstance") (fun xs H Q => ∃ (a C : Addr) (dx : Option Addr) (c2 : Value) (tp : Addr) (cs : List Addr) (b : Bool), xs = [.ref a, .ref tp] ∧ H tp = some (.tup (cs.map V.ref)) ∧ H a = some (excF a C dx c2) ∧ (∀ d, dx = some d → ∃ fs, H d = some (.xd fs)) ∧ XCl X.K C ∧
    PySem.W.kitAny X.K (.ref C) (cs.map Value.ref) = some b ∧ Q (.bl b) H) := by
  intro pins s σ H xs us Q I r h
  obtain ⟨a, C, dx, c2, tp, cs, b, rfl, et, ea, hd, M, e, q⟩ := h
  obtain ⟨u, v, rfl, ru, rv⟩ := r.two
  obtain rfl : u = Value.ref a := ru
  obtain rfl : v = Value.ref tp := rv
  obtain ⟨_, its, rv2, ⟨oc, od, dt, sl⟩, h1, h2, n, h3⟩ := (show ObjOk X.prog X.w H s.heap tp (.tup (cs.map V.ref)) from I.hok tp _ et)
  obtain rfl := refs_of rv2
  dsimp only at h2 h3
  subst h2 h3
  exact PySem.W.kia_tup (kitx_exc M.cls) I.kIn (excF_inst I ea hd) h1 e (fun z => nomatch z) fun tk => ⟨.bl b, H, I.tok tk, rfl, q⟩
end

structure RoomQ (k : Nat) (A : Around) : Prop where
  dp : A.depth + 3 * k + 5 < recursionLimit
  un : A.units + 16 * k + 200 < cLine
theorem Room.q {k : Nat} {A : Around} (r : Room k A) : RoomQ k A := ⟨r.dp, r.un⟩
theorem RoomQ.mark {k : Nat} {A : Around} (r : RoomQ k A) (h : Option Value) : RoomQ k (A.mark h) := ⟨r.dp, r.un⟩
theorem RoomQ.deeper {k : Nat} {A : Around} (r : RoomQ (k + 1) A) (env : Env) : RoomQ k (A.deeper env) :=
  ⟨by have := r.dp; show A.depth + 1 + 3 * k + 5 < _; omega, by have := r.un; show A.units + 3 + 16 * k + 200 < _; omega⟩
theorem RoomQ.make {k : Nat} {A : Around} (r : RoomQ (k + 1) A) (C : Addr) (us : List Value) (kw : List (Str × Value)) : RoomQ k (A.under (.builtin "type.__call__" ⟨.ref C :: us, kw⟩)) :=
  ⟨by have := r.dp; rw [make_depth]; omega, by have := r.un; rw [make_units]; omega⟩
structure FnOkQ (P : Program) (w : World) (K : PySem.W.Frag) (mg : Str → Option Value) (base : Heap) (CX : CXT) (k : Nat) (f : Addr) (fd : FuncData) (ps : List Str) (sp : Sp) : Prop where
  len : ∀ vs H Q E, sp vs H Q E → vs.length = ps.length
  run : ∀ (A : Around) (outer : List Env) (s : Shared) (H : Hp) (args : Args) (us : List Value) (vs : List V) (Q : VK) (E : XK), RoomQ k A → Env0 P w K mg base A outer s H → BindsTo s fd args (ps.zip us) → Vals vs us → sp vs H Q E →
    codeAny (model P w) A (.call (.ref f) args) (CR CX outer P w H s Q E) s
abbrev Cx.rough (X : Cx) : Cx := { X with calm := false }
theorem fn_ofQ {CX : CXT} {P : Program} {w : World} {K : PySem.W.Frag} {mg : Str → Option Value} {base : Heap} {k : Nat} {f : Addr} {name qual : Str} {params : Arguments} {body : List Stmt} {scope : Scope} {dV kV doc pm cdv ct oc : Value} {an od : Option Addr}
    {osl : Array (Option Value)} {N ps : List Str} {sp : Sp} (lk : K.lookup f = some ⟨oc, od, .func (PySem.W.fnOf name qual params body scope dV kV doc pm an cdv ct), osl⟩) (hcd : PySem.W.codeIn K cdv qual = true) (S : FnScope N ps scope)
    (len : ∀ vs H Q E, sp vs H Q E → vs.length = ps.length)
    (hbody : ∀ (A : Around) (outer : List Env) (s : Shared) (H : Hp) (vs : List V) (Q : VK) (E : XK), RoomQ k (A.deeper (envOfC qual scope s.heap.objs.size f cdv)) → sp vs H Q E →
      ∃ t, PSs (cxOf CX P w K mg base N qual scope f cdv A outer s H E).rough body t ∧ t { nx := fun _ H' => Q .non H', rt := Q } (start N vs) H) :
    FnOkQ P w K mg base CX (k + 1) f (PySem.W.fnOf name qual params body scope dV kV doc pm an cdv ct) ps sp := by
  refine ⟨len, fun A outer s H args us vs Q E hr e0 hb r hsp => ?_⟩
  have hl := len _ _ _ _ hsp
  have KX : K.In s.heap := e0.mod.kin.keeps fun b o e => (e0.bs b o e).1
  have lim : s.heap.NoLimit := e0.mod.nolimit.keeps fun b o e => (e0.bs b o e).1
  have hkind : ∀ y ∈ ps.zip us, scope.names.lookup y.1 = some .local ∨ (scope.names.lookup y.1 = some .cell ∧ ((cellsFrom (s.heap.objs.size + 1) scope.names []).lookup y.1).isSome = true) := fun ⟨n, v⟩ hy => by
    rcases S.par n (List.of_mem_zip hy).1 with q | q
    · exact .inl q
    · exact .inr ⟨q, PySem.W.cellsFrom_some _ _ _ (.inl q)⟩
  refine codeAny_call_function (by have := hr.dp; omega) (KX _ _ lk) rfl S.co S.gen rfl (PySem.W.codeRec_of KX hcd) (hb _ _ _ _ ?_)
  refine wpAny_newFunctionEnv_cells S.kind hkind fun env he s1 x => ?_
  subst he
  refine ⟨lim.keeps x.toInCall.keep, codeAny_func ?_⟩
  obtain ⟨t, ht, hq⟩ := hbody A outer s H vs Q E (hr.deeper _) hsp
  have I0 : Inv (cxOf CX P w K mg base N qual scope f cdv { A with handled := none } outer s H E) [] (start N vs) H s1 := inv_start S rfl ⟨e0.frames, e0.mod, e0.bs, e0.bsz, e0.funs, e0.frf, e0.hok, e0.bare⟩ hl r x
  have ok := I0.ok
  have fr : (A.deeper (envOfC qual scope s.heap.objs.size f cdv)).frames = some (envOfC qual scope s.heap.objs.size f cdv :: outer) := ok.frames
  have I : Inv (cxOf CX P w K mg base N qual scope f cdv A outer s H E).rough [] (start N vs) H s1 :=
    ⟨⟨ok.mod, ok.kind, ok.glob, ok.blt, ok.above, ok.inj, ok.has, ok.cab, fun z => Bool.noConfusion z, fr, ok.stk, ok.exf, ok.bs, ok.bsz, ok.noex, ok.exfs, ok.funs, ok.frf⟩, I0.os, I0.bare, I0.base, I0.loc, I0.cell, I0.free, I0.freeC, I0.pin, I0.hok, I0.len⟩
  refine wpAny_mono (ht [] s1 (start N vs) H _ I hq) (fun fl s' hs => ?_) fun e s' hs => hs
  have fin : ∀ {σ' : St} {H' : Hp} {v : V} {u : Value}, Inv (cxOf CX P w K mg base N qual scope f cdv A outer s H E).rough [] σ' H' s' → RelV v u → Q v H' → CE outer P w H s Q u s' :=
    fun {σ' H' v u} J rv q => ⟨v, H', J.os, J.bare, J.base, J.hok, rv, q⟩
  cases fl with
  | ret u =>
    obtain ⟨v, σ', H', J, rv, q⟩ := hs
    exact fin J rv q
  | next =>
    obtain ⟨σ', H', J, q⟩ := hs
    exact fin (v := V.non) (u := Value.none) J rfl q
  | brk =>
    obtain ⟨_, _, _, q⟩ := hs
    exact False.elim q
  | cont =>
    obtain ⟨_, _, _, q⟩ := hs
    exact False.elim q
end L2

end

section
set_option Elab.async false
set_option linter.all false
set_option maxRecDepth 100000
set_option maxHeartbeats 1000000
namespace L2
open PySem PySem.Spec PyProof.Rows
structure InitQ (P : Program) (w : World) (K : PySem.W.Frag) (mg : Str → Option Value) (base : Heap) (n : Nat) (C : Addr) (ps : List Str) (sp : Sp) : Prop where
  ex : ∃ (f : Addr) (fd : FuncData), PySem.W.findIn K (.ref C) "__init__" = some (some (.ref f)) ∧ PySem.W.isFn K (.ref f) = true ∧ FnOkQ P w K mg base CX0 n f fd ps sp ∧ Binds K fd ps []
theorem InitQ.of {P : Program} {w : World} {K : PySem.W.Frag} {mg : Str → Option Value} {base : Heap} {n : Nat} {q : Str} {C : Addr} {st : Stmt} {ps N : List Str} {sp : Sp} (T : InitTx K q C st ps) (S : FnScope N ps (defScope st)) (len : ∀ vs H Q E, sp vs H Q E → vs.length = ps.length)
    (hbody : ∀ (f : Addr) (cdv : Value) (A : Around) (outer : List Env) (s : Shared) (H : Hp) (vs : List V) (Q : VK) (E : XK), RoomQ n (A.deeper (envOfC q (defScope st) s.heap.objs.size f cdv)) → sp vs H Q E →
      ∃ t, PSs (cxOf CX0 P w K mg base N q (defScope st) f cdv A outer s H E).rough.nox (defBody st) t ∧ t { nx := fun _ H' => Q .non H', rt := Q } (start N vs) H) : InitQ P w K mg base (n + 1) C ps sp := by
  obtain ⟨f, fd, i, nn, F, b⟩ := T.ex
  refine ⟨f, fd, i, nn, ?_, Binds.all b⟩
  obtain ⟨oc, od, kV, doc, pm, an, cdv, ct, osl, rfl, lk, hcd⟩ := F.ex
  refine fn_ofQ lk hcd S len fun A outer s H vs Q E hr hsp => ?_
  obtain ⟨t, h, q⟩ := hbody f cdv A outer s H vs Q E hr hsp
  exact ⟨t, h.nox, q⟩
section
variable {X : Cx} {pins : List (Addr × Obj)} {σ : St} {H : Hp} {s : Shared} {C : Addr} {Q : VK} {us : List Value} {vs : List V} {k : Nat} {ps : List Str} {sp : Sp}
theorem run_excQ (M : XCl X.K C) (D : InitQ X.prog X.w X.K X.mg X.base k C ps sp) (hr : RoomQ (k + 1) X.A) (I : Inv X pins σ H s) (r : Vals vs us) (hl : vs.length ≤ sizeLine)
    (h : ∀ e, H e = none → sp (.ref e :: vs) (upd H e (excO e C none)) (fun v H2 => v = .non ∧ Q (.ref e) H2) E0) : wpAny (model X.prog X.w) X.A (call (.ref C) us) (EP X pins σ Q) X.xe s := by
  obtain ⟨f, fd, hi, hf, F, hb⟩ := D.ex
  have hl' : us.length ≤ sizeLine := by rw [← r.length]; exact hl
  have kin := I.kIn
  obtain ⟨nm, qn, N, bs, bm, sn, sub, ab, col, dd, k0, k1, k2, k3, k5, hC, T⟩ := x_of_in kin M.obj
  have hq := h (s.heap.objs.size + 1) (I.hok.fresh (Nat.le_succ _))
  have I2 := Inv.newExc (C := C) (us := us) I
  have r2 : Vals (V.ref (s.heap.objs.size + 1) :: vs) (Value.ref (s.heap.objs.size + 1) :: us) := .cons rfl r
  have hlen : (Value.ref (s.heap.objs.size + 1) :: us ++ []).length = ps.length := by
    rw [List.append_nil, ← r2.length]; exact F.len _ _ _ _ hq
  have hbd := hb _ (Value.ref (s.heap.objs.size + 1) :: us) I2.kIn hlen
  rw [List.append_nil] at hbd
  obtain ⟨hh, g, d, t, os⟩ := s
  refine exc_call PySem.F.excBase_ValueError T hC (PySem.W.looks_findIn kin hi) (fun self => PySem.W.bind_fn kin self (beq_iff_eq.mp hf)) ?_ hl'
  refine wpAny_call (codeAny_mono (F.run _ X.stack _ _ ⟨Value.ref (hh.objs.size + 1) :: us, []⟩ (Value.ref (hh.objs.size + 1) :: us) _ _ E0 (hr.make C us []) (I2.env0.make C us []) hbd r2 hq) fun r s' hq' => ?_)
  cases r with
  | error e => exact False.elim hq'
  | ok fl =>
    cases fl with
    | ret u =>
      obtain ⟨v, H', I3, rv, ev, q3⟩ := I2.after hq'
      subst ev
      exact ⟨rv, ⟨V.ref (hh.objs.size + 1), H', I3, rfl, q3⟩⟩
    | next => exact False.elim hq'
    | brk => exact False.elim hq'
    | cont => exact False.elim hq'
variable {x : Str} {p pos : Pos} {e : Expr} {es : List Expr} {t : TA}
theorem pe_excQ (D : InitQ X.prog X.w X.K X.mg X.base k C ps sp) (M : XCl X.K C) (hr : RoomQ (k + 1) X.A) (hm : X.mg x = some (.ref C)) (ha : PA X (e :: es) t) (hg : Gl X x := by rfl)
    (hdb : (x == ("__debug__" : Str)) = false := by decide) (he : starEach (e :: es) X.env = (false, eval e X.env) :: starEach es X.env := by rfl) (hpl : (backTo pos (starEach es X.env)).any (·.1) = false := by rfl) :
    PE X (.Call (.Name x p) (e :: es) [] pos) (tExcI C sp E0 t) := by
  intro pins s σ H Q I h
  refine wpAny_Call_Name_kw (ld_glob I hg hm ?_ hdb)
  refine PySem.W.callWith_K (h₀ := X.base) I.ok.mod.kin M.kp (thn (ha pos pins s σ H _ I h) fun us s1 ⟨vs, H1, I1, r, q⟩ => ⟨I1.kIn, ?_⟩) he hpl
  exact run_excQ M D hr I1 r q.1 q.2
end

section
variable {prog : Program} {w : World} {A : Around} {E' : Value → Shared → Prop} {env : Env}
theorem entry_unchain : entryFor table "proto.unchain" = some Builtin.«proto.unchain» := entryFor_of_tree (by kernel_rfl)
theorem raise_from {s : Shared} {x c : Sem Value} {old : Addr} {Q : Flow → Shared → Prop} (hh : A.handled = some (.ref old))
    (h : wpAny (model prog w) A x (fun v s₁ => ∃ e t C d bmB oo vs, v = .ref e ∧ e ≠ old ∧ bmB.contains (.type "BaseException") = true ∧ XObj s₁.heap C bmB "ValueError.__new__" ∧ s₁.heap.get? e = some (newExc C t d) ∧
      s₁.heap.get? old = some oo ∧ oo.data = .fields vs ∧ vs[2]? = some .none ∧
      ∀ h', (∀ b o, b ≠ e → s₁.heap.get? b = some o → h'.get? b = some o) → h'.get? e = some { cls := .ref C, dict := d, data := .fields #[.ref t, .none, .ref old, .none, .bool true, .none] } → E' (.ref e) { s₁ with heap := h' }) E' s)
    (hc : ∀ (s : Shared) (Q : Value → Shared → Prop), Q .none s → wpAny (model prog w) A c Q E' s) :
    wpAny (model prog w) A (raiseStmt env (some x) (some c)) Q E' s := by
  unfold raiseStmt
  refine wpAny_bind (wpAny_mono h (fun v s₁ h₁ => ?_) fun _ _ x => x)
  obtain ⟨e, t, C, d, bmB, oo, vs, rfl, hne, hbase, ⟨nm, qn, N, bs, bm, sn, sub, ab, col, dd, k0, k1, k2, k3, k5, hC, T⟩, he, hold, hod, h2, hE⟩ := h₁
  have hcB : (Value.ref C :: bm).contains (.type "BaseException") = true := by rw [List.contains_cons, T.hasType hbase, Bool.or_true]
  refine wpAny_bind (wpAny_holding (hc _ _ (wpAny_bind (wpAny_pure ?_))))
  obtain ⟨hp, g, dr, tk, os⟩ := s₁
  have neC : C ≠ e := fun z => by
    have h1 : hp.get? e = some (newExc C t d) := he
    rw [← z, show hp.get? C = _ from hC] at h1
    cases h1
  have he1 : (hp.update e (Obj.mapFields fun x => x.setIfInBounds 3 Value.none)).get? e = some { cls := .ref C, dict := d, data := .fields #[.ref t, .none, .none, .none, .bool false, .none] } := Heap.get?_update_self _ he rfl
  have he2 : ((hp.update e (Obj.mapFields fun x => x.setIfInBounds 3 Value.none)).update e (Obj.mapFields fun x => x.setIfInBounds 4 (Value.bool true))).get? e = some { cls := .ref C, dict := d, data := .fields #[.ref t, .none, .none, .none, .bool true, .none] } := Heap.get?_update_self _ he1 rfl
  have ot : ∀ b, b ≠ e → ((hp.update e (Obj.mapFields fun x => x.setIfInBounds 3 Value.none)).update e (Obj.mapFields fun x => x.setIfInBounds 4 (Value.bool true))).get? b = hp.get? b := fun b hb => by
    rw [Heap.get?_update_other _ _ (Ne.symm hb), Heap.get?_update_other _ _ (Ne.symm hb)]
  have hC2 := (ot C neC).trans hC
  have ho2 := (ot old (Ne.symm hne)).trans hold
  repeat (first | with_reducible refine wpAny_loadPart_at he ?_ | with_reducible refine wpAny_loadPart_at hC ?_ | (with_reducible refine wpAny_isSubtype_exc hC ?_; rw [hcB]) | wp_step)
  generalize ((hp.update e (Obj.mapFields fun x => x.setIfInBounds 3 Value.none)).update e (Obj.mapFields fun x => x.setIfInBounds 4 (Value.bool true))) = h2' at he2 ot hC2 ho2 ⊢
  unfold raiseNew
  refine wpAny_bind (wpAny_handled ?_)
  rw [hh]
  have hb : (Value.ref old != Value.ref e) = true := by
    rw [bne_iff_ne]
    exact fun z => hne (Value.ref.inj z).symm
  dsimp only
  rw [if_pos hb]
  refine wpAny_bind (wpAny_holding (wpAny_runValue (codeAny_builtin entry_unchain ?_)))
  unfold Builtin.«proto.unchain»
  refine wpAny_bind (wpAny_field (s := ⟨h2', g, dr, tk, os⟩) ho2 hod h2 ?_)
  rw [if_pos (show (Value.none == Value.none) = true by decide)]
  refine wpAny_bind (wpAny_pure (wpAny_pure ?_))
  show wpAny _ _ (do updateField e 2 (Value.ref old); throw (Value.ref e)) _ _ _
  refine wpAny_bind ?_
  have hs2 : wpAny (model prog w) A (setField (.ref e) 2 (Value.ref old)) (fun _ s' => wpAny (model prog w) A (throw (Value.ref e)) Q E' s') E' ⟨h2', g, dr, tk, os⟩ := by
    refine wpAny_setField he2 rfl (by show 2 < 6; decide) (wpAny_throw ?_)
    refine hE _ (fun b o nb q => ?_) (Heap.get?_update_self _ he2 rfl)
    rw [Heap.get?_update_other _ _ (Ne.symm nb)]
    exact (ot b nb).trans q
  exact hs2
end

section
variable {X : Cx} {E : XS}
theorem thr_ownAt {A' : Around} (fr : A'.frames = some (X.env :: X.outer)) (hs : X.stack = X.env :: X.outer) (hf : X.env.frame = some X.env.locals) : PassesOwnAt (model X.prog X.w) A' X.A X.env (Thrown X E) := by
  intro e s h
  obtain ⟨x, C, d, T, c2, fl, pins, σ, H, rfl, I, hx, hT, t, q⟩ := h
  have fn : s.heap.FunFrames X.base (X.env :: X.outer) := by rw [← hs]; exact I.stack
  refine fly_note (base := X.base) fr fn hf t fun h1 T' a w t1 => ?_
  rw [← hs] at a
  have I1 := I.flight hx hT a t1
  have hT1 : FpOk X pins H T' := by
    rcases w with z | z
    · exact hT T' z
    · exact I.fpOk z (I.hok.fresh z)
  show wpAny _ _ _ _ _ _
  obtain ⟨vs, hz, he, h1', _⟩ := id t1
  have h1' : vs[1]? = some (.ref T') := h1'
  refine wpAny_bind (wpAny_field he rfl h1' ?_)
  rw [if_neg (show ¬ ((Value.ref T' == Value.none) = true) from Bool.false_ne_true)]
  show wpAny _ _ (setFlight (.ref x) X.env.frame) _ _ _
  refine fly_flight (fs := frs X.stack) t1 fun h2 a2 t2 => ?_
  exact ⟨x, C, d, some T', c2, _, pins, σ, H, rfl, I1.flight hx (fun T2 z => by cases z; exact hT1) a2 t2, hx, fun T2 z => by cases z; exact hT1, t2, q⟩

/-- try: .. except C0: raise e from None -/
def sTryRe (K : PySem.W.Frag) (C0 : Addr) (E : XS) (tb : XS → TS) (te : TE) : TS := fun D σ H => ∃ Es : XS, tb Es D σ H ∧ ∀ x C d c2 σ' H', Es (.ref x) d σ' H' → H' x = some (excF x C d c2) →
  XCl K C ∧ PySem.W.mroIn K C (.ref C0) = some true ∧ c2 = .none ∧
  te σ' H' fun v H1 => ∃ x' C' d', v = .ref x' ∧ H1 x' = some (excO x' C' d') ∧ x' ≠ x ∧ H1 x = some (excF x C d .none) ∧ XCl K C' ∧ E (.ref x') d' σ' (upd H1 x' (excF x' C' d' (.ref x)))
theorem ps_tryRe {body : List Stmt} {ex : Expr} {tb : XS → TS} {te : TE} {y : Str} {C0 : Addr} {np hpos rpos cp pos : Pos} {cj} (hc : X.calm = true) (hs : X.stack = X.env :: X.outer) (hf : X.env.frame = some X.env.locals)
    (hm : X.mg y = some (.ref C0)) (M0 : xIn X.K C0 bmV "ValueError.__new__" = true) (hb : ∀ pn Es, PSs ((X.pnd pn).thr Es) body (tb Es)) (he : ∀ e, PE ((X.mkd e).nox) ex te)
    (hg : Gl X y := by rfl) (hdb : (y == ("__debug__" : Str)) = false := by decide) :
    PS (X.thr E) (.Try body [.ExceptHandler (some (.Name y np)) none [.Raise (some ex) (some (.Constant .none cj cp)) rpos] hpos] [] [] pos) (sTryRe X.K C0 E tb te) := by
  intro pins s σ H D I h
  have I := I.unwish
  obtain ⟨Es, hb', hh⟩ := h
  refine wpAny_Try_except ?_
  refine wpAny_mono (hb (X.pn ++ pins) Es [] s σ H D (I.pnd.wish _) hb') (fun f s1 q => ?_) (fun e s1 q => ?_)
  · have q' : SP X pins D f s1 := SP.unpnd I.ok q.unwish
    have q2 : SP (X.thr E) pins D f s1 := by
      cases f with
      | next => obtain ⟨σ', H', J, q⟩ := q'; exact ⟨σ', H', J.wish _, q⟩
      | brk => obtain ⟨σ', H', J, q⟩ := q'; exact ⟨σ', H', J.wish _, q⟩
      | cont => obtain ⟨σ', H', J, q⟩ := q'; exact ⟨σ', H', J.wish _, q⟩
      | ret u => obtain ⟨v, σ', H', J, r, q⟩ := q'; exact ⟨v, σ', H', J.wish _, r, q⟩
    cases f with
    | next => exact wpAny_execs_nil q2
    | brk => exact q2
    | cont => exact q2
    | ret u => exact q2
  · obtain ⟨x, C, d, T, c2, fl, pins', σ', H', rfl, I1, hx, hT, t, qe⟩ := q
    have I1' : Inv X pins σ' H' s1 := I1.unpnd I.ok
    have hT' : ∀ T', T = some T' → FpOk X pins H' T' := fun T' z => (hT T' z).unpnd
    obtain ⟨M, hsub, hc2, qs⟩ := hh x C d c2 σ' H' qe hx
    subst hc2
    have fr : X.A.frames = some (X.env :: X.outer) := by rw [I.ok.frames, hs]
    have fn : s1.heap.FunFrames X.base (X.env :: X.outer) := by rw [← hs]; exact I1'.stack
    refine fly_note (base := X.base) fr fn hf t fun h1 T' a w t1 => ?_
    rw [← hs] at a
    have I2 := I1'.flight hx hT' a t1
    have hT1 : ∀ T2, some T' = some T2 → FpOk X pins H' T2 := fun T2 z => by
      cases z
      rcases w with z | z
      · exact hT' T' z
      · exact I1'.fpOk z (I1'.hok.fresh z)
    refine fly_flight (s := { s1 with heap := h1 }) (fs := frs X.stack) (fr := none) t1 fun h2 a2 t2 => ?_
    have I3 := I2.flight hx hT1 a2 t2
    refine wpAny_handleBy_cons (codeAny_handlers_test ?_) (by intro q; cases q)
    refine ld_glob (X := X.mkd (.ref x)) (I3.mkd _) hg hm ?_ hdb
    obtain ⟨vs, hz, hex, _⟩ := id t2
    refine exc_match hex (x_of_in I3.kIn M.obj) (x_of_in I3.kIn M0) I3.kIn hsub ?_
    refine codeAny_handlers_suite ?_
    refine fly_flight (s := { s1 with heap := h2 }) (fs := frs X.stack) (fr := none) t2 fun h3 a3 t3 => ?_
    have I4 := I3.flight hx hT1 a3 t3
    refine wpAny_passesOwnAt (thr_ownAt (X := X) (E := E) fr hs hf) ?_
    refine wpAny_execs_cons ?_
    rw [arm_exec_Raise]
    simp only [evalOpt, Option.map]
    have hhd : (X.A.mark (some (.ref x))).handled = some (.ref x) := rfl
    refine wpAny_bind (wpAny_standAt (raise_from (old := x) hhd ?_ ?_))
    · refine wpAny_bind (wpAny_mono (he (.ref x) pins _ σ' H' _ ((I4.mkd _).wish _) qs) (fun v s5 h5 => wpAny_bind (wpAny_standAt (wpAny_pure ?_))) fun _ _ z => False.elim z)
      obtain ⟨u, H1, I5, r, x', C', d', ex', ea, hne, eo, c', q⟩ := h5
      subst ex'
      obtain rfl : v = Value.ref x' := r
      have I5' : Inv X pins σ' H1 s5 := I5.unwish.unmkd I.ok
      obtain ⟨t0, hx'⟩ := I5'.hok.exc ea
      obtain ⟨vo, hzo, hxo⟩ := I5'.hok.excF eo
      refine ⟨x', t0, C', d', bmV, _, vo, rfl, hne, by decide, x_of_in I5'.kIn c'.obj, hx', hxo, rfl, hzo.2, fun h' kk e' => ?_⟩
      have I6 : Inv X pins σ' (upd H1 x' (excF x' C' d' (.ref x))) { s5 with heap := h' } := by
        have mu : Mut (H1 x') := by rw [ea]; exact True.intro
        exact I5'.write (t' := s5.toks) (x := x') (e := x') mu (.inl rfl) kk ⟨_, e'⟩ (ObjOk.excF ⟨rfl, rfl⟩ e')
      exact ⟨x', C', d', none, .ref x, .none, pins, σ', _, rfl, I6, upd_same, fun T' z => (nomatch z), ⟨_, ⟨rfl, rfl⟩, e', rfl⟩, q⟩
    · intro s' Q' q'
      exact wpAny_bind (Constant_none (wpAny_bind (wpAny_standAt (wpAny_pure q'))))
theorem thr_ownT (hs : X.stack = X.env :: X.outer) (hf : X.env.frame = some X.env.locals) : PassesOwn (model (X.thr E).prog (X.thr E).w) (X.thr E).A (X.thr E).env (X.thr E).xe := thr_own hs hf
end
end L2

end

section
set_option Elab.async false
set_option linter.all false
set_option maxRecDepth 100000
set_option maxHeartbeats 1000000
namespace L2
open PySem PySem.Spec PyProof.Rows
/-- a promise that says nothing of refusals: none leaves the def -/
theorem DefXs.is {P : Program} {w : World} {K : PySem.W.Frag} {mg : Str → Option Value} {base : Heap} {n : Nat} {x : Str} {ps : List Str} {sp : Sp} (D : DefXs P w K mg base n x ps sp) (h : ∀ vs H Q E, sp vs H Q E → sp vs H Q E0) : DefIs P w K mg base n x ps sp := by
  obtain ⟨f, fd, F, r⟩ := D.ex
  refine ⟨f, fd, ⟨F.len, fun A outer s H args us vs Q E hr he hb hv hs => codeAny_mono (F.run A outer s H args us vs Q E0 hr he hb hv (h _ _ _ _ hs)) fun r s' q => ?_⟩, r⟩
  cases r with
  | error e =>
    obtain ⟨_, _, _, _, _, _, _, _, _, _, _, _, _, _, _, z⟩ := q
    exact z.elim
  | ok fl => cases fl <;> exact q
end L2

end

section
set_option Elab.async false
set_option linter.all false
set_option maxRecDepth 100000
set_option maxHeartbeats 4000000
namespace L2
open PySem PySem.Spec PyProof.Rows
open PySem.W in
def dTable (K : Frag) (x : Str) (fs : List Str) : Bool :=
  plainGet K (ad K x) Str.empty && (hasDictIn K (ad K x) && (plainOver K (ad K x) && (findIn K (.ref (ad K x)) "__setattr__" == some (some (.builtin "object.__setattr__")) && (makesIn K (ad K x) && (keepIn K (.ref (ad K x)) &&
  fs.all fun f => findIn K (.ref (ad K x)) f == some none)))))
structure DTab (K : PySem.W.Frag) (x : Str) (fs : List Str) : Prop where
  cl : Cls K (ad K x)
  ms : PySem.W.makesIn K (ad K x) = true
  kp : PySem.W.keepIn K (.ref (ad K x)) = true
  no : ∀ f ∈ fs, NoAttr K (ad K x) f
theorem dtab_of {K : PySem.W.Frag} {x : Str} {fs : List Str} (e : dTable K x fs = true) : DTab K x fs := by
  unfold dTable at e
  simp only [Bool.and_eq_true, List.all_eq_true, beq_iff_eq] at e
  obtain ⟨e1, e2, e3, e4, e5, e6, e7⟩ := e
  exact ⟨⟨e1, e2, e3, e4⟩, e5, e6, e7⟩
section
variable {X : Cx} {n : Nat} {x : Str} {ps : List Str} {sp : Sp} {p pos : Pos} {fs : List Str}
/-- C() -/
theorem pe_dmake (D : InitIs X.prog X.w X.K X.mg X.base n (ad X.K x) ps sp) (M : DTab X.K x fs) (hr : Room (n + 1) X.A) (hm : X.mg x = some (.ref (ad X.K x))) (hg : Gl X x := by rfl) (hdb : (x == ("__debug__" : Str)) = false := by decide) :
    PE X (.Call (.Name x p) [] [] pos) (tMake (ad X.K x) sp [] E0 tNil) := by
  obtain ⟨f, fd, i, nn, F, b⟩ := D.ex
  exact pe_make0 ⟨M.ms, i, nn, M.kp⟩ F hr hg hm b .nil pass0 hdb
end
end L2

end

section
set_option Elab.async false
set_option linter.all false
set_option maxRecDepth 100000
set_option maxHeartbeats 4000000
namespace L2
open PySem PySem.Spec PyProof.Rows

section
variable {κ : Type} [DecidableEq κ]
end


section
variable {P : Program} {w : World} {H : Hp} {h : Heap} {a : Addr}
end

section
variable {X : Cx} {pins : List (Addr × Obj)} {σ : St} {H : Hp} {s : Shared} {a : Addr} {y v : V} {u r : Value} {o : Option V} {A : Around} {E : Value → Shared → Prop}

end

section
variable {X : Cx} {pins : List (Addr × Obj)} {σ : St} {H : Hp} {s : Shared} {a : Addr} {kvs : List (Key × V)} {k : Key} {u : Value} {A : Around} {E : Value → Shared → Prop}
end


section
variable {X : Cx} {o i e value : Expr} {pos pos' tpos : Pos} {td ty tv : TE}
end


section
variable {X : Cx} {pos : Pos}
end

section
variable {X : Cx} {pins : List (Addr × Obj)} {σ : St} {H : Hp} {s : Shared} {a : Addr} {y d : V} {u r : Value} {o : Option V} {A : Around} {E : Value → Shared → Prop}
end

section
variable {X : Cx} {o e f : Expr} {apos cpos : Pos} {td ty tx : TE}
end

section
variable {X : Cx} {pins : List (Addr × Obj)} {σ : St} {H : Hp} {s : Shared} {a : Addr} {kvs : List (Key × V)} {A : Around} {E : Value → Shared → Prop}
end


section
variable {X : Cx} {pins : List (Addr × Obj)} {σ : St} {H : Hp} {s : Shared} {a : Addr} {y : V} {u : Value} {A : Around} {E : Value → Shared → Prop}
end
end L2

namespace L2
open PySem PySem.Spec PyProof.Rows
section
variable {X : Cx}
end
section
variable {κ : Type} [DecidableEq κ]
end
end L2

end

section
set_option Elab.async false
set_option linter.all false
set_option maxRecDepth 100000
set_option maxHeartbeats 4000000
namespace L2
open PySem PySem.Spec PyProof.Rows
section
variable {es : List Expr} {env : Env}
end
section
variable {X : Cx}
end
section
variable {ix : Cap} {tt : TT} {te : TE} {g : TG} {σ : St} {H : Hp} {Q : VK}
/-- what a turn is to reach: an item more, none -/
def NxtG (Pv : Nat → List V → Hp → Prop) (n i : Nat) (ys : List V) : VK := fun y H2 => ∃ m', m' < n - i ∧ m' = n - (i + 1) ∧ i + 1 ≤ n ∧ (ys ++ [y]).length ≤ i + 1 ∧ Pv (i + 1) (ys ++ [y]) H2
def NxtN (Pv : Nat → List V → Hp → Prop) (n i : Nat) (ys : List V) : Hp → Prop := fun H2 => ∃ m', m' < n - i ∧ m' = n - (i + 1) ∧ i + 1 ≤ n ∧ ys.length ≤ i + 1 ∧ Pv (i + 1) ys H2
theorem nxtG {Pv : Nat → List V → Hp → Prop} {n i : Nat} {ys : List V} {y : V} {H2 : Hp} (hi : i < n) (hl : ys.length ≤ i) (h : Pv (i + 1) (ys ++ [y]) H2) : NxtG Pv n i ys y H2 :=
  ⟨n - (i + 1), by omega, rfl, hi, by rw [List.length_append, List.length_singleton]; omega, h⟩
theorem comp_listG {K : PySem.W.Frag} {a : Addr} {xs : List V} (Pv : Nat → List V → Hp → Prop) (h0 : Pv 0 [] H) (hn : xs.length < sizeLine) (hl' : ∀ i ys H, i ≤ xs.length → Pv i ys H → SqL K H a xs)
    (hs : ∀ i x ys H, xs[i]? = some x → i < xs.length → ys.length ≤ i → Pv i ys H → g x (capt ix σ) H fun σ2 H2 => Ext (capt ix σ) σ2 ∧ tt σ2 H2 fun b H3 => if b = true then te σ2 H3 (NxtG Pv xs.length i ys) else NxtN Pv xs.length i ys H3)
    (hd : ∀ ys H, ys.length ≤ xs.length → Pv xs.length ys H → ∀ D, H D = none → Q (.ref D) (upd H D (.lst ys))) : CompGo (Itl K a) ix g tt te σ H Q := by
  refine ⟨fun i m ys H => m = xs.length - i ∧ i ≤ xs.length ∧ ys.length ≤ i ∧ Pv i ys H, ⟨xs.length, by simp, Nat.zero_le _, Nat.le_refl _, h0⟩, ?_⟩
  rintro i m ys H ⟨rfl, hi, hl, p⟩
  have q := hl' i ys H hi p
  by_cases hlt : i < xs.length
  · refine .inr ⟨⟨xs, xs[i], q, by simp [hlt]⟩, by omega, fun v H' y => ?_⟩
    obtain ⟨e, y⟩ := y
    subst e
    exact hs i v ys _ (y xs q) hlt hl p
  · have e : i = xs.length := by omega
    subst e
    exact .inl ⟨⟨xs, q, Nat.le_refl _⟩, hd ys H hl p⟩
theorem ext3 {σ : St} {i j k : Nat} {u v w : Option V} (h : σ[i]? = some none) (h2 : σ[j]? = some none) (h3 : σ[k]? = some none) : Ext σ (((σ.set i u).set j v).set k w) := by
  refine ⟨by simp, fun n w' e => ?_⟩
  have n1 : i ≠ n := fun z => by subst z; rw [h] at e; cases e
  have n2 : j ≠ n := fun z => by subst z; rw [h2] at e; cases e
  have n3 : k ≠ n := fun z => by subst z; rw [h3] at e; cases e
  rw [List.getElem?_set_ne n3, List.getElem?_set_ne n2, List.getElem?_set_ne n1]
  exact e
end
section
variable {X : Cx}
end
end L2
namespace L2
open PySem PySem.Spec PyProof.Rows
section
variable {X : Cx}
end
end L2
namespace L2
open PySem PySem.Spec PyProof.Rows
section
variable {X : Cx} {K : PySem.W.Frag}
theorem pg_tupC {es : List Expr} {k : Nat} {t : TGs} {n : Nat} {pos : Pos} (hK : X.K = K) (hc : X.calm = true) (h : PGs X es t)
    (hn : (assignEach es X.env).length = n := by rfl) (hst : (assignEach es X.env).findIdx? (·.1) = none := by rfl) : PG X (.Tuple es k pos) (gTup K n t) := by subst hK; exact pg_tup hc h hn hst
end
end L2

end

section
set_option Elab.async false
set_option linter.all false
set_option maxRecDepth 100000
set_option maxHeartbeats 4000000
namespace Zt
open PySem PySem.Spec PyProof.Rows
section
variable {prog : Program} {w : World} {A : Around} {E : Value → Shared → Prop} {s : Shared}
end
end Zt
namespace L2
open PySem PySem.Spec PyProof.Rows
section
variable {X : Cx} {pins : List (Addr × Obj)} {σ : St} {H : Hp} {s : Shared} {h' : Heap}
end
section
variable {X : Cx}
end
section
variable {ix : Cap} {tt : TT} {te : TE} {g : TG} {σ : St} {H : Hp} {Q : VK}
end
end L2

end

section
set_option Elab.async false
set_option linter.all false
set_option maxRecDepth 100000
set_option maxHeartbeats 4000000
namespace M
open PySem L2
end M

end

section
set_option Elab.async false
set_option linter.all false
set_option maxRecDepth 100000
set_option maxHeartbeats 4000000
namespace St
open PySem PySem.Spec PyProof.Rows
section
variable {prog : Program} {w : World} {A : Around} {R : Result → Shared → Prop} {I : Addr} {fp wr : List Addr} {G : Array GenState → Array GenState → Prop} {n : Nat} {P : Nat → Value → Prop} {St : Nat → Shared → Prop}
end
section
variable {prog : Program} {w : World} {A : Around} {E : Value → Shared → Prop} {s : Shared}
end
end St

end

section
set_option Elab.async false
set_option linter.all false
set_option maxRecDepth 100000
set_option maxHeartbeats 4000000
namespace St
open PySem PySem.Spec PyProof.Rows
section
variable {prog : Program} {w : World} {A : Around} {E : Value → Shared → Prop} {s : Shared} {a : Addr} {ep : Nat} {t : SetTable}
end
end St
namespace L2
open PySem PySem.Spec PyProof.Rows
end L2

end

section
set_option Elab.async false
set_option linter.all false
set_option maxRecDepth 100000
set_option maxHeartbeats 4000000
namespace M
open PySem L2
mutual
def D.deep : D → Nat
  | .int _ => 0
  | .str _ => 0
  | .tup ds => deeps ds + 1
def deeps : List D → Nat
  | [] => 0
  | d :: ds => max d.deep (deeps ds)
end
theorem deeps_mem : ∀ {ds : List D} {d : D}, d ∈ ds → d.deep ≤ deeps ds
  | e :: ds, d, h => by
    show d.deep ≤ max e.deep (deeps ds)
    rcases List.mem_cons.mp h with rfl | h
    · omega
    · have := deeps_mem h
      omega
section
variable {X : Cx} {pins : List (Addr × Obj)} {σ : St} {H : Hp} {s : Shared}
theorem its_at {vs : List V} {its : List Value} (r : Vals vs its) {j : Nat} (h1 : j < its.toArray.size) : ∃ x, vs[j]? = some x ∧ RelV x its.toArray[j] := by
  have hl := r.length
  have h : j < its.length := by simpa using h1
  obtain ⟨u, e, q⟩ := r.get (i := j) (x := vs[j]'(by omega)) (List.getElem?_eq_getElem _)
  have g : its.toArray[j] = u := by
    have : its[j]? = some its[j] := List.getElem?_eq_getElem h
    rw [e] at this
    simpa using (Option.some.inj this).symm
  exact ⟨vs[j]'(by omega), List.getElem?_eq_getElem _, by rw [g]; exact q⟩
/-- the same data twice: they are equal -/
theorem eq_at (I : Inv X pins σ H s) : ∀ (n : Nat) (d : D) {x y : V} {u v : Value} {A : Around}, d.deep ≤ n → RelD H x d → RelD H y d → RelV x u → RelV y v → A.units + n < cLine → SeqAt.EqAt A s u v true
  | n, .int i, x, y, u, v, A, _, hx, hy, ru, rv, _ => by
    cases hx
    cases hy
    obtain ⟨t, rfl⟩ := ru
    obtain ⟨t', rfl⟩ := rv
    have := SeqAt.EqAt.int_int (A := A) (s := s) i t i t'
    rw [beq_self_eq_true] at this
    exact this
  | n, .str z, x, y, u, v, A, _, hx, hy, ru, rv, _ => by
    cases hx
    cases hy
    obtain ⟨t, rfl⟩ := ru
    obtain ⟨t', rfl⟩ := rv
    have := SeqAt.EqAt.str_str (A := A) (s := s) z t z t'
    rw [beq_self_eq_true] at this
    exact this
  | 0, .tup ds, x, y, u, v, A, h, _, _, _, _, _ => absurd h (Nat.not_succ_le_zero _)
  | n + 1, .tup ds, x, y, u, v, A, h, hx, hy, ru, rv, hA => by
    obtain ⟨a, vs, rfl, ha, rvs⟩ := hx
    obtain ⟨b, ws, rfl, hb, rws⟩ := hy
    obtain rfl : u = .ref a := ru
    obtain rfl : v = .ref b := rv
    by_cases hab : a = b
    · subst hab
      exact SeqAt.EqAt.same _
    · obtain ⟨its, r1, p1, _⟩ := I.tuple (SqT.of (K := X.K) ha)
      obtain ⟨its2, r2, p2, _⟩ := I.tuple (SqT.of (K := X.K) hb)
      have l1 := r1.length
      have l2 := r2.length
      have l3 := rvs.length
      have l4 := rws.length
      have := SeqAt.EqAt.of_refs hab (SeqAt.RcAt.tuples (A := A) (e := fun _ => true) p1 p2 (by omega) fun j h1 h2 => ?_)
      · have e : ((List.range (min its.toArray.size its2.toArray.size)).all (fun _ => true) && its.toArray.size == its2.toArray.size) = true := by
          rw [show its.toArray.size = its2.toArray.size by simp only [List.size_toArray]; omega]
          simp
        rw [e] at this
        exact this
      · obtain ⟨x1, e1, q1⟩ := its_at r1 h1
        obtain ⟨x2, e2, q2⟩ := its_at r2 h2
        obtain ⟨d1, f1, g1⟩ := rvs.get e1
        obtain ⟨d2, f2, g2⟩ := rws.get e2
        rw [f1] at f2
        cases f2
        refine eq_at I n d1 ?_ g1 g2 q1 q2 (by show A.units + 1 + n < cLine; omega)
        have := deeps_mem (List.mem_of_getElem? f1)
        have h' : deeps ds + 1 ≤ n + 1 := h
        omega
end
end M

end

section
set_option Elab.async false
set_option linter.all false
set_option maxRecDepth 100000
set_option maxHeartbeats 4000000
namespace M
open PySem L2
end M
namespace L2
open PySem PySem.Spec PyProof.Rows
end L2

end

section
set_option Elab.async false
set_option linter.all false
set_option maxRecDepth 100000
set_option maxHeartbeats 4000000
namespace M
open PySem L2
end M
namespace L2
open PySem PySem.Spec PyProof.Rows
end L2
namespace L2
theorem yes_go {σ : St} {H : Hp} {A B : Hp → Prop} (h : A H) : tYes σ H (fun b H3 => if b = true then A H3 else B H3) := by
  unfold tYes
  show if true = true then A H else B H
  rw [if_pos rfl]
  exact h
end L2
namespace M
open PySem L2
theorem lst_tups {H : Hp} {p : Addr} {us : List V} (h : H p = some (.lst us)) (o : HO) : ∀ b vs, H b = some (.tup vs) → upd H p o b = some (.tup vs) := fun b vs hb => by
  rw [upd_ne fun e => by rw [e, h] at hb; cases hb]
  exact hb
end M
namespace M
open PySem L2
end M

end

section
set_option Elab.async false
set_option linter.all false
set_option maxRecDepth 100000
set_option maxHeartbeats 4000000
namespace M
open PySem L2
theorem hu2_of {A : Around} {k : Nat} (hr : Room k A) : A.units + 200 < cLine := by
  have := hr.un
  omega
end M

end

section
set_option Elab.async false
set_option linter.all false
set_option maxRecDepth 100000
set_option maxHeartbeats 4000000
namespace M
open PySem L2
end M

end

section
set_option Elab.async false
set_option linter.all false
set_option maxRecDepth 100000
set_option maxHeartbeats 4000000
namespace L2
open PySem PySem.Spec PyProof.Rows
section
variable {X : Cx}
end
end L2

end

section
set_option Elab.async false
set_option linter.all false
set_option maxRecDepth 100000
set_option maxHeartbeats 4000000
namespace Rv
open PySem PySem.Spec PyProof.Rows PySem.W
section
variable {prog : Program} {w : World} {A : Around} {E : Value → Shared → Prop} {s : Shared} {I l S : Addr} {items : Array Value}
end
end Rv
namespace L2
open PySem PySem.Spec PyProof.Rows
end L2

end

section
set_option Elab.async false
set_option linter.all false
set_option maxRecDepth 100000
set_option maxHeartbeats 4000000
namespace St
open PySem PySem.Spec PyProof.Rows
end St
namespace L2
open PySem PySem.Spec PyProof.Rows
end L2

end

section
set_option Elab.async false
set_option linter.all false
set_option maxRecDepth 100000
set_option maxHeartbeats 4000000
namespace M
open PySem L2
end M

end

section
set_option Elab.async false
set_option linter.all false
set_option maxRecDepth 100000
set_option maxHeartbeats 4000000
namespace M
open PySem L2
end M

end

section
set_option Elab.async false
set_option linter.all false
set_option maxRecDepth 100000
set_option maxHeartbeats 4000000
namespace M
open PySem L2
end M

end

section
set_option Elab.async false
set_option linter.all false
set_option maxRecDepth 100000
set_option maxHeartbeats 4000000
namespace M
open PySem L2
inductive B where
  | int (i : Int)
  | bl (b : Bool)
  | str (x : Str)
  | tup (es : List B)
mutual
def RelB (H : Hp) : V → B → Prop
  | v, .int i => v = .int i
  | v, .bl b => v = .bl b
  | v, .str x => v = .str x
  | v, .tup es => ∃ a vs, v = .ref a ∧ H a = some (.tup vs) ∧ RelBs H vs es
def RelBs (H : Hp) : List V → List B → Prop
  | vs, [] => vs = []
  | vs, e :: es => ∃ v r, vs = v :: r ∧ RelB H v e ∧ RelBs H r es
end
theorem RelBs.length {H : Hp} : ∀ {vs : List V} {es : List B}, RelBs H vs es → vs.length = es.length
  | vs, [], h => by rw [show vs = [] from h]; rfl
  | vs, e :: es, ⟨v, r, q, _, h2⟩ => by rw [q, List.length_cons, List.length_cons, RelBs.length h2]
theorem RelBs.get {H : Hp} : ∀ {vs : List V} {ds : List B} {i : Nat} {v : V}, RelBs H vs ds → vs[i]? = some v → ∃ d, ds[i]? = some d ∧ RelB H v d
  | vs, [], i, v, h, e => by rw [show vs = [] from h] at e; simp at e
  | vs, d :: ds, 0, v, ⟨u, r, e0, h1, _⟩, e => by
    subst e0
    simp at e
    subst e
    exact ⟨d, rfl, h1⟩
  | vs, d :: ds, i + 1, v, ⟨u, r, e0, _, h2⟩, e => by
    subst e0
    obtain ⟨x, hx, hr⟩ := RelBs.get (i := i) (v := v) h2 (by simpa using e)
    exact ⟨x, by simpa using hx, hr⟩
end M

end

section
set_option Elab.async false
set_option linter.all false
set_option maxRecDepth 100000
set_option maxHeartbeats 4000000
namespace Nt
open PySem
section
variable {prog : Program} {w : World} {A : Around} {E : Value → Shared → Prop} {s : Shared}
end
section
variable {prog : Program} {w : World} {A : Around} {E : Value → Shared → Prop} {s : Shared}
end
end Nt

end

section
set_option Elab.async false
set_option linter.all false
set_option maxRecDepth 100000
set_option maxHeartbeats 4000000
namespace L2
open PySem PySem.Spec PyProof.Rows
section
variable {X : Cx}
end
end L2

end

section
set_option Elab.async false
set_option linter.all false
set_option maxRecDepth 100000
set_option maxHeartbeats 4000000
namespace L2
open PySem PySem.Spec PyProof.Rows M
section
variable {X : Cx}
/-- lists of the same data twice: they aren't unlike -/
def rNeLD (K : PySem.W.Frag) : R2 := fun x y H Q => ∃ a b xs ys, ∃ ds : List D, x = .ref a ∧ y = .ref b ∧ SqL K H a xs ∧ SqL K H b ys ∧ RelDs H xs ds ∧ RelDs H ys ds ∧ deeps ds ≤ 190 ∧ Q (.bl false) H
theorem op_neLD (hu : X.A.units + 200 < cLine) : OpR X (compareOp .NotEq) (rNeLD X.K) := by
  intro pins s σ H x y v u Q I rx ry h
  obtain ⟨a, b, xs, ys, ds, rfl, rfl, ha, hb, rvs, rws, hd, q⟩ := h
  cases rx
  cases ry
  obtain ⟨its, r1, p1, _⟩ := I.list ha
  obtain ⟨its2, r2, p2, _⟩ := I.list hb
  have l1 := r1.length
  have l2 := r2.length
  have l3 := rvs.length
  have l4 := rws.length
  refine PySem.EqBoolInt.of_rcne (SeqAt.RcNeAt.lists (e := fun _ => true) p1.isList p2.isList (by simp only [List.size_toArray]; omega) (by omega) fun j h1 h2 => ?_) ⟨.bl false, H, I, ?_, q⟩
  · obtain ⟨x1, e1, q1⟩ := its_at r1 h1
    obtain ⟨x2, e2, q2⟩ := its_at r2 h2
    obtain ⟨d1, f1, g1⟩ := rvs.get e1
    obtain ⟨d2, f2, g2⟩ := rws.get e2
    rw [f1] at f2
    cases f2
    refine eq_at I 190 d1 ?_ g1 g2 q1 q2 (by show X.A.units + 1 + 190 < cLine; omega)
    have := deeps_mem (List.mem_of_getElem? f1)
    omega
  · have e : (!(List.range its.toArray.size).all (fun _ => true)) = false := by simp
    rw [e]
    rfl
end
section
variable {ix : Cap} {tt : TT} {te : TE} {g : TG} {σ : St} {H : Hp} {Q : VK}
end
end L2

end

section
set_option Elab.async false
set_option linter.all false
set_option maxRecDepth 100000
set_option maxHeartbeats 4000000
namespace L2
open PySem PySem.Spec PyProof.Rows M
section
variable {X : Cx}
end
end L2
namespace HT
open PySem PySem.Spec PyProof.Rows L2
section
variable {prog : Program} {w : World} {A : Around} {E : Value → Shared → Prop} {s : Shared}
end
end HT
namespace L2
open PySem PySem.Spec PyProof.Rows M
section
variable {X : Cx}
end
end L2

end

section
set_option Elab.async false
set_option linter.all false
set_option maxRecDepth 100000
set_option maxHeartbeats 4000000
namespace PySem
open Sem (wp)
section
variable {prog : Program} {w : World} {A : Around} {E : Value → Shared → Prop} {s : Shared}
end
end PySem
namespace L2
open PySem PySem.Spec PyProof.Rows
section
variable {prog : Program} {w : World} {A : Around} {K : Type} [DecidableEq K] {knd : KeyKind prog w K}
end
end L2

namespace L2
open PySem PySem.Spec PyProof.Rows
section
variable {prog : Program} {w : World} {A : Around} {E : Value → Shared → Prop} {s : Shared} {K : Type} [DecidableEq K] {knd : KeyKind prog w K}
end
end L2
namespace L2
open PySem PySem.Spec PyProof.Rows
section
variable {X : Cx}
end
end L2

end

section
set_option Elab.async false
set_option linter.all false
set_option maxRecDepth 100000
set_option maxHeartbeats 4000000
namespace L2
open PySem PySem.Spec PySem.W PyProof.Rows M
section
variable {X : Cx} {o : Expr} {td : TE} {p1 q1 q2 apos : Pos}
end
section
variable {X : Cx}
end
end L2

end

section
set_option Elab.async false
set_option linter.all false
set_option maxRecDepth 100000
set_option maxHeartbeats 4000000
namespace M
open PySem L2
end M

end

section
set_option Elab.async false
set_option linter.all false
set_option maxRecDepth 100000
set_option maxHeartbeats 4000000
namespace L2
open PySem PySem.Spec PyProof.Rows M
section
variable {X : Cx}
/-- a list == [] -/
def rEqE (K : PySem.W.Frag) : R2 := fun x y H Q => ∃ a b xs, x = .ref a ∧ y = .ref b ∧ SqL K H a xs ∧ SqL K H b [] ∧ Q (.bl xs.isEmpty) H
theorem op_eqE (hu : X.A.units < cLine) : OpR X (compareOp .Eq) (rEqE X.K) := by
  intro pins s σ H x y v u Q I rx ry h
  obtain ⟨a, b, xs, rfl, rfl, ha, hb, q⟩ := h
  cases rx
  cases ry
  obtain ⟨its, r1, p1, _⟩ := I.list ha
  obtain ⟨its2, r2, p2, _⟩ := I.list hb
  have l1 := r1.length
  have l2 := r2.length
  cases xs with
  | nil =>
    refine SeqAt.eq_listAt (e := fun _ => true) p1.isList p2.isList (by simp only [List.size_toArray]; omega) hu (fun j h1 h2 => ?_) ⟨.bl _, H, I, rfl, ?_⟩
    · simp only [List.size_toArray] at h1
      simp at l1
      omega
    · have : its = [] := List.eq_nil_of_length_eq_zero (by simpa using l1.symm)
      subst this
      exact q
  | cons x xs =>
    refine PySem.EqBoolInt.of_rc (SeqAt.RcAt.lists_lengths p1.isList p2.isList (by simp only [List.size_toArray]; simp at l1 l2 ⊢; omega) hu) ⟨.bl _, H, I, rfl, ?_⟩
    simpa using q
end
section
variable {X : Cx} {a b : Expr} {ta : TA} {p1 p2 q1 q2 : Pos}
end
end L2

end

section
set_option Elab.async false
set_option linter.all false
set_option maxRecDepth 100000
set_option maxHeartbeats 4000000
namespace St
open PySem PySem.Spec PyProof.Rows
end St
namespace L2
open PySem PySem.Spec PyProof.Rows
/-- isinstance beside classes, none of which it is -/
theorem kit_none {K : PySem.W.Frag} {t : Value} : ∀ {cs : List Value}, (∀ c ∈ cs, PySem.W.kitOne K t c = some false) → PySem.W.kitAny K t cs = some false
  | [], _ => rfl
  | c :: cs, h => by
    unfold PySem.W.kitAny
    rw [h c (by simp)]
    exact kit_none fun d hd => h d (by simp [hd])
open PySem.W in
def xTable2 (K : Frag) : Bool := xIn K (ad K "SwapError") bmV "ValueError.__new__" && (List.range 11).all (fun i => mroIn K (cAt K i) (.ref (ad K "SwapError")) == some true)
structure XTab2 (K : PySem.W.Frag) : Prop where
  obj : xIn K (ad K "SwapError") bmV "ValueError.__new__" = true
  mro : ∀ i, i < 11 → PySem.W.mroIn K (cAt K i) (.ref (ad K "SwapError")) = some true
theorem xtab2_of {K : PySem.W.Frag} (e : xTable2 K = true) : XTab2 K := by
  unfold xTable2 at e
  simp only [Bool.and_eq_true, List.all_eq_true, List.mem_range, beq_iff_eq] at e
  exact ⟨e.1, e.2⟩
end L2
namespace L2
open PySem PySem.Spec PyProof.Rows
theorem excF_inj {e C C' : Addr} {d d' : Option Addr} {c c' : Value} (h : excF e C d c = excF e C' d' c') : C = C' ∧ d = d' := by
  unfold excF at h
  injection h with h
  let o : Obj := { cls := .ref C, dict := d, data := .fields #[.none, .none, c, .none, .none, .none] }
  let hp : Heap := { objs := Array.replicate (e + 1) o }
  have hg : hp.get? e = some o := by
    unfold Heap.get?
    have : hp.objs[e]? = some o := by
      show (Array.replicate (e + 1) o)[e]? = some o
      simp
    rw [this]
  have h1 := congrFun h hp
  have h2 : ∃ vs : Array Value, (vs.size = 6 ∧ vs[2]? = some c) ∧ hp.get? e = some { cls := .ref C, dict := d, data := .fields vs } := ⟨_, ⟨rfl, rfl⟩, hg⟩
  rw [h1] at h2
  obtain ⟨vs, _, h3⟩ := h2
  rw [hg] at h3
  have h4 := Option.some.inj h3
  have h5 : Value.ref C = Value.ref C' := congrArg Obj.cls h4
  have h6 : d = d' := congrArg Obj.dict h4
  exact ⟨by injection h5, h6⟩
end L2

end

section
set_option Elab.async false
set_option linter.all false
set_option maxRecDepth 100000
set_option maxHeartbeats 4000000
namespace K7
open PySem L2 M
seal L2.PE L2.PA L2.PS L2.PSs L2.PT L2.PW L2.PI L2.PG L2.PJ L2.PTs
def top (i : Nat) : Stmt := PySem.Challenge.pw_swapstride_k07_brackets_in_brackets.main.body.getD i (.Pass ⟨0, 0, 0, 0⟩)
abbrev s_is_name : Stmt := top 19
theorem sc_is_name : FnScope ["text"] ["text"] (defScope s_is_name) := ⟨rfl, rfl, rfl, by decide +kernel, rfl, by decide +kernel, by decide +kernel⟩
abbrev s_is_number : Stmt := top 20
theorem sc_is_number : FnScope ["text"] ["text"] (defScope s_is_number) := ⟨rfl, rfl, rfl, by decide +kernel, rfl, by decide +kernel, by decide +kernel⟩
abbrev s_is_kind : Stmt := top 21
theorem sc_is_kind : FnScope ["text"] ["text"] (defScope s_is_kind) := ⟨rfl, rfl, rfl, by decide +kernel, rfl, by decide +kernel, by decide +kernel⟩
abbrev s_is_made_of : Stmt := top 22
theorem sc_is_made_of : FnScope ["text", "signs", "most"] ["text", "signs", "most"] (defScope s_is_made_of) := ⟨rfl, rfl, rfl, by decide +kernel, rfl, by decide +kernel, by decide +kernel⟩
abbrev s_term_of : Stmt := top 27
theorem sc_term_of : FnScope ["text"] ["text"] (defScope s_term_of) := ⟨rfl, rfl, rfl, by decide +kernel, rfl, by decide +kernel, by decide +kernel⟩
abbrev s_term_with : Stmt := top 28
theorem sc_term_with : FnScope ["text", "more", "trees"] ["text", "more"] (defScope s_term_with) := ⟨rfl, rfl, rfl, by decide +kernel, rfl, by decide +kernel, by decide +kernel⟩
abbrev s_need : Stmt := top 29
theorem sc_need : FnScope ["holds"] ["holds"] (defScope s_need) := ⟨rfl, rfl, rfl, by decide +kernel, rfl, by decide +kernel, by decide +kernel⟩
abbrev s_trees_of : Stmt := top 30
theorem sc_trees_of : FnScope ["text", "pile", "word"] ["text"] (defScope s_trees_of) := ⟨rfl, rfl, rfl, by decide +kernel, rfl, by decide +kernel, by decide +kernel⟩
abbrev s_put_word : Stmt := top 31
theorem sc_put_word : FnScope ["pile", "word", "core", "closed"] ["pile", "word"] (defScope s_put_word) := ⟨rfl, rfl, rfl, by decide +kernel, rfl, by decide +kernel, by decide +kernel⟩
abbrev s_close_brackets : Stmt := top 32
theorem sc_close_brackets : FnScope ["pile", "many", "inner"] ["pile", "many"] (defScope s_close_brackets) := ⟨rfl, rfl, rfl, by decide +kernel, rfl, by decide +kernel, by decide +kernel⟩
abbrev s_term_from : Stmt := top 33
theorem sc_term_from : FnScope ["tree", "more", "head"] ["tree", "more"] (defScope s_term_from) := ⟨rfl, rfl, rfl, by decide +kernel, rfl, by decide +kernel, by decide +kernel⟩
abbrev s_terms_from : Stmt := top 34
theorem sc_terms_from : FnScope ["trees", "more"] ["trees", "more"] (defScope s_terms_from) := ⟨rfl, rfl, rfl, by decide +kernel, rfl, by decide +kernel, by decide +kernel⟩
abbrev s_leaf_from : Stmt := top 35
theorem sc_leaf_from : FnScope ["word", "more"] ["word", "more"] (defScope s_leaf_from) := ⟨rfl, rfl, rfl, by decide +kernel, rfl, by decide +kernel, by decide +kernel⟩
abbrev s_name_from : Stmt := top 36
theorem sc_name_from : FnScope ["tree"] ["tree"] (defScope s_name_from) := ⟨rfl, rfl, rfl, by decide +kernel, rfl, by decide +kernel, by decide +kernel⟩
abbrev s_arm_from : Stmt := top 37
theorem sc_arm_from : FnScope ["tree", "more"] ["tree", "more"] (defScope s_arm_from) := ⟨rfl, rfl, rfl, by decide +kernel, rfl, by decide +kernel, by decide +kernel⟩
abbrev s_read : Stmt := top 41
theorem sc_read : FnScope ["text", "draft", "at", "row"] ["text"] (defScope s_read) := ⟨rfl, rfl, rfl, by decide +kernel, rfl, by decide +kernel, by decide +kernel⟩
abbrev s_rows_in : Stmt := top 42
theorem sc_rows_in : FnScope ["text"] ["text"] (defScope s_rows_in) := ⟨rfl, rfl, rfl, by decide +kernel, rfl, by decide +kernel, by decide +kernel⟩
abbrev s_made : Stmt := top 43
theorem sc_made : FnScope ["draft", "hands"] ["draft"] (defScope s_made) := ⟨rfl, rfl, rfl, by decide +kernel, rfl, by decide +kernel, by decide +kernel⟩
abbrev s_put_row : Stmt := top 44
theorem sc_put_row : FnScope ["draft", "words", "head"] ["draft", "words"] (defScope s_put_row) := ⟨rfl, rfl, rfl, by decide +kernel, rfl, by decide +kernel, by decide +kernel⟩
abbrev s_put_in_hand : Stmt := top 45
theorem sc_put_in_hand : FnScope ["hand", "words", "boxes", "rows"] ["hand", "words"] (defScope s_put_in_hand) := ⟨rfl, rfl, rfl, by decide +kernel, rfl, by decide +kernel, by decide +kernel⟩
abbrev s_kind_row : Stmt := top 46
abbrev s_channel_row : Stmt := top 47
abbrev s_hand_row : Stmt := top 48
theorem sc_hand_row : FnScope ["words", "head"] ["words"] (defScope s_hand_row) := ⟨rfl, rfl, rfl, by decide +kernel, rfl, by decide +kernel, by decide +kernel⟩
abbrev s_term_in : Stmt := top 49
theorem sc_term_in : FnScope ["words"] ["words"] (defScope s_term_in) := ⟨rfl, rfl, rfl, by decide +kernel, rfl, by decide +kernel, by decide +kernel⟩
abbrev s_number_from : Stmt := top 50
theorem sc_number_from : FnScope ["word"] ["word"] (defScope s_number_from) := ⟨rfl, rfl, rfl, by decide +kernel, rfl, by decide +kernel, by decide +kernel⟩
abbrev s_kind_from : Stmt := top 51
theorem sc_kind_from : FnScope ["word"] ["word"] (defScope s_kind_from) := ⟨rfl, rfl, rfl, by decide +kernel, rfl, by decide +kernel, by decide +kernel⟩
abbrev s__law_feed : Stmt := top 53
theorem sc__law_feed : FnScope ["_law_script", "_law_k", "_law_cell"] ["_law_script", "_law_k"] (defScope s__law_feed) := ⟨rfl, rfl, rfl, by decide +kernel, rfl, by decide +kernel, by decide +kernel⟩
abbrev s__law_take : Stmt := top 54
theorem sc__law_take : FnScope ["_law_feed_here", "_law_many", "_law_digit", "_law_one"] ["_law_feed_here", "_law_many"] (defScope s__law_take) := ⟨rfl, rfl, rfl, by decide +kernel, rfl, by decide +kernel, by decide +kernel⟩
abbrev s__law_name : Stmt := top 55
theorem sc__law_name : FnScope ["_law_feed_here", "_law_letters", "_law_some", "_law_name_here"] ["_law_feed_here"] (defScope s__law_name) := ⟨rfl, rfl, rfl, by decide +kernel, rfl, by decide +kernel, by decide +kernel⟩
abbrev s__law_step : Stmt := top 56
theorem sc__law_step : FnScope ["_law_feed_here", "_law_inner", "_law_name_here", "_law_form", "_law_text", "_law_term", "_law_deep", "_law_arms"] ["_law_feed_here", "_law_inner", "_law_name_here"] (defScope s__law_step) := ⟨rfl, rfl, rfl, by decide +kernel, rfl, by decide +kernel, by decide +kernel⟩
abbrev s__law_found : Stmt := top 57
theorem sc__law_found : FnScope ["_law_which", "_law_text", "_law_found_here", "_law_at", "e"] ["_law_which", "_law_text"] (defScope s__law_found) := ⟨rfl, rfl, rfl, by decide +kernel, rfl, by decide +kernel, by decide +kernel⟩
abbrev s_law : Stmt := top 58
theorem sc_law : FnScope ["_law_script", "_law_feed_here", "_law_name_here", "_law_inner", "_law_many", "_law_k", "_law_text", "_law_term", "_law_deep", "_law_row", "_law_line", "_law_made", "_law_whole", "_law_turn", "_law_found_here"] ["_law_script"] (defScope s_law) := ⟨rfl, rfl, rfl, by decide +kernel, rfl, by decide +kernel, by decide +kernel⟩
abbrev s_init : Stmt := clsDef (top 2) 0
theorem sc_init : FnScope ["self", "at"] ["self", "at"] (defScope s_init) := ⟨rfl, rfl, rfl, by decide +kernel, rfl, by decide +kernel, by decide +kernel⟩
abbrev s_dinit : Stmt := clsDef (top 40) 0
theorem sc_dinit : FnScope ["self"] ["self"] (defScope s_dinit) := ⟨rfl, rfl, rfl, by decide +kernel, rfl, by decide +kernel, by decide +kernel⟩
structure Tx (K : PySem.W.Frag) (mg : Str → Option Value) : Prop where
  d_is_name : DefTx K mg "is_name" s_is_name ["text"]
  d_is_number : DefTx K mg "is_number" s_is_number ["text"]
  d_is_kind : DefTx K mg "is_kind" s_is_kind ["text"]
  d_is_made_of : DefTx K mg "is_made_of" s_is_made_of ["text", "signs", "most"]
  d_term_of : DefTx K mg "term_of" s_term_of ["text"]
  d_term_with : DefTx K mg "term_with" s_term_with ["text", "more"]
  d_need : DefTx K mg "need" s_need ["holds"]
  d_trees_of : DefTx K mg "trees_of" s_trees_of ["text"]
  d_put_word : DefTx K mg "put_word" s_put_word ["pile", "word"]
  d_close_brackets : DefTx K mg "close_brackets" s_close_brackets ["pile", "many"]
  d_term_from : DefTx K mg "term_from" s_term_from ["tree", "more"]
  d_terms_from : DefTx K mg "terms_from" s_terms_from ["trees", "more"]
  d_leaf_from : DefTx K mg "leaf_from" s_leaf_from ["word", "more"]
  d_name_from : DefTx K mg "name_from" s_name_from ["tree"]
  d_arm_from : DefTx K mg "arm_from" s_arm_from ["tree", "more"]
  d_read : DefTx K mg "read" s_read ["text"]
  d_rows_in : DefTx K mg "rows_in" s_rows_in ["text"]
  d_made : DefTx K mg "made" s_made ["draft"]
  d_put_row : DefTx K mg "put_row" s_put_row ["draft", "words"]
  d_put_in_hand : DefTx K mg "put_in_hand" s_put_in_hand ["hand", "words"]
  d_kind_row : DefTx K mg "kind_row" s_kind_row ["words"]
  d_channel_row : DefTx K mg "channel_row" s_channel_row ["words"]
  d_hand_row : DefTx K mg "hand_row" s_hand_row ["words"]
  d_term_in : DefTx K mg "term_in" s_term_in ["words"]
  d_number_from : DefTx K mg "number_from" s_number_from ["word"]
  d_kind_from : DefTx K mg "kind_from" s_kind_from ["word"]
  d__law_feed : DefTx K mg "_law_feed" s__law_feed ["_law_script", "_law_k"]
  d__law_take : DefTx K mg "_law_take" s__law_take ["_law_feed_here", "_law_many"]
  d__law_name : DefTx K mg "_law_name" s__law_name ["_law_feed_here"]
  d__law_step : DefTx K mg "_law_step" s__law_step ["_law_feed_here", "_law_inner", "_law_name_here"]
  d__law_found : DefTx K mg "_law_found" s__law_found ["_law_which", "_law_text"]
  d_law : DefTx K mg "law" s_law ["_law_script"]
  g_LONGEST_NAME : ∃ t, mg "LONGEST_NAME" = some (.int 6 t)
  g_LONGEST_NUMBER : ∃ t, mg "LONGEST_NUMBER" = some (.int 10 t)
  g_DEEPEST : ∃ t, mg "DEEPEST" = some (.int 20 t)
  g_MOST_ARMS : ∃ t, mg "MOST_ARMS" = some (.int 4 t)
  g_MOST_PARTS : ∃ t, mg "MOST_PARTS" = some (.int 4 t)
  g_LETTERS : ∃ t, mg "LETTERS" = some (.str (Str.ofString "abcdefghijklmnopqrstuvwxyz") t)
  g_FIGURES : ∃ t, mg "FIGURES" = some (.str (Str.ofString "0123456789") t)
  g_NO_NAMES : ∃ a, mg "NO_NAMES" = some (.ref a) ∧ ∀ H, SqT K H a [.str (Str.ofString "num"), .str (Str.ofString "it")]
  g_OPS : ∃ a, mg "OPS" = some (.ref a) ∧ ∀ H, SqT K H a [.str (Str.ofString "+"), .str (Str.ofString "-"), .str (Str.ofString "*"), .str (Str.ofString "<"), .str (Str.ofString "=")]
  z_ValueError : mg "ValueError" = none
  z_all : mg "all" = none
  z_enumerate : mg "enumerate" = none
  z_int : mg "int" = none
  z_isinstance : mg "isinstance" = none
  z_len : mg "len" = none
  z_list : mg "list" = none
  z_max : mg "max" = none
  z_min : mg "min" = none
  z_range : mg "range" = none
  z_str : mg "str" = none
  z_tuple : mg "tuple" = none
  c_BadText : mg "BadText" = some (.ref (cAt K 0))
  c_Twice : mg "Twice" = some (.ref (cAt K 1))
  c_NoName : mg "NoName" = some (.ref (cAt K 2))
  c_NoCount : mg "NoCount" = some (.ref (cAt K 3))
  c_WrongKind : mg "WrongKind" = some (.ref (cAt K 4))
  c_Lacks : mg "Lacks" = some (.ref (cAt K 5))
  c_NotOwn : mg "NotOwn" = some (.ref (cAt K 6))
  c_Falls : mg "Falls" = some (.ref (cAt K 7))
  c_TooBig : mg "TooBig" = some (.ref (cAt K 8))
  c_NoFit : mg "NoFit" = some (.ref (cAt K 9))
  c_NoCode : mg "NoCode" = some (.ref (cAt K 10))
  c_SwapError : mg "SwapError" = some (.ref (ad K "SwapError"))
  c_Draft : mg "Draft" = some (.ref (ad K "Draft"))
  dt : DTab K "Draft" ["kinds", "channels", "hands"]
  di : InitTx K "Draft.__init__" (ad K "Draft") s_dinit ["self"]
  mr0 : PySem.W.mroIn K (cAt K 0) (.ref (cAt K 0)) = some true
  xt2 : XTab2 K
  xt : XTab K
  it : InitTx K "BadText.__init__" (cAt K 0) s_init ["self", "at"]
theorem fits {n : Nat} (h : n ≤ 4000000) : n ≤ sizeLine := Nat.le_trans h (by decide)
theorem fitsLt {n : Nat} (h : n ≤ 4000000) : n < sizeLine := Nat.lt_of_le_of_lt h (by decide)
theorem boot_VE : bootBuiltins "ValueError" = some (.type "ValueError") := by decide +kernel
end K7

end

section
set_option Elab.async false
set_option linter.all false
set_option maxRecDepth 100000
set_option maxHeartbeats 4000000
namespace K7.R
open PySem L2 M K7
seal L2.PE L2.PA L2.PS L2.PSs L2.PT L2.PW L2.PI L2.PG L2.PJ L2.PTs
def spMade : Sp := fun vs H Q _ => ∃ (x y : Str) (m : Int), vs = [.str x, .str y, .int m] ∧ x.length ≤ 3000000 ∧ ∀ H', Same H H' → Q (.bl (madeOf x y m)) H'
def spName : Sp := fun vs H Q _ => ∃ x : Str, vs = [.str x] ∧ x.length ≤ 3000000 ∧ ∀ H', Same H H' → Q (.bl (nameL (L x))) H'
def spNumber : Sp := fun vs H Q _ => ∃ x : Str, vs = [.str x] ∧ x.length ≤ 3000000 ∧ ∀ H', Same H H' → Q (.bl (numL (L x))) H'
section
variable {P : Program} {w : World} {K : PySem.W.Frag} {mg : Str → Option Value} {base : Heap} {n : Nat}
theorem ok_is_made_of (T : Tx K mg) : DefIs P w K mg base (n + 1) "is_made_of" ["text", "signs", "most"] spMade := by
  refine DefIs.of T.d_is_made_of sc_is_made_of (fun vs H Q E h => ?_) (fun f cdv A outer s H vs Q E hr h => ?_)
  · obtain ⟨x, y, m, rfl, _⟩ := h
    rfl
  obtain ⟨x, y, m, rfl, hx, k⟩ := h
  have nd := sc_is_made_of.nd
  have hu := hu_of hr
  refine ⟨_, (pss_one (ps_ret (pe_and (pe_chain op_le op_le pe_int (pe_callB call_len_str rfl T.z_len PySem.boot_len (pa_cons (pv 0) pa_nil star_name)) (pv 2)) (pe_one (pe_callB (call_all rfl) rfl T.z_all PyProof.Rows.boot_all (pa_cons (pe_comp ["sign", "signs"] [none, some 1] rfl (by kernel_rfl) (pi_str (pv 0)) (fun _ _ _ _ => (pg_name (i := 0) (by show List.Nodup (["sign", "signs"] : List Str); decide +kernel) rfl (Or.inl rfl))) (fun _ _ _ _ => pts_nil) (fun _ _ _ _ => (pe_cmpR op_in_str (pv 0) (pv 1) (by with_unfolding_all rfl)))) pa_nil star_comp)))))), ?_⟩
  refine ⟨_, rfl, x, rfl, fits (by omega), _, _, rfl, rfl, _, rfl, ?_⟩
  refine ite2 (fun c1 => ?_) (fun c1 => ?_)
  · have d1 : (1 : Int) ≤ x.length := of_decide_eq_true c1
    refine ⟨_, rfl, _, _, rfl, rfl, _, rfl, ?_⟩
    refine ite2 (fun c2 => ?_) (fun c2 => ?_)
    · have d2 := of_decide_eq_true c2
      refine ⟨_, rfl, x, rfl, ?_⟩
      refine comp_str (j := 0) (fun i ys H' => Same H H' ∧ ys = ((L x).take i).map fun c => V.bl (inS y c)) (by rfl) ⟨Same.refl _, rfl⟩ ?_ ?_ ?_
      · have : x.cps.size = x.length := rfl
        exact fitsLt (by omega)
      · rintro i c ys H' hc hl ⟨sm, rfl⟩
        have hi : i < x.cps.size := (Array.getElem?_eq_some_iff.mp hc).1
        refine ⟨_, rfl, _, rfl, _, _, rfl, rfl, ?_⟩
        refine nxt hi hl ⟨sm, ?_⟩
        rw [List.take_add_one, show (L x)[i]? = some c by rw [L, Array.getElem?_toList]; exact hc]
        simp [inS]
      · rintro ys H' hl ⟨sm, rfl⟩ D hD
        refine ⟨D, (L x).map (inS y), rfl, SqL.of ?_, ?_⟩
        · rw [upd_same, List.map_map]
          congr 2
          rw [List.take_of_length_le (by simp [L])]
          rfl
        · have e : madeOf x y m = ((L x).map (inS y)).all id := by
            unfold madeOf
            rw [decide_eq_true (show 1 ≤ x.length by omega), decide_eq_true d2, List.all_map]
            rfl
          rw [← e]
          exact k _ (sm.trans (Same.new hD _))
    · have d2 := of_decide_eq_false (Bool.eq_false_iff.mpr c2)
      have e : madeOf x y m = false := by
        unfold madeOf
        rw [decide_eq_false d2, Bool.and_false, Bool.false_and]
      rw [← e]
      exact k _ (Same.refl _)
  · have d1 : ¬ (1 : Int) ≤ x.length := of_decide_eq_false (Bool.eq_false_iff.mpr c1)
    refine ⟨_, rfl, ?_⟩
    have e : madeOf x y m = false := by
      unfold madeOf
      rw [decide_eq_false (show ¬ 1 ≤ x.length by omega), Bool.false_and, Bool.false_and]
    refine iteF ?_
    rw [← e]
    exact k _ (Same.refl _)
theorem inNames (x : Str) : inV (.str x) [.str (S "num"), .str (S "it")] = (decide (x = S "num") || decide (x = S "it")) := by
  unfold inV
  show ((S "num" == x) || ((S "it" == x) || false)) = _
  rw [Bool.or_false]
  have h : ∀ y : Str, (y == x) = decide (x = y) := fun y => by
    rw [Bool.eq_iff_iff]
    simp
    exact eq_comm
  rw [h, h]
theorem ok_is_name (T : Tx K mg) (D_is_made_of : DefIs P w K mg base n "is_made_of" ["text", "signs", "most"] spMade) : DefIs P w K mg base (n + 1) "is_name" ["text"] spName := by
  obtain ⟨o, g_NO_NAMES, hO⟩ := T.g_NO_NAMES
  refine DefIs.of T.d_is_name sc_is_name (fun vs H Q E h => ?_) (fun f cdv A outer s H vs Q E hr h => ?_)
  · obtain ⟨x, rfl, _⟩ := h
    rfl
  obtain ⟨x, rfl, hx, k⟩ := h
  refine ⟨_, (pss_one (ps_ret (pe_and (pe_dcall D_is_made_of hr (pa_cons (pv 0) (pa_cons (pe_gstr T.g_LETTERS) (pa_cons (pe_gint T.g_LONGEST_NAME) pa_nil star_name) star_name) star_name)) (pe_one (pe_cmpR op_notIn_seq (pv 0) (pe_gref g_NO_NAMES) (by with_unfolding_all rfl)))))), ?_⟩
  refine ⟨_, rfl, x, _, _, rfl, hx, fun H1 s1 => ⟨_, rfl, ?_⟩⟩
  have k1 := k H1 s1
  rw [name_is] at k1
  refine ite2 (fun c => ?_) (fun c => ?_)
  · refine ⟨_, rfl, o, _, rfl, .inr (hO _), rfl, by decide +kernel, ?_⟩
    rw [show madeOf x letters 6 = true from c, Bool.true_and, ← inNames] at k1
    exact k1
  · rw [show madeOf x letters 6 = false from Bool.eq_false_iff.mpr c, Bool.false_and] at k1
    exact k1
theorem first_at {x : Str} (h : 1 ≤ x.length) : atI x.cps.toList 0 = some ((L x).getD 0 0) := by
  have : 0 < x.cps.toList.length := by rw [Array.length_toList]; exact h
  refine atI_nat (j := 0) ?_
  rw [List.getElem?_eq_getElem this]
  show _ = some ((L x).getD 0 0)
  rw [List.getD_eq_getElem?_getD, show (L x)[0]? = some x.cps.toList[0] from List.getElem?_eq_getElem this]
  rfl
theorem ok_is_number (T : Tx K mg) (D_is_made_of : DefIs P w K mg base n "is_made_of" ["text", "signs", "most"] spMade) : DefIs P w K mg base (n + 1) "is_number" ["text"] spNumber := by
  refine DefIs.of T.d_is_number sc_is_number (fun vs H Q E h => ?_) (fun f cdv A outer s H vs Q E hr h => ?_)
  · obtain ⟨x, rfl, _⟩ := h
    rfl
  obtain ⟨x, rfl, hx, k⟩ := h
  refine ⟨_, (pss_one (ps_ret (pe_and (pe_dcall D_is_made_of hr (pa_cons (pv 0) (pa_cons (pe_gstr T.g_FIGURES) (pa_cons (pe_gint T.g_LONGEST_NUMBER) pa_nil star_name) star_name) star_name)) (pe_one (pe_or (pe_cmpR op_eq (pv 0) pe_str (nomark _)) (pe_one (pe_cmpR op_ne (pe_ix ix_str (pv 0) pe_int (fun _ _ => rfl)) pe_str (nomark _)))))))), ?_⟩
  refine ⟨_, rfl, x, _, _, rfl, hx, fun H1 s1 => ⟨_, rfl, ?_⟩⟩
  have K1 := k H1 s1
  rw [number_is] at K1
  refine ite2 (fun c => ?_) (fun c => ?_)
  · have c' : madeOf x figures 10 = true := c
    rw [c', Bool.true_and] at K1
    have hp : 1 ≤ x.length := by
      unfold madeOf at c'
      simp only [Bool.and_eq_true, decide_eq_true_eq] at c'
      exact c'.1.1
    refine ⟨_, rfl, rfl, _, rfl, ?_⟩
    refine ite2 (fun c2 => ?_) (fun c2 => ?_)
    · have d2 : V.str x = V.str (S "0") := of_decide_eq_true c2
      rw [decide_eq_true (V.str.inj d2), Bool.true_or] at K1
      exact K1
    · have d2 : ¬ V.str x = V.str (S "0") := of_decide_eq_false (Bool.eq_false_iff.mpr c2)
      rw [decide_eq_false (fun e => d2 (congrArg V.str e)), Bool.false_or] at K1
      refine ⟨_, rfl, x, 0, _, rfl, rfl, fits (by omega), first_at hp, rfl, ?_⟩
      have e : decide (V.str (⟨#[(L x).getD 0 0]⟩ : Str) = V.str (S "0")) = decide ((⟨#[(L x).getD 0 0]⟩ : Str) = S "0") := by
        rw [Bool.eq_iff_iff]
        simp
      rw [← e] at K1
      exact K1
  · rw [show madeOf x figures 10 = false from Bool.eq_false_iff.mpr c, Bool.false_and] at K1
    exact K1
end
end K7.R

end

section
set_option Elab.async false
set_option linter.all false
set_option maxRecDepth 100000
set_option maxHeartbeats 4000000
local macro_rules | `(tactic| walk_at "rd1") => `(tactic| first
  | refine ⟨_, rfl, ?_⟩
  | refine ⟨_, _, rfl, rfl, ?_⟩
  | refine ⟨_, _, _, _, rfl, rfl, (by assumption), (by first | rfl | assumption), ?_⟩
  | refine ⟨_, _, rfl, .inl (by assumption), ?_⟩
  | refine ⟨_, _, rfl, .inr (by assumption), ?_⟩
  | refine ⟨rfl, ?_⟩
  | refine M.iteKF (by decide +kernel) ?_
  | refine M.iteKT (by decide +kernel) ?_)
local macro_rules | `(tactic| walk_at "rd") => `(tactic| repeat walk_at "rd1")
namespace K7.R
open PySem L2 M K7
seal L2.PE L2.PA L2.PS L2.PSs L2.PT L2.PW L2.PI L2.PG L2.PJ L2.PTs
def spNeed : Sp := fun vs H Q _ => vs = [.bl true] ∧ Q .non H
def spClose : Sp := fun vs H Q _ => ∃ p as st k, vs = [.ref p, .int k] ∧ PileAt H p as st ∧ 0 ≤ k ∧ k.toNat < st.length ∧ sumP st ≤ 3900000 ∧ (∀ top r, st = top :: r → 1 ≤ top.length) ∧ ∀ as' H', PileAt H' p as' (close k.toNat st) → Same (hide (p :: as) H) (hide (p :: as') H') → Q .non H'
def spPut : Sp := fun vs H Q _ => ∃ p as st st' x, vs = [.ref p, .str x] ∧ PileAt H p as st ∧ 1 ≤ st.length ∧ st.length ≤ 21 ∧ sumP st ≤ 3800000 ∧ x.length ≤ 3000000 ∧ putW (L x) st = some st' ∧ ∀ as' H', PileAt H' p as' st' → Same (hide (p :: as) H) (hide (p :: as') H') → Q .non H'
def spTreesOf : Sp := fun vs H Q _ => ∃ x t, vs = [.str x] ∧ L x = t.cs ∧ t.Good ∧ t.nest ≤ 20 ∧ x.length ≤ 3000000 ∧ ∀ a v H', Same H H' → H' a = some (.lst [v]) → RelT H' v t → Q (.ref a) H'
section
variable {P : Program} {w : World} {K : PySem.W.Frag} {mg : Str → Option Value} {base : Heap} {n m : Nat}
theorem bl_true {c : Bool} (h : c = true) : [V.bl c] = [V.bl true] := by rw [h]
theorem pile_last {as : List Addr} {a : Addr} : atI (((a :: as).map V.ref).reverse) (-1) = some (.ref a) := by
  rw [List.map_cons, List.reverse_cons]
  exact atI_last _ _
theorem ok_close_brackets (T : Tx K mg) (D_need : DefIs P w K mg base n "need" ["holds"] spNeed) : DefIs P w K mg base (n + 1) "close_brackets" ["pile", "many"] spClose := by
  refine DefIs.of T.d_close_brackets sc_close_brackets (fun vs H Q E h => ?_) (fun f cdv A outer s H vs Q E hr h => ?_)
  · obtain ⟨_, _, _, _, rfl, _⟩ := h
    rfl
  obtain ⟨p, as, st, k, rfl, hp, k0, k1, hsum, htop, q⟩ := h
  have nd := sc_close_brackets.nd
  refine ⟨_, (pss_cons (ps_expr (pe_dcall D_need hr (pa_cons (pe_cmpR op_lt (pv 1) (pe_callB call_len_seq rfl T.z_len PySem.boot_len (pa_cons (pv 0) pa_nil star_name)) (nomark _)) pa_nil star_cmp)))
      (pss_one (ps_while PassesOwn.never (pt_cmpR op_gt (pv 1) pe_int (nomark _))
      (pss_cons (ps_set (i := 2) nd rfl (by first | exact Or.inl rfl | exact Or.inr rfl) (pe_bm0 PySem.F.plainAttrs_list PySem.F.slot_list_pop PySem.F.type_list_pop mt_pop (pv 0)))
      (pss_cons (ps_expr (pe_bm PySem.F.plainAttrs_list PySem.F.slot_list_append PySem.F.type_list_append mt_append (pe_ix ix_list (pv 0) (pe_un un_neg pe_int) (fun _ _ => rfl)) (pa_cons (pv 2) pa_nil star_name)))
      (pss_one (ps_set (i := 1) nd rfl (by first | exact Or.inl rfl | exact Or.inr rfl) (pe_op op_sub (pv 1) pe_int)))))))), ?_⟩
  have hl := hp.len
  refine ⟨_, rfl, _, rfl, p, _, rfl, .inl (SqL.of hp.pile), _, _, rfl, rfl, ?_, ?_⟩
  · exact bl_true (decide_eq_true (by rw [List.length_reverse, List.length_map]; omega))
  refine while_by (fun σ H' => ∃ (j : Int) (v : Option V) (as' : List Addr) (st' : Pile), σ = [some (.ref p), some (.int j), v] ∧ 0 ≤ j ∧ PileAt H' p as' st' ∧ j.toNat < st'.length ∧ close j.toNat st' = close k.toNat st ∧ sumP st' ≤ 3900000 ∧ (∀ top r, st' = top :: r → 1 ≤ top.length) ∧ Same (hide (p :: as) H) (hide (p :: as') H'))
    (fun σ _ => match σ with | [_, some (.int j), _] => j.toNat | _ => 0) ⟨k, none, as, st, rfl, k0, hp, k1, rfl, hsum, htop, Same.refl _⟩ ?_ ?_
  · rintro σ H1 ⟨j, v, as1, st1, rfl, j0, hp1, j1, ec, hs1, ht1, sm1⟩
    refine ⟨_, rfl, _, _, rfl, rfl, _, rfl, ?_⟩
    refine ite2 (fun c => ?_) (fun c => ?_)
    · have c' : (0 : Int) < j := of_decide_eq_true c
      have hl1 := hp1.len
      match as1, st1, hp1, j1, ec, hs1, ht1, hl1 with
      | [], st1, hp1, j1, _, _, _, hl1 => simp at hl1; omega
      | [a], st1, hp1, j1, _, _, _, hl1 => simp at hl1; omega
      | a :: b :: as2, [], hp1, j1, _, _, _, hl1 => simp at hl1
      | a :: b :: as2, [top], hp1, j1, _, _, _, hl1 => simp at hl1
      | a :: b :: as2, top :: par :: st2, hp1, j1, ec, hs1, ht1, hl1 =>
        have pb : b ≠ p := fun e => hp1.np (by rw [← e]; simp)
        obtain ⟨vs, hb, lenb⟩ : ∃ vs, H1 b = some (.lst vs) ∧ vs.length = par.length := by
          cases hp1.lists with
          | cons h1 h2 => cases h2 with
            | cons h2 h3 => obtain ⟨vs, e, r⟩ := h2; exact ⟨vs, e, r.length⟩
        obtain ⟨hp2, sm2⟩ := hp1.shuts hb
        have el : ((a :: b :: as2).map V.ref).reverse = ((b :: as2).map V.ref).reverse ++ [.ref a] := by simp
        have hpile := hp1.pile
        rw [el] at hpile
        refine ⟨_, rfl, .inl ⟨rfl, _, SqL.of hpile⟩, p, _, .ref a, rfl, rfl, hpile, ?_, ?_⟩
        · rw [List.length_append, List.length_singleton, Nat.add_sub_cancel, List.getElem?_append_right (Nat.le_refl _), Nat.sub_self]
          rfl
        rw [List.dropLast_concat]
        refine ⟨_, rfl, _, rfl, p, _, -1, .ref b, rfl, rfl, SqL.of upd_same, pile_last, .inl ⟨rfl, vs, SqL.of (by rw [upd_ne pb]; exact hb)⟩, _, rfl, b, vs, .ref a, rfl, rfl, ?_, ?_, ?_⟩
        · rw [upd_ne pb]; exact hb
        · have : par.length ≤ sumP (top :: par :: st2) := by simp [sumP]; omega
          rw [lenb]
          exact fitsLt (by omega)
        refine ⟨_, rfl, _, _, rfl, rfl, ?_⟩
        refine ⟨⟨j - 1, _, _, _, rfl, by omega, hp2, ?_, ?_, ?_, ?_, sm1.trans sm2⟩, ?_⟩
        · simp at j1 ⊢; omega
        · rw [← ec]
          have ej : j.toNat = (j - 1).toNat + 1 := by omega
          rw [ej]
          rfl
        · have h1 := ht1 top (par :: st2) rfl
          simp [sumP] at hs1 ⊢
          omega
        · intro t r e
          cases e
          simp
        · show (j - 1).toNat < j.toNat
          omega
    · have c' : ¬ (0 : Int) < j := of_decide_eq_false (Bool.eq_false_iff.mpr c)
      have ej : j.toNat = 0 := by omega
      rw [ej] at ec
      exact q as1 H1 (by rw [← ec]; exact hp1) sm1
  · rintro σ H1 Q1 Q2 hQ ⟨x, e, y, z, e1, e2, c, e3, h⟩
    exact ⟨x, e, y, z, e1, e2, c, e3, hQ _ _ h⟩
theorem shut41 : S ")" = ⟨#[41]⟩ := by decide +kernel
theorem open40 : S "(" = ⟨#[40]⟩ := by decide +kernel
theorem ok_put_word (T : Tx K mg) (D_need : DefIs P w K mg base n "need" ["holds"] spNeed) (D_close_brackets : DefIs P w K mg base n "close_brackets" ["pile", "many"] spClose) : DefIs P w K mg base (n + 1) "put_word" ["pile", "word"] spPut := by
  refine DefIs.of T.d_put_word sc_put_word (fun vs H Q E h => ?_) (fun f cdv A outer s H vs Q E hr h => ?_)
  · obtain ⟨_, _, _, _, _, rfl, _⟩ := h
    rfl
  obtain ⟨p, as, st, st', x, rfl, hp, l1, l21, hsum, hx, hput, q⟩ := h
  have nd := sc_put_word.nd
  refine ⟨_, (pss_cons (ps_set (i := 2) nd rfl (by first | exact Or.inl rfl | exact Or.inr rfl) (pe_bm PySem.F.plainAttrs_str PySem.F.slot_str_rstrip PySem.F.type_str_rstrip mt_rstrip (pv 1) (pa_cons pe_str pa_nil star_const)))
      (pss_cons (ps_set (i := 3) nd rfl (by first | exact Or.inl rfl | exact Or.inr rfl) (pe_op op_sub (pe_callB call_len_str rfl T.z_len PySem.boot_len (pa_cons (pv 1) pa_nil star_name)) (pe_callB call_len_str rfl T.z_len PySem.boot_len (pa_cons (pv 2) pa_nil star_name))))
      (pss_cons (ps_if (pt_val (pe_bm PySem.F.plainAttrs_str PySem.F.slot_str_startswith PySem.F.type_str_startswith mt_startswith (pv 2) (pa_cons pe_str pa_nil star_const))) (pss_cons (ps_expr (pe_dcall D_need hr (pa_cons (pe_cmpR op_le (pe_callB call_len_seq rfl T.z_len PySem.boot_len (pa_cons (pv 0) pa_nil star_name)) (pe_gint T.g_DEEPEST) (nomark _)) pa_nil star_cmp)))
      (pss_cons (ps_expr (pe_bm PySem.F.plainAttrs_list PySem.F.slot_list_append PySem.F.type_list_append mt_append (pv 0) (pa_cons (pe_lst pa_nil) pa_nil star_lst)))
      (pss_one (ps_set (i := 2) nd rfl (by first | exact Or.inl rfl | exact Or.inr rfl) (pe_slice sl_str (pv 2) (po_some pe_int) po_none))))) pss_nil)
      (pss_cons (ps_expr (pe_bm PySem.F.plainAttrs_list PySem.F.slot_list_append PySem.F.type_list_append mt_append (pe_ix ix_list (pv 0) (pe_un un_neg pe_int) (fun _ _ => rfl)) (pa_cons (pv 2) pa_nil star_name)))
      (pss_one (ps_expr (pe_dcall D_close_brackets hr (pa_cons (pv 0) (pa_cons (pv 3) pa_nil star_name) star_name)))))))), ?_⟩
  have hcore := rstrip_core x
  have hclen := rstrip_len x
  rw [← shut41] at hcore hclen
  have hlc : (coreOf (L x)).length = (Txt.rstripChars x (S ")")).length := by rw [← hcore, L_length]
  have hlx := L_length x
  have hpl : ((as.map V.ref).reverse).length = st.length := by rw [List.length_reverse, List.length_map, hp.len]
  refine ⟨_, rfl, rfl, x, S ")", rfl, rfl, fits (by omega), ?_⟩
  refine ⟨_, rfl, x, rfl, fits (by omega), _, rfl, _, rfl, fits (by show (Txt.rstripChars x (S ")")).length ≤ _; omega), _, _, rfl, rfl, ?_⟩
  refine ⟨_, rfl, rfl, _, S "(", rfl, rfl, _, rfl, ?_⟩
  have hst := starts_open (Txt.rstripChars x (S ")"))
  rw [hcore, ← open40] at hst
  -- what is left, behind the opening
  have tail : ∀ (core : Str) (as1 : List Addr) (st1 : Pile) (H1 : Hp), PileAt H1 p as1 st1 → 1 ≤ st1.length → sumP st1 ≤ 3800000 → closeN (x.length - (coreOf (L x)).length) (push (.w (L core)) st1) = some st' → Same (hide (p :: as) H) (hide (p :: as1) H1) →
      ∃ a as2, as1 = a :: as2 ∧ ∃ vs, H1 a = some (.lst vs) ∧ vs.length < sizeLine ∧ ∃ st2, PileAt (upd H1 a (.lst (vs ++ [.str core]))) p as1 st2 ∧ (x.length - (coreOf (L x)).length) < st2.length ∧ sumP st2 ≤ 3900000 ∧ (∀ top r, st2 = top :: r → 1 ≤ top.length) ∧ close (x.length - (coreOf (L x)).length) st2 = st' ∧
        Same (hide (p :: as) H) (hide (p :: as1) (upd H1 a (.lst (vs ++ [.str core])))) := by
    intro core as1 st1 H1 hp1 h1 hs1 hc sm
    match as1, st1, hp1, h1, hs1, hc with
    | [], st1, hp1, h1, _, _ => have := hp1.len; simp at this; omega
    | a :: as2, [], hp1, h1, _, _ => simp at h1
    | a :: as2, top :: st2, hp1, h1, hs1, hc =>
      obtain ⟨vs, ha, hr⟩ : ∃ vs, H1 a = some (.lst vs) ∧ vs.length = top.length := by
        cases hp1.lists with
        | cons g1 _ => obtain ⟨vs, e, r⟩ := g1; exact ⟨vs, e, r.length⟩
      have hpu := hp1.push (v := .str core) (t := .w (L core)) ha (by show V.str core = V.str (ofL (L core)); rw [ofL_L])
      have ht := @top_le top st2
      have hlt : (x.length - (coreOf (L x)).length) < ((top ++ [.w (L core)]) :: st2).length := by
        unfold closeN at hc
        split at hc
        · assumption
        · cases hc
      refine ⟨a, as2, rfl, vs, ha, fitsLt (by omega), _, hpu, hlt, ?_, ?_, ?_, sm.trans PileAt.push_same⟩
      · have := sum_push (.w (L core)) (top :: st2)
        exact Nat.le_trans this (by omega)
      · intro t r e; cases e; simp
      · unfold closeN at hc
        rw [if_pos (show x.length - (coreOf (L x)).length < (push (.w (L core)) (top :: st2)).length from hlt)] at hc
        exact Option.some.inj hc
  have he0 : (x.length : Int) - ((Txt.rstripChars x (S ")")).length : Nat) = ((x.length - (coreOf (L x)).length : Nat) : Int) := by omega
  unfold putW putC at hput
  rw [hlx] at hput
  by_cases ho : (coreOf (L x)).head? = some 40
  · rw [if_pos ho] at hput
    rw [decide_eq_true ho] at hst
    refine iteBT hst ?_
    by_cases h20 : st.length ≤ 20
    · rw [if_pos h20] at hput
      refine ⟨_, rfl, p, _, rfl, .inl (SqL.of hp.pile), _, _, rfl, rfl, ?_, ?_⟩
      · exact bl_true (decide_eq_true (by rw [hpl]; omega))
      refine ⟨_, rfl, .inl ⟨rfl, _, SqL.of hp.pile⟩, Nat.zero_le _, fun nn hn => ⟨p, _, .ref nn, rfl, rfl, Same.new hn _ _ _ hp.pile, ?_, ?_⟩⟩
      · rw [hpl]; exact fitsLt (by omega)
      obtain ⟨hp1, sm1⟩ := hp.opens hn
      have h1c : 1 ≤ (Txt.rstripChars x (S ")")).length := by
        rw [← hlc]
        cases hh : coreOf (L x) with
        | nil => rw [hh] at ho; cases ho
        | cons c r => simp
      have esl : L (Txt.slice (Txt.rstripChars x (S ")")) (some 1) none) = (coreOf (L x)).tail := by rw [slice_tail _ h1c, hcore]
      obtain ⟨a, as2, e1, vs, ha, hvl, st2, hp2, hk, hs2, ht2, ec, sm2⟩ := tail (Txt.slice (Txt.rstripChars x (S ")")) (some 1) none) _ _ _ hp1 (by simp) (by simp [sumP] at hsum ⊢; omega) (by rw [esl]; exact hput) sm1
      refine ⟨_, rfl, _, rfl, _, rfl, fits (by omega), ?_⟩
      have hpile := hp1.pile
      rw [e1] at hpile
      refine ⟨_, rfl, _, rfl, p, _, -1, .ref a, rfl, rfl, SqL.of hpile, pile_last, .inl ⟨rfl, _, SqL.of ha⟩, _, rfl, a, vs, _, rfl, rfl, ha, hvl, ?_⟩
      refine ⟨_, rfl, _, rfl, p, _, st2, _, rfl, hp2, ?_, ?_, hs2, ht2, fun as' H' hp' sm' => ?_⟩
      · rw [he0]; omega
      · rw [he0]; exact hk
      · rw [he0, Int.toNat_natCast, ec] at hp'
        exact q as' H' hp' (sm2.trans sm')
    · rw [if_neg h20] at hput
      cases hput
  · rw [if_neg ho] at hput
    rw [decide_eq_false ho] at hst
    refine iteBF hst ?_
    obtain ⟨a, as2, e1, vs, ha, hvl, st2, hp2, hk, hs2, ht2, ec, sm2⟩ := tail (Txt.rstripChars x (S ")")) _ _ _ hp l1 hsum (by rw [hcore]; exact hput) (Same.refl _)
    have hpile := hp.pile
    rw [e1] at hpile
    refine ⟨_, rfl, _, rfl, p, _, -1, .ref a, rfl, rfl, SqL.of hpile, pile_last, .inl ⟨rfl, _, SqL.of ha⟩, _, rfl, a, vs, _, rfl, rfl, ha, hvl, ?_⟩
    refine ⟨_, rfl, _, rfl, p, _, st2, _, rfl, hp2, ?_, ?_, hs2, ht2, fun as' H' hp' sm' => ?_⟩
    · rw [he0]; omega
    · rw [he0]; exact hk
    · rw [he0, Int.toNat_natCast, ec] at hp'
      exact q as' H' hp' (sm2.trans sm')
theorem run_prefix {a b : List (List Nat)} {st r : Pile} (h : runW (a ++ b) st = some r) : ∃ s, runW a st = some s := by
  rw [runW_append] at h
  cases e : runW a st with
  | none => rw [e] at h; cases h
  | some s => exact ⟨s, rfl⟩
theorem ok_trees_of (T : Tx K mg) (D_need : DefIs P w K mg base n "need" ["holds"] spNeed) (D_put_word : DefIs P w K mg base n "put_word" ["pile", "word"] spPut) : DefIs P w K mg base (n + 1) "trees_of" ["text"] spTreesOf := by
  refine DefIs.of T.d_trees_of sc_trees_of (fun vs H Q E h => ?_) (fun f cdv A outer s H vs Q E hr h => ?_)
  · obtain ⟨_, _, rfl, _⟩ := h
    rfl
  obtain ⟨x, t, rfl, hx, hg, hn, hlen, q⟩ := h
  have nd := sc_trees_of.nd
  obtain ⟨ws, hws, hrun⟩ := read_tree hg hn hx
  rw [← blank_is] at hws
  refine ⟨_, (pss_cons (ps_set (i := 1) nd rfl (by first | exact Or.inl rfl | exact Or.inr rfl) (pe_lst (pa_cons (pe_lst pa_nil) pa_nil star_lst)))
      (pss_cons (ps_for PassesOwn.never rfl (pi_list (pe_bm PySem.F.plainAttrs_str PySem.F.slot_str_split PySem.F.type_str_split mt_split (pv 0) (pa_cons pe_str pa_nil star_const))) (pg_name (i := 2) nd rfl (by first | exact Or.inl rfl | exact Or.inr rfl))
      (pss_one (ps_expr (pe_dcall D_put_word hr (pa_cons (pv 1) (pa_cons (pv 2) pa_nil star_name) star_name)))))
      (pss_cons (ps_expr (pe_dcall D_need hr (pa_cons (pe_cmpR op_eq (pe_callB call_len_seq rfl T.z_len PySem.boot_len (pa_cons (pv 1) pa_nil star_name)) pe_int (nomark _)) pa_nil star_cmp)))
      (pss_one (ps_ret (pe_ix ix_list (pv 1) pe_int (fun _ _ => rfl))))))), ?_⟩
  refine ⟨Nat.zero_le _, fun a0 h0 => ⟨(by show 1 ≤ sizeLine; decide), fun p hp0 => ?_⟩⟩
  have ap : a0 ≠ p := fun e => by rw [← e, upd_same] at hp0; cases hp0
  have hp1 : PileAt (upd (upd H a0 (.lst [])) p (.lst [.ref a0])) p [a0] [[]] :=
    ⟨by rw [upd_same]; rfl, by simp, by simp [ap.symm], .cons ⟨[], by rw [upd_ne ap, upd_same], rfl⟩ .nil⟩
  have sm0 : Same H (hide [p, a0] (upd (upd H a0 (.lst [])) p (.lst [.ref a0]))) := fun b o e => by
    have b1 : b ≠ a0 := fun z => by rw [z, h0] at e; cases e
    have b2 : b ≠ p := fun z => by rw [upd_ne ap.symm] at hp0; rw [z, hp0] at e; cases e
    exact hide_get.mpr ⟨by simp [b1, b2], by rw [upd_ne b2, upd_ne b1]; exact e⟩
  have hsl : (Txt.split x (S " ")).length = ws.length := by rw [← hws, List.length_map]
  have hwl : ws.length ≤ 3000002 := by
    have := Txt_split_len x
    omega
  refine ⟨_, rfl, rfl, x, S " ", rfl, rfl, (by decide +kernel), fits (by omega), fun wl hwl0 => ⟨wl, rfl, ⟨_, SqL.of upd_same⟩, ?_⟩⟩
  have hww : ∀ (i : Nat) z, ((Txt.split x (S " ")).map V.str)[i]? = some z → ∃ y, z = .str y ∧ ws[i]? = some (L y) ∧ y.length ≤ 3000000 := fun i z e => by
    rw [List.getElem?_map] at e
    cases e1 : (Txt.split x (S " "))[i]? with
    | none => rw [e1] at e; cases e
    | some y =>
      rw [e1] at e
      cases e
      refine ⟨y, rfl, ?_, ?_⟩
      · rw [← hws, List.getElem?_map, e1]; rfl
      · have := Txt_split_part x y (List.mem_of_getElem? e1)
        omega
  have wlp : wl ≠ p := fun e => by rw [e, upd_same] at hwl0; cases hwl0
  have wla : wl ≠ a0 := fun e => by rw [e, upd_ne ap, upd_same] at hwl0; cases hwl0
  refine for_list (xs := (Txt.split x (S " ")).map V.str) (fun i σ H' => ∃ as st v, σ = [some (.str x), some (.ref p), v] ∧ PileAt H' p as st ∧ runW (ws.take i) [[]] = some st ∧ 1 ≤ st.length ∧ st.length ≤ 21 ∧ sumP st ≤ i ∧ hide (p :: as) H' wl = some (.lst ((Txt.split x (S " ")).map V.str)) ∧ Same H (hide (p :: as) H')) ?_ ?_ ?_ ?_
  · have sm1 : Same (hide [p, a0] (upd (upd H a0 (.lst [])) p (.lst [.ref a0]))) (hide [p, a0] (upd (upd (upd H a0 (.lst [])) p (.lst [.ref a0])) wl (.lst ((Txt.split x (S " ")).map V.str)))) := fun b o e => by
      obtain ⟨e1, e2⟩ := hide_get.mp e
      exact hide_get.mpr ⟨e1, Same.new hwl0 _ _ _ e2⟩
    refine ⟨[a0], [[]], none, rfl, ⟨Same.new hwl0 _ _ _ hp1.pile, hp1.nd, hp1.np, .cons ⟨[], Same.new hwl0 _ _ _ (by rw [upd_ne ap, upd_same]), rfl⟩ .nil⟩, rfl, by simp, by simp, by simp [sumP], hide_get.mpr ⟨by simp [wlp, wla], upd_same⟩, sm0.trans sm1⟩
  · rintro i σ H' _ ⟨as, st, v, _, _, _, _, _, _, hw, _⟩
    exact SqL.of (hide_get.mp hw).2
  · rintro i z σ H' hz ⟨as, st, v, rfl, hp', hr', l1, l21, hs', hw, sm⟩
    obtain ⟨y, rfl, hy, hyl⟩ := hww i z hz
    have hi : i < ws.length := (List.getElem?_eq_some_iff.mp hy).1
    obtain ⟨st', hst'⟩ : ∃ s, runW (ws.take (i + 1)) [[]] = some s := run_prefix (b := ws.drop (i + 1)) (by rw [List.take_append_drop]; exact hrun)
    have hput : putW (L y) st = some st' := by
      rw [List.take_add_one, hy] at hst'
      simp only [Option.toList_some] at hst'
      rw [runW_snoc, hr'] at hst'
      exact hst'
    refine ⟨_, rfl, _, rfl, p, as, st, st', y, rfl, hp', l1, l21, by omega, hyl, hput, fun as' H2 hp2 sm2 => ?_⟩
    have hl2 := len_put hput l1 l21
    have hs2 := sum_put hput
    exact ⟨as', st', _, rfl, hp2, hst', hl2.1, hl2.2, by omega, sm2 _ _ hw, sm.trans sm2⟩
  · rintro σ H' ⟨as, st, v, rfl, hp', hr', l1, l21, hs', hw, sm⟩
    rw [List.length_map, hsl, List.take_length, hrun] at hr'
    cases hr'
    have hl := hp'.len
    match as, hp', hl with
    | [a], hp', _ =>
      cases hp'.lists with
      | cons g1 _ =>
        obtain ⟨vs, ha, v0, r0, rfl, rv, e0⟩ := g1
        subst e0
        have hpile : H' p = some (.lst [.ref a]) := hp'.pile
        refine ⟨_, rfl, p, _, rfl, .inl (SqL.of hpile), rfl, rfl, ?_⟩
        refine ⟨_, rfl, p, _, 0, .ref a, rfl, rfl, SqL.of hpile, rfl, ?_⟩
        have smH : Same (hide [p, a] H') H' := fun b o e => (hide_get.mp e).2
        exact q a v0 H' (sm.trans smH) ha (rv.same smH _)
end
end K7.R

end

section
set_option Elab.async false
set_option linter.all false
set_option maxRecDepth 100000
set_option maxHeartbeats 4000000
local macro_rules | `(tactic| walk_at "rd1") => `(tactic| first
  | refine ⟨_, rfl, ?_⟩
  | refine ⟨_, _, rfl, rfl, ?_⟩
  | refine ⟨_, _, _, _, rfl, rfl, (by assumption), (by first | rfl | assumption), ?_⟩
  | refine ⟨_, _, rfl, .inl (by assumption), ?_⟩
  | refine ⟨_, _, rfl, .inr (by assumption), ?_⟩
  | refine ⟨_, _, _, _, _, rfl, (fun u hu' => hu'), (by assumption), rfl, ?_⟩
  | refine ⟨_, _, rfl, .inr (by assumption), rfl, (by decide +kernel), ?_⟩
  | refine ⟨rfl, ?_⟩
  | refine M.iteKF (by decide +kernel) ?_
  | refine M.iteKT (by decide +kernel) ?_
  | refine L2.iteT ?_
  | refine L2.iteF ?_
  | refine M.iteBF (by assumption) ?_
  | refine M.iteBT (by assumption) ?_)
local macro_rules | `(tactic| walk_at "rd") => `(tactic| repeat walk_at "rd1")
namespace K7.R
open PySem L2 M K7
seal L2.PE L2.PA L2.PS L2.PSs L2.PT L2.PW L2.PI L2.PG L2.PJ L2.PTs
def spNameFrom : Sp := fun vs H Q _ => ∃ x : Str, vs = [.str x] ∧ Name x ∧ ∀ H', Same H H' → Q (.str x) H'
def spLeafFrom : Sp := fun vs H Q _ => ∃ (x : Str) (mr : Addr) (d : D), vs = [.str x, .ref mr] ∧ H mr = some (.tup []) ∧ Leaf d (tx x) ∧ ∀ v H', Same H H' → RelD H' v d → Q v H'
def spTermsFrom (R : D → Tr → Prop) : Sp := fun vs H Q _ => ∃ a mr us ts ds, vs = [.ref a, .ref mr] ∧ H mr = some (.tup []) ∧ H a = some (.lst us) ∧ RelTs H us ts ∧ All2 R ds ts ∧ ts.length ≤ 1000 ∧ ∀ p ys H', Same H H' → H' p = some (.tup ys) → RelDs H' ys ds → Q (.ref p) H'
def spTermFrom (R : D → Tr → Prop) : Sp := fun vs H Q _ => ∃ v mr d t, vs = [v, .ref mr] ∧ H mr = some (.tup []) ∧ RelT H v t ∧ R d t ∧ ∀ v' H', Same H H' → RelD H' v' d → Q v' H'
theorem relT_tx {H : Hp} {v : V} {x : Str} (h : RelT H v (tx x)) : v = .str x := by
  have : v = .str (ofL (L x)) := h
  rw [ofL_L] at this
  exact this
theorem name_len {x : Str} (h : Name x) : x.length ≤ 6 := by
  have := h.le
  rw [show x.cps.toList.length = x.length by simp [Str.length]] at this
  exact this
section
variable {P : Program} {w : World} {K : PySem.W.Frag} {mg : Str → Option Value} {base : Heap} {n m : Nat}
theorem ok_name_from (T : Tx K mg) (D_need : DefIs P w K mg base n "need" ["holds"] spNeed) (D_is_name : DefIs P w K mg base n "is_name" ["text"] spName) : DefIs P w K mg base (n + 1) "name_from" ["tree"] spNameFrom := by
  refine DefIs.of T.d_name_from sc_name_from (fun vs H Q E h => ?_) (fun f cdv A outer s H vs Q E hr h => ?_)
  · obtain ⟨_, rfl, _⟩ := h
    rfl
  obtain ⟨x, rfl, hx, q⟩ := h
  refine ⟨_, (pss_cons (ps_expr (pe_dcall D_need hr (pa_cons (pe_and (pe_callB call_isinst rfl T.z_isinstance PyProof.Rows.boot_isinstance (pa_cons (pv 0) (pa_cons (pe_gty T.z_str PyProof.Rows.boot_str) pa_nil star_name) star_name)) (pe_one (pe_dcall D_is_name hr (pa_cons (pv 0) pa_nil star_name)))) pa_nil star_bool)))
      (pss_one (ps_ret (pv 0)))), ?_⟩
  have := name_len hx
  refine ⟨_, rfl, _, _, _, _, _, rfl, fun u hu' => hu', TyOf.str _, rfl, _, rfl, iteT ?_⟩
  refine ⟨_, rfl, x, rfl, by omega, fun H1 s1 => ⟨bl_true hx, _, rfl, q H1 s1⟩⟩
theorem ok_leaf_from (T : Tx K mg) (D_name_from : DefIs P w K mg base n "name_from" ["tree"] spNameFrom) (D_is_number : DefIs P w K mg base n "is_number" ["text"] spNumber) : DefIs P w K mg base (n + 1) "leaf_from" ["word", "more"] spLeafFrom := by
  refine DefIs.of T.d_leaf_from sc_leaf_from (fun vs H Q E h => ?_) (fun f cdv A outer s H vs Q E hr h => ?_)
  · obtain ⟨_, _, _, rfl, _⟩ := h
    rfl
  obtain ⟨x, mr, d, rfl, hm, hl, q⟩ := h
  refine ⟨_, (pss_cons (ps_if (pt_val (pe_dcall D_is_number hr (pa_cons (pv 0) pa_nil star_name))) (pss_one (ps_ret (pe_tup (pa_cons pe_str (pa_cons (pe_callTy call_int_str rfl T.z_int PyProof.Rows.boot_int (pa_cons (pv 0) pa_nil star_name)) pa_nil star_call) star_const)))) pss_nil)
      (pss_cons (ps_if (pt_cmpR op_in_seq (pv 0) (pv 1) (by with_unfolding_all rfl)) (pss_one (ps_ret (pe_tup (pa_cons pe_str (pa_cons (pv 0) pa_nil star_name) star_const)))) pss_nil)
      (pss_one (ps_ret (pe_tup (pa_cons pe_str (pa_cons (pe_dcall D_name_from hr (pa_cons (pv 0) pa_nil star_name)) pa_nil star_call) star_const)))))), ?_⟩
  have inj : ∀ {y : Str}, tx x = tx y → x = y := fun {y} e => L_inj (Tr.w.inj e)
  rcases hl with ⟨i, i0, i1, rfl, e⟩ | ⟨y, hy, rfl, e⟩
  · obtain rfl := inj e
    have hn := num_len i0 i1
    have hl : (numS i).length ≤ 10 := by rw [← L_length]; exact hn
    refine ⟨_, rfl, _, rfl, by omega, fun H1 s1 => ⟨_, rfl, iteBT (num_number i0 i1) ?_⟩⟩
    refine ⟨_, rfl, _, i, rfl, PySem.W.KIN.num_reads i0 i1, by omega, (by show 2 ≤ sizeLine; decide), fun l hl' => ?_⟩
    exact q _ _ (s1.trans (Same.new hl' _)) ⟨l, _, rfl, upd_same, _, _, rfl, rfl, _, _, rfl, rfl, rfl⟩
  · obtain rfl := inj e
    have hl := name_len hy
    refine ⟨_, rfl, _, rfl, by omega, fun H1 s1 => ⟨_, rfl, iteBF (name_no_number hy) ?_⟩⟩
    refine ⟨_, rfl, _, rfl, mr, _, rfl, .inr (SqT.of (s1 _ _ hm)), rfl, (by decide +kernel), _, rfl, iteBF rfl ?_⟩
    refine ⟨_, rfl, x, rfl, hy, fun H2 s2 => ⟨(by show 2 ≤ sizeLine; decide), fun l hl' => ?_⟩⟩
    exact q _ _ (s1.trans (s2.trans (Same.new hl' _))) ⟨l, _, rfl, upd_same, _, _, rfl, rfl, _, _, rfl, rfl, rfl⟩
theorem ok_arm_from (T : Tx K mg) (R : D → Tr → Prop) (D_need : DefIs P w K mg base n "need" ["holds"] spNeed) (D_name_from : DefIs P w K mg base n "name_from" ["tree"] spNameFrom) (D_term_from : DefIs P w K mg base n "term_from" ["tree", "more"] (spTermFrom R)) :
    DefIs P w K mg base (n + 1) "arm_from" ["tree", "more"] (spTermFrom (Arm R)) := by
  refine DefIs.of T.d_arm_from sc_arm_from (fun vs H Q E h => ?_) (fun f cdv A outer s H vs Q E hr h => ?_)
  · obtain ⟨_, _, _, _, rfl, _⟩ := h
    rfl
  obtain ⟨v, mr, d, t, rfl, hm, hv, ⟨g, x, e, te, hg, hx, he, rfl, rfl⟩, q⟩ := h
  obtain ⟨a, us, rfl, ha, v0, _, rfl, r0, v1, _, rfl, r1, ve, _, rfl, re, rfl⟩ := hv
  obtain rfl := relT_tx r0
  obtain rfl := relT_tx r1
  have hS : SqL K H a [.str g, .str x, ve] := SqL.of ha
  have hT : TyOf K H (.ref a) (.type "list") := TyOf.lst ha
  refine ⟨_, (pss_cons (ps_expr (pe_dcall D_need hr (pa_cons (pe_and (pe_callB call_isinst rfl T.z_isinstance PyProof.Rows.boot_isinstance (pa_cons (pv 0) (pa_cons (pe_gty T.z_list PyProof.Rows.boot_list) pa_nil star_name) star_name)) (pe_one (pe_cmpR op_eq (pe_callB call_len_seq rfl T.z_len PySem.boot_len (pa_cons (pv 0) pa_nil star_name)) pe_int (nomark _)))) pa_nil star_bool)))
      (pss_one (ps_ret (pe_tup (pa_cons (pe_dcall D_name_from hr (pa_cons (pe_ix ix_list (pv 0) pe_int (fun _ _ => rfl)) pa_nil star_sub)) (pa_cons (pe_dcall D_name_from hr (pa_cons (pe_ix ix_list (pv 0) pe_int (fun _ _ => rfl)) pa_nil star_sub)) (pa_cons (pe_dcall D_term_from hr (pa_cons (pe_ix ix_list (pv 0) pe_int (fun _ _ => rfl)) (pa_cons (pv 1) pa_nil star_name) star_sub)) pa_nil star_call) star_call) star_call))))), ?_⟩
  refine ⟨_, rfl, _, _, _, _, _, rfl, fun u hu' => hu', hT, rfl, _, rfl, iteT ?_⟩
  refine ⟨_, rfl, a, _, rfl, .inl hS, rfl, bl_true rfl, ?_⟩
  refine ⟨_, rfl, a, _, _, _, rfl, rfl, hS, rfl, g, rfl, hg, fun H1 s1 => ?_⟩
  refine ⟨_, rfl, a, _, _, _, rfl, rfl, SqL.of (s1 _ _ ha), rfl, x, rfl, hx, fun H2 s2 => ?_⟩
  have s12 := s1.trans s2
  refine ⟨_, rfl, a, _, _, _, rfl, rfl, SqL.of (s12 _ _ ha), rfl, _, rfl, ve, mr, e, te, rfl, s12 _ _ hm, re.same s12 _, he, fun v3 H3 s3 r3 => ⟨(by show 3 ≤ sizeLine; decide), fun l hl => ?_⟩⟩
  exact q _ _ (s12.trans (s3.trans (Same.new hl _))) ⟨l, _, rfl, upd_same, _, _, rfl, rfl, _, _, rfl, rfl, v3, _, rfl, r3.same (Same.new hl _) _, rfl⟩
theorem ops_in : ∀ s ∈ ops, inV (.str s) [.str (Str.ofString "+"), .str (Str.ofString "-"), .str (Str.ofString "*"), .str (Str.ofString "<"), .str (Str.ofString "=")] = true := by decide +kernel
theorem cut2 (x y : V) (r : List V) : cutV (x :: y :: r) (some 2) none = r := by
  unfold cutV
  have e1 : HT.sIx (x :: y :: r).length 0 (some 2) = 2 := by
    rw [show ((2 : Int)) = ((2 : Nat) : Int) from rfl, HT.sIx_nat]
    simp
  rw [e1, HT.sIx_none]
  show List.take (_ - 2) r = r
  exact List.take_of_length_le (by simp)
theorem cut1 (x : V) (r : List V) : cutV (x :: r) (some 1) none = r := by
  unfold cutV
  have e1 : HT.sIx (x :: r).length 0 (some 1) = 1 := by
    rw [show ((1 : Int)) = ((1 : Nat) : Int) from rfl, HT.sIx_nat]
    simp
  rw [e1, HT.sIx_none]
  show List.take (_ - 1) r = r
  exact List.take_of_length_le (by simp)
/-- a list of trees, each read by a def -/
theorem comp_read {R : D → Tr → Prop} {a mr : Addr} {us : List V} {ts : List Tr} {ds : List D} {H : Hp} {s0 : Option V} {σ : St} {Q : VK} (ha : H a = some (.lst us)) (hm : H mr = some (.tup [])) (ht : RelTs H us ts) (hR : All2 R ds ts) (hl : ts.length ≤ 1000)
    (q : ∀ D vs H', Same H H' → H' D = some (.lst vs) → RelDs H' vs ds → Q (.ref D) H') : CompGo (Itl K a) [none, some 1] (gName 0) tYes (tCall (spTermFrom R) [] E0 (tCons (tVar 0) (tCons (tVar 1) tNil))) (s0 :: some (.ref mr) :: σ) H Q := by
  have e1 := ht.length
  have e2 := hR.length
  refine comp_list (j := 0) (xs := us) (fun i ys H' => Same H H' ∧ RelDs H' ys (ds.take i)) (by rfl) ⟨Same.refl _, by simp [RelDs]⟩ (fitsLt (by omega)) (fun i ys H' _ p => SqL.of (p.1 _ _ ha)) ?_ ?_
  · rintro i x ys H' hx hly ⟨sm, rd⟩
    obtain ⟨t, hti, rt⟩ := ht.get hx
    have hi : i < us.length := (List.getElem?_eq_some_iff.mp hx).1
    obtain ⟨d, hdi⟩ : ∃ d, ds[i]? = some d := ⟨ds[i]'(by omega), List.getElem?_eq_getElem (by omega)⟩
    obtain ⟨t', hti', r'⟩ := hR.get hdi
    rw [hti] at hti'
    cases hti'
    refine ⟨_, rfl, _, rfl, x, mr, d, t, rfl, sm _ _ hm, rt.same sm _, r', fun v2 H2 s2 r2 => nxt hi hly ⟨sm.trans s2, ?_⟩⟩
    rw [List.take_add_one, hdi]
    exact (rd.same s2 _).append ⟨v2, [], rfl, r2, rfl⟩
  · rintro ys H' hly ⟨sm, rd⟩ D hD
    rw [List.take_of_length_le (by omega)] at rd
    exact q D ys _ (sm.trans (Same.new hD _)) upd_same (rd.same (Same.new hD _) _)
theorem ok_terms_from (T : Tx K mg) (R : D → Tr → Prop) (D_term_from : DefIs P w K mg base n "term_from" ["tree", "more"] (spTermFrom R)) : DefIs P w K mg base (n + 1) "terms_from" ["trees", "more"] (spTermsFrom R) := by
  refine DefIs.of T.d_terms_from sc_terms_from (fun vs H Q E h => ?_) (fun f cdv A outer s H vs Q E hr h => ?_)
  · obtain ⟨_, _, _, _, _, rfl, _⟩ := h
    rfl
  obtain ⟨a, mr, us, ts, ds, rfl, hm, ha, ht, hR, hl, q⟩ := h
  refine ⟨_, (pss_one (ps_ret (pe_callTy call_tuple_of rfl T.z_tuple PyProof.Rows.boot_tuple (pa_cons (pe_comp ["tree", "more"] [none, some 1] rfl (by kernel_rfl) (pi_list (pv 0)) (fun _ _ _ _ => (pg_name (i := 0) (by show List.Nodup (["tree", "more"] : List Str); decide +kernel) rfl (Or.inl rfl))) (fun _ _ _ _ => pts_nil) (fun _ _ _ _ => (pe_dcall D_term_from hr (pa_cons (pv 0) (pa_cons (pv 1) pa_nil star_name) star_name)))) pa_nil star_comp)))), ?_⟩
  refine ⟨_, rfl, a, rfl, ⟨_, SqL.of ha⟩, comp_read ha hm ht hR hl fun D vs H1 s1 e1 r1 => ?_⟩
  refine ⟨D, vs, rfl, .inl ⟨SqL.of e1, fun t2 ht2 => ?_⟩⟩
  have st := Same.new ht2 (.tup vs)
  exact q t2 vs _ (s1.trans st) upd_same (r1.same st _)
theorem catT_to {H : Hp} {Q : VK} {a b : Addr} {x : V} {xs ys : List V} (ha : H a = some (.tup (x :: xs))) (hb : H b = some (.tup ys)) (hz : (x :: xs).length + ys.length ≤ sizeLine) (hy : ys ≠ []) (q : ∀ c H', Same H H' → H' c = some (.tup (x :: xs ++ ys)) → Q (.ref c) H') : rCatT K (.ref a) (.ref b) H Q :=
  ⟨a, b, _, ys, rfl, rfl, SqT.of ha, SqT.of hb, by simp, hz, fun z => absurd z hy, fun _ p hp => q p _ (Same.new hp _) upd_same⟩
theorem ok_term_from (T : Tx K mg) (R : D → Tr → Prop) (D_need : DefIs P w K mg base n "need" ["holds"] spNeed) (D_name_from : DefIs P w K mg base n "name_from" ["tree"] spNameFrom) (D_leaf_from : DefIs P w K mg base n "leaf_from" ["word", "more"] spLeafFrom)
    (D_terms_from : DefIs P w K mg base n "terms_from" ["trees", "more"] (spTermsFrom R)) (D_arm_from : DefIs P w K mg base n "arm_from" ["tree", "more"] (spTermFrom (Arm R))) (D_term_from : DefIs P w K mg base n "term_from" ["tree", "more"] (spTermFrom R)) :
    DefIs P w K mg base (n + 1) "term_from" ["tree", "more"] (spTermFrom fun d t => Leaf d t ∨ Node R d t) := by
  obtain ⟨o, g_OPS, hO⟩ := T.g_OPS
  refine DefIs.of T.d_term_from sc_term_from (fun vs H Q E h => ?_) (fun f cdv A outer s H vs Q E hr h => ?_)
  · obtain ⟨_, _, _, _, rfl, _⟩ := h
    rfl
  obtain ⟨v, mr, d, t, rfl, hm, hv, hR, q⟩ := h
  have nd := sc_term_from.nd
  refine ⟨_, (pss_cons (ps_if (pt_val (pe_callB call_isinst rfl T.z_isinstance PyProof.Rows.boot_isinstance (pa_cons (pv 0) (pa_cons (pe_gty T.z_str PyProof.Rows.boot_str) pa_nil star_name) star_name))) (pss_one (ps_ret (pe_dcall D_leaf_from hr (pa_cons (pv 0) (pa_cons (pv 1) pa_nil star_name) star_name)))) pss_nil)
      (pss_cons (ps_set (i := 2) nd rfl (by first | exact Or.inl rfl | exact Or.inr rfl) (pe_ix ix_list (pv 0) pe_int (fun _ _ => rfl)))
      (pss_cons (ps_if (pt_cmpR op_in_seq (pv 2) (pe_gref g_OPS) (by with_unfolding_all rfl)) (pss_cons (ps_expr (pe_dcall D_need hr (pa_cons (pe_cmpR op_eq (pe_callB call_len_seq rfl T.z_len PySem.boot_len (pa_cons (pv 0) pa_nil star_name)) pe_int (nomark _)) pa_nil star_cmp)))
      (pss_one (ps_ret (pe_op op_catT (pe_tup (pa_cons pe_str (pa_cons (pv 2) pa_nil star_name) star_const)) (pe_dcall D_terms_from hr (pa_cons (pe_slice sl_list (pv 0) (po_some pe_int) po_none) (pa_cons (pv 1) pa_nil star_name) star_sub)))))) pss_nil)
      (pss_cons (ps_if (pt_cmpR op_eq (pv 2) pe_str (nomark _)) (pss_cons (ps_expr (pe_dcall D_need hr (pa_cons (pe_cmpR op_ge (pe_callB call_len_seq rfl T.z_len PySem.boot_len (pa_cons (pv 0) pa_nil star_name)) pe_int (nomark _)) pa_nil star_cmp)))
      (pss_one (ps_ret (pe_tup (pa_cons pe_str (pa_cons (pe_dcall D_name_from hr (pa_cons (pe_ix ix_list (pv 0) pe_int (fun _ _ => rfl)) pa_nil star_sub)) (pa_cons (pe_dcall D_terms_from hr (pa_cons (pe_slice sl_list (pv 0) (po_some pe_int) po_none) (pa_cons (pv 1) pa_nil star_name) star_sub)) pa_nil star_call) star_call) star_const))))) pss_nil)
      (pss_cons (ps_if (pt_cmpR op_eq (pv 2) pe_str (nomark _)) (pss_cons (ps_expr (pe_dcall D_need hr (pa_cons (pe_cmpR op_eq (pe_callB call_len_seq rfl T.z_len PySem.boot_len (pa_cons (pv 0) pa_nil star_name)) pe_int (nomark _)) pa_nil star_cmp)))
      (pss_one (ps_ret (pe_tup (pa_cons pe_str (pa_cons (pe_dcall D_term_from hr (pa_cons (pe_ix ix_list (pv 0) pe_int (fun _ _ => rfl)) (pa_cons (pv 1) pa_nil star_name) star_sub)) (pa_cons (pe_dcall D_name_from hr (pa_cons (pe_ix ix_list (pv 0) pe_int (fun _ _ => rfl)) pa_nil star_sub)) pa_nil star_call) star_call) star_const))))) pss_nil)
      (pss_cons (ps_if (pt_cmpR op_eq (pv 2) pe_str (nomark _)) (pss_cons (ps_expr (pe_dcall D_need hr (pa_cons (pe_cmpR op_eq (pe_callB call_len_seq rfl T.z_len PySem.boot_len (pa_cons (pv 0) pa_nil star_name)) pe_int (nomark _)) pa_nil star_cmp)))
      (pss_one (ps_ret (pe_tup (pa_cons pe_str (pa_cons (pe_dcall D_name_from hr (pa_cons (pe_ix ix_list (pv 0) pe_int (fun _ _ => rfl)) pa_nil star_sub)) (pa_cons (pe_dcall D_name_from hr (pa_cons (pe_ix ix_list (pv 0) pe_int (fun _ _ => rfl)) pa_nil star_sub)) (pa_cons (pe_dcall D_term_from hr (pa_cons (pe_ix ix_list (pv 0) pe_int (fun _ _ => rfl)) (pa_cons (pv 1) pa_nil star_name) star_sub)) pa_nil star_call) star_call) star_call) star_const))))) pss_nil)
      (pss_cons (ps_if (pt_cmpR op_eq (pv 2) pe_str (nomark _)) (pss_cons (ps_expr (pe_dcall D_need hr (pa_cons (pe_chain op_le op_le pe_int (pe_callB call_len_seq rfl T.z_len PySem.boot_len (pa_cons (pv 0) pa_nil star_name)) (pe_op op_add pe_int (pe_gint T.g_MOST_ARMS))) pa_nil star_cmp)))
      (pss_one (ps_ret (pe_tup (pa_cons pe_str (pa_cons (pe_dcall D_term_from hr (pa_cons (pe_ix ix_list (pv 0) pe_int (fun _ _ => rfl)) (pa_cons (pv 1) pa_nil star_name) star_sub)) (pa_cons (pe_callTy call_tuple_of rfl T.z_tuple PyProof.Rows.boot_tuple (pa_cons (pe_comp ["each", "more"] [none, some 1] rfl (by kernel_rfl) (pi_list (pe_slice sl_list (pv 0) (po_some pe_int) po_none)) (fun _ _ _ _ => (pg_name (i := 0) (by show List.Nodup (["each", "more"] : List Str); decide +kernel) rfl (Or.inl rfl))) (fun _ _ _ _ => pts_nil) (fun _ _ _ _ => (pe_dcall D_arm_from hr (pa_cons (pv 0) (pa_cons (pv 1) pa_nil star_name) star_name)))) pa_nil star_comp)) pa_nil star_call) star_call) star_const))))) pss_nil)
      (pss_cons (ps_expr (pe_dcall D_need hr (pa_cons (pe_and (pe_cmpR op_eq (pv 2) pe_str (nomark _)) (pe_one (pe_cmpR op_eq (pe_callB call_len_seq rfl T.z_len PySem.boot_len (pa_cons (pv 0) pa_nil star_name)) pe_int (nomark _)))) pa_nil star_bool)))
      (pss_one (ps_ret (pe_op op_catT (pe_tup (pa_cons pe_str pa_nil star_const)) (pe_dcall D_terms_from hr (pa_cons (pe_slice sl_list (pv 0) (po_some pe_int) po_none) (pa_cons (pv 1) pa_nil star_name) star_sub))))))))))))), ?_⟩
  rcases hR with hL | hR
  · have hw : ∃ x : Str, v = .str x ∧ Leaf d (tx x) := by
      rcases hL with ⟨i, i0, i1, rfl, rfl⟩ | ⟨x, hx, rfl, rfl⟩
      · exact ⟨_, relT_tx hv, .inl ⟨i, i0, i1, rfl, rfl⟩⟩
      · exact ⟨x, relT_tx hv, .inr ⟨x, hx, rfl, rfl⟩⟩
    obtain ⟨x, rfl, hl⟩ := hw
    refine ⟨_, rfl, _, _, _, _, _, rfl, fun u hu' => hu', TyOf.str _, rfl, _, rfl, iteT ?_⟩
    exact ⟨_, rfl, _, rfl, x, mr, d, rfl, hm, hl, q⟩
  have ty : ∀ {a : Addr} {us : List V}, H a = some (.lst us) → TyOf K H (.ref a) (.type "list") := fun e => TyOf.lst e
  have opsT := hO H
  rcases hR with ⟨sg, x, y, tx', ty', hs, hx, hy, rfl, rfl⟩ | ⟨k, es, ts, hk, h5, hes, rfl, rfl⟩ | ⟨x, tx', g, hg, hx, rfl, rfl⟩ | ⟨k, g, x, tx', hk, hg, hx, rfl, rfl⟩ | ⟨x, tx', arms, ts, hx, h1, h4, har, rfl, rfl⟩ | ⟨x, y, z, tx', ty', tz', hx, hy, hz, rfl, rfl⟩
  · obtain ⟨a, us, rfl, ha, v0, _, rfl, r0, v1, _, rfl, r1, v2, _, rfl, r2, rfl⟩ := hv
    obtain rfl := relT_tx r0
    have hS : SqL K H a [.str sg, v1, v2] := SqL.of ha
    refine ⟨_, rfl, _, _, _, _, _, rfl, fun u hu' => hu', ty ha, rfl, _, rfl, iteF ?_⟩
    refine ⟨_, rfl, a, _, _, _, rfl, rfl, hS, rfl, ?_⟩
    refine ⟨_, rfl, o, _, rfl, .inr opsT, rfl, (by decide +kernel), _, rfl, iteBT (ops_in sg hs) ?_⟩
    refine ⟨_, rfl, a, _, rfl, .inl hS, rfl, bl_true rfl, ?_⟩
    refine ⟨_, rfl, (by show 2 ≤ sizeLine; decide), fun l hl => ?_⟩
    have sl := Same.new hl (.tup [.str (S "op"), .str sg])
    refine ⟨_, rfl, _, rfl, a, _, rfl, SqL.of (sl _ _ ha), fun c hc => ?_⟩
    rw [cut1]
    have sc := Same.new hc (.lst [v1, v2])
    have slc := sl.trans sc
    refine ⟨_, rfl, c, mr, _, [tx', ty'], [x, y], rfl, slc _ _ hm, upd_same, ⟨v1, _, rfl, r1.same slc _, v2, _, rfl, r2.same slc _, rfl⟩, .cons hx (.cons hy .nil), (by show 2 ≤ 1000; decide), fun p ys H3 s3 hp r3 => ?_⟩
    obtain ⟨u1, _, rfl, p1, u2, _, rfl, p2, rfl⟩ := r3
    refine catT_to (s3 _ _ (sc _ _ upd_same)) hp (by show 4 ≤ sizeLine; decide) (by simp) fun c2 H4 s4 h4 => ?_
    exact q _ _ (slc.trans (s3.trans s4)) ⟨c2, _, rfl, h4, _, _, rfl, rfl, _, _, rfl, rfl, u1, _, rfl, p1.same s4 _, u2, _, rfl, p2.same s4 _, rfl⟩
  · obtain ⟨a, us, rfl, ha, v0, _, rfl, r0, v1, rest, rfl, r1, rr⟩ := hv
    obtain rfl := relT_tx r0
    obtain rfl := relT_tx r1
    have hS : SqL K H a (.str (S "rec") :: .str k :: rest) := SqL.of ha
    have hx0 : atI (V.str (S "rec") :: .str k :: rest) 0 = some (.str (S "rec")) := atI_nat (j := 0) rfl
    have hx1 : atI (V.str (S "rec") :: .str k :: rest) 1 = some (.str k) := atI_nat (j := 1) rfl
    refine ⟨_, rfl, _, _, _, _, _, rfl, fun u hu' => hu', ty ha, rfl, _, rfl, iteF ?_⟩
    refine ⟨_, rfl, a, _, _, _, rfl, rfl, hS, hx0, ?_⟩
    refine ⟨_, rfl, o, _, rfl, .inr opsT, rfl, (by decide +kernel), _, rfl, iteBF (by decide +kernel) ?_⟩
    refine ⟨_, rfl, rfl, _, rfl, iteKT (by decide +kernel) ?_⟩
    refine ⟨_, rfl, a, _, rfl, .inl hS, _, _, rfl, rfl, bl_true (decide_eq_true (by rw [List.length_cons, List.length_cons]; omega)), ?_⟩
    refine ⟨_, rfl, a, _, _, _, rfl, rfl, hS, hx1, k, rfl, hk, fun H1 s1 => ?_⟩
    have l1 := hes.length
    refine ⟨_, rfl, _, rfl, a, _, rfl, SqL.of (s1 _ _ ha), fun c hc => ?_⟩
    rw [cut2]
    have sc := Same.new hc (.lst rest)
    refine ⟨_, rfl, c, mr, _, ts, es, rfl, sc _ _ (s1 _ _ hm), upd_same, rr.same (s1.trans sc) _, hes, by omega, fun t2 us H3 s3 e3 r3 => ⟨(by show 3 ≤ sizeLine; decide), fun l hl => ?_⟩⟩
    have sl := Same.new hl (.tup [.str (S "rec"), .str k, .ref t2])
    exact q _ _ (s1.trans (sc.trans (s3.trans sl))) ⟨l, _, rfl, upd_same, _, _, rfl, rfl, _, _, rfl, rfl, .ref t2, _, rfl, ⟨t2, us, rfl, sl _ _ e3, r3.same sl _⟩, rfl⟩
  · obtain ⟨a, us, rfl, ha, v0, _, rfl, r0, v1, _, rfl, r1, v2, _, rfl, r2, rfl⟩ := hv
    obtain rfl := relT_tx r0
    obtain rfl := relT_tx r2
    have hS : SqL K H a [.str (S "get"), v1, .str g] := SqL.of ha
    refine ⟨_, rfl, _, _, _, _, _, rfl, fun u hu' => hu', ty ha, rfl, _, rfl, iteF ?_⟩
    refine ⟨_, rfl, a, _, _, _, rfl, rfl, hS, rfl, ?_⟩
    refine ⟨_, rfl, o, _, rfl, .inr opsT, rfl, (by decide +kernel), _, rfl, iteBF (by decide +kernel) ?_⟩
    refine ⟨_, rfl, rfl, _, rfl, iteKF (by decide +kernel) ?_⟩
    refine ⟨_, rfl, rfl, _, rfl, iteKT (by decide +kernel) ?_⟩
    refine ⟨_, rfl, a, _, rfl, .inl hS, rfl, bl_true rfl, ?_⟩
    refine ⟨_, rfl, a, _, _, _, rfl, rfl, hS, rfl, _, rfl, v1, mr, x, tx', rfl, hm, r1, hx, fun u1 H1 s1 p1 => ?_⟩
    refine ⟨_, rfl, a, _, _, _, rfl, rfl, SqL.of (s1 _ _ ha), rfl, g, rfl, hg, fun H2 s2 => ⟨(by show 3 ≤ sizeLine; decide), fun l hl => ?_⟩⟩
    have sl := Same.new hl (.tup [.str (S "get"), u1, .str g])
    exact q _ _ (s1.trans (s2.trans sl)) ⟨l, _, rfl, upd_same, _, _, rfl, rfl, u1, _, rfl, p1.same (s2.trans sl) _, _, _, rfl, rfl, rfl⟩
  · obtain ⟨a, us, rfl, ha, v0, _, rfl, r0, v1, _, rfl, r1, v2, _, rfl, r2, v3, _, rfl, r3, rfl⟩ := hv
    obtain rfl := relT_tx r0
    obtain rfl := relT_tx r1
    obtain rfl := relT_tx r2
    have hS : SqL K H a [.str (S "tag"), .str k, .str g, v3] := SqL.of ha
    refine ⟨_, rfl, _, _, _, _, _, rfl, fun u hu' => hu', ty ha, rfl, _, rfl, iteF ?_⟩
    refine ⟨_, rfl, a, _, _, _, rfl, rfl, hS, rfl, ?_⟩
    refine ⟨_, rfl, o, _, rfl, .inr opsT, rfl, (by decide +kernel), _, rfl, iteBF (by decide +kernel) ?_⟩
    refine ⟨_, rfl, rfl, _, rfl, iteKF (by decide +kernel) ?_⟩
    refine ⟨_, rfl, rfl, _, rfl, iteKF (by decide +kernel) ?_⟩
    refine ⟨_, rfl, rfl, _, rfl, iteKT (by decide +kernel) ?_⟩
    refine ⟨_, rfl, a, _, rfl, .inl hS, rfl, bl_true rfl, ?_⟩
    refine ⟨_, rfl, a, _, _, _, rfl, rfl, hS, rfl, k, rfl, hk, fun H1 s1 => ?_⟩
    refine ⟨_, rfl, a, _, _, _, rfl, rfl, SqL.of (s1 _ _ ha), rfl, g, rfl, hg, fun H2 s2 => ?_⟩
    have s12 := s1.trans s2
    refine ⟨_, rfl, a, _, _, _, rfl, rfl, SqL.of (s12 _ _ ha), rfl, _, rfl, v3, mr, x, tx', rfl, s12 _ _ hm, r3.same s12 _, hx, fun u3 H3 s3 p3 => ⟨(by show 4 ≤ sizeLine; decide), fun l hl => ?_⟩⟩
    have sl := Same.new hl (.tup [.str (S "tag"), .str k, .str g, u3])
    exact q _ _ (s12.trans (s3.trans sl)) ⟨l, _, rfl, upd_same, _, _, rfl, rfl, _, _, rfl, rfl, _, _, rfl, rfl, u3, _, rfl, p3.same sl _, rfl⟩
  · obtain ⟨a, us, rfl, ha, v0, _, rfl, r0, v1, rest, rfl, r1, rr⟩ := hv
    obtain rfl := relT_tx r0
    have hS : SqL K H a (.str (S "case") :: v1 :: rest) := SqL.of ha
    have hx0 : atI (V.str (S "case") :: v1 :: rest) 0 = some (.str (S "case")) := atI_nat (j := 0) rfl
    have hx1 : atI (V.str (S "case") :: v1 :: rest) 1 = some v1 := atI_nat (j := 1) rfl
    have l1 := har.length
    have l2 := rr.length
    refine ⟨_, rfl, _, _, _, _, _, rfl, fun u hu' => hu', ty ha, rfl, _, rfl, iteF ?_⟩
    refine ⟨_, rfl, a, _, _, _, rfl, rfl, hS, hx0, ?_⟩
    refine ⟨_, rfl, o, _, rfl, .inr opsT, rfl, (by decide +kernel), _, rfl, iteBF (by decide +kernel) ?_⟩
    refine ⟨_, rfl, rfl, _, rfl, iteKF (by decide +kernel) ?_⟩
    refine ⟨_, rfl, rfl, _, rfl, iteKF (by decide +kernel) ?_⟩
    refine ⟨_, rfl, rfl, _, rfl, iteKF (by decide +kernel) ?_⟩
    refine ⟨_, rfl, rfl, _, rfl, iteKT (by decide +kernel) ?_⟩
    refine ⟨_, rfl, a, _, rfl, .inl hS, _, _, rfl, rfl, _, rfl, iteKT (decide_eq_true (by rw [List.length_cons, List.length_cons]; omega)) ?_⟩
    refine ⟨_, _, rfl, rfl, _, _, rfl, rfl, bl_true (decide_eq_true (by rw [List.length_cons, List.length_cons]; omega)), ?_⟩
    refine ⟨_, rfl, a, _, _, _, rfl, rfl, hS, hx1, _, rfl, v1, mr, x, tx', rfl, hm, r1, hx, fun u1 H1 s1 p1 => ?_⟩
    refine ⟨_, rfl, _, rfl, a, _, rfl, SqL.of (s1 _ _ ha), fun c hc => ?_⟩
    rw [cut2]
    have sc := Same.new hc (.lst rest)
    refine ⟨c, rfl, ⟨_, SqL.of upd_same⟩, comp_read upd_same (sc _ _ (s1 _ _ hm)) (rr.same (s1.trans sc) _) har (by omega) fun D us H3 s3 e3 r3 => ?_⟩
    refine ⟨D, us, rfl, .inl ⟨SqL.of e3, fun t2 ht2 => ⟨(by show 3 ≤ sizeLine; decide), fun l hl => ?_⟩⟩⟩
    have st := Same.new ht2 (.tup us)
    have sl := Same.new hl (.tup [.str (S "case"), u1, .ref t2])
    exact q _ _ (s1.trans (sc.trans (s3.trans (st.trans sl)))) ⟨l, _, rfl, upd_same, _, _, rfl, rfl, u1, _, rfl, p1.same (sc.trans (s3.trans (st.trans sl))) _, .ref t2, _, rfl, ⟨t2, us, rfl, sl _ _ upd_same, r3.same (st.trans sl) _⟩, rfl⟩
  · obtain ⟨a, us, rfl, ha, v0, _, rfl, r0, v1, _, rfl, r1, v2, _, rfl, r2, v3, _, rfl, r3, rfl⟩ := hv
    obtain rfl := relT_tx r0
    have hS : SqL K H a [.str (S "if"), v1, v2, v3] := SqL.of ha
    refine ⟨_, rfl, _, _, _, _, _, rfl, fun u hu' => hu', ty ha, rfl, _, rfl, iteF ?_⟩
    refine ⟨_, rfl, a, _, _, _, rfl, rfl, hS, rfl, ?_⟩
    refine ⟨_, rfl, o, _, rfl, .inr opsT, rfl, (by decide +kernel), _, rfl, iteBF (by decide +kernel) ?_⟩
    refine ⟨_, rfl, rfl, _, rfl, iteKF (by decide +kernel) ?_⟩
    refine ⟨_, rfl, rfl, _, rfl, iteKF (by decide +kernel) ?_⟩
    refine ⟨_, rfl, rfl, _, rfl, iteKF (by decide +kernel) ?_⟩
    refine ⟨_, rfl, rfl, _, rfl, iteKF (by decide +kernel) ?_⟩
    refine ⟨_, rfl, rfl, _, rfl, iteKT (by decide +kernel) ?_⟩
    refine ⟨_, rfl, a, _, rfl, .inl hS, rfl, bl_true rfl, ?_⟩
    refine ⟨(by show 1 ≤ sizeLine; decide), fun l hl => ?_⟩
    have sl := Same.new hl (.tup [.str (S "if")])
    refine ⟨_, rfl, _, rfl, a, _, rfl, SqL.of (sl _ _ ha), fun c hc => ?_⟩
    rw [cut1]
    have sc := Same.new hc (.lst [v1, v2, v3])
    have slc := sl.trans sc
    refine ⟨_, rfl, c, mr, _, [tx', ty', tz'], [x, y, z], rfl, slc _ _ hm, upd_same, ⟨v1, _, rfl, r1.same slc _, v2, _, rfl, r2.same slc _, v3, _, rfl, r3.same slc _, rfl⟩, .cons hx (.cons hy (.cons hz .nil)), (by show 3 ≤ 1000; decide), fun p ys H3 s3 hp r4 => ?_⟩
    obtain ⟨u1, _, rfl, p1, u2, _, rfl, p2, u3, _, rfl, p3, rfl⟩ := r4
    refine catT_to (s3 _ _ (sc _ _ upd_same)) hp (by show 4 ≤ sizeLine; decide) (by simp) fun c2 H4 s4 h4 => ?_
    exact q _ _ (slc.trans (s3.trans s4)) ⟨c2, _, rfl, h4, _, _, rfl, rfl, u1, _, rfl, p1.same s4 _, u2, _, rfl, p2.same s4 _, u3, _, rfl, p3.same s4 _, rfl⟩
end
end K7.R

end

section
set_option Elab.async false
set_option linter.all false
set_option maxRecDepth 100000
set_option maxHeartbeats 4000000
namespace K7
open PySem L2 M
seal L2.PE L2.PA L2.PS L2.PSs L2.PT L2.PW L2.PI L2.PG L2.PJ L2.PTs
/-- BadText, raised, of the row i -/
def Bad (K : PySem.W.Frag) (H : Hp) (v : Value) (d : Option Addr) (i : Int) : Prop := ∃ x dx, v = .ref x ∧ d = some dx ∧ H x = some (excF x (cAt K 0) (some dx) .none) ∧ H dx = some (.xd [("at", .int i)])
def spInit (K : PySem.W.Frag) : Sp := fun vs H Q _ => ∃ (e : Addr) (i : Int), vs = [.ref e, .int i] ∧ H e = some (excO e (cAt K 0) none) ∧ 0 ≤ i ∧ i < 10 ^ 18 ∧
  ∀ H' dx, SameBut e H H' → H' e = some (excO e (cAt K 0) (some dx)) → H' dx = some (.xd [("at", .int i)]) → Q .non H'
theorem log_small {i : Int} (h : i.natAbs < 2 ^ 64) : i.natAbs.log2 < 1920 := by
  by_cases h0 : i.natAbs = 0
  · rw [h0]; decide
  · have := (Nat.log2_lt h0).mpr h
    omega
theorem len_num {i : Int} (h0 : 0 ≤ i) (h : i < 10 ^ 18) : (Str.ofString (toString i)).length ≤ 18 := by
  obtain ⟨m, rfl⟩ := Int.eq_ofNat_of_zero_le h0
  have e := congrArg List.length (num_reads m)
  rw [List.length_map] at e
  show (numS (m : Int)).cps.size ≤ 18
  rw [← Array.length_toList, e]
  exact (Nat.length_toDigits_le_iff (b := 10) (k := 18) (by decide) (by decide)).mpr (by omega)
section
variable {P : Program} {w : World} {K : PySem.W.Frag} {mg : Str → Option Value} {base : Heap} {n m : Nat}
theorem init_rd (T : Tx K mg) {e : Addr} {i : Int} {H : Hp} {Q : VK} (he : H e = some (excO e (cAt K 0) none)) (i0 : 0 ≤ i) (i1 : i < 10 ^ 18)
    (k : ∀ H' dx, SameBut e H H' → H' e = some (excO e (cAt K 0) (some dx)) → H' dx = some (.xd [("at", .int i)]) → Q .non H') :
    tSeq (tDrop (tInitX K (tCons (tVar 0) (tCons (fun σ H Q => jLit (Str.ofString "no such text, by its row ") (jInt (tVar 1) jNil) σ H Str.empty Q) tNil)))) (sFldX K (tVar 0) (tVar 1) "at") { nx := fun _ H' => Q .non H', rt := Q } (start ["self", "at"] [.ref e, .int i]) H := by
  have hl := len_num i0 i1
  have hlen : ((Str.empty ++ Str.ofString "no such text, by its row ") ++ Str.ofString (toString i)).length ≤ sizeLine := by
    refine fits ?_
    show ((Str.empty ++ Str.ofString "no such text, by its row ").cps ++ (Str.ofString (toString i)).cps).size ≤ 4000000
    rw [Array.size_append]
    have e1 : (Str.empty ++ Str.ofString "no such text, by its row ").cps.size = 25 := by decide +kernel
    have e2 : (Str.ofString (toString i)).cps.size ≤ 18 := hl
    omega
  refine ⟨_, rfl, (by decide +kernel), _, rfl, i, rfl, log_small (by omega), hlen, hlen, e, cAt K 0, _, rfl, he, T.xt.cl 0 (by decide), (by show 1 ≤ sizeLine; decide), ?_⟩
  have e0 : (upd H e (excO e (cAt K 0) none)) e = some (excO e (cAt K 0) none) := upd_same
  refine ⟨_, rfl, _, rfl, e, cAt K 0, rfl, e0, T.xt.cl 0 (by decide), T.xt.na, fun dx hd ne => ?_⟩
  refine k _ dx (fun b o hb nb => ?_) upd_same ?_
  · have nd' : b ≠ dx := fun z => by rw [z] at hb nb; rw [upd_ne nb] at hd; rw [hb] at hd; cases hd
    rw [upd_ne nb, upd_ne nd', upd_ne nb]
    exact hb
  · rw [upd_ne ne, upd_same]
theorem ok_init (T : Tx K mg) : InitIs P w K mg base (n + 1) (cAt K 0) ["self", "at"] (spInit K) := by
  refine InitIs.of T.it sc_init (fun vs H Q E h => ?_) (fun f cdv A outer s H vs Q E hr h => ?_)
  · obtain ⟨_, _, rfl, _⟩ := h
    rfl
  obtain ⟨e, i, rfl, he, i0, i1, k⟩ := h
  exact ⟨_, (pss_cons (ps_expr (pe_initX T.xt.sup rfl T.c_SwapError (pa_cons (pv 0) (pa_cons (pe_fstr (pj_lit (pj_int (pv 1) pj_nil))) pa_nil star_fstr) star_name))) (pss_one (ps_fldX (pv 0) (pv 1) rfl))), init_rd T he i0 i1 k⟩
theorem ok_initQ (T : Tx K mg) : InitQ P w K mg base (n + 1) (cAt K 0) ["self", "at"] (spInit K) := by
  refine InitQ.of T.it sc_init (fun vs H Q E h => ?_) (fun f cdv A outer s H vs Q E hr h => ?_)
  · obtain ⟨_, _, rfl, _⟩ := h
    rfl
  obtain ⟨e, i, rfl, he, i0, i1, k⟩ := h
  exact ⟨_, (pss_cons (ps_expr (pe_initX T.xt.sup rfl T.c_SwapError (pa_cons (pv 0) (pa_cons (pe_fstr (pj_lit (pj_int (pv 1) pj_nil))) pa_nil star_fstr) star_name))) (pss_one (ps_fldX (pv 0) (pv 1) rfl))), init_rd T he i0 i1 k⟩
def spNeed (K : PySem.W.Frag) : Sp := fun vs H Q E => ∃ b, vs = [.bl b] ∧ (b = true → Q .non H) ∧ (b = false → ∀ v d H', Same H H' → Bad K H' v d 0 → E v d H')
theorem ok_need (T : Tx K mg) (D_init : InitIs P w K mg base n (cAt K 0) ["self", "at"] (spInit K)) : DefXs P w K mg base (n + 2) "need" ["holds"] (spNeed K) := by
  refine DefXs.of T.d_need sc_need (fun vs H Q E h => ?_) (fun f cdv A outer s H vs Q E hr h => ?_)
  · obtain ⟨_, rfl, _⟩ := h
    rfl
  obtain ⟨b, rfl, k1, k2⟩ := h
  refine ⟨_, (pss_one (ps_if (pt_not (pt_val (pv 0))) (pss_one (ps_raise rfl (pe_dexc D_init (T.xt.cl 0 (by decide)) hr T.c_BadText (pa_cons pe_int pa_nil star_const)))) pss_nil)), ?_⟩
  cases b with
  | true => exact ⟨_, rfl, _, rfl, iteF (k1 rfl)⟩
  | false =>
    refine ⟨_, rfl, _, rfl, iteT ?_⟩
    refine ⟨(by show 1 ≤ sizeLine; decide), fun e he => ⟨e, 0, rfl, upd_same, by decide, by decide, fun H' dx sb h1 h2 => ⟨rfl, e, cAt K 0, some dx, rfl, h1, T.xt.cl 0 (by decide), ?_⟩⟩⟩
    have nx : dx ≠ e := fun z => by rw [z, h1] at h2; cases h2
    refine k2 rfl _ _ _ (fun c o hc => ?_) ⟨e, dx, rfl, rfl, upd_same, by rw [upd_ne nx]; exact h2⟩
    have nc : c ≠ e := fun z => by rw [z, he] at hc; cases hc
    rw [upd_ne nc]
    exact sb c o (by rw [upd_ne nc]; exact hc) nc
end
end K7

end

section
set_option Elab.async false
set_option linter.all false
set_option maxRecDepth 100000
set_option maxHeartbeats 4000000
local macro_rules | `(tactic| walk_at "rd1") => `(tactic| first
  | refine ⟨_, rfl, ?_⟩
  | refine ⟨_, _, rfl, rfl, ?_⟩
  | refine ⟨_, _, _, _, rfl, rfl, (by assumption), (by first | rfl | assumption), ?_⟩
  | refine ⟨_, _, rfl, .inl (by assumption), ?_⟩
  | refine ⟨_, _, rfl, .inr (by assumption), ?_⟩
  | refine ⟨rfl, ?_⟩
  | refine M.iteKF (by decide +kernel) ?_
  | refine M.iteKT (by decide +kernel) ?_)
local macro_rules | `(tactic| walk_at "rd") => `(tactic| repeat walk_at "rd1")
namespace K7
open PySem L2 M
seal L2.PE L2.PA L2.PS L2.PSs L2.PT L2.PW L2.PI L2.PG L2.PJ L2.PTs
def spClose (K : PySem.W.Frag) : Sp := fun vs H Q E => ∃ p as st k, vs = [.ref p, .int k] ∧ PileAt H p as st ∧ 0 ≤ k ∧ sumP st ≤ 3900000 ∧ (∀ top r, st = top :: r → 1 ≤ top.length) ∧
  (k.toNat < st.length → ∀ as' H', PileAt H' p as' (close k.toNat st) → Same (hide (p :: as) H) (hide (p :: as') H') → Q .non H') ∧ (¬ k.toNat < st.length → ∀ v d H', Same H H' → Bad K H' v d 0 → E v d H')
def spPut (K : PySem.W.Frag) : Sp := fun vs H Q E => ∃ p as st x, vs = [.ref p, .str x] ∧ PileAt H p as st ∧ 1 ≤ st.length ∧ st.length ≤ 21 ∧ sumP st ≤ 3800000 ∧ x.length ≤ 3000000 ∧
  (∀ st', putW (L x) st = some st' → ∀ as' H', PileAt H' p as' st' → Same (hide (p :: as) H) (hide (p :: as') H') → Q .non H') ∧ (putW (L x) st = none → ∀ v d H', Same (hide (p :: as) H) H' → Bad K H' v d 0 → E v d H')
section
variable {P : Program} {w : World} {K : PySem.W.Frag} {mg : Str → Option Value} {base : Heap} {n m : Nat}
theorem pile_last {as : List Addr} {a : Addr} : atI (((a :: as).map V.ref).reverse) (-1) = some (.ref a) := by
  rw [List.map_cons, List.reverse_cons]
  exact atI_last _ _
theorem ok_close_brackets (T : Tx K mg) (D_need : DefXs P w K mg base n "need" ["holds"] (spNeed K)) : DefXs P w K mg base (n + 1) "close_brackets" ["pile", "many"] (spClose K) := by
  refine DefXs.of T.d_close_brackets sc_close_brackets (fun vs H Q E h => ?_) (fun f cdv A outer s H vs Q E hr h => ?_)
  · obtain ⟨_, _, _, _, rfl, _⟩ := h
    rfl
  obtain ⟨p, as, st, k, rfl, hp, k0, hsum, htop, q, qe⟩ := h
  have nd := sc_close_brackets.nd
  refine ⟨_, (pss_cons (ps_expr (pe_xcall D_need hr (pa_cons (pe_cmpR op_lt (pv 1) (pe_callB call_len_seq rfl T.z_len PySem.boot_len (pa_cons (pv 0) pa_nil star_name)) (nomark _)) pa_nil star_cmp)))
      (pss_one (ps_while (thr_ownT rfl rfl) (pt_cmpR op_gt (pv 1) pe_int (nomark _))
      (pss_cons (ps_set (i := 2) nd rfl (by first | exact Or.inl rfl | exact Or.inr rfl) (pe_bm0 PySem.F.plainAttrs_list PySem.F.slot_list_pop PySem.F.type_list_pop mt_pop (pv 0)))
      (pss_cons (ps_expr (pe_bm PySem.F.plainAttrs_list PySem.F.slot_list_append PySem.F.type_list_append mt_append (pe_ix ix_list (pv 0) (pe_un un_neg pe_int) (fun _ _ => rfl)) (pa_cons (pv 2) pa_nil star_name)))
      (pss_one (ps_set (i := 1) nd rfl (by first | exact Or.inl rfl | exact Or.inr rfl) (pe_op op_sub (pv 1) pe_int)))))))), ?_⟩
  have hl := hp.len
  have hpl : ((as.map V.ref).reverse).length = st.length := by rw [List.length_reverse, List.length_map, hp.len]
  refine ⟨_, rfl, _, rfl, p, _, rfl, .inl (SqL.of hp.pile), _, _, rfl, rfl, _, rfl, fun hb => ?_, fun hb v d H' sm bd => qe (fun z => of_decide_eq_false hb (by rw [hpl]; omega)) v d H' sm bd⟩
  have k1 : k.toNat < st.length := by have := of_decide_eq_true hb; rw [hpl] at this; omega
  refine while_by (fun σ H' => ∃ (j : Int) (v : Option V) (as' : List Addr) (st' : Pile), σ = [some (.ref p), some (.int j), v] ∧ 0 ≤ j ∧ PileAt H' p as' st' ∧ j.toNat < st'.length ∧ close j.toNat st' = close k.toNat st ∧ sumP st' ≤ 3900000 ∧ (∀ top r, st' = top :: r → 1 ≤ top.length) ∧ Same (hide (p :: as) H) (hide (p :: as') H'))
    (fun σ _ => match σ with | [_, some (.int j), _] => j.toNat | _ => 0) ⟨k, none, as, st, rfl, k0, hp, k1, rfl, hsum, htop, Same.refl _⟩ ?_ ?_
  · rintro σ H1 ⟨j, v, as1, st1, rfl, j0, hp1, j1, ec, hs1, ht1, sm1⟩
    refine ⟨_, rfl, _, _, rfl, rfl, _, rfl, ?_⟩
    refine ite2 (fun c => ?_) (fun c => ?_)
    · have c' : (0 : Int) < j := of_decide_eq_true c
      have hl1 := hp1.len
      match as1, st1, hp1, j1, ec, hs1, ht1, hl1 with
      | [], st1, hp1, j1, _, _, _, hl1 => simp at hl1; omega
      | [a], st1, hp1, j1, _, _, _, hl1 => simp at hl1; omega
      | a :: b :: as2, [], hp1, j1, _, _, _, hl1 => simp at hl1
      | a :: b :: as2, [top], hp1, j1, _, _, _, hl1 => simp at hl1
      | a :: b :: as2, top :: par :: st2, hp1, j1, ec, hs1, ht1, hl1 =>
        have pb : b ≠ p := fun e => hp1.np (by rw [← e]; simp)
        obtain ⟨vs, hb, lenb⟩ : ∃ vs, H1 b = some (.lst vs) ∧ vs.length = par.length := by
          cases hp1.lists with
          | cons h1 h2 => cases h2 with
            | cons h2 h3 => obtain ⟨vs, e, r⟩ := h2; exact ⟨vs, e, r.length⟩
        obtain ⟨hp2, sm2⟩ := hp1.shuts hb
        have el : ((a :: b :: as2).map V.ref).reverse = ((b :: as2).map V.ref).reverse ++ [.ref a] := by simp
        have hpile := hp1.pile
        rw [el] at hpile
        refine ⟨_, rfl, .inl ⟨rfl, _, SqL.of hpile⟩, p, _, .ref a, rfl, rfl, hpile, ?_, ?_⟩
        · rw [List.length_append, List.length_singleton, Nat.add_sub_cancel, List.getElem?_append_right (Nat.le_refl _), Nat.sub_self]
          rfl
        rw [List.dropLast_concat]
        refine ⟨_, rfl, _, rfl, p, _, -1, .ref b, rfl, rfl, SqL.of upd_same, pile_last, .inl ⟨rfl, vs, SqL.of (by rw [upd_ne pb]; exact hb)⟩, _, rfl, b, vs, .ref a, rfl, rfl, ?_, ?_, ?_⟩
        · rw [upd_ne pb]; exact hb
        · have : par.length ≤ sumP (top :: par :: st2) := by simp [sumP]; omega
          rw [lenb]
          exact fitsLt (by omega)
        refine ⟨_, rfl, _, _, rfl, rfl, ?_⟩
        refine ⟨⟨j - 1, _, _, _, rfl, by omega, hp2, ?_, ?_, ?_, ?_, sm1.trans sm2⟩, ?_⟩
        · simp at j1 ⊢; omega
        · rw [← ec]
          have ej : j.toNat = (j - 1).toNat + 1 := by omega
          rw [ej]
          rfl
        · have h1 := ht1 top (par :: st2) rfl
          simp [sumP] at hs1 ⊢
          omega
        · intro t r e
          cases e
          simp
        · show (j - 1).toNat < j.toNat
          omega
    · have c' : ¬ (0 : Int) < j := of_decide_eq_false (Bool.eq_false_iff.mpr c)
      have ej : j.toNat = 0 := by omega
      rw [ej] at ec
      exact q k1 as1 H1 (by rw [← ec]; exact hp1) sm1
  · rintro σ H1 Q1 Q2 hQ ⟨x, e, y, z, e1, e2, c, e3, h⟩
    exact ⟨x, e, y, z, e1, e2, c, e3, hQ _ _ h⟩
theorem shut41 : S ")" = ⟨#[41]⟩ := by decide +kernel
theorem open40 : S "(" = ⟨#[40]⟩ := by decide +kernel
theorem ok_put_word (T : Tx K mg) (D_need : DefXs P w K mg base n "need" ["holds"] (spNeed K)) (D_close_brackets : DefXs P w K mg base n "close_brackets" ["pile", "many"] (spClose K)) : DefXs P w K mg base (n + 1) "put_word" ["pile", "word"] (spPut K) := by
  refine DefXs.of T.d_put_word sc_put_word (fun vs H Q E h => ?_) (fun f cdv A outer s H vs Q E hr h => ?_)
  · obtain ⟨_, _, _, _, rfl, _⟩ := h
    rfl
  obtain ⟨p, as, st, x, rfl, hp, l1, l21, hsum, hx, q, qe⟩ := h
  have nd := sc_put_word.nd
  refine ⟨_, (pss_cons (ps_set (i := 2) nd rfl (by first | exact Or.inl rfl | exact Or.inr rfl) (pe_bm PySem.F.plainAttrs_str PySem.F.slot_str_rstrip PySem.F.type_str_rstrip mt_rstrip (pv 1) (pa_cons pe_str pa_nil star_const)))
      (pss_cons (ps_set (i := 3) nd rfl (by first | exact Or.inl rfl | exact Or.inr rfl) (pe_op op_sub (pe_callB call_len_str rfl T.z_len PySem.boot_len (pa_cons (pv 1) pa_nil star_name)) (pe_callB call_len_str rfl T.z_len PySem.boot_len (pa_cons (pv 2) pa_nil star_name))))
      (pss_cons (ps_if (pt_val (pe_bm PySem.F.plainAttrs_str PySem.F.slot_str_startswith PySem.F.type_str_startswith mt_startswith (pv 2) (pa_cons pe_str pa_nil star_const))) (pss_cons (ps_expr (pe_xcall D_need hr (pa_cons (pe_cmpR op_le (pe_callB call_len_seq rfl T.z_len PySem.boot_len (pa_cons (pv 0) pa_nil star_name)) (pe_gint T.g_DEEPEST) (nomark _)) pa_nil star_cmp)))
      (pss_cons (ps_expr (pe_bm PySem.F.plainAttrs_list PySem.F.slot_list_append PySem.F.type_list_append mt_append (pv 0) (pa_cons (pe_lst pa_nil) pa_nil star_lst)))
      (pss_one (ps_set (i := 2) nd rfl (by first | exact Or.inl rfl | exact Or.inr rfl) (pe_slice sl_str (pv 2) (po_some pe_int) po_none))))) pss_nil)
      (pss_cons (ps_expr (pe_bm PySem.F.plainAttrs_list PySem.F.slot_list_append PySem.F.type_list_append mt_append (pe_ix ix_list (pv 0) (pe_un un_neg pe_int) (fun _ _ => rfl)) (pa_cons (pv 2) pa_nil star_name)))
      (pss_one (ps_expr (pe_xcall D_close_brackets hr (pa_cons (pv 0) (pa_cons (pv 3) pa_nil star_name) star_name)))))))), ?_⟩
  have hcore := rstrip_core x
  have hclen := rstrip_len x
  rw [← shut41] at hcore hclen
  have hlc : (coreOf (L x)).length = (Txt.rstripChars x (S ")")).length := by rw [← hcore, L_length]
  have hlx := L_length x
  have hpl : ((as.map V.ref).reverse).length = st.length := by rw [List.length_reverse, List.length_map, hp.len]
  refine ⟨_, rfl, rfl, x, S ")", rfl, rfl, fits (by omega), ?_⟩
  refine ⟨_, rfl, x, rfl, fits (by omega), _, rfl, _, rfl, fits (by show (Txt.rstripChars x (S ")")).length ≤ _; omega), _, _, rfl, rfl, ?_⟩
  refine ⟨_, rfl, rfl, _, S "(", rfl, rfl, _, rfl, ?_⟩
  have hst := starts_open (Txt.rstripChars x (S ")"))
  rw [hcore, ← open40] at hst
  -- what is left, behind the opening
  have tail : ∀ (core : Str) (as1 : List Addr) (st1 : Pile) (H1 : Hp), PileAt H1 p as1 st1 → 1 ≤ st1.length → sumP st1 ≤ 3800000 → Same (hide (p :: as) H) (hide (p :: as1) H1) →
      ∃ a as2, as1 = a :: as2 ∧ ∃ vs, H1 a = some (.lst vs) ∧ vs.length < sizeLine ∧ PileAt (upd H1 a (.lst (vs ++ [.str core]))) p as1 (push (.w (L core)) st1) ∧ sumP (push (.w (L core)) st1) ≤ 3900000 ∧ (∀ top r, push (.w (L core)) st1 = top :: r → 1 ≤ top.length) ∧
        Same (hide (p :: as) H) (hide (p :: as1) (upd H1 a (.lst (vs ++ [.str core])))) := by
    intro core as1 st1 H1 hp1 h1 hs1 sm
    match as1, st1, hp1, h1, hs1 with
    | [], st1, hp1, h1, _ => have := hp1.len; simp at this; omega
    | a :: as2, [], hp1, h1, _ => simp at h1
    | a :: as2, top :: st2, hp1, h1, hs1 =>
      obtain ⟨vs, ha, hr⟩ : ∃ vs, H1 a = some (.lst vs) ∧ vs.length = top.length := by
        cases hp1.lists with
        | cons g1 _ => obtain ⟨vs, e, r⟩ := g1; exact ⟨vs, e, r.length⟩
      have hpu := hp1.push (v := .str core) (t := .w (L core)) ha (by show V.str core = V.str (ofL (L core)); rw [ofL_L])
      have ht := @top_le top st2
      refine ⟨a, as2, rfl, vs, ha, fitsLt (by omega), hpu, ?_, ?_, sm.trans PileAt.push_same⟩
      · have := sum_push (.w (L core)) (top :: st2)
        exact Nat.le_trans this (by omega)
      · intro t r e; cases e; simp
  have hsub : ∀ l (H0 : Hp), Same (hide l H0) H0 := fun l H0 b o e => (hide_get.mp e).2
  have he0 : (x.length : Int) - ((Txt.rstripChars x (S ")")).length : Nat) = ((x.length - (coreOf (L x)).length : Nat) : Int) := by omega
  have fin : ∀ (core : Str) (as1 : List Addr) (st1 : Pile) (H2 : Hp), PileAt H2 p as1 (push (.w (L core)) st1) → sumP (push (.w (L core)) st1) ≤ 3900000 → (∀ top r, push (.w (L core)) st1 = top :: r → 1 ≤ top.length) → Same (hide (p :: as) H) (hide (p :: as1) H2) →
      putW (L x) st = closeN (x.length - (coreOf (L x)).length) (push (.w (L core)) st1) → spClose K [.ref p, .int ((x.length : Int) - ((Txt.rstripChars x (S ")")).length : Nat))] H2 (fun _ H' => Q .non H') E := by
    intro core as1 st1 H2 hp2 hs2 ht2 sm2 hval
    refine ⟨p, as1, _, _, rfl, hp2, by rw [he0]; omega, hs2, ht2, fun hk as' H' hp' sm' => ?_, fun hk v d H' sm' bd => ?_⟩
    · rw [he0, Int.toNat_natCast] at hk hp'
      exact q _ (by rw [hval]; unfold closeN; rw [if_pos hk]) as' H' hp' (sm2.trans sm')
    · rw [he0, Int.toNat_natCast] at hk
      exact qe (by rw [hval]; unfold closeN; rw [if_neg hk]) v d H' ((sm2.trans (hsub _ _)).trans sm') bd
  have hval : putW (L x) st = putC (coreOf (L x)) (x.length - (coreOf (L x)).length) st := by unfold putW; rw [hlx]
  unfold putC at hval
  by_cases ho : (coreOf (L x)).head? = some 40
  · rw [if_pos ho] at hval
    rw [decide_eq_true ho] at hst
    refine iteBT hst ?_
    refine ⟨_, rfl, p, _, rfl, .inl (SqL.of hp.pile), _, _, rfl, rfl, _, rfl, fun hb => ?_, fun hb v d H' sm bd => ?_⟩
    · have h20 : st.length ≤ 20 := by have := of_decide_eq_true hb; rw [hpl] at this; omega
      rw [if_pos h20] at hval
      refine ⟨_, rfl, .inl ⟨rfl, _, SqL.of hp.pile⟩, Nat.zero_le _, fun nn hn => ⟨p, _, .ref nn, rfl, rfl, Same.new hn _ _ _ hp.pile, ?_, ?_⟩⟩
      · rw [hpl]; exact fitsLt (by omega)
      obtain ⟨hp1, sm1⟩ := hp.opens hn
      have h1c : 1 ≤ (Txt.rstripChars x (S ")")).length := by
        rw [← hlc]
        cases hh : coreOf (L x) with
        | nil => rw [hh] at ho; cases ho
        | cons c r => simp
      have esl : L (Txt.slice (Txt.rstripChars x (S ")")) (some 1) none) = (coreOf (L x)).tail := by rw [slice_tail _ h1c, hcore]
      obtain ⟨a, as2, e1, vs, ha, hvl, hp2, hs2, ht2, sm2⟩ := tail (Txt.slice (Txt.rstripChars x (S ")")) (some 1) none) _ _ _ hp1 (by simp) (by simp [sumP] at hsum ⊢; omega) sm1
      refine ⟨_, rfl, _, rfl, _, rfl, fits (by omega), ?_⟩
      have hpile := hp1.pile
      rw [e1] at hpile
      refine ⟨_, rfl, _, rfl, p, _, -1, .ref a, rfl, rfl, SqL.of hpile, pile_last, .inl ⟨rfl, _, SqL.of ha⟩, _, rfl, a, vs, _, rfl, rfl, ha, hvl, ?_⟩
      exact ⟨_, rfl, _, rfl, fin _ _ _ _ hp2 hs2 ht2 sm2 (by rw [hval, esl])⟩
    · have h20 : ¬ st.length ≤ 20 := by have := of_decide_eq_false hb; rw [hpl] at this; omega
      rw [if_neg h20] at hval
      exact qe hval v d H' ((hsub _ _).trans sm) bd
  · rw [if_neg ho] at hval
    rw [decide_eq_false ho] at hst
    refine iteBF hst ?_
    obtain ⟨a, as2, e1, vs, ha, hvl, hp2, hs2, ht2, sm2⟩ := tail (Txt.rstripChars x (S ")")) _ _ _ hp l1 hsum (Same.refl _)
    have hpile := hp.pile
    rw [e1] at hpile
    refine ⟨_, rfl, _, rfl, p, _, -1, .ref a, rfl, rfl, SqL.of hpile, pile_last, .inl ⟨rfl, _, SqL.of ha⟩, _, rfl, a, vs, _, rfl, rfl, ha, hvl, ?_⟩
    exact ⟨_, rfl, _, rfl, fin _ _ _ _ hp2 hs2 ht2 sm2 (by rw [hval, hcore])⟩
end
end K7

end

section
set_option Elab.async false
set_option linter.all false
set_option maxRecDepth 100000
set_option maxHeartbeats 4000000
local macro_rules | `(tactic| walk_at "rd1") => `(tactic| first
  | refine ⟨_, rfl, ?_⟩
  | refine ⟨_, _, rfl, rfl, ?_⟩
  | refine ⟨_, _, _, _, rfl, rfl, (by assumption), (by first | rfl | assumption), ?_⟩
  | refine ⟨_, _, rfl, .inl (by assumption), ?_⟩
  | refine ⟨_, _, rfl, .inr (by assumption), ?_⟩
  | refine ⟨rfl, ?_⟩
  | refine M.iteKF (by decide +kernel) ?_
  | refine M.iteKT (by decide +kernel) ?_)
local macro_rules | `(tactic| walk_at "rd") => `(tactic| repeat walk_at "rd1")
namespace K7
open PySem L2 M
seal L2.PE L2.PA L2.PS L2.PSs L2.PT L2.PW L2.PI L2.PG L2.PJ L2.PTs
/-- the one tree of a pile -/
def treeOf : Option Pile → Option Tr
  | some [[t]] => some t
  | _ => none
def runs (x : Str) : Option Tr := treeOf (runW ((Txt.split x (S " ")).map L) [[]])
/-- the top of a pile that is alone in it -/
def topOf : Option Pile → Option (List Tr)
  | some [top] => some top
  | _ => none
theorem topOf_no {st : Pile} (h : ¬ st.length = 1) : topOf (some st) = none := by
  unfold topOf
  split
  · rename_i top e
    cases e
    exact absurd rfl h
  · rfl
def runsP (x : Str) : Option (List Tr) := topOf (runW ((Txt.split x (S " ")).map L) [[]])
theorem runs_one {x : Str} {top : List Tr} (h : runs x = none) (e : runsP x = some top) : ¬ top.length = 1 := by
  intro z
  match top, z with
  | [t], _ =>
    unfold runsP topOf at e
    unfold runs at h
    split at e
    · rename_i q e'
      cases e
      rw [e'] at h
      cases h
    · cases e
def spTreesOf (K : PySem.W.Frag) : Sp := fun vs H Q E => ∃ x, vs = [.str x] ∧ x.length ≤ 3000000 ∧ (∀ top a us H', runsP x = some top → Same H H' → H' a = some (.lst us) → RelTs H' us top → Q (.ref a) H') ∧ (runsP x = none → ∀ v d H', Same H H' → Bad K H' v d 0 → E v d H')
section
variable {P : Program} {w : World} {K : PySem.W.Frag} {mg : Str → Option Value} {base : Heap} {n m : Nat}
theorem ok_trees_of (T : Tx K mg) (D_need : DefXs P w K mg base n "need" ["holds"] (spNeed K)) (D_put_word : DefXs P w K mg base n "put_word" ["pile", "word"] (spPut K)) : DefXs P w K mg base (n + 1) "trees_of" ["text"] (spTreesOf K) := by
  refine DefXs.of T.d_trees_of sc_trees_of (fun vs H Q E h => ?_) (fun f cdv A outer s H vs Q E hr h => ?_)
  · obtain ⟨_, rfl, _⟩ := h
    rfl
  obtain ⟨x, rfl, hlen, q, qe⟩ := h
  have nd := sc_trees_of.nd
  obtain ⟨ws, hws⟩ : ∃ ws, (Txt.split x (S " ")).map L = ws := ⟨_, rfl⟩
  have hrn : runsP x = topOf (runW ws [[]]) := by unfold runsP; rw [hws]
  refine ⟨_, (pss_cons (ps_set (i := 1) nd rfl (by first | exact Or.inl rfl | exact Or.inr rfl) (pe_lst (pa_cons (pe_lst pa_nil) pa_nil star_lst)))
      (pss_cons (ps_for (thr_ownT rfl rfl) rfl (pi_list (pe_bm PySem.F.plainAttrs_str PySem.F.slot_str_split PySem.F.type_str_split mt_split (pv 0) (pa_cons pe_str pa_nil star_const))) (pg_name (i := 2) nd rfl (by first | exact Or.inl rfl | exact Or.inr rfl))
      (pss_one (ps_expr (pe_xcall D_put_word hr (pa_cons (pv 1) (pa_cons (pv 2) pa_nil star_name) star_name)))))
      (pss_cons (ps_expr (pe_xcall D_need hr (pa_cons (pe_cmpR op_eq (pe_callB call_len_seq rfl T.z_len PySem.boot_len (pa_cons (pv 1) pa_nil star_name)) pe_int (nomark _)) pa_nil star_cmp)))
      (pss_one (ps_ret (pe_ix ix_list (pv 1) pe_int (fun _ _ => rfl))))))), ?_⟩
  refine ⟨Nat.zero_le _, fun a0 h0 => ⟨(by show 1 ≤ sizeLine; decide), fun p hp0 => ?_⟩⟩
  have ap : a0 ≠ p := fun e => by rw [← e, upd_same] at hp0; cases hp0
  have hp1 : PileAt (upd (upd H a0 (.lst [])) p (.lst [.ref a0])) p [a0] [[]] :=
    ⟨by rw [upd_same]; rfl, by simp, by simp [ap.symm], .cons ⟨[], by rw [upd_ne ap, upd_same], rfl⟩ .nil⟩
  have sm0 : Same H (hide [p, a0] (upd (upd H a0 (.lst [])) p (.lst [.ref a0]))) := fun b o e => by
    have b1 : b ≠ a0 := fun z => by rw [z, h0] at e; cases e
    have b2 : b ≠ p := fun z => by rw [upd_ne ap.symm] at hp0; rw [z, hp0] at e; cases e
    exact hide_get.mpr ⟨by simp [b1, b2], by rw [upd_ne b2, upd_ne b1]; exact e⟩
  have hsl : (Txt.split x (S " ")).length = ws.length := by rw [← hws, List.length_map]
  have hwl : ws.length ≤ 3000002 := by
    have := Txt_split_len x
    omega
  refine ⟨_, rfl, rfl, x, S " ", rfl, rfl, (by decide +kernel), fits (by omega), fun wl hwl0 => ⟨wl, rfl, ⟨_, SqL.of upd_same⟩, ?_⟩⟩
  have hww : ∀ (i : Nat) z, ((Txt.split x (S " ")).map V.str)[i]? = some z → ∃ y, z = .str y ∧ ws[i]? = some (L y) ∧ y.length ≤ 3000000 := fun i z e => by
    rw [List.getElem?_map] at e
    cases e1 : (Txt.split x (S " "))[i]? with
    | none => rw [e1] at e; cases e
    | some y =>
      rw [e1] at e
      cases e
      refine ⟨y, rfl, ?_, ?_⟩
      · rw [← hws, List.getElem?_map, e1]; rfl
      · have := Txt_split_part x y (List.mem_of_getElem? e1)
        omega
  have wlp : wl ≠ p := fun e => by rw [e, upd_same] at hwl0; cases hwl0
  have wla : wl ≠ a0 := fun e => by rw [e, upd_ne ap, upd_same] at hwl0; cases hwl0
  refine for_list (xs := (Txt.split x (S " ")).map V.str) (fun i σ H' => ∃ as st v, σ = [some (.str x), some (.ref p), v] ∧ PileAt H' p as st ∧ runW (ws.take i) [[]] = some st ∧ 1 ≤ st.length ∧ st.length ≤ 21 ∧ sumP st ≤ i ∧ hide (p :: as) H' wl = some (.lst ((Txt.split x (S " ")).map V.str)) ∧ Same H (hide (p :: as) H')) ?_ ?_ ?_ ?_
  · have sm1 : Same (hide [p, a0] (upd (upd H a0 (.lst [])) p (.lst [.ref a0]))) (hide [p, a0] (upd (upd (upd H a0 (.lst [])) p (.lst [.ref a0])) wl (.lst ((Txt.split x (S " ")).map V.str)))) := fun b o e => by
      obtain ⟨e1, e2⟩ := hide_get.mp e
      exact hide_get.mpr ⟨e1, Same.new hwl0 _ _ _ e2⟩
    refine ⟨[a0], [[]], none, rfl, ⟨Same.new hwl0 _ _ _ hp1.pile, hp1.nd, hp1.np, .cons ⟨[], Same.new hwl0 _ _ _ (by rw [upd_ne ap, upd_same]), rfl⟩ .nil⟩, rfl, by simp, by simp, by simp [sumP], hide_get.mpr ⟨by simp [wlp, wla], upd_same⟩, sm0.trans sm1⟩
  · rintro i σ H' _ ⟨as, st, v, _, _, _, _, _, _, hw, _⟩
    exact SqL.of (hide_get.mp hw).2
  · rintro i z σ H' hz ⟨as, st, v, rfl, hp', hr', l1, l21, hs', hw, sm⟩
    obtain ⟨y, rfl, hy, hyl⟩ := hww i z hz
    have hi : i < ws.length := (List.getElem?_eq_some_iff.mp hy).1
    have hstep : runW (ws.take (i + 1)) [[]] = putW (L y) st := by
      rw [List.take_add_one, hy]
      simp only [Option.toList_some]
      rw [runW_snoc, hr']
      rfl
    refine ⟨_, rfl, _, rfl, p, as, st, y, rfl, hp', l1, l21, by omega, hyl, fun st' hput as' H2 hp2 sm2 => ?_, fun hno v d H2 sm2 bd => ?_⟩
    · have hl2 := len_put hput l1 l21
      have hs2 := sum_put hput
      exact ⟨as', st', _, rfl, hp2, hstep.trans hput, hl2.1, hl2.2, by omega, sm2 _ _ hw, sm.trans sm2⟩
    · refine qe ?_ v d H2 (sm.trans sm2) bd
      rw [hrn, ← List.take_append_drop (i + 1) ws, runW_append, hstep, hno]
      rfl
  · rintro σ H' ⟨as, st, v, rfl, hp', hr', l1, l21, hs', hw, sm⟩
    rw [List.length_map, hsl, List.take_length] at hr'
    rw [hr'] at hrn
    have hl := hp'.len
    have hpl : ((as.map V.ref).reverse).length = st.length := by rw [List.length_reverse, List.length_map, hl]
    have smH : ∀ l, Same (hide l H') H' := fun l b o e => (hide_get.mp e).2
    refine ⟨_, rfl, p, _, rfl, .inl (SqL.of hp'.pile), rfl, ?_⟩
    refine ⟨_, rfl, fun hb => ?_, fun hb v d H2 sm2 bd => ?_⟩
    · have c1 : st.length = 1 := by have := of_decide_eq_true hb; rw [hpl] at this; have := V.int.inj this; omega
      obtain ⟨top, rfl⟩ : ∃ top, st = [top] := by
        match st, c1 with
        | [t], _ => exact ⟨t, rfl⟩
      obtain ⟨a, rfl⟩ : ∃ a, as = [a] := by
        match as, hl with
        | [a], _ => exact ⟨a, rfl⟩
      cases hp'.lists with
      | cons g1 _ =>
        obtain ⟨vs, ha, rv⟩ := g1
        have hpile : H' p = some (.lst [.ref a]) := hp'.pile
        refine ⟨_, rfl, p, _, 0, .ref a, rfl, rfl, SqL.of hpile, rfl, ?_⟩
        exact q top a vs H' hrn (sm.trans (smH _)) ha (rv.same (smH _) _)
    · have c1 : ¬ st.length = 1 := fun z => of_decide_eq_false hb (by rw [hpl, z]; rfl)
      refine qe ?_ v d H2 (sm.trans ((smH _).trans sm2)) bd
      rw [hrn]
      exact topOf_no c1
end
end K7

end

section
set_option Elab.async false
set_option linter.all false
set_option maxRecDepth 100000
set_option maxHeartbeats 4000000
namespace K7
open PySem L2 M
seal L2.PE L2.PA L2.PS L2.PSs L2.PT L2.PW L2.PI L2.PG L2.PJ L2.PTs
/-- as k02's templates take need: what holds is let by -/
def spNeedT : Sp := fun vs H Q _ => vs = [.bl true] ∧ Q .non H
def spTermBad (K : PySem.W.Frag) : Sp := fun vs H _ E => ∃ x, vs = [.str x] ∧ x.length ≤ 3000000 ∧ runs x = none ∧ ∀ v d H', Same H H' → Bad K H' v d 0 → E v d H'
section
variable {P : Program} {w : World} {K : PySem.W.Frag} {mg : Str → Option Value} {base : Heap} {n m : Nat}
theorem need_is (D : DefXs P w K mg base n "need" ["holds"] (spNeed K)) : DefIs P w K mg base n "need" ["holds"] spNeedT :=
  (D.imp (sp' := spNeedT) fun vs H Q E h => ⟨true, h.1, fun _ => h.2, fun z => Bool.noConfusion z⟩).is fun vs H Q E h => h
def spWithBad (K : PySem.W.Frag) : Sp := fun vs H _ E => ∃ x v0, vs = [.str x, v0] ∧ x.length ≤ 3000000 ∧ runs x = none ∧ ∀ v d H', Same H H' → Bad K H' v d 0 → E v d H'
theorem ok_term_with_bad (T : Tx K mg) (D_need : DefXs P w K mg base n "need" ["holds"] (spNeed K)) (D_trees_of : DefXs P w K mg base n "trees_of" ["text"] (spTreesOf K)) (D_term_from : DefXs P w K mg base n "term_from" ["tree", "more"] (fun _ _ _ _ => False)) : DefXs P w K mg base (n + 1) "term_with" ["text", "more"] (spWithBad K) := by
  refine DefXs.of T.d_term_with sc_term_with (fun vs H Q E h => ?_) (fun f cdv A outer s H vs Q E hr h => ?_)
  · obtain ⟨_, _, rfl, _⟩ := h
    rfl
  obtain ⟨x, v0, rfl, hl, hno, q⟩ := h
  have nd := sc_term_with.nd
  refine ⟨_, (pss_cons (ps_set (i := 2) nd rfl (by first | exact Or.inl rfl | exact Or.inr rfl) (pe_xcall D_trees_of hr (pa_cons (pv 0) pa_nil star_name)))
      (pss_cons (ps_expr (pe_xcall D_need hr (pa_cons (pe_cmpR op_eq (pe_callB call_len_seq rfl T.z_len PySem.boot_len (pa_cons (pv 2) pa_nil star_name)) pe_int (nomark _)) pa_nil star_cmp)))
      (pss_one (ps_ret (pe_xcall D_term_from hr (pa_cons (pe_ix ix_list (pv 2) pe_int (fun _ _ => rfl)) (pa_cons (pv 1) pa_nil star_name) star_sub)))))), ?_⟩
  refine ⟨_, rfl, x, rfl, hl, fun top a us H' ht sm ha rv => ?_, fun _ v d H' sm bd => q v d H' sm bd⟩
  have hk := runs_one hno ht
  have hvl := rv.length
  refine ⟨_, rfl, a, _, rfl, .inl (SqL.of ha), rfl, _, rfl, fun hb => ?_, fun _ v d H2 sm2 bd => q v d H2 (sm.trans sm2) bd⟩
  exact absurd (by have := V.int.inj (of_decide_eq_true hb); omega) hk
theorem ok_term_of_bad (T : Tx K mg) (D_term_with : DefXs P w K mg base n "term_with" ["text", "more"] (spWithBad K)) : DefXs P w K mg base (n + 1) "term_of" ["text"] (spTermBad K) := by
  refine DefXs.of T.d_term_of sc_term_of (fun vs H Q E h => ?_) (fun f cdv A outer s H vs Q E hr h => ?_)
  · obtain ⟨_, rfl, _⟩ := h
    rfl
  obtain ⟨x, rfl, hl, hno, q⟩ := h
  refine ⟨_, (pss_one (ps_ret (pe_xcall D_term_with hr (pa_cons (pv 0) (pa_cons (pe_tup pa_nil) pa_nil star_tup) star_name)))), ?_⟩
  exact ⟨_, rfl, Nat.zero_le _, fun mr hmr => ⟨x, _, rfl, hl, hno, fun v d H' sm bd => q v d H' ((Same.new hmr _).trans sm) bd⟩⟩
end
end K7

end

section
set_option Elab.async false
set_option linter.all false
namespace M
open PySem
structure WordsN (t : Tr) (pre : List (List Nat)) (last : List Nat) : Prop extends Words t pre last where
  no : ∀ (k : Nat) (st : Pile), 1 ≤ st.length → st.length ≤ 21 → k < st.length → 21 < st.length + t.nest → runW (pre ++ [last ++ List.replicate k 41]) st = none
structure WordsLN (ts : List Tr) (pre : List (List Nat)) (last : List Nat) : Prop extends WordsL ts pre last where
  no : ∀ (k : Nat) (top : List Tr) (st : Pile), st.length + 1 ≤ 21 → k < st.length + 1 → 21 < st.length + 1 + nests ts → runW (pre ++ [last ++ List.replicate k 41]) (top :: st) = none
mutual
theorem wordsN : ∀ (t : Tr), t.Good → ∃ pre last, WordsN t pre last
  | .w x, h => ⟨[], x, words_w h, fun k st h1 h2 hk hn => by
      have hn' : 21 < st.length + 0 := hn
      omega⟩
  | .l [], h => by have := h.1; simp at this
  | .l (t :: ts), h => by
    obtain ⟨h2, ⟨hd, r, e⟩, g⟩ := h
    cases e
    have hne : ts ≠ [] := by
      intro e
      subst e
      simp at h2
    have g0 : Plain hd := g.1
    obtain ⟨pre, last, W⟩ := wordsLN ts hne g.2
    refine ⟨(40 :: hd) :: pre, last ++ [41], ⟨?_, ?_, ?_⟩, ?_⟩
    · show joinB (((40 :: hd) :: pre) ++ [last ++ [41]]) = 40 :: (bs (.w hd :: ts)).tail ++ [41]
      rw [joinB_last, bs_tail, List.cons_append]
      rw [show (40 :: hd) :: (pre ++ [last]) = [40 :: hd] ++ (pre ++ [last]) from rfl, joinB_append _ _ (by simp) (by simp), W.join, bs_cons hne]
      show (40 :: hd ++ _) ++ [41] = 40 :: (hd ++ _) ++ [41]
      simp
    · intro x hx
      rw [List.cons_append] at hx
      rcases List.mem_cons.mp hx with rfl | hx
      · intro hm
        rcases List.mem_cons.mp hm with e | hm
        · exact absurd e (by decide)
        · exact (g0.2 _ hm).1 rfl
      · rcases List.mem_append.mp hx with hx | hx
        · exact W.free x (List.mem_append_left _ hx)
        · have := List.mem_singleton.mp hx
          subst this
          intro hm
          rcases List.mem_append.mp hm with hm | hm
          · exact W.free last (List.mem_append_right _ (by simp)) hm
          · simp at hm
    · intro k st h1 hn hk
      have hn' : st.length + (max 0 (nests ts) + 1) ≤ 21 := hn
      have hn2 : st.length + 1 + nests ts ≤ 21 := by omega
      have e : last ++ [41] ++ List.replicate k 41 = last ++ List.replicate (k + 1) 41 := by
        rw [List.append_assoc, List.replicate_succ]
        rfl
      rw [List.cons_append]
      show (putW (40 :: hd) st).bind (runW (pre ++ [last ++ [41] ++ List.replicate k 41])) = _
      rw [e]
      have p := put_open 0 st g0 (by omega)
      rw [List.replicate_zero, List.append_nil] at p
      rw [p, closeN_some (by rw [push_length]; simp)]
      show runW (pre ++ [last ++ List.replicate (k + 1) 41]) ([.w hd] :: st) = _
      rw [W.run (k + 1) [.w hd] st (by omega) (by omega)]
      cases st with
      | nil => simp at h1
      | cons par st' => rfl
    · intro k st h1 h21 hk hn
      have hn' : 21 < st.length + (max 0 (nests ts) + 1) := hn
      have e : last ++ [41] ++ List.replicate k 41 = last ++ List.replicate (k + 1) 41 := by
        rw [List.append_assoc, List.replicate_succ]
        rfl
      rw [List.cons_append]
      show (putW (40 :: hd) st).bind (runW (pre ++ [last ++ [41] ++ List.replicate k 41])) = _
      rw [e]
      by_cases h20 : st.length ≤ 20
      · have p := put_open 0 st g0 h20
        rw [List.replicate_zero, List.append_nil] at p
        rw [p, closeN_some (by rw [push_length]; simp)]
        show runW (pre ++ [last ++ List.replicate (k + 1) 41]) ([.w hd] :: st) = _
        exact W.no (k + 1) [.w hd] st (by omega) (by omega) (by omega)
      · have p := put_open_no 0 st g0 h20
        rw [List.replicate_zero, List.append_nil] at p
        rw [p]
        rfl
theorem wordsLN : ∀ (ts : List Tr), ts ≠ [] → Goods ts → ∃ pre last, WordsLN ts pre last
  | [], h, _ => absurd rfl h
  | t :: ts, _, g => by
    obtain ⟨pre, last, W⟩ := wordsN t g.1
    by_cases hne : ts = []
    · subst hne
      refine ⟨pre, last, ⟨?_, W.free, ?_⟩, ?_⟩
      · rw [W.join, bs_tail]
        show _ = t.cs ++ []
        simp
      · intro k top st hn hk
        have hn' : st.length + 1 + max t.nest 0 ≤ 21 := hn
        rw [W.run k (top :: st) (by simp) (by simp; omega) (by simpa using hk)]
        rfl
      · intro k top st hl hk hn
        have hn' : 21 < st.length + 1 + max t.nest 0 := hn
        exact W.no k (top :: st) (by simp) (by simp; omega) (by simpa using hk) (by simp; omega)
    · obtain ⟨pre2, last2, W2⟩ := wordsLN ts hne g.2
      refine ⟨pre ++ [last] ++ pre2, last2, ⟨?_, ?_, ?_⟩, ?_⟩
      · rw [List.append_assoc, joinB_append _ _ (by simp) (by simp), W.join, W2.join, bs_tail, ← bs_cons hne]
      · intro x hx
        rw [List.append_assoc] at hx
        rcases List.mem_append.mp hx with hx | hx
        · exact W.free x hx
        · exact W2.free x hx
      · intro k top st hn hk
        have hn' : st.length + 1 + max t.nest (nests ts) ≤ 21 := hn
        rw [List.append_assoc, runW_append]
        have r1 := W.run 0 (top :: st) (by simp) (by simp; omega) (by simp)
        rw [List.replicate_zero, List.append_nil] at r1
        rw [r1]
        show runW (pre2 ++ [last2 ++ List.replicate k 41]) ((top ++ [t]) :: st) = _
        rw [W2.run k (top ++ [t]) st (by omega) hk]
        simp
      · intro k top st hl hk hn
        have hn' : 21 < st.length + 1 + max t.nest (nests ts) := hn
        rw [List.append_assoc, runW_append]
        by_cases ht : st.length + 1 + t.nest ≤ 21
        · have r1 := W.run 0 (top :: st) (by simp) (by simp; omega) (by simp)
          rw [List.replicate_zero, List.append_nil] at r1
          rw [r1]
          show runW (pre2 ++ [last2 ++ List.replicate k 41]) ((top ++ [t]) :: st) = _
          exact W2.no k (top ++ [t]) st hl hk (by omega)
        · have r1 := W.no 0 (top :: st) (by simp) (by simp; omega) (by simp) (by simp; omega)
          rw [List.replicate_zero, List.append_nil] at r1
          rw [r1]
          rfl
end
/-- too many brackets within one another: none -/
theorem read_deep {t : Tr} (g : t.Good) (hn : 20 < t.nest) {x : Str} (hx : L x = t.cs) : ∃ ws, (Txt.split x ⟨#[32]⟩).map L = ws ∧ runW ws [[]] = none := by
  obtain ⟨pre, last, W⟩ := wordsN t g
  refine ⟨pre ++ [last], split_is (by simp) W.free (by rw [W.join, hx]), ?_⟩
  have := W.no 0 [[]] (by simp) (by simp) (by simp) (by simp; omega)
  rw [List.replicate_zero, List.append_nil] at this
  exact this
end M

end

section
set_option Elab.async false
set_option linter.all false
set_option maxRecDepth 100000
set_option maxHeartbeats 4000000
namespace K7
open PySem L2 M
seal L2.PE L2.PA L2.PS L2.PSs L2.PT L2.PW L2.PI L2.PG L2.PJ L2.PTs
/-- a right text, at most twenty brackets within one another -/
def spTermG (m : Nat) : Sp := fun vs H Q _ => ∃ x d t, vs = [.str x] ∧ L x = t.cs ∧ T2 m d t ∧ t.nest ≤ 20 ∧ x.length ≤ 3000000 ∧ ∀ v' H', Same H H' → RelD H' v' d → Q v' H'
section
variable {P : Program} {w : World} {K : PySem.W.Frag} {mg : Str → Option Value} {base : Heap} {n m : Nat}
theorem need_x (T : Tx K mg) (k : Nat) : DefXs P w K mg base (k + 3) "need" ["holds"] (spNeed K) := ok_need T (ok_init T)
theorem need_r (T : Tx K mg) (k : Nat) : DefIs P w K mg base (k + 3) "need" ["holds"] R.spNeed := need_is (need_x T k)
theorem name_r (T : Tx K mg) (k : Nat) : DefIs P w K mg base (k + 2) "is_name" ["text"] R.spName := R.ok_is_name T (R.ok_is_made_of T)
theorem number_r (T : Tx K mg) (k : Nat) : DefIs P w K mg base (k + 2) "is_number" ["text"] R.spNumber := R.ok_is_number T (R.ok_is_made_of T)
theorem nf_r (T : Tx K mg) (k : Nat) : DefIs P w K mg base (k + 4) "name_from" ["tree"] R.spNameFrom := R.ok_name_from T (need_r T k) (name_r T (k + 1))
theorem lf_r (T : Tx K mg) (k : Nat) : DefIs P w K mg base (k + 5) "leaf_from" ["word", "more"] R.spLeafFrom := R.ok_leaf_from T (nf_r T k) (number_r T (k + 2))
theorem reader (T : Tx K mg) : ∀ m, DefIs P w K mg base (2 * m + 6) "term_from" ["tree", "more"] (R.spTermFrom (T2 m))
  | 0 => by
    refine (R.ok_term_from (n := 5) T (fun _ _ => False) (need_r T 2) (nf_r T 1) (lf_r T 0) (R.ok_terms_from (n := 4) T (fun _ _ => False) (DefIs.none T.d_term_from ?_)) (DefIs.none T.d_arm_from ?_) (DefIs.none T.d_term_from ?_)).imp ?_
    · rintro vs H Q E ⟨_, _, _, _, _, _, _, h, _⟩
      exact h
    · rintro vs H Q E ⟨_, _, _, _, _, _, _, ⟨_, _, _, _, _, _, h, _⟩, _⟩
      exact h
    · rintro vs H Q E ⟨_, _, _, _, _, _, _, h, _⟩
      exact h
    · rintro vs H Q E ⟨v, mr, d, t, h1, h0, h2, h3, h4⟩
      exact ⟨v, mr, d, t, h1, h0, h2, .inl h3, h4⟩
  | m + 1 => by
    have ih := reader T m
    have af := R.ok_arm_from (n := 2 * m + 6) T (T2 m) (need_r T (2 * m + 3)) (nf_r T (2 * m + 2)) ih
    exact R.ok_term_from (n := 2 * m + 7) T (T2 m) (need_r T (2 * m + 4)) (nf_r T (2 * m + 3)) (lf_r T (2 * m + 2)) (R.ok_terms_from T (T2 m) ih) af (ih.mono (by omega))
theorem trees_r (T : Tx K mg) (k : Nat) : DefIs P w K mg base (k + 6) "trees_of" ["text"] R.spTreesOf :=
  R.ok_trees_of T (need_r T (k + 2)) (R.ok_put_word T (need_r T (k + 1)) (R.ok_close_brackets T (need_r T k)))
theorem trees_x (T : Tx K mg) (k : Nat) : DefXs P w K mg base (k + 6) "trees_of" ["text"] (spTreesOf K) :=
  ok_trees_of T (need_x T (k + 2)) (ok_put_word T (need_x T (k + 1)) (ok_close_brackets T (need_x T k)))
theorem term_bad (T : Tx K mg) (k : Nat) : DefXs P w K mg base (k + 8) "term_of" ["text"] (spTermBad K) := ok_term_of_bad T (ok_term_with_bad T (need_x T (k + 3)) (trees_x T k) (DefXs.none T.d_term_from fun _ _ _ _ h => h))
end
end K7

end

section
set_option Elab.async false
set_option linter.all false
set_option maxRecDepth 100000
set_option maxHeartbeats 4000000
namespace K7
open PySem L2 M
seal L2.PE L2.PA L2.PS L2.PSs L2.PT L2.PW L2.PI L2.PG L2.PJ L2.PTs
section
variable {P : Program} {w : World} {K : PySem.W.Frag} {mg : Str → Option Value} {base : Heap} {n m : Nat}
def spWithG (m : Nat) : Sp := fun vs H Q _ => ∃ x mr d t, vs = [.str x, .ref mr] ∧ H mr = some (.tup []) ∧ L x = t.cs ∧ T2 m d t ∧ t.nest ≤ 20 ∧ x.length ≤ 3000000 ∧ ∀ v' H', Same H H' → RelD H' v' d → Q v' H'
theorem ok_term_with_g (T : Tx K mg) (D_need : DefIs P w K mg base n "need" ["holds"] R.spNeed) (D_trees_of : DefIs P w K mg base n "trees_of" ["text"] R.spTreesOf) (D_term_from : DefIs P w K mg base n "term_from" ["tree", "more"] (R.spTermFrom (T2 m))) : DefIs P w K mg base (n + 1) "term_with" ["text", "more"] (spWithG m) := by
  refine DefIs.of T.d_term_with sc_term_with (fun vs H Q E h => ?_) (fun f cdv A outer s H vs Q E hr h => ?_)
  · obtain ⟨_, _, _, _, rfl, _⟩ := h
    rfl
  obtain ⟨x, mr, d, t, rfl, h0, hx, h2, hn, hl, q⟩ := h
  have nd := sc_term_with.nd
  refine ⟨_, (pss_cons (ps_set (i := 2) nd rfl (by first | exact Or.inl rfl | exact Or.inr rfl) (pe_dcall D_trees_of hr (pa_cons (pv 0) pa_nil star_name)))
      (pss_cons (ps_expr (pe_dcall D_need hr (pa_cons (pe_cmpR op_eq (pe_callB call_len_seq rfl T.z_len PySem.boot_len (pa_cons (pv 2) pa_nil star_name)) pe_int (nomark _)) pa_nil star_cmp)))
      (pss_one (ps_ret (pe_dcall D_term_from hr (pa_cons (pe_ix ix_list (pv 2) pe_int (fun _ _ => rfl)) (pa_cons (pv 1) pa_nil star_name) star_sub)))))), ?_⟩
  refine ⟨_, rfl, x, t, rfl, hx, h2.good, hn, hl, fun a v H1 s1 ha r1 => ?_⟩
  refine ⟨_, rfl, a, _, rfl, .inl (SqL.of ha), rfl, rfl, ?_⟩
  exact ⟨_, rfl, a, _, 0, v, rfl, rfl, SqL.of ha, rfl, _, rfl, v, mr, d, t, rfl, s1 _ _ h0, r1, h2, fun v' H2 s2 r2 => q v' H2 (s1.trans s2) r2⟩
theorem ok_term_of_g (T : Tx K mg) (D_term_with : DefIs P w K mg base n "term_with" ["text", "more"] (spWithG m)) : DefIs P w K mg base (n + 1) "term_of" ["text"] (spTermG m) := by
  refine DefIs.of T.d_term_of sc_term_of (fun vs H Q E h => ?_) (fun f cdv A outer s H vs Q E hr h => ?_)
  · obtain ⟨_, _, _, rfl, _⟩ := h
    rfl
  obtain ⟨x, d, t, rfl, hx, h2, hn, hl, q⟩ := h
  refine ⟨_, (pss_one (ps_ret (pe_dcall D_term_with hr (pa_cons (pv 0) (pa_cons (pe_tup pa_nil) pa_nil star_tup) star_name)))), ?_⟩
  exact ⟨_, rfl, Nat.zero_le _, fun mr hmr => ⟨x, mr, d, t, rfl, upd_same, hx, h2, hn, hl, fun v' H' s' r' => q v' H' ((Same.new hmr _).trans s') r'⟩⟩
theorem term_ok (T : Tx K mg) (m : Nat) : DefIs P w K mg base (2 * m + 10) "term_of" ["text"] (spTermG m) := (ok_term_of_g T (ok_term_with_g T (need_r T (2 * m + 3)) (trees_r T (2 * m)) (reader T m))).mono (by omega)
/-- a right text with more than twenty brackets within one another is refused -/
theorem deep_runs {t : Tr} (g : t.Good) (hn : 20 < t.nest) {x : Str} (hx : L x = t.cs) : runs x = none := by
  obtain ⟨ws, hw, hr⟩ := read_deep g hn hx
  unfold runs
  rw [blank_is, hw, hr]
  rfl
end
end K7

end

section
set_option Elab.async false
set_option linter.all false
set_option maxRecDepth 100000
set_option maxHeartbeats 4000000
namespace K7
open PySem L2 M
seal L2.PE L2.PA L2.PS L2.PSs L2.PT L2.PW L2.PI L2.PG L2.PJ L2.PTs
def spNum : Sp := fun vs H Q _ => vs = [.str (S "num")] ∧ Q (.bl true) H
def spKindFrom : Sp := fun vs H Q _ => vs = [.str (S "num")] ∧ Q (.str (S "num")) H
def spNumberFrom : Sp := fun vs H Q _ => ∃ i : Int, vs = [.str (numS i)] ∧ 0 ≤ i ∧ i < 10 ^ 10 ∧ ∀ H', Same H H' → Q (.int i) H'
section
variable {P : Program} {w : World} {K : PySem.W.Frag} {mg : Str → Option Value} {base : Heap} {n m : Nat}
theorem ok_is_kind (T : Tx K mg) (D_is_name : DefIs P w K mg base n "is_name" ["text"] R.spName) : DefIs P w K mg base (n + 1) "is_kind" ["text"] spNum := by
  refine DefIs.of T.d_is_kind sc_is_kind (fun vs H Q E h => ?_) (fun f cdv A outer s H vs Q E hr h => ?_)
  · obtain ⟨rfl, _⟩ := h
    rfl
  obtain ⟨rfl, q⟩ := h
  refine ⟨_, (pss_one (ps_ret (pe_or (pe_cmpR op_eq (pv 0) pe_str (nomark _)) (pe_one (pe_dcall D_is_name hr (pa_cons (pv 0) pa_nil star_name)))))), ?_⟩
  refine ⟨_, rfl, rfl, _, rfl, iteT ?_⟩
  exact q
theorem ok_kind_from (T : Tx K mg) (D_need : DefIs P w K mg base n "need" ["holds"] R.spNeed) (D_is_kind : DefIs P w K mg base n "is_kind" ["text"] spNum) : DefIs P w K mg base (n + 1) "kind_from" ["word"] spKindFrom := by
  refine DefIs.of T.d_kind_from sc_kind_from (fun vs H Q E h => ?_) (fun f cdv A outer s H vs Q E hr h => ?_)
  · obtain ⟨rfl, _⟩ := h
    rfl
  obtain ⟨rfl, q⟩ := h
  refine ⟨_, (pss_cons (ps_expr (pe_dcall D_need hr (pa_cons (pe_dcall D_is_kind hr (pa_cons (pv 0) pa_nil star_name)) pa_nil star_call)))
      (pss_one (ps_ret (pv 0)))), ?_⟩
  exact ⟨_, rfl, rfl, rfl, _, rfl, q⟩
theorem ok_number_from (T : Tx K mg) (D_need : DefIs P w K mg base n "need" ["holds"] R.spNeed) (D_is_number : DefIs P w K mg base n "is_number" ["text"] R.spNumber) : DefIs P w K mg base (n + 1) "number_from" ["word"] spNumberFrom := by
  refine DefIs.of T.d_number_from sc_number_from (fun vs H Q E h => ?_) (fun f cdv A outer s H vs Q E hr h => ?_)
  · obtain ⟨_, rfl, _⟩ := h
    rfl
  obtain ⟨i, rfl, i0, i1, q⟩ := h
  refine ⟨_, (pss_cons (ps_expr (pe_dcall D_need hr (pa_cons (pe_dcall D_is_number hr (pa_cons (pv 0) pa_nil star_name)) pa_nil star_call)))
      (pss_one (ps_ret (pe_callTy call_int_str rfl T.z_int PyProof.Rows.boot_int (pa_cons (pv 0) pa_nil star_name))))), ?_⟩
  have hn := num_len i0 i1
  have hl : (numS i).length ≤ 10 := by rw [← L_length]; exact hn
  refine ⟨_, rfl, _, rfl, by omega, fun H1 s1 => ⟨by rw [num_number i0 i1]; rfl, ?_⟩⟩
  exact ⟨_, rfl, _, i, rfl, PySem.W.KIN.num_reads i0 i1, by omega, q H1 s1⟩
def spTermIn (m : Nat) (K : PySem.W.Frag) : Sp := fun vs H Q _ => ∃ a ys d t, vs = [.ref a] ∧ SqL K H a (ys.map V.str) ∧ (ys.map (·.length)).sum + ys.length ≤ 3000000 ∧ (Txt.join (S " ") ys).length ≤ 3000000 ∧ L (Txt.join (S " ") ys) = t.cs ∧ T2 m d t ∧ t.nest ≤ 20 ∧
  ∀ v' H', Same H H' → RelD H' v' d → Q v' H'
theorem one_blank : (S " ").length = 1 := by decide +kernel
theorem ok_term_in (T : Tx K mg) (D_term_of : DefIs P w K mg base n "term_of" ["text"] (spTermG m)) : DefIs P w K mg base (n + 1) "term_in" ["words"] (spTermIn m K) := by
  refine DefIs.of T.d_term_in sc_term_in (fun vs H Q E h => ?_) (fun f cdv A outer s H vs Q E hr h => ?_)
  · obtain ⟨_, _, _, _, rfl, _⟩ := h
    rfl
  obtain ⟨a, ys, d, t, rfl, hS, hl, hj, hx, h2, hn, q⟩ := h
  refine ⟨_, (pss_one (ps_ret (pe_dcall D_term_of hr (pa_cons (pe_bm PySem.F.plainAttrs_str PySem.F.slot_str_join PySem.F.type_str_join mt_join pe_str (pa_cons (pv 0) pa_nil star_name)) pa_nil star_call)))), ?_⟩
  refine ⟨rfl, _, rfl, S " ", a, ys, rfl, rfl, hS, by rw [one_blank]; omega, _, d, t, rfl, hx, h2, hn, hj, q⟩
end
end K7

end

section
set_option Elab.async false
set_option linter.all false
set_option maxRecDepth 100000
set_option maxHeartbeats 4000000
namespace K7
open PySem L2 M
seal L2.PE L2.PA L2.PS L2.PSs L2.PT L2.PW L2.PI L2.PG L2.PJ L2.PTs
/-- words that write a right term -/
def TermW (m : Nat) (ys : List Str) (d : D) : Prop := ∃ t, (ys.map (·.length)).sum + ys.length ≤ 3000000 ∧ (Txt.join (S " ") ys).length ≤ 3000000 ∧ L (Txt.join (S " ") ys) = t.cs ∧ T2 m d t ∧ t.nest ≤ 20
def RowG (m : Nat) (ws : List Str) (d : D) : Prop :=
  (ws = [S "end"] ∧ d = .tup [.str (S "end")]) ∨ (∃ ys e, ws = S "tell" :: ys ∧ ws.length ≤ 1000000 ∧ TermW m ys e ∧ d = .tup [.str (S "tell"), e]) ∨
  (∃ x ys e, ws = S "set" :: x :: ys ∧ ws.length ≤ 1000000 ∧ ys ≠ [] ∧ Name x ∧ TermW m ys e ∧ d = .tup [.str (S "set"), .str x, e]) ∨
  (∃ ys e, ws = S "if" :: ys ++ [numS 3] ∧ ws.length ≤ 1000000 ∧ TermW m ys e ∧ d = .tup [.str (S "if"), e, .int 3])
def spHandRow (m : Nat) (K : PySem.W.Frag) : Sp := fun vs H Q _ => ∃ a ws d, vs = [.ref a] ∧ SqL K H a (ws.map V.str) ∧ RowG m ws d ∧ ∀ v' H', Same H H' → RelD H' v' d → Q v' H'
theorem cutm (x z : V) (r : List V) : cutV (x :: (r ++ [z])) (some 1) (some (-1)) = r := by
  unfold cutV
  have e1 : HT.sIx (x :: (r ++ [z])).length 0 (some 1) = 1 := by
    rw [show ((1 : Int)) = ((1 : Nat) : Int) from rfl, HT.sIx_nat]
    simp
  have e2 : HT.sIx (x :: (r ++ [z])).length (x :: (r ++ [z])).length (some (-1)) = r.length + 1 := by
    unfold HT.sIx
    simp
    omega
  rw [e1, e2]
  show List.take (r.length + 1 - 1) (r ++ [z]) = r
  simp
theorem at0 {v : V} {xs : List V} : atI (v :: xs) 0 = some v := atI_nat (j := 0) (by simp)
theorem at1 {u v : V} {xs : List V} : atI (u :: v :: xs) 1 = some v := atI_nat (j := 1) (by simp)
theorem cut1 (x : V) (r : List V) : cutV (x :: r) (some 1) none = r := by
  unfold cutV
  have e1 : HT.sIx (x :: r).length 0 (some 1) = 1 := by
    rw [show ((1 : Int)) = ((1 : Nat) : Int) from rfl, HT.sIx_nat]
    simp
  rw [e1, HT.sIx_none]
  show List.take (_ - 1) r = r
  exact List.take_of_length_le (by simp)
section
variable {P : Program} {w : World} {K : PySem.W.Frag} {mg : Str → Option Value} {base : Heap} {n m : Nat}
theorem ok_hand_row (T : Tx K mg) (D_need : DefIs P w K mg base n "need" ["holds"] R.spNeed) (D_name_from : DefIs P w K mg base n "name_from" ["tree"] R.spNameFrom) (D_term_in : DefIs P w K mg base n "term_in" ["words"] (spTermIn m K)) (D_number_from : DefIs P w K mg base n "number_from" ["word"] spNumberFrom) :
    DefIs P w K mg base (n + 1) "hand_row" ["words"] (spHandRow m K) := by
  refine DefIs.of T.d_hand_row sc_hand_row (fun vs H Q E h => ?_) (fun f cdv A outer s H vs Q E hr h => ?_)
  · obtain ⟨_, _, _, rfl, _⟩ := h
    rfl
  obtain ⟨a, ws, d, rfl, hS, hrow, q⟩ := h
  have nd := sc_hand_row.nd
  have hu := hr.units0
  refine ⟨_, (pss_cons (ps_set (i := 1) nd rfl (by first | exact Or.inl rfl | exact Or.inr rfl) (pe_ix ix_list (pv 0) pe_int (fun _ _ => rfl)))
      (pss_cons (ps_if (pt_cmpR op_in_seq (pv 1) (pe_tup (pa_cons pe_str (pa_cons pe_str pa_nil star_const) star_const)) (by with_unfolding_all rfl)) (pss_cons (ps_expr (pe_dcall D_need hr (pa_cons (pe_cmpR op_ge (pe_callB call_len_seq rfl T.z_len PySem.boot_len (pa_cons (pv 0) pa_nil star_name)) pe_int (nomark _)) pa_nil star_cmp)))
      (pss_one (ps_ret (pe_tup (pa_cons (pv 1) (pa_cons (pe_dcall D_name_from hr (pa_cons (pe_ix ix_list (pv 0) pe_int (fun _ _ => rfl)) pa_nil star_sub)) (pa_cons (pe_dcall D_term_in hr (pa_cons (pe_slice sl_list (pv 0) (po_some pe_int) po_none) pa_nil star_sub)) pa_nil star_call) star_call) star_name))))) pss_nil)
      (pss_cons (ps_if (pt_cmpR op_eq (pv 1) pe_str (nomark _)) (pss_cons (ps_expr (pe_dcall D_need hr (pa_cons (pe_cmpR op_eq (pe_callB call_len_seq rfl T.z_len PySem.boot_len (pa_cons (pv 0) pa_nil star_name)) pe_int (nomark _)) pa_nil star_cmp)))
      (pss_one (ps_ret (pe_tup (pa_cons (pv 1) (pa_cons (pe_dcall D_name_from hr (pa_cons (pe_ix ix_list (pv 0) pe_int (fun _ _ => rfl)) pa_nil star_sub)) (pa_cons (pe_dcall D_name_from hr (pa_cons (pe_ix ix_list (pv 0) pe_int (fun _ _ => rfl)) pa_nil star_sub)) (pa_cons (pe_dcall D_name_from hr (pa_cons (pe_ix ix_list (pv 0) pe_int (fun _ _ => rfl)) pa_nil star_sub)) pa_nil star_call) star_call) star_call) star_name))))) pss_nil)
      (pss_cons (ps_if (pt_cmpR op_eq (pv 1) pe_str (nomark _)) (pss_one (ps_ret (pe_tup (pa_cons (pv 1) (pa_cons (pe_dcall D_term_in hr (pa_cons (pe_slice sl_list (pv 0) (po_some pe_int) po_none) pa_nil star_sub)) pa_nil star_call) star_name)))) pss_nil)
      (pss_cons (ps_if (pt_cmpR op_eq (pv 1) pe_str (nomark _)) (pss_cons (ps_expr (pe_dcall D_need hr (pa_cons (pe_cmpR op_eq (pe_callB call_len_seq rfl T.z_len PySem.boot_len (pa_cons (pv 0) pa_nil star_name)) pe_int (nomark _)) pa_nil star_cmp)))
      (pss_one (ps_ret (pe_tup (pa_cons (pv 1) (pa_cons (pe_dcall D_number_from hr (pa_cons (pe_ix ix_list (pv 0) pe_int (fun _ _ => rfl)) pa_nil star_sub)) pa_nil star_call) star_name))))) pss_nil)
      (pss_cons (ps_if (pt_cmpR op_eq (pv 1) pe_str (nomark _)) (pss_one (ps_ret (pe_tup (pa_cons (pv 1) (pa_cons (pe_dcall D_term_in hr (pa_cons (pe_slice sl_list (pv 0) (po_some pe_int) (po_some (pe_un un_neg pe_int))) pa_nil star_sub)) (pa_cons (pe_dcall D_number_from hr (pa_cons (pe_ix ix_list (pv 0) (pe_un un_neg pe_int) (fun _ _ => rfl)) pa_nil star_sub)) pa_nil star_call) star_call) star_name)))) pss_nil)
      (pss_cons (ps_expr (pe_dcall D_need hr (pa_cons (pe_cmpR (op_eqL hu) (pv 0) (pe_lst (pa_cons pe_str pa_nil star_const)) (nomark _)) pa_nil star_cmp)))
      (pss_one (ps_ret (pe_tup (pa_cons pe_str pa_nil star_const))))))))))), ?_⟩
  rcases hrow with ⟨rfl, rfl⟩ | ⟨ys, e, rfl, hwl, ⟨t, h1, h2, h3, h4, h5⟩, rfl⟩ | ⟨x, ys, e, rfl, hwl, hne, hx, ⟨t, h1, h2, h3, h4, h5⟩, rfl⟩ | ⟨ys, e, rfl, hwl, ⟨t, h1, h2, h3, h4, h5⟩, rfl⟩
  · refine ⟨_, rfl, a, _, 0, .str (S "end"), rfl, rfl, hS, rfl, ?_⟩
    refine ⟨_, rfl, (by show 2 ≤ sizeLine; decide), fun p hp => ⟨p, _, rfl, .inr (SqT.of upd_same), rfl, (by decide +kernel), _, rfl, iteBF (by decide +kernel) ?_⟩⟩
    have s1 := Same.new hp (.tup [.str (S "set"), .str (S "send")])
    refine ⟨_, rfl, rfl, _, rfl, iteKF (by decide +kernel) ?_⟩
    refine ⟨_, rfl, rfl, _, rfl, iteKF (by decide +kernel) ?_⟩
    refine ⟨_, rfl, rfl, _, rfl, iteKF (by decide +kernel) ?_⟩
    refine ⟨_, rfl, rfl, _, rfl, iteKF (by decide +kernel) ?_⟩
    refine ⟨_, rfl, (by show 1 ≤ sizeLine; decide), fun p2 hp2 => ?_⟩
    have s2 := s1.trans (Same.new hp2 (.lst [.str (S "end")]))
    refine ⟨a, p2, [.str (S "end")], [.str (S "end")], rfl, rfl, s2.seq hS, SqL.of upd_same, (by decide +kernel), (by decide +kernel), (by show [V.bl (eqVs [V.str (S "end")] [V.str (S "end")])] = [V.bl true]; decide +kernel), ?_⟩
    refine ⟨(by show 1 ≤ sizeLine; decide), fun p3 hp3 => ?_⟩
    exact q _ _ (s2.trans (Same.new hp3 _)) ⟨p3, _, rfl, upd_same, _, _, rfl, rfl, rfl⟩
  · refine ⟨_, rfl, a, _, 0, .str (S "tell"), rfl, rfl, hS, at0, ?_⟩
    refine ⟨_, rfl, (by show 2 ≤ sizeLine; decide), fun p hp => ⟨p, _, rfl, .inr (SqT.of upd_same), rfl, (by decide +kernel), _, rfl, iteBF (by decide +kernel) ?_⟩⟩
    have s1 := Same.new hp (.tup [.str (S "set"), .str (S "send")])
    refine ⟨_, rfl, rfl, _, rfl, iteKF (by decide +kernel) ?_⟩
    refine ⟨_, rfl, rfl, _, rfl, iteKT (by decide +kernel) ?_⟩
    rw [List.map_cons] at hS
    refine ⟨_, rfl, _, rfl, _, rfl, a, _, rfl, s1.seq hS, fun c hc => ?_⟩
    rw [cut1]
    have sc := s1.trans (Same.new hc (.lst (ys.map V.str)))
    refine ⟨c, ys, e, t, rfl, SqL.of upd_same, h1, h2, h3, h4, h5, fun v' H2 s2 r2 => ⟨(by show 2 ≤ sizeLine; decide), fun l hl => ?_⟩⟩
    exact q _ _ (sc.trans (s2.trans (Same.new hl _))) ⟨l, _, rfl, upd_same, _, _, rfl, rfl, v', _, rfl, r2.same (Same.new hl _) _, rfl⟩
  · refine ⟨_, rfl, a, _, 0, .str (S "set"), rfl, rfl, hS, at0, ?_⟩
    refine ⟨_, rfl, (by show 2 ≤ sizeLine; decide), fun p hp => ⟨p, _, rfl, .inr (SqT.of upd_same), rfl, (by decide +kernel), _, rfl, iteBT (by decide +kernel) ?_⟩⟩
    have s1 := Same.new hp (.tup [.str (S "set"), .str (S "send")])
    rw [List.map_cons, List.map_cons] at hS
    have hy : 0 < ys.length := by
      cases ys with
      | nil => exact absurd rfl hne
      | cons y r => simp
    refine ⟨_, rfl, a, _, rfl, .inl (s1.seq hS), _, _, rfl, rfl, R.bl_true (decide_eq_true (by rw [List.length_cons, List.length_cons, List.length_map]; omega)), ?_⟩
    refine ⟨_, rfl, _, rfl, a, _, 1, _, rfl, rfl, s1.seq hS, at1, x, rfl, hx, fun H1 s2 => ?_⟩
    refine ⟨_, rfl, _, rfl, a, _, rfl, (s1.trans s2).seq hS, fun c hc => ?_⟩
    rw [R.cut2]
    have sc := (s1.trans s2).trans (Same.new hc (.lst (ys.map V.str)))
    refine ⟨c, ys, e, t, rfl, SqL.of upd_same, h1, h2, h3, h4, h5, fun v' H2 s3 r2 => ⟨(by show 3 ≤ sizeLine; decide), fun l hl => ?_⟩⟩
    exact q _ _ (sc.trans (s3.trans (Same.new hl _))) ⟨l, _, rfl, upd_same, _, _, rfl, rfl, _, _, rfl, rfl, v', _, rfl, r2.same (Same.new hl _) _, rfl⟩
  · rw [show S "if" :: ys ++ [numS 3] = S "if" :: (ys ++ [numS 3]) from rfl, List.map_cons, List.map_append] at hS
    refine ⟨_, rfl, a, _, 0, .str (S "if"), rfl, rfl, hS, at0, ?_⟩
    refine ⟨_, rfl, (by show 2 ≤ sizeLine; decide), fun p hp => ⟨p, _, rfl, .inr (SqT.of upd_same), rfl, (by decide +kernel), _, rfl, iteBF (by decide +kernel) ?_⟩⟩
    have s1 := Same.new hp (.tup [.str (S "set"), .str (S "send")])
    refine ⟨_, rfl, rfl, _, rfl, iteKF (by decide +kernel) ?_⟩
    refine ⟨_, rfl, rfl, _, rfl, iteKF (by decide +kernel) ?_⟩
    refine ⟨_, rfl, rfl, _, rfl, iteKF (by decide +kernel) ?_⟩
    refine ⟨_, rfl, rfl, _, rfl, iteKT (by decide +kernel) ?_⟩
    refine ⟨_, rfl, _, rfl, _, rfl, 1, rfl, _, rfl, a, _, rfl, s1.seq hS, fun c hc => ?_⟩
    rw [show (-(1 : Int)) = -1 from rfl, List.map_cons, List.map_nil, cutm]
    have sc := s1.trans (Same.new hc (.lst (ys.map V.str)))
    refine ⟨c, ys, e, t, rfl, SqL.of upd_same, h1, h2, h3, h4, h5, fun v' H2 s3 r2 => ?_⟩
    refine ⟨_, rfl, 1, rfl, a, _, -1, .str (numS 3), rfl, rfl, (sc.trans s3).seq hS, ?_, 3, rfl, by decide, by decide, fun H3 s4 => ⟨(by show 3 ≤ sizeLine; decide), fun l hl => ?_⟩⟩
    · rw [List.map_cons, List.map_nil, ← List.cons_append]
      exact atI_last _ _
    · exact q _ _ (sc.trans (s3.trans (s4.trans (Same.new hl _)))) ⟨l, _, rfl, upd_same, _, _, rfl, rfl, v', _, rfl, r2.same (s4.trans (Same.new hl _)) _, _, _, rfl, rfl, rfl⟩
end
end K7

end

section
set_option Elab.async false
set_option linter.all false
set_option maxRecDepth 100000
set_option maxHeartbeats 4000000
namespace K7
open PySem L2 M
seal L2.PE L2.PA L2.PS L2.PSs L2.PT L2.PW L2.PI L2.PG L2.PJ L2.PTs
/-- words that write a term of too many brackets within one another -/
def BadW (ys : List Str) : Prop := (ys.map (·.length)).sum + ys.length ≤ 3000000 ∧ (Txt.join (S " ") ys).length ≤ 3000000 ∧ runs (Txt.join (S " ") ys) = none
def spTermInBad (K : PySem.W.Frag) : Sp := fun vs H _ E => ∃ a ys, vs = [.ref a] ∧ SqL K H a (ys.map V.str) ∧ BadW ys ∧ ∀ v d H', Same H H' → Bad K H' v d 0 → E v d H'
def RowBad (ws : List Str) : Prop := (∃ ys, ws = S "tell" :: ys ∧ BadW ys) ∨ (∃ x ys, ws = S "set" :: x :: ys ∧ ys ≠ [] ∧ Name x ∧ BadW ys) ∨ (∃ ys, ws = S "if" :: ys ++ [numS 3] ∧ BadW ys)
def spHandRowBad (K : PySem.W.Frag) : Sp := fun vs H _ E => ∃ a ws, vs = [.ref a] ∧ SqL K H a (ws.map V.str) ∧ RowBad ws ∧ ∀ v d H', Same H H' → Bad K H' v d 0 → E v d H'
section
variable {P : Program} {w : World} {K : PySem.W.Frag} {mg : Str → Option Value} {base : Heap} {n m : Nat}
theorem ok_term_in_bad (T : Tx K mg) (D_term_of : DefXs P w K mg base n "term_of" ["text"] (spTermBad K)) : DefXs P w K mg base (n + 1) "term_in" ["words"] (spTermInBad K) := by
  refine DefXs.of T.d_term_in sc_term_in (fun vs H Q E h => ?_) (fun f cdv A outer s H vs Q E hr h => ?_)
  · obtain ⟨_, _, rfl, _⟩ := h
    rfl
  obtain ⟨a, ys, rfl, hS, ⟨hl, hj, hno⟩, q⟩ := h
  refine ⟨_, (pss_one (ps_ret (pe_xcall D_term_of hr (pa_cons (pe_bm PySem.F.plainAttrs_str PySem.F.slot_str_join PySem.F.type_str_join mt_join pe_str (pa_cons (pv 0) pa_nil star_name)) pa_nil star_call)))), ?_⟩
  exact ⟨rfl, _, rfl, S " ", a, ys, rfl, rfl, hS, by rw [one_blank]; omega, _, rfl, hj, hno, q⟩
theorem ok_hand_row_bad (T : Tx K mg) (D_need : DefXs P w K mg base n "need" ["holds"] (spNeed K)) (D_name_from : DefXs P w K mg base n "name_from" ["tree"] R.spNameFrom) (D_term_in : DefXs P w K mg base n "term_in" ["words"] (spTermInBad K))
    (D_number_from : DefXs P w K mg base n "number_from" ["word"] spNumberFrom) : DefXs P w K mg base (n + 1) "hand_row" ["words"] (spHandRowBad K) := by
  refine DefXs.of T.d_hand_row sc_hand_row (fun vs H Q E h => ?_) (fun f cdv A outer s H vs Q E hr h => ?_)
  · obtain ⟨_, _, rfl, _⟩ := h
    rfl
  obtain ⟨a, ws, rfl, hS, hrow, q⟩ := h
  have nd := sc_hand_row.nd
  have hu := hr.units0
  refine ⟨_, (pss_cons (ps_set (i := 1) nd rfl (by first | exact Or.inl rfl | exact Or.inr rfl) (pe_ix ix_list (pv 0) pe_int (fun _ _ => rfl)))
      (pss_cons (ps_if (pt_cmpR op_in_seq (pv 1) (pe_tup (pa_cons pe_str (pa_cons pe_str pa_nil star_const) star_const)) (by with_unfolding_all rfl)) (pss_cons (ps_expr (pe_xcall D_need hr (pa_cons (pe_cmpR op_ge (pe_callB call_len_seq rfl T.z_len PySem.boot_len (pa_cons (pv 0) pa_nil star_name)) pe_int (nomark _)) pa_nil star_cmp)))
      (pss_one (ps_ret (pe_tup (pa_cons (pv 1) (pa_cons (pe_xcall D_name_from hr (pa_cons (pe_ix ix_list (pv 0) pe_int (fun _ _ => rfl)) pa_nil star_sub)) (pa_cons (pe_xcall D_term_in hr (pa_cons (pe_slice sl_list (pv 0) (po_some pe_int) po_none) pa_nil star_sub)) pa_nil star_call) star_call) star_name))))) pss_nil)
      (pss_cons (ps_if (pt_cmpR op_eq (pv 1) pe_str (nomark _)) (pss_cons (ps_expr (pe_xcall D_need hr (pa_cons (pe_cmpR op_eq (pe_callB call_len_seq rfl T.z_len PySem.boot_len (pa_cons (pv 0) pa_nil star_name)) pe_int (nomark _)) pa_nil star_cmp)))
      (pss_one (ps_ret (pe_tup (pa_cons (pv 1) (pa_cons (pe_xcall D_name_from hr (pa_cons (pe_ix ix_list (pv 0) pe_int (fun _ _ => rfl)) pa_nil star_sub)) (pa_cons (pe_xcall D_name_from hr (pa_cons (pe_ix ix_list (pv 0) pe_int (fun _ _ => rfl)) pa_nil star_sub)) (pa_cons (pe_xcall D_name_from hr (pa_cons (pe_ix ix_list (pv 0) pe_int (fun _ _ => rfl)) pa_nil star_sub)) pa_nil star_call) star_call) star_call) star_name))))) pss_nil)
      (pss_cons (ps_if (pt_cmpR op_eq (pv 1) pe_str (nomark _)) (pss_one (ps_ret (pe_tup (pa_cons (pv 1) (pa_cons (pe_xcall D_term_in hr (pa_cons (pe_slice sl_list (pv 0) (po_some pe_int) po_none) pa_nil star_sub)) pa_nil star_call) star_name)))) pss_nil)
      (pss_cons (ps_if (pt_cmpR op_eq (pv 1) pe_str (nomark _)) (pss_cons (ps_expr (pe_xcall D_need hr (pa_cons (pe_cmpR op_eq (pe_callB call_len_seq rfl T.z_len PySem.boot_len (pa_cons (pv 0) pa_nil star_name)) pe_int (nomark _)) pa_nil star_cmp)))
      (pss_one (ps_ret (pe_tup (pa_cons (pv 1) (pa_cons (pe_xcall D_number_from hr (pa_cons (pe_ix ix_list (pv 0) pe_int (fun _ _ => rfl)) pa_nil star_sub)) pa_nil star_call) star_name))))) pss_nil)
      (pss_cons (ps_if (pt_cmpR op_eq (pv 1) pe_str (nomark _)) (pss_one (ps_ret (pe_tup (pa_cons (pv 1) (pa_cons (pe_xcall D_term_in hr (pa_cons (pe_slice sl_list (pv 0) (po_some pe_int) (po_some (pe_un un_neg pe_int))) pa_nil star_sub)) (pa_cons (pe_xcall D_number_from hr (pa_cons (pe_ix ix_list (pv 0) (pe_un un_neg pe_int) (fun _ _ => rfl)) pa_nil star_sub)) pa_nil star_call) star_call) star_name)))) pss_nil)
      (pss_cons (ps_expr (pe_xcall D_need hr (pa_cons (pe_cmpR (op_eqL hu) (pv 0) (pe_lst (pa_cons pe_str pa_nil star_const)) (nomark _)) pa_nil star_cmp)))
      (pss_one (ps_ret (pe_tup (pa_cons pe_str pa_nil star_const))))))))))), ?_⟩
  rcases hrow with ⟨ys, rfl, hb⟩ | ⟨x, ys, rfl, hne, hx, hb⟩ | ⟨ys, rfl, hb⟩
  · refine ⟨_, rfl, a, _, 0, .str (S "tell"), rfl, rfl, hS, at0, ?_⟩
    refine ⟨_, rfl, (by show 2 ≤ sizeLine; decide), fun p hp => ⟨p, _, rfl, .inr (SqT.of upd_same), rfl, (by decide +kernel), _, rfl, iteBF (by decide +kernel) ?_⟩⟩
    have s1 := Same.new hp (.tup [.str (S "set"), .str (S "send")])
    refine ⟨_, rfl, rfl, _, rfl, iteKF (by decide +kernel) ?_⟩
    refine ⟨_, rfl, rfl, _, rfl, iteKT (by decide +kernel) ?_⟩
    rw [List.map_cons] at hS
    refine ⟨_, rfl, _, rfl, _, rfl, a, _, rfl, s1.seq hS, fun c hc => ?_⟩
    rw [cut1]
    have sc := s1.trans (Same.new hc (.lst (ys.map V.str)))
    exact ⟨c, ys, rfl, SqL.of upd_same, hb, fun v d H' sm bd => q v d H' (sc.trans sm) bd⟩
  · refine ⟨_, rfl, a, _, 0, .str (S "set"), rfl, rfl, hS, at0, ?_⟩
    refine ⟨_, rfl, (by show 2 ≤ sizeLine; decide), fun p hp => ⟨p, _, rfl, .inr (SqT.of upd_same), rfl, (by decide +kernel), _, rfl, iteBT (by decide +kernel) ?_⟩⟩
    have s1 := Same.new hp (.tup [.str (S "set"), .str (S "send")])
    rw [List.map_cons, List.map_cons] at hS
    have hy : 0 < ys.length := by
      cases ys with
      | nil => exact absurd rfl hne
      | cons y r => simp
    have h3 : decide ((3 : Int) ≤ ((V.str (S "set") :: V.str x :: ys.map V.str).length : Nat)) = true := decide_eq_true (by rw [List.length_cons, List.length_cons, List.length_map]; omega)
    refine ⟨_, rfl, a, _, rfl, .inl (s1.seq hS), _, _, rfl, rfl, _, rfl, fun _ => ?_, fun z => absurd (h3.symm.trans z) (by decide)⟩
    refine ⟨_, rfl, _, rfl, a, _, 1, _, rfl, rfl, s1.seq hS, at1, x, rfl, hx, fun H1 s2 => ?_⟩
    refine ⟨_, rfl, _, rfl, a, _, rfl, (s1.trans s2).seq hS, fun c hc => ?_⟩
    rw [R.cut2]
    have sc := (s1.trans s2).trans (Same.new hc (.lst (ys.map V.str)))
    exact ⟨c, ys, rfl, SqL.of upd_same, hb, fun v d H' sm bd => q v d H' (sc.trans sm) bd⟩
  · rw [show S "if" :: ys ++ [numS 3] = S "if" :: (ys ++ [numS 3]) from rfl, List.map_cons, List.map_append] at hS
    refine ⟨_, rfl, a, _, 0, .str (S "if"), rfl, rfl, hS, at0, ?_⟩
    refine ⟨_, rfl, (by show 2 ≤ sizeLine; decide), fun p hp => ⟨p, _, rfl, .inr (SqT.of upd_same), rfl, (by decide +kernel), _, rfl, iteBF (by decide +kernel) ?_⟩⟩
    have s1 := Same.new hp (.tup [.str (S "set"), .str (S "send")])
    refine ⟨_, rfl, rfl, _, rfl, iteKF (by decide +kernel) ?_⟩
    refine ⟨_, rfl, rfl, _, rfl, iteKF (by decide +kernel) ?_⟩
    refine ⟨_, rfl, rfl, _, rfl, iteKF (by decide +kernel) ?_⟩
    refine ⟨_, rfl, rfl, _, rfl, iteKT (by decide +kernel) ?_⟩
    refine ⟨_, rfl, _, rfl, _, rfl, 1, rfl, _, rfl, a, _, rfl, s1.seq hS, fun c hc => ?_⟩
    rw [show (-(1 : Int)) = -1 from rfl, List.map_cons, List.map_nil, cutm]
    have sc := s1.trans (Same.new hc (.lst (ys.map V.str)))
    exact ⟨c, ys, rfl, SqL.of upd_same, hb, fun v d H' sm bd => q v d H' (sc.trans sm) bd⟩
end
end K7

end

section
set_option Elab.async false
set_option linter.all false
set_option maxRecDepth 100000
set_option maxHeartbeats 4000000
namespace L2
open PySem PySem.Spec PyProof.Rows
/-- two promises of one def -/
theorem DefXs.or {P : Program} {w : World} {K : PySem.W.Frag} {mg : Str → Option Value} {base : Heap} {n : Nat} {x : Str} {ps : List Str} {sp sp' : Sp} (D : DefXs P w K mg base n x ps sp) (D' : DefXs P w K mg base n x ps sp') : DefXs P w K mg base n x ps (fun vs H Q E => sp vs H Q E ∨ sp' vs H Q E) := by
  obtain ⟨f, fd, F, b, k, m, oc, od, osl, l⟩ := D.ex
  obtain ⟨f2, fd2, F2, b2, k2, m2, oc2, od2, osl2, l2⟩ := D'.ex
  rw [m] at m2
  cases m2
  rw [l] at l2
  cases l2
  refine ⟨f, fd, ⟨fun vs H Q E h => h.elim (F.len vs H Q E) (F2.len vs H Q E), fun A outer s H args us vs Q E hr he hb hv h => ?_⟩, b, k, m, oc, od, osl, l⟩
  rcases h with h | h
  · exact F.run A outer s H args us vs Q E hr he hb hv h
  · exact F2.run A outer s H args us vs Q E hr he hb hv h
end L2
namespace K7
open PySem L2 M
seal L2.PE L2.PA L2.PS L2.PSs L2.PT L2.PW L2.PI L2.PG L2.PJ L2.PTs
def spDInit (K : PySem.W.Frag) : Sp := fun vs H Q _ => ∃ (p dx : Addr), vs = [.ref p] ∧ H p = some (.ins (ad K "Draft") dx []) ∧
  ∀ H' k c h, SameBut p H H' → H' p = some (.ins (ad K "Draft") dx [("kinds", .ref k), ("channels", .ref c), ("hands", .ref h)]) → H' k = some (.lst []) → H' c = some (.lst []) → H' h = some (.lst []) → H k = none → H c = none → H h = none → k ≠ c → k ≠ h → c ≠ h → Q .non H'
def spHR (m : Nat) (K : PySem.W.Frag) : Sp := fun vs H Q E => spHandRow m K vs H Q E ∨ spHandRowBad K vs H Q E
/-- a row of a hand -/
def spPutIn (m : Nat) (K : PySem.W.Frag) : Sp := fun vs H Q E => ∃ (t b r a : Addr) (nm : Str) (bs rs : List V) (ws : List Str), vs = [.ref t, .ref a] ∧ H t = some (.tup [.str nm, .ref b, .ref r]) ∧ H b = some (.lst bs) ∧ H r = some (.lst rs) ∧ H a = some (.lst (ws.map V.str)) ∧ bs.length ≤ 100 ∧ rs.length ≤ 100 ∧
  ((∃ x, ws = [S "box", x, S "num"] ∧ Name x ∧ rs = [] ∧ ∀ H' u, SameBut b H H' → H' b = some (.lst (bs ++ [.ref u])) → H' u = some (.tup [.str x, .str (S "num")]) → Q .non H') ∨
   (∃ d, RowG m ws d ∧ ∀ H' v, SameBut r H H' → H' r = some (.lst (rs ++ [v])) → RelD H' v d → Q .non H') ∨
   (RowBad ws ∧ ∀ v d H', Same H H' → Bad K H' v d 0 → E v d H'))
section
variable {P : Program} {w : World} {K : PySem.W.Frag} {mg : Str → Option Value} {base : Heap} {n m : Nat}
theorem ok_put_in_hand (T : Tx K mg) (D_need : DefXs P w K mg base n "need" ["holds"] (spNeed K)) (D_name_from : DefXs P w K mg base n "name_from" ["tree"] R.spNameFrom) (D_kind_from : DefXs P w K mg base n "kind_from" ["word"] spKindFrom) (D_hand_row : DefXs P w K mg base n "hand_row" ["words"] (spHR m K)) : DefXs P w K mg base (n + 1) "put_in_hand" ["hand", "words"] (spPutIn m K) := by
  refine DefXs.of T.d_put_in_hand sc_put_in_hand (fun vs H Q E h => ?_) (fun f cdv A outer s H vs Q E hr h => ?_)
  · obtain ⟨_, _, _, _, _, _, _, _, rfl, _⟩ := h
    rfl
  obtain ⟨t, b, r, a, nm, bs, rs, ws, rfl, ht, hb, hrr, ha, hbl, hrl, h⟩ := h
  have nd := sc_put_in_hand.nd
  have hu := hu_of hr
  refine ⟨_, (pss_cons (ps_set (i := 2) nd rfl (by first | exact Or.inl rfl | exact Or.inr rfl) (pe_ix ix_tup (pv 0) pe_int (fun _ _ => rfl)))
      (pss_cons (ps_set (i := 3) nd rfl (by first | exact Or.inl rfl | exact Or.inr rfl) (pe_ix ix_tup (pv 0) pe_int (fun _ _ => rfl)))
      (pss_one (ps_if (pt_cmpR op_eq (pe_ix ix_list (pv 1) pe_int (fun _ _ => rfl)) pe_str (nomark _)) (pss_cons (ps_expr (pe_xcall D_need hr (pa_cons (pe_and (pe_cmpR (op_eqE (Nat.lt_of_succ_lt hu)) (pv 3) (pe_lst pa_nil) (nomark _)) (pe_one (pe_cmpR op_eq (pe_callB call_len_seq rfl T.z_len PySem.boot_len (pa_cons (pv 1) pa_nil star_name)) pe_int (nomark _)))) pa_nil star_bool)))
      (pss_one (ps_expr (pe_bm PySem.F.plainAttrs_list PySem.F.slot_list_append PySem.F.type_list_append mt_append (pv 2) (pa_cons (pe_tup (pa_cons (pe_xcall D_name_from hr (pa_cons (pe_ix ix_list (pv 1) pe_int (fun _ _ => rfl)) pa_nil star_sub)) (pa_cons (pe_xcall D_kind_from hr (pa_cons (pe_ix ix_list (pv 1) pe_int (fun _ _ => rfl)) pa_nil star_sub)) pa_nil star_call) star_call)) pa_nil star_tup))))) (pss_one (ps_expr (pe_bm PySem.F.plainAttrs_list PySem.F.slot_list_append PySem.F.type_list_append mt_append (pv 3) (pa_cons (pe_xcall D_hand_row hr (pa_cons (pv 1) pa_nil star_name)) pa_nil star_call)))))))), ?_⟩
  refine ⟨_, rfl, t, _, _, _, rfl, rfl, SqT.of ht, rfl, ?_⟩
  refine ⟨_, rfl, t, _, _, _, rfl, rfl, SqT.of ht, rfl, ?_⟩
  rcases h with ⟨x, rfl, hx, rfl, q⟩ | h
  · refine ⟨_, rfl, a, _, _, _, rfl, rfl, SqL.of ha, rfl, rfl, _, rfl, M.iteKT (decide_eq_true rfl) ?_⟩
    refine ⟨_, rfl, (by show 0 ≤ sizeLine; decide), fun e he => ⟨r, e, _, rfl, rfl, SqL.of (Same.new he _ _ _ hrr), SqL.of upd_same, _, rfl, iteT ?_⟩⟩
    have s1 := Same.new he (.lst [])
    have ha1 := s1 _ _ ha
    have hb1 := s1 _ _ hb
    refine ⟨_, rfl, a, _, rfl, .inl (SqL.of ha1), rfl, _, rfl, fun _ => ?_, fun z => absurd (show decide (V.int 3 = V.int 3) = false from z) (by decide +kernel)⟩
    refine ⟨_, rfl, .inl ⟨rfl, _, SqL.of hb1⟩, _, rfl, a, _, _, _, rfl, rfl, SqL.of ha1, rfl, x, rfl, hx, fun H2 s2 => ?_⟩
    have ha2 := s2 _ _ ha1
    refine ⟨_, rfl, a, _, _, _, rfl, rfl, SqL.of ha2, rfl, rfl, (by show 2 ≤ sizeLine; decide), fun u hu' => ?_⟩
    have s3 := Same.new hu' (.tup [.str x, .str (S "num")])
    have s13 := s1.trans (s2.trans s3)
    have hb3 := s13 _ _ hb
    refine ⟨b, bs, _, rfl, rfl, hb3, fitsLt (by omega), ?_⟩
    refine q _ u (fun c o hc nc => by rw [upd_ne nc]; exact s13 _ _ hc) upd_same ?_
    exact lst_tups hb3 _ _ _ upd_same
  · obtain ⟨hd, tl, ews, hne⟩ : ∃ hd tl, ws = hd :: tl ∧ hd ≠ S "box" := by
      rcases h with ⟨d, hg, _⟩ | ⟨hg, _⟩
      · rcases hg with ⟨e, _⟩ | ⟨ys, _, e, _⟩ | ⟨x, ys, _, e, _⟩ | ⟨ys, _, e, _⟩
        · exact ⟨_, _, e, by decide +kernel⟩
        · exact ⟨_, _, e, by decide +kernel⟩
        · exact ⟨_, _, e, by decide +kernel⟩
        · exact ⟨_, _, e, by decide +kernel⟩
      · rcases hg with ⟨ys, e, _⟩ | ⟨x, ys, e, _⟩ | ⟨ys, e, _⟩
        · exact ⟨_, _, e, by decide +kernel⟩
        · exact ⟨_, _, e, by decide +kernel⟩
        · exact ⟨_, _, e, by decide +kernel⟩
    refine ⟨_, rfl, a, _, _, .str hd, rfl, rfl, SqL.of ha, (by rw [ews]; exact at0), rfl, _, rfl, M.iteKF (decide_eq_false fun z => hne (V.str.inj z)) ?_⟩
    refine ⟨_, rfl, .inl ⟨rfl, _, SqL.of hrr⟩, _, rfl, ?_⟩
    rcases h with ⟨d, hg, q⟩ | ⟨hg, q⟩
    · refine .inl ⟨a, ws, d, rfl, SqL.of ha, hg, fun v' H1 s1 rd => ?_⟩
      have hr1 := s1 _ _ hrr
      refine ⟨r, rs, _, rfl, rfl, hr1, fitsLt (by omega), ?_⟩
      exact q _ v' (fun c o hc nc => by rw [upd_ne nc]; exact s1 _ _ hc) upd_same (rd.tups (lst_tups hr1 _) _)
    · exact .inr ⟨a, ws, rfl, SqL.of ha, hg, q⟩
end
end K7

end

section
set_option Elab.async false
set_option linter.all false
set_option maxRecDepth 100000
set_option maxHeartbeats 4000000
namespace K7
open PySem L2 M
seal L2.PE L2.PA L2.PS L2.PSs L2.PT L2.PW L2.PI L2.PG L2.PJ L2.PTs
def dfs (k c h : Addr) : List (Str × V) := [("kinds", .ref k), ("channels", .ref c), ("hands", .ref h)]
/-- a draft: no kinds, no channels, some hands -/
structure Dr (K : PySem.W.Frag) (H : Hp) (p dx k c h : Addr) (hs : List V) : Prop where
  ob : H p = some (.ins (ad K "Draft") dx (dfs k c h))
  ki : H k = some (.lst [])
  ch : H c = some (.lst [])
  ha : H h = some (.lst hs)
theorem Dr.same {K : PySem.W.Frag} {H H' : Hp} {p dx k c h : Addr} {hs : List V} (D : Dr K H p dx k c h hs) (s : Same H H') : Dr K H' p dx k c h hs := ⟨s _ _ D.ob, s _ _ D.ki, s _ _ D.ch, s _ _ D.ha⟩
def spPutRow (m : Nat) (K : PySem.W.Frag) : Sp := fun vs H Q E => ∃ (p a dx k c h : Addr) (hs : List V) (ws : List Str), vs = [.ref p, .ref a] ∧ Dr K H p dx k c h hs ∧ H a = some (.lst (ws.map V.str)) ∧
  ((∃ x, ws = [S "hand", x] ∧ Name x ∧ hs = [] ∧ ∀ H' t b r, SameBut h H H' → H' h = some (.lst [.ref t]) → H' t = some (.tup [.str x, .ref b, .ref r]) → H' b = some (.lst []) → H' r = some (.lst []) → H b = none → H r = none → b ≠ r → Q .non H') ∨
   (∃ t hd tl, hs = [.ref t] ∧ ws = hd :: tl ∧ hd ≠ S "rec" ∧ hd ≠ S "alt" ∧ hd ≠ S "channel" ∧ hd ≠ S "hand" ∧ ∀ H1, Same H H1 → spPutIn m K [.ref t, .ref a] H1 Q E))
section
variable {P : Program} {w : World} {K : PySem.W.Frag} {mg : Str → Option Value} {base : Heap} {n m : Nat}
theorem ok_dinit (T : Tx K mg) : InitIs P w K mg base (n + 1) (ad K "Draft") ["self"] (spDInit K) := by
  refine InitIs.of T.di sc_dinit (fun vs H Q E h => ?_) (fun f cdv A outer s H vs Q E hr h => ?_)
  · obtain ⟨_, _, rfl, _⟩ := h
    rfl
  obtain ⟨p, dx, rfl, hp, q⟩ := h
  refine ⟨_, (pss_cons (ps_fld (pv 0) (pe_lst pa_nil) rfl) (pss_cons (ps_fld (pv 0) (pe_lst pa_nil) rfl) (pss_one (ps_fld (pv 0) (pe_lst pa_nil) rfl)))), ?_⟩
  have no : ∀ f ∈ (["kinds", "channels", "hands"] : List Str), NoAttr K (ad K "Draft") f := T.dt.no
  refine ⟨(by show 0 ≤ sizeLine; decide), fun k hk => ⟨_, rfl, p, ad K "Draft", dx, [], rfl, Same.new hk _ _ _ hp, T.dt.cl, no _ (by simp), by decide, ?_⟩⟩
  have pk : p ≠ k := ne_of_none hp hk
  have f1 : putF "kinds" (V.ref k) [] = [((("kinds" : Str), V.ref k) : Str × V)] := rfl
  have f2 : ∀ c, putF "channels" (V.ref c) [((("kinds" : Str), V.ref k) : Str × V)] = [((("kinds" : Str), V.ref k) : Str × V), ((("channels" : Str), V.ref c) : Str × V)] := fun c => by
    show (if ("kinds" : Str) = "channels" then _ else _) = _
    rw [if_neg (by decide +kernel)]
    rfl
  have f3 : ∀ c h, putF "hands" (V.ref h) [((("kinds" : Str), V.ref k) : Str × V), ((("channels" : Str), V.ref c) : Str × V)] = dfs k c h := fun c h => by
    show (if ("kinds" : Str) = "hands" then _ else (((("kinds" : Str), V.ref k) : Str × V)) :: (if ("channels" : Str) = "hands" then _ else _)) = _
    rw [if_neg (by decide +kernel), if_neg (by decide +kernel)]
    rfl
  rw [f1]
  refine ⟨(by show 0 ≤ sizeLine; decide), fun c hc => ⟨_, rfl, p, ad K "Draft", dx, _, rfl, Same.new hc _ _ _ upd_same, T.dt.cl, no _ (by simp), by show 1 < 1000; decide, ?_⟩⟩
  rw [f2]
  have pc : p ≠ c := fun z => by rw [← z, upd_same] at hc; cases hc
  have hc0 : upd H k (.lst []) c = none := by rw [upd_ne (Ne.symm pc)] at hc; exact hc
  have kc : k ≠ c := fun z => by rw [← z, upd_same] at hc0; cases hc0
  have hcH : H c = none := by rw [upd_ne (Ne.symm kc)] at hc0; exact hc0
  refine ⟨(by show 0 ≤ sizeLine; decide), fun h hh => ⟨_, rfl, p, ad K "Draft", dx, _, rfl, Same.new hh _ _ _ upd_same, T.dt.cl, no _ (by simp), by show 2 < 1000; decide, ?_⟩⟩
  rw [f3]
  have ph : p ≠ h := fun z => by rw [← z, upd_same] at hh; cases hh
  rw [upd_ne (Ne.symm ph)] at hh
  have ch : c ≠ h := fun z => by rw [← z, upd_same] at hh; cases hh
  rw [upd_ne (Ne.symm ch), upd_ne (Ne.symm ph)] at hh
  have kh : k ≠ h := fun z => by rw [← z, upd_same] at hh; cases hh
  rw [upd_ne (Ne.symm kh)] at hh
  refine q _ k c h (fun b o hb nb => ?_) upd_same ?_ ?_ ?_ hk hcH hh kc kh ch
  · have nk : b ≠ k := ne_of_none hb hk
    have nc : b ≠ c := ne_of_none hb hcH
    have nh : b ≠ h := ne_of_none hb hh
    rw [upd_ne nb, upd_ne nh, upd_ne nb, upd_ne nc, upd_ne nb, upd_ne nk]
    exact hb
  · rw [upd_ne (Ne.symm pk), upd_ne kh, upd_ne (Ne.symm pk), upd_ne kc, upd_ne (Ne.symm pk), upd_same]
  · rw [upd_ne (Ne.symm pc), upd_ne ch, upd_ne (Ne.symm pc), upd_same]
  · rw [upd_ne (Ne.symm ph), upd_same]
end
end K7

end

section
set_option Elab.async false
set_option linter.all false
set_option maxRecDepth 100000
set_option maxHeartbeats 4000000
namespace M
open PySem
def joinC (c : Nat) : List (List Nat) → List Nat
  | [] => []
  | [x] => x
  | x :: y :: r => x ++ c :: joinC c (y :: r)
theorem cut_eqC {s : Nat} {x y a b : List Nat} (hx : s ∉ x) (hy : s ∉ y) (h : x ++ s :: a = y ++ s :: b) : x = y ∧ a = b := by
  induction x generalizing y with
  | nil =>
    cases y with
    | nil => simpa using h
    | cons c y =>
      simp at h
      exact absurd (by rw [h.1]; simp) hy
  | cons c x ih =>
    cases y with
    | nil =>
      simp at h
      exact absurd (by rw [h.1]; simp) hx
    | cons d y =>
      simp at h
      obtain ⟨h1, h2⟩ := h
      obtain ⟨e1, e2⟩ := ih (y := y) (fun hm => hx (List.mem_cons_of_mem _ hm)) (fun hm => hy (List.mem_cons_of_mem _ hm)) (by simpa using h2)
      exact ⟨by rw [h1, e1], e2⟩
theorem joinC_inj (s : Nat) : ∀ (a b : List (List Nat)), a ≠ [] → b ≠ [] → (∀ x ∈ a, s ∉ x) → (∀ x ∈ b, s ∉ x) → joinC s a = joinC s b → a = b
  | [], _, h, _, _, _, _ => absurd rfl h
  | _, [], _, h, _, _, _ => absurd rfl h
  | [x], [y], _, _, _, _, h => by
    have : x = y := h
    rw [this]
  | [x], y :: z :: r, _, _, ha, _, h => by
    have h' : x = y ++ s :: joinC s (z :: r) := h
    exact absurd (by rw [h']; simp) (ha x (by simp))
  | x :: z :: r, [y], _, _, _, hb, h => by
    have h' : x ++ s :: joinC s (z :: r) = y := h
    exact absurd (by rw [← h']; simp) (hb y (by simp))
  | x :: z :: r, y :: z' :: r', _, _, ha, hb, h => by
    obtain ⟨e1, e2⟩ := cut_eqC (ha x (by simp)) (hb y (by simp)) h
    have := joinC_inj s (z :: r) (z' :: r') (by simp) (by simp) (fun u hu => ha u (List.mem_cons_of_mem _ hu)) (fun u hu => hb u (List.mem_cons_of_mem _ hu)) e2
    rw [e1, this]
theorem L_joinC (c : Nat) : ∀ ys : List Str, L (Str.join ⟨#[c]⟩ ys) = joinC c (ys.map L)
  | [] => rfl
  | [x] => rfl
  | x :: y :: r => by
    show L (x ++ ⟨#[c]⟩ ++ Str.join ⟨#[c]⟩ (y :: r)) = L x ++ c :: joinC c ((y :: r).map L)
    rw [L_append, L_append, L_joinC c (y :: r), List.append_assoc]
    rfl
theorem map_L {a b : List Str} (h : a.map L = b.map L) : a = b := by
  have := congrArg (List.map ofL) h
  rw [List.map_map, List.map_map] at this
  rwa [show (ofL ∘ L) = id from funext ofL_L, List.map_id, List.map_id] at this
theorem split_joinC (x : Str) (c : Nat) : joinC c ((Txt.split x ⟨#[c]⟩).map L) = L x := by rw [← L_joinC, StrLaws.join_split]
theorem splitC {c : Nat} {x : Str} {ys : List Str} (hn : ys ≠ []) (hf : ∀ z ∈ ys, c ∉ L z) (hj : joinC c (ys.map L) = L x) : Txt.split x ⟨#[c]⟩ = ys := by
  refine map_L (joinC_inj c _ _ ?_ ?_ ?_ ?_ ?_)
  · exact fun e => split_ne x ⟨#[c]⟩ (List.map_eq_nil_iff.mp e)
  · exact fun e => hn (List.map_eq_nil_iff.mp e)
  · intro z hz
    obtain ⟨p, hp, rfl⟩ := List.mem_map.mp hz
    exact StrLaws.split_free x c p hp
  · intro z hz
    obtain ⟨p, hp, rfl⟩ := List.mem_map.mp hz
    exact hf p hp
  · rw [split_joinC, hj]
theorem joinC_cons {c : Nat} {x : List Nat} {r : List (List Nat)} (h : r ≠ []) : joinC c (x :: r) = x ++ c :: joinC c r := by
  cases r with
  | nil => exact absurd rfl h
  | cons y r => rfl
theorem joinC_snoc {c : Nat} {z : List Nat} : ∀ {r : List (List Nat)}, r ≠ [] → joinC c (r ++ [z]) = joinC c r ++ c :: z
  | [], h => absurd rfl h
  | [x], _ => rfl
  | x :: y :: r, _ => by
    show x ++ c :: joinC c ((y :: r) ++ [z]) = (x ++ c :: joinC c (y :: r)) ++ c :: z
    rw [joinC_snoc (by simp)]
    simp
theorem split_cons {w x : Str} (hw : 32 ∉ L w) : Txt.split (w ++ S " " ++ x) (S " ") = w :: Txt.split x (S " ") := by
  rw [blank_is]
  refine splitC (by simp) (fun z hz => ?_) ?_
  · rcases List.mem_cons.mp hz with rfl | hz
    · exact hw
    · exact StrLaws.split_free x 32 z hz
  · rw [List.map_cons, joinC_cons (fun e => split_ne x ⟨#[32]⟩ (List.map_eq_nil_iff.mp e)), split_joinC, L_append, L_append, List.append_assoc]
    rfl
theorem split_snoc {w x : Str} (hw : 32 ∉ L w) : Txt.split (x ++ S " " ++ w) (S " ") = Txt.split x (S " ") ++ [w] := by
  rw [blank_is]
  refine splitC (by simp) (fun z hz => ?_) ?_
  · rcases List.mem_append.mp hz with hz | hz
    · exact StrLaws.split_free x 32 z hz
    · rw [List.mem_singleton.mp hz]; exact hw
  · rw [List.map_append, List.map_cons, List.map_nil, joinC_snoc (fun e => split_ne x ⟨#[32]⟩ (List.map_eq_nil_iff.mp e)), split_joinC, L_append, L_append, List.append_assoc]
    rfl
theorem split_one {w : Str} (hw : 32 ∉ L w) : Txt.split w (S " ") = [w] := by
  rw [blank_is]
  exact splitC (by simp) (fun z hz => by rw [List.mem_singleton.mp hz]; exact hw) rfl
theorem Name.no {x : Str} (h : Name x) {c : Nat} (hc : isLetter c = false) : c ∉ L x := fun hm => by
  have := h.letters c hm
  rw [hc] at this
  cases this
def Hi (l : List Nat) : Prop := ∀ c ∈ l, 32 ≤ c
theorem hi_l {ts : List Tr} (h : Hi (bs ts)) : Hi (Tr.l ts).cs := by
  intro c hc
  have hc' : c ∈ 40 :: ((bs ts).tail ++ [41]) := hc
  rcases List.mem_cons.mp hc' with rfl | hc'
  · decide
  · rcases List.mem_append.mp hc' with hc' | hc'
    · exact h c (List.mem_of_mem_tail hc')
    · rw [List.mem_singleton.mp hc']; decide
theorem hi_nil : Hi (bs []) := fun c hc => nomatch hc
theorem hi_cons {t : Tr} {ts : List Tr} (h : Hi t.cs) (h' : Hi (bs ts)) : Hi (bs (t :: ts)) := by
  intro c hc
  have hc' : c ∈ 32 :: (t.cs ++ bs ts) := hc
  rcases List.mem_cons.mp hc' with rfl | hc'
  · decide
  · rcases List.mem_append.mp hc' with hc' | hc'
    · exact h c hc'
    · exact h' c hc'
theorem hi_of {R : D → Tr → Prop} {es : List D} {ts : List Tr} (h : All2 R es ts) (g : ∀ d t, R d t → Hi t.cs) : Hi (bs ts) := by
  induction h with
  | nil => exact hi_nil
  | cons h _ ih => exact hi_cons (g _ _ h) ih
theorem hi_name {x : Str} (h : Name x) : Hi (tx x).cs := fun c hc => by
  have := h.letters c hc
  simp [isLetter] at this
  omega
theorem hi_num {n : Int} (h : 0 ≤ n) : Hi (tx (numS n)).cs := fun c hc => by
  have := num_figures h c hc
  simp [isFigure] at this
  omega
theorem hi_ops : ∀ s ∈ ops, Hi (tx s).cs := by
  have e : ∀ s ∈ ops, (s.cps.toList.all fun c => decide (32 ≤ c)) = true := by decide +kernel
  intro s hs c hc
  have := List.all_eq_true.mp (e s hs) c hc
  exact of_decide_eq_true this
theorem hi_heads : ∀ s ∈ heads, Hi (tx s).cs := by
  have e : ∀ s ∈ heads, (s.cps.toList.all fun c => decide (32 ≤ c)) = true := by decide +kernel
  intro s hs c hc
  have := List.all_eq_true.mp (e s hs) c hc
  exact of_decide_eq_true this
theorem leaf_hi {d : D} {t : Tr} (h : Leaf d t) : Hi t.cs := by
  rcases h with ⟨n, h0, h1, _, rfl⟩ | ⟨x, hx, _, rfl⟩
  · exact hi_num h0
  · exact hi_name hx
theorem arm_hi {R : D → Tr → Prop} (g : ∀ d t, R d t → Hi t.cs) {d : D} {t : Tr} (h : Arm R d t) : Hi t.cs := by
  obtain ⟨a, x, e, te, ha, hx, he, _, rfl⟩ := h
  exact hi_l (hi_cons (hi_name ha) (hi_cons (hi_name hx) (hi_cons (g _ _ he) hi_nil)))
theorem T2.hi : ∀ {n : Nat} {d : D} {t : Tr}, T2 n d t → Hi t.cs
  | 0, d, t, h => leaf_hi h
  | n + 1, d, t, h => by
    have ih : ∀ d t, T2 n d t → Hi t.cs := fun d t h => T2.hi h
    rcases h with h | ⟨s, a, b, ta, tb, hs, ha, hb, _, rfl⟩ | ⟨k, es, ts, hk, _, hes, _, rfl⟩ | ⟨a, ta, f, hf, ha, _, rfl⟩ | ⟨k, g, a, ta, hk, hg, ha, _, rfl⟩ | ⟨a, ta, arms, ts, ha, h1, _, hs, _, rfl⟩ | ⟨a, b, c, ta, tb, tc, ha, hb, hc, _, rfl⟩
    · exact leaf_hi h
    · exact hi_l (hi_cons (hi_ops s hs) (hi_cons (ih _ _ ha) (hi_cons (ih _ _ hb) hi_nil)))
    · exact hi_l (hi_cons (hi_heads _ (by decide +kernel)) (hi_cons (hi_name hk) (hi_of hes ih)))
    · exact hi_l (hi_cons (hi_heads _ (by decide +kernel)) (hi_cons (ih _ _ ha) (hi_cons (hi_name hf) hi_nil)))
    · exact hi_l (hi_cons (hi_heads _ (by decide +kernel)) (hi_cons (hi_name hk) (hi_cons (hi_name hg) (hi_cons (ih _ _ ha) hi_nil))))
    · exact hi_l (hi_cons (hi_heads _ (by decide +kernel)) (hi_cons (ih _ _ ha) (hi_of hs fun d t h => arm_hi ih h)))
    · exact hi_l (hi_cons (hi_heads _ (by decide +kernel)) (hi_cons (ih _ _ ha) (hi_cons (ih _ _ hb) (hi_cons (ih _ _ hc) hi_nil))))
theorem Hi.no {l : List Nat} (h : Hi l) {c : Nat} (hc : c < 32) : c ∉ l := fun hm => absurd (h c hm) (by omega)
theorem lf_is : S "\n" = ⟨#[10]⟩ := by decide +kernel
/-- the four rows of a make of one hand -/
theorem whole_rows {x nm line : Str} (hL : L x = L (S "hand ") ++ L nm ++ L (S "\nbox ") ++ L nm ++ L (S " num\nend\n") ++ L line) (hn : Name nm) (hl : 10 ∉ L line) :
    Txt.split x (S "\n") = [S "hand" ++ S " " ++ nm, S "box" ++ S " " ++ (nm ++ S " " ++ S "num"), S "end", line] := by
  rw [lf_is]
  have nn : 10 ∉ L nm := hn.no (by decide)
  have a1 : L (S "hand ") = L (S "hand") ++ L (S " ") := by decide +kernel
  have a2 : L (S "\nbox ") = 10 :: (L (S "box") ++ L (S " ")) := by decide +kernel
  have a3 : L (S " num\nend\n") = L (S " ") ++ (L (S "num") ++ 10 :: (L (S "end") ++ [10])) := by decide +kernel
  have b1 : 10 ∉ L (S "hand") := by decide +kernel
  have b2 : 10 ∉ L (S " ") := by decide +kernel
  have b3 : 10 ∉ L (S "box") := by decide +kernel
  have b4 : 10 ∉ L (S "num") := by decide +kernel
  have b5 : 10 ∉ L (S "end") := by decide +kernel
  refine splitC (by simp) (fun z hz => ?_) ?_
  · simp only [List.mem_cons, List.not_mem_nil, or_false] at hz
    rcases hz with rfl | rfl | rfl | rfl
    · simp only [L_append, List.mem_append]; intro h; rcases h with (h | h) | h <;> contradiction
    · simp only [L_append, List.mem_append]; intro h; rcases h with (h | h) | (h | h) | h <;> contradiction
    · exact b5
    · exact hl
  · rw [hL, a1, a2, a3]
    simp only [List.map_cons, List.map_nil, joinC, L_append]
    simp only [List.append_assoc, List.cons_append, List.nil_append]
theorem row_hand {nm : Str} (hn : Name nm) : Txt.split (S "hand" ++ S " " ++ nm) (S " ") = [S "hand", nm] := by
  rw [split_cons (by decide +kernel), split_one (hn.no (by decide))]
theorem row_box {nm : Str} (hn : Name nm) : Txt.split (S "box" ++ S " " ++ (nm ++ S " " ++ S "num")) (S " ") = [S "box", nm, S "num"] := by
  rw [split_cons (by decide +kernel), split_cons (hn.no (by decide)), split_one (by decide +kernel)]
theorem row_end : Txt.split (S "end") (S " ") = [S "end"] := split_one (by decide +kernel)
/-- a text's words: their lengths, and the text again -/
theorem join_words (x : Str) : Txt.join (S " ") (Txt.split x (S " ")) = x := by
  refine L_inj ?_
  rw [L_txtjoin, blank_is, ← L_join 32 _ rfl, StrLaws.join_split]
theorem joinB_sum : ∀ ws : List (List Nat), ws ≠ [] → (ws.map List.length).sum + ws.length = (joinB ws).length + 1
  | [], h => absurd rfl h
  | [x], _ => by simp [joinB]
  | x :: y :: r, _ => by
    have ih := joinB_sum (y :: r) (by simp)
    show _ = (x ++ 32 :: joinB (y :: r)).length + 1
    rw [List.length_append, List.length_cons]
    simp only [List.map_cons, List.sum_cons, List.length_cons] at ih ⊢
    omega
theorem words_sum (x : Str) : ((Txt.split x (S " ")).map (·.length)).sum + (Txt.split x (S " ")).length = x.length + 1 := by
  have h := joinB_sum ((Txt.split x (S " ")).map L) (fun e => split_ne x (S " ") (List.map_eq_nil_iff.mp e))
  have e : joinB ((Txt.split x (S " ")).map L) = L x := by rw [blank_is, ← L_join 32 _ rfl, StrLaws.join_split]
  rw [e, L_length, List.length_map, List.map_map] at h
  rw [show (fun y : Str => y.length) = (List.length ∘ L) from funext fun y => (L_length y).symm]
  exact h
theorem Node.imp {R R' : D → Tr → Prop} (f : ∀ d t, R d t → R' d t) {d : D} {t : Tr} (h : Node R d t) : Node R' d t := by
  rcases h with ⟨s, a, b, ta, tb, hs, ha, hb, e1, e2⟩ | ⟨k, es, ts, hk, h5, hes, e1, e2⟩ | ⟨a, ta, f', hf, ha, e1, e2⟩ | ⟨k, g, a, ta, hk, hg, ha, e1, e2⟩ | ⟨a, ta, arms, ts, ha, h1, h4, hs, e1, e2⟩ | ⟨a, b, c, ta, tb, tc, ha, hb, hc, e1, e2⟩
  · exact .inl ⟨s, a, b, ta, tb, hs, f _ _ ha, f _ _ hb, e1, e2⟩
  · exact .inr (.inl ⟨k, es, ts, hk, h5, hes.imp f, e1, e2⟩)
  · exact .inr (.inr (.inl ⟨a, ta, f', hf, f _ _ ha, e1, e2⟩))
  · exact .inr (.inr (.inr (.inl ⟨k, g, a, ta, hk, hg, f _ _ ha, e1, e2⟩)))
  · exact .inr (.inr (.inr (.inr (.inl ⟨a, ta, arms, ts, f _ _ ha, h1, h4, hs.imp fun d t ⟨g, x, e, te, hg, hx, he, q1, q2⟩ => ⟨g, x, e, te, hg, hx, f _ _ he, q1, q2⟩, e1, e2⟩))))
  · exact .inr (.inr (.inr (.inr (.inr ⟨a, b, c, ta, tb, tc, f _ _ ha, f _ _ hb, f _ _ hc, e1, e2⟩))))
theorem T2.succ : ∀ {n : Nat} {d : D} {t : Tr}, T2 n d t → T2 (n + 1) d t
  | 0, d, t, h => .inl h
  | n + 1, d, t, h => by
    rcases h with h | h
    · exact .inl h
    · exact .inr (h.imp fun d t h => T2.succ h)
theorem T2.mono {n m : Nat} (h : n ≤ m) {d : D} {t : Tr} (k : T2 n d t) : T2 m d t := by
  induction h with
  | refl => exact k
  | step _ ih => exact ih.succ
end M

end

section
set_option Elab.async false
set_option linter.all false
set_option maxRecDepth 100000
set_option maxHeartbeats 4000000
namespace M
open PySem L2
mutual
def B.dp : B → Nat
  | .int _ => 0
  | .bl _ => 0
  | .str _ => 0
  | .tup ds => dps ds + 1
def dps : List B → Nat
  | [] => 0
  | d :: ds => max d.dp (dps ds)
end
theorem dps_mem : ∀ {ds : List B} {d : B}, d ∈ ds → d.dp ≤ dps ds
  | e :: ds, d, h => by
    show d.dp ≤ max e.dp (dps ds)
    rcases List.mem_cons.mp h with rfl | h
    · omega
    · have := dps_mem h
      omega
/-- how deep a term's data goes -/
theorem leaf_deep {d : D} {t : Tr} (h : Leaf d t) : d.deep ≤ 1 := by
  rcases h with ⟨n, h0, h1, rfl, _⟩ | ⟨x, hx, rfl, _⟩ <;> (show max 0 (max 0 0) + 1 ≤ 1; omega)
theorem deeps_of {R : D → Tr → Prop} {m : Nat} {es : List D} {ts : List Tr} (h : All2 R es ts) (g : ∀ d t, R d t → d.deep ≤ m) : deeps es ≤ m := by
  induction h with
  | nil => exact Nat.zero_le _
  | cons h _ ih => exact Nat.max_le.mpr ⟨g _ _ h, ih⟩
theorem T2.deep : ∀ {n : Nat} {d : D} {t : Tr}, T2 n d t → d.deep ≤ 3 * n + 1
  | 0, d, t, h => leaf_deep h
  | n + 1, d, t, h => by
    have ih : ∀ d t, T2 n d t → d.deep ≤ 3 * n + 1 := fun d t h => T2.deep h
    rcases h with h | ⟨s, a, b, ta, tb, hs, ha, hb, rfl, _⟩ | ⟨k, es, ts, hk, _, hes, rfl, _⟩ | ⟨a, ta, f, hf, ha, rfl, _⟩ | ⟨k, g, a, ta, hk, hg, ha, rfl, _⟩ | ⟨a, ta, arms, ts, ha, h1, _, hs, rfl, _⟩ | ⟨a, b, c, ta, tb, tc, ha, hb, hc, rfl, _⟩
    · have := leaf_deep h; omega
    · have := ih _ _ ha; have := ih _ _ hb
      simp only [D.deep, deeps]; omega
    · have := deeps_of hes ih
      simp only [D.deep, deeps]; omega
    · have := ih _ _ ha
      simp only [D.deep, deeps]; omega
    · have := ih _ _ ha
      simp only [D.deep, deeps]; omega
    · have h2 := ih _ _ ha
      have h3 : deeps arms ≤ 3 * n + 2 := deeps_of hs fun d t h => by
        obtain ⟨g, x, e, te, _, _, he, rfl, _⟩ := h
        have := ih _ _ he
        simp only [D.deep, deeps]; omega
      simp only [D.deep, deeps]; omega
    · have := ih _ _ ha; have := ih _ _ hb; have := ih _ _ hc
      simp only [D.deep, deeps]; omega
section
variable {X : Cx} {pins : List (Addr × Obj)} {σ : St} {H : Hp} {s : Shared}
/-- the same data twice, truths among them: they are equal -/
theorem eq_atB (I : Inv X pins σ H s) : ∀ (n : Nat) (d : B) {x y : V} {u v : Value} {A : Around}, d.dp ≤ n → RelB H x d → RelB H y d → RelV x u → RelV y v → A.units + n < cLine → SeqAt.EqAt A s u v true
  | n, .int i, x, y, u, v, A, _, hx, hy, ru, rv, _ => by
    cases hx
    cases hy
    obtain ⟨t, rfl⟩ := ru
    obtain ⟨t', rfl⟩ := rv
    have := SeqAt.EqAt.int_int (A := A) (s := s) i t i t'
    rw [beq_self_eq_true] at this
    exact this
  | n, .bl b, x, y, u, v, A, _, hx, hy, ru, rv, _ => by
    cases hx
    cases hy
    obtain rfl : u = .bool b := ru
    obtain rfl : v = .bool b := rv
    exact SeqAt.EqAt.same _
  | n, .str z, x, y, u, v, A, _, hx, hy, ru, rv, _ => by
    cases hx
    cases hy
    obtain ⟨t, rfl⟩ := ru
    obtain ⟨t', rfl⟩ := rv
    have := SeqAt.EqAt.str_str (A := A) (s := s) z t z t'
    rw [beq_self_eq_true] at this
    exact this
  | 0, .tup ds, x, y, u, v, A, h, _, _, _, _, _ => absurd h (Nat.not_succ_le_zero _)
  | n + 1, .tup ds, x, y, u, v, A, h, hx, hy, ru, rv, hA => by
    obtain ⟨a, vs, rfl, ha, rvs⟩ := hx
    obtain ⟨b, ws, rfl, hb, rws⟩ := hy
    obtain rfl : u = .ref a := ru
    obtain rfl : v = .ref b := rv
    by_cases hab : a = b
    · subst hab
      exact SeqAt.EqAt.same _
    · obtain ⟨its, r1, p1, _⟩ := I.tuple (SqT.of (K := X.K) ha)
      obtain ⟨its2, r2, p2, _⟩ := I.tuple (SqT.of (K := X.K) hb)
      have l1 := r1.length
      have l2 := r2.length
      have l3 := rvs.length
      have l4 := rws.length
      have := SeqAt.EqAt.of_refs hab (SeqAt.RcAt.tuples (A := A) (e := fun _ => true) p1 p2 (by omega) fun j h1 h2 => ?_)
      · have e : ((List.range (min its.toArray.size its2.toArray.size)).all (fun _ => true) && its.toArray.size == its2.toArray.size) = true := by
          rw [show its.toArray.size = its2.toArray.size by simp only [List.size_toArray]; omega]
          simp
        rw [e] at this
        exact this
      · obtain ⟨x1, e1, q1⟩ := its_at r1 h1
        obtain ⟨x2, e2, q2⟩ := its_at r2 h2
        obtain ⟨d1, f1, g1⟩ := rvs.get e1
        obtain ⟨d2, f2, g2⟩ := rws.get e2
        rw [f1] at f2
        cases f2
        refine eq_atB I n d1 ?_ g1 g2 q1 q2 (by show A.units + 1 + n < cLine; omega)
        have := dps_mem (List.mem_of_getElem? f1)
        have h' : dps ds + 1 ≤ n + 1 := h
        omega
end
end M
namespace L2
open PySem PySem.Spec PyProof.Rows M
section
variable {X : Cx}
/-- lists of the same data twice, truths among them -/
def rNeLB (K : PySem.W.Frag) : R2 := fun x y H Q => ∃ a b xs ys, ∃ ds : List B, x = .ref a ∧ y = .ref b ∧ SqL K H a xs ∧ SqL K H b ys ∧ RelBs H xs ds ∧ RelBs H ys ds ∧ dps ds ≤ 190 ∧ Q (.bl false) H
theorem op_neLB (hu : X.A.units + 200 < cLine) : OpR X (compareOp .NotEq) (rNeLB X.K) := by
  intro pins s σ H x y v u Q I rx ry h
  obtain ⟨a, b, xs, ys, ds, rfl, rfl, ha, hb, rvs, rws, hd, q⟩ := h
  cases rx
  cases ry
  obtain ⟨its, r1, p1, _⟩ := I.list ha
  obtain ⟨its2, r2, p2, _⟩ := I.list hb
  have l1 := r1.length
  have l2 := r2.length
  have l3 := rvs.length
  have l4 := rws.length
  refine PySem.EqBoolInt.of_rcne (SeqAt.RcNeAt.lists (e := fun _ => true) p1.isList p2.isList (by simp only [List.size_toArray]; omega) (by omega) fun j h1 h2 => ?_) ⟨.bl false, H, I, ?_, q⟩
  · obtain ⟨x1, e1, q1⟩ := its_at r1 h1
    obtain ⟨x2, e2, q2⟩ := its_at r2 h2
    obtain ⟨d1, f1, g1⟩ := rvs.get e1
    obtain ⟨d2, f2, g2⟩ := rws.get e2
    rw [f1] at f2
    cases f2
    refine eq_atB I 190 d1 ?_ g1 g2 q1 q2 (by show X.A.units + 1 + 190 < cLine; omega)
    have := dps_mem (List.mem_of_getElem? f1)
    omega
  · have e : (!(List.range its.toArray.size).all (fun _ => true)) = false := by simp
    rw [e]
    rfl
theorem op_neLDB (hu : X.A.units + 200 < cLine) : OpR X (compareOp .NotEq) (fun x y H Q => rNeLD X.K x y H Q ∨ rNeLB X.K x y H Q) := (op_neLD hu).or (op_neLB hu)
theorem call_tuple_ofC {K : PySem.W.Frag} (h : X.K = K) : CallR X (.type "tuple") (fun xs H Q => ∃ p ys, xs = [.ref p] ∧ ((SqL K H p ys ∧ ∀ l, H l = none → Q (.ref l) (upd H l (.tup ys))) ∨ (SqT K H p ys ∧ Q (.ref p) H))) := by subst h; exact call_tuple_of
end
end L2

end

section
set_option Elab.async false
set_option linter.all false
set_option maxRecDepth 100000
set_option maxHeartbeats 4000000
namespace K7
open PySem L2 M
seal L2.PE L2.PA L2.PS L2.PSs L2.PT L2.PW L2.PI L2.PG L2.PJ L2.PTs
theorem inV_two {x y z : Str} (h1 : x ≠ y) (h2 : x ≠ z) : inV (.str x) [.str y, .str z] = false := by
  have e1 : (y == x) = false := beq_eq_false_iff_ne.mpr (Ne.symm h1)
  have e2 : (z == x) = false := beq_eq_false_iff_ne.mpr (Ne.symm h2)
  show ((y == x) || ((z == x) || false)) = false
  rw [e1, e2]
  rfl
theorem lk_hands {k c h : Addr} : (dfs k c h).lookup ("hands" : Str) = some (V.ref h) := by
  unfold dfs
  simp only [List.lookup_cons]
  rw [show (("hands" : Str) == ("kinds" : Str)) = false by decide +kernel, show (("hands" : Str) == ("channels" : Str)) = false by decide +kernel, show (("hands" : Str) == ("hands" : Str)) = true by decide +kernel]
theorem lk_kinds {k c h : Addr} : (dfs k c h).lookup ("kinds" : Str) = some (V.ref k) := by
  unfold dfs
  simp only [List.lookup_cons]
  rw [show (("kinds" : Str) == ("kinds" : Str)) = true by decide +kernel]
theorem lk_channels {k c h : Addr} : (dfs k c h).lookup ("channels" : Str) = some (V.ref c) := by
  unfold dfs
  simp only [List.lookup_cons]
  rw [show (("channels" : Str) == ("kinds" : Str)) = false by decide +kernel, show (("channels" : Str) == ("channels" : Str)) = true by decide +kernel]
section
variable {P : Program} {w : World} {K : PySem.W.Frag} {mg : Str → Option Value} {base : Heap} {n m : Nat}
theorem ok_put_row (T : Tx K mg) (D_need : DefXs P w K mg base n "need" ["holds"] (spNeed K)) (D_name_from : DefXs P w K mg base n "name_from" ["tree"] R.spNameFrom) (D_kind_row : DefXs P w K mg base n "kind_row" ["words"] (fun _ _ _ _ => False)) (D_channel_row : DefXs P w K mg base n "channel_row" ["words"] (fun _ _ _ _ => False))
    (D_put_in_hand : DefXs P w K mg base n "put_in_hand" ["hand", "words"] (spPutIn m K)) : DefXs P w K mg base (n + 1) "put_row" ["draft", "words"] (spPutRow m K) := by
  refine DefXs.of T.d_put_row sc_put_row (fun vs H Q E h => ?_) (fun f cdv A outer s H vs Q E hr h => ?_)
  · obtain ⟨_, _, _, _, _, _, _, _, rfl, _⟩ := h
    rfl
  obtain ⟨p, a, dx, k, c, h, hs, ws, rfl, D, ha, hw⟩ := h
  have nd := sc_put_row.nd
  have hu := hu_of hr
  have no : ∀ f ∈ (["kinds", "channels", "hands"] : List Str), NoAttr K (ad K "Draft") f := T.dt.no
  refine ⟨_, (pss_cons (ps_set (i := 2) nd rfl (by first | exact Or.inl rfl | exact Or.inr rfl) (pe_ix ix_list (pv 1) pe_int (fun _ _ => rfl)))
      (pss_one (ps_if (pt_cmpR op_in_seq (pv 2) (pe_tup (pa_cons pe_str (pa_cons pe_str pa_nil star_const) star_const)) (by with_unfolding_all rfl)) (pss_cons (ps_expr (pe_xcall D_need hr (pa_cons (pe_and (pe_cmpR (op_eqE (Nat.lt_of_succ_lt hu)) (pe_fld (pv 0) rfl) (pe_lst pa_nil) (nomark _)) (pe_one (pe_cmpR (op_eqE (Nat.lt_of_succ_lt hu)) (pe_fld (pv 0) rfl) (pe_lst pa_nil) (nomark _)))) pa_nil star_bool)))
      (pss_one (ps_expr (pe_bm PySem.F.plainAttrs_list PySem.F.slot_list_append PySem.F.type_list_append mt_append (pe_fld (pv 0) rfl) (pa_cons (pe_xcall D_kind_row hr (pa_cons (pv 1) pa_nil star_name)) pa_nil star_call))))) (pss_one (ps_if (pt_cmpR op_eq (pv 2) pe_str (nomark _)) (pss_cons (ps_expr (pe_xcall D_need hr (pa_cons (pe_cmpR (op_eqE (Nat.lt_of_succ_lt hu)) (pe_fld (pv 0) rfl) (pe_lst pa_nil) (nomark _)) pa_nil star_cmp)))
      (pss_one (ps_expr (pe_bm PySem.F.plainAttrs_list PySem.F.slot_list_append PySem.F.type_list_append mt_append (pe_fld (pv 0) rfl) (pa_cons (pe_xcall D_channel_row hr (pa_cons (pv 1) pa_nil star_name)) pa_nil star_call))))) (pss_one (ps_if (pt_cmpR op_eq (pv 2) pe_str (nomark _)) (pss_cons (ps_expr (pe_xcall D_need hr (pa_cons (pe_cmpR op_eq (pe_callB call_len_seq rfl T.z_len PySem.boot_len (pa_cons (pv 1) pa_nil star_name)) pe_int (nomark _)) pa_nil star_cmp)))
      (pss_one (ps_expr (pe_bm PySem.F.plainAttrs_list PySem.F.slot_list_append PySem.F.type_list_append mt_append (pe_fld (pv 0) rfl) (pa_cons (pe_tup (pa_cons (pe_xcall D_name_from hr (pa_cons (pe_ix ix_list (pv 1) pe_int (fun _ _ => rfl)) pa_nil star_sub)) (pa_cons (pe_lst pa_nil) (pa_cons (pe_lst pa_nil) pa_nil star_lst) star_lst) star_call)) pa_nil star_tup))))) (pss_cons (ps_expr (pe_xcall D_need hr (pa_cons (pe_cmpR (op_neE (Nat.lt_of_succ_lt hu)) (pe_fld (pv 0) rfl) (pe_lst pa_nil) (nomark _)) pa_nil star_cmp)))
      (pss_one (ps_expr (pe_xcall D_put_in_hand hr (pa_cons (pe_ix ix_list (pe_fld (pv 0) rfl) (pe_un un_neg pe_int) (fun _ _ => rfl)) (pa_cons (pv 1) pa_nil star_name) star_sub)))))))))))), ?_⟩
  rcases hw with ⟨x, rfl, hx, rfl, q⟩ | ⟨t, hd, tl, rfl, rfl, n1, n2, n3, n4, q⟩
  · refine ⟨_, rfl, a, _, _, _, rfl, rfl, SqL.of ha, rfl, ?_⟩
    refine ⟨_, rfl, (by show 2 ≤ sizeLine; decide), fun p2 hp2 => ⟨p2, _, rfl, .inr (SqT.of upd_same), rfl, (by decide +kernel), _, rfl, iteBF (by decide +kernel) ?_⟩⟩
    have s1 := Same.new hp2 (.tup [.str (S "rec"), .str (S "alt")])
    refine ⟨_, rfl, rfl, _, rfl, iteKF (by decide +kernel) ?_⟩
    refine ⟨_, rfl, rfl, _, rfl, iteKT (by decide +kernel) ?_⟩
    have ha1 := s1 _ _ ha
    refine ⟨_, rfl, a, _, rfl, .inl (SqL.of ha1), rfl, _, rfl, fun _ => ?_, fun z => absurd (show decide (V.int 2 = V.int 2) = false from z) (by decide +kernel)⟩
    have D1 := D.same s1
    refine ⟨_, rfl, p, _, dx, _, _, rfl, D1.ob, T.dt.cl, no _ (by simp), lk_hands, .inl ⟨rfl, _, SqL.of D1.ha⟩, ?_⟩
    refine ⟨_, rfl, a, _, _, _, rfl, rfl, SqL.of ha1, rfl, x, rfl, hx, fun H2 s2 => ?_⟩
    refine ⟨(by show 0 ≤ sizeLine; decide), fun b hb => ⟨(by show 0 ≤ sizeLine; decide), fun r hr2 => ⟨(by show 3 ≤ sizeLine; decide), fun t ht => ?_⟩⟩⟩
    have s12 := s1.trans s2
    have t1 := Same.new hb (.lst [])
    have t2 := Same.new hr2 (.lst [])
    have t3 := Same.new ht (.tup [.str x, .ref b, .ref r])
    have s5 := s12.trans (t1.trans (t2.trans t3))
    have D5 := D.same s5
    have hb0 : H b = none := none_of_same s12 hb
    have hr0 : H r = none := none_of_same (s12.trans t1) hr2
    have br : b ≠ r := fun z => by rw [← z, upd_same] at hr2; cases hr2
    have hh0 := D.ha
    refine ⟨h, [], _, rfl, rfl, D5.ha, fitsLt (by show 0 ≤ 4000000; decide), ?_⟩
    have nt : t ≠ h := fun z => by
      have := D5.ha
      rw [← z, upd_same] at this
      cases this
    have nb : b ≠ h := fun z => by rw [z, hh0] at hb0; cases hb0
    have nr : r ≠ h := fun z => by rw [z, hh0] at hr0; cases hr0
    refine q _ t b r (fun c' o hc nc => by rw [upd_ne nc]; exact s5 _ _ hc) (by rw [upd_same]; rfl) (by rw [upd_ne nt, upd_same]) ?_ ?_ hb0 hr0 br
    · rw [upd_ne nb]; exact t3 _ _ (t2 _ _ upd_same)
    · rw [upd_ne nr]; exact t3 _ _ upd_same
  · refine ⟨_, rfl, a, _, _, .str hd, rfl, rfl, SqL.of ha, at0, ?_⟩
    refine ⟨_, rfl, (by show 2 ≤ sizeLine; decide), fun p2 hp2 => ⟨p2, _, rfl, .inr (SqT.of upd_same), rfl, rfl, _, rfl, iteBF (inV_two n1 n2) ?_⟩⟩
    have s1 := Same.new hp2 (.tup [.str (S "rec"), .str (S "alt")])
    refine ⟨_, rfl, rfl, _, rfl, M.iteKF (decide_eq_false fun z => n3 (V.str.inj z)) ?_⟩
    refine ⟨_, rfl, rfl, _, rfl, M.iteKF (decide_eq_false fun z => n4 (V.str.inj z)) ?_⟩
    have D1 := D.same s1
    refine ⟨_, rfl, p, _, dx, _, _, rfl, D1.ob, T.dt.cl, no _ (by simp), lk_hands, (by show 0 ≤ sizeLine; decide), fun e he => ?_⟩
    have t1 := Same.new he (.lst [])
    have D2 := D1.same t1
    refine ⟨h, e, _, rfl, rfl, SqL.of D2.ha, SqL.of upd_same, _, rfl, fun _ => ?_, fun z => Bool.noConfusion z⟩
    refine ⟨_, rfl, p, _, dx, _, _, rfl, D2.ob, T.dt.cl, no _ (by simp), lk_hands, 1, rfl, h, _, -1, .ref t, rfl, rfl, SqL.of D2.ha, rfl, _, rfl, ?_⟩
    exact q _ (s1.trans t1)
end
end K7

end

section
set_option Elab.async false
set_option linter.all false
set_option maxRecDepth 100000
set_option maxHeartbeats 4000000
namespace K7
open PySem L2 M
seal L2.PE L2.PA L2.PS L2.PSs L2.PT L2.PW L2.PI L2.PG L2.PJ L2.PTs
def spRows : Sp := fun vs H Q _ => ∃ x, vs = [.str x] ∧ x ≠ S "" ∧ x.length ≤ 3000000 ∧ ∀ l, H l = none → Q (.ref l) (upd H l (.lst ((Txt.split x (S "\n")).map V.str)))
def dMade (nm : Str) (ds es : List D) : D := .tup [.tup [], .tup [], .tup [.tup [.str nm, .tup ds, .tup es]]]
def spMade (K : PySem.W.Frag) : Sp := fun vs H Q _ => ∃ (p dx k c h t b r : Addr) (nm : Str) (bs rs : List V) (ds es : List D), vs = [.ref p] ∧ Dr K H p dx k c h [.ref t] ∧ H t = some (.tup [.str nm, .ref b, .ref r]) ∧ H b = some (.lst bs) ∧ H r = some (.lst rs) ∧ RelDs H bs ds ∧ RelDs H rs es ∧
  ∀ v H', Same H H' → RelD H' v (dMade nm ds es) → Q v H'
section
variable {P : Program} {w : World} {K : PySem.W.Frag} {mg : Str → Option Value} {base : Heap} {n m : Nat}
theorem ok_rows_in (T : Tx K mg) : DefIs P w K mg base (n + 1) "rows_in" ["text"] spRows := by
  refine DefIs.of T.d_rows_in sc_rows_in (fun vs H Q E h => ?_) (fun f cdv A outer s H vs Q E hr h => ?_)
  · obtain ⟨_, rfl, _⟩ := h
    rfl
  obtain ⟨x, rfl, hne, hl, q⟩ := h
  refine ⟨_, (pss_cons (ps_if (pt_cmpR op_eq (pv 0) pe_str (nomark _)) (pss_one (ps_ret (pe_lst pa_nil))) pss_nil)
      (pss_one (ps_ret (pe_bm PySem.F.plainAttrs_str PySem.F.slot_str_split PySem.F.type_str_split mt_split (pv 0) (pa_cons pe_str pa_nil star_const))))), ?_⟩
  refine ⟨_, rfl, rfl, _, rfl, M.iteKF (decide_eq_false fun z => hne (V.str.inj z)) ?_⟩
  exact ⟨_, rfl, rfl, x, S "\n", rfl, rfl, (by decide +kernel), fits (by omega), fun l hl0 => q l hl0⟩
theorem ok_made (T : Tx K mg) : DefIs P w K mg base (n + 1) "made" ["draft"] (spMade K) := by
  refine DefIs.of T.d_made sc_made (fun vs H Q E h => ?_) (fun f cdv A outer s H vs Q E hr h => ?_)
  · obtain ⟨_, _, _, _, _, _, _, _, _, _, _, _, _, rfl, _⟩ := h
    rfl
  obtain ⟨p, dx, k, c, h, t, b, r, nm, bs, rs, ds, es, rfl, D, ht, hb, hrr, rb, rr, q⟩ := h
  have nd := sc_made.nd
  have no : ∀ f ∈ (["kinds", "channels", "hands"] : List Str), NoAttr K (ad K "Draft") f := T.dt.no
  refine ⟨_, (pss_cons (ps_setComp (i := 1) ["name", "boxes", "rows"] [none, none, none] rfl (by kernel_rfl) nd rfl (by first | exact Or.inl rfl | exact Or.inr rfl) (pi_list (pe_fld (pv 0) rfl)) (fun _ _ _ _ => (pg_tupC (K := K) (n := 3) rfl rfl (pgs_cons (pg_name (i := 0) (by show List.Nodup (["name", "boxes", "rows"] : List Str); decide +kernel) rfl (Or.inl rfl)) (pgs_cons (pg_name (i := 1) (by show List.Nodup (["name", "boxes", "rows"] : List Str); decide +kernel) rfl (Or.inl rfl)) (pgs_cons (pg_name (i := 2) (by show List.Nodup (["name", "boxes", "rows"] : List Str); decide +kernel) rfl (Or.inl rfl)) pgs_nil))))) (fun _ _ _ _ => pts_nil) (fun _ _ _ _ => (pe_tup (pa_cons (pv 0) (pa_cons (pe_callTy (call_tuple_ofC (K := K) rfl) rfl T.z_tuple PyProof.Rows.boot_tuple (pa_cons (pv 1) pa_nil star_name)) (pa_cons (pe_callTy (call_tuple_ofC (K := K) rfl) rfl T.z_tuple PyProof.Rows.boot_tuple (pa_cons (pv 2) pa_nil star_name)) pa_nil star_call) star_call) star_name))))
      (pss_one (ps_ret (pe_tup (pa_cons (pe_callTy call_tuple_of rfl T.z_tuple PyProof.Rows.boot_tuple (pa_cons (pe_fld (pv 0) rfl) pa_nil star_attr)) (pa_cons (pe_callTy call_tuple_of rfl T.z_tuple PyProof.Rows.boot_tuple (pa_cons (pe_fld (pv 0) rfl) pa_nil star_attr)) (pa_cons (pe_callTy call_tuple_of rfl T.z_tuple PyProof.Rows.boot_tuple (pa_cons (pv 1) pa_nil star_name)) pa_nil star_call) star_call) star_call))))), ?_⟩
  refine ⟨_, rfl, p, _, dx, _, _, rfl, D.ob, T.dt.cl, no _ (by simp), lk_hands, h, rfl, ⟨_, SqL.of D.ha⟩, ?_⟩
  refine comp_listG (xs := [.ref t]) (fun i ys H' => Same H H' ∧ RelDs H' ys (List.replicate i (.tup [.str nm, .tup ds, .tup es]))) ⟨Same.refl _, rfl⟩ (fitsLt (by show 1 ≤ 4000000; decide)) (fun i ys H' _ z => SqL.of (z.1 _ _ D.ha)) ?_ ?_
  · rintro i x ys H1 hx hi hl ⟨s1, ry⟩
    obtain rfl : i = 0 := by simpa using hi
    obtain rfl : x = .ref t := by simpa using hx.symm
    obtain rfl : ys = [] := List.eq_nil_of_length_eq_zero (by omega)
    refine ⟨t, _, rfl, SqT.of (s1 _ _ ht), rfl, _, _, rfl, _, _, rfl, _, _, rfl, rfl, ext3 rfl rfl rfl, yes_go ?_⟩
    refine ⟨_, rfl, _, rfl, b, _, rfl, .inl ⟨SqL.of (s1 _ _ hb), fun u hu => ?_⟩⟩
    have t1 := Same.new hu (.tup bs)
    refine ⟨_, rfl, r, _, rfl, .inl ⟨SqL.of (t1 _ _ (s1 _ _ hrr)), fun u2 hu2 => ?_⟩⟩
    have t2 := Same.new hu2 (.tup rs)
    refine ⟨(by show 3 ≤ sizeLine; decide), fun u3 hu3 => ?_⟩
    have t3 := Same.new hu3 (.tup [.str nm, .ref u, .ref u2])
    have s4 := s1.trans (t1.trans (t2.trans t3))
    refine nxtG hi hl ⟨s4, .ref u3, [], rfl, ⟨u3, _, rfl, upd_same, _, _, rfl, rfl, _, _, rfl, ⟨u, _, rfl, t3 _ _ (t2 _ _ upd_same), rb.same s4 _⟩, _, _, rfl, ⟨u2, _, rfl, t3 _ _ upd_same, rr.same s4 _⟩, rfl⟩, rfl⟩
  · rintro ys H1 hl ⟨s1, ry⟩ l hl0
    have t0 := Same.new hl0 (.lst ys)
    have s2 := s1.trans t0
    have D2 := D.same s2
    refine ⟨_, rfl, p, _, dx, _, _, rfl, D2.ob, T.dt.cl, no _ (by simp), lk_kinds, k, _, rfl, .inl ⟨SqL.of D2.ki, fun u hu => ?_⟩⟩
    have t1 := Same.new hu (.tup [])
    have D3 := D2.same t1
    refine ⟨_, rfl, p, _, dx, _, _, rfl, D3.ob, T.dt.cl, no _ (by simp), lk_channels, c, _, rfl, .inl ⟨SqL.of D3.ch, fun u2 hu2 => ?_⟩⟩
    have t2 := Same.new hu2 (.tup [])
    refine ⟨_, rfl, l, _, rfl, .inl ⟨SqL.of (t2 _ _ (t1 _ _ upd_same)), fun u3 hu3 => ?_⟩⟩
    have t3 := Same.new hu3 (.tup ys)
    refine ⟨(by show 3 ≤ sizeLine; decide), fun u4 hu4 => ?_⟩
    have t4 := Same.new hu4 (.tup [.ref u, .ref u2, .ref u3])
    have s5 := s2.trans (t1.trans (t2.trans (t3.trans t4)))
    exact q _ _ s5 ⟨u4, _, rfl, upd_same, _, _, rfl, ⟨u, _, rfl, t4 _ _ (t3 _ _ (t2 _ _ upd_same)), rfl⟩, _, _, rfl, ⟨u2, _, rfl, t4 _ _ (t3 _ _ upd_same), rfl⟩, _, _, rfl, ⟨u3, _, rfl, t4 _ _ upd_same, ry.same (t0.trans (t1.trans (t2.trans (t3.trans t4)))) _⟩, rfl⟩
end
end K7

end

section
set_option Elab.async false
set_option linter.all false
set_option maxRecDepth 100000
set_option maxHeartbeats 4000000
namespace K7
open PySem L2 M
seal L2.PE L2.PA L2.PS L2.PSs L2.PT L2.PW L2.PI L2.PG L2.PJ L2.PTs
/-- BadText of the row i, raised, whatever it came behind -/
def BadC (K : PySem.W.Frag) (H : Hp) (v : Value) (d : Option Addr) (i : Int) : Prop := ∃ x dx c2, v = .ref x ∧ d = some dx ∧ H x = some (excF x (cAt K 0) (some dx) c2) ∧ H dx = some (.xd [("at", .int i)])
theorem Bad.c {K : PySem.W.Frag} {H : Hp} {v : Value} {d : Option Addr} {i : Int} (h : Bad K H v d i) : BadC K H v d i := by
  obtain ⟨x, dx, e1, e2, e3, e4⟩ := h
  exact ⟨x, dx, _, e1, e2, e3, e4⟩
/-- a make of one hand, its last row ws -/
def spRead (m : Nat) (K : PySem.W.Frag) : Sp := fun vs H Q E => ∃ (x nm line : Str) (ws : List Str), vs = [.str x] ∧ x ≠ S "" ∧ x.length ≤ 1000000 ∧ Name nm ∧ Txt.split x (S "\n") = [S "hand" ++ S " " ++ nm, S "box" ++ S " " ++ (nm ++ S " " ++ S "num"), S "end", line] ∧ line.length ≤ 1000000 ∧ Txt.split line (S " ") = ws ∧
  ((∃ d, RowG m ws d ∧ ∀ v H', Same H H' → RelD H' v (dMade nm [.tup [.str nm, .str (S "num")]] [.tup [.str (S "end")], d]) → Q v H') ∨
   (RowBad ws ∧ ∀ v d H', Same H H' → BadC K H' v d 3 → E v d H'))
theorem rowG_head {m : Nat} {ws : List Str} {d : D} (h : RowG m ws d) : ∃ hd tl, ws = hd :: tl ∧ hd ≠ S "rec" ∧ hd ≠ S "alt" ∧ hd ≠ S "channel" ∧ hd ≠ S "hand" := by
  rcases h with ⟨e, _⟩ | ⟨ys, _, e, _⟩ | ⟨x, ys, _, e, _⟩ | ⟨ys, _, e, _⟩
  · exact ⟨_, _, e, by decide +kernel, by decide +kernel, by decide +kernel, by decide +kernel⟩
  · exact ⟨_, _, e, by decide +kernel, by decide +kernel, by decide +kernel, by decide +kernel⟩
  · exact ⟨_, _, e, by decide +kernel, by decide +kernel, by decide +kernel, by decide +kernel⟩
  · exact ⟨_, _, e, by decide +kernel, by decide +kernel, by decide +kernel, by decide +kernel⟩
theorem rowBad_head {ws : List Str} (h : RowBad ws) : ∃ hd tl, ws = hd :: tl ∧ hd ≠ S "rec" ∧ hd ≠ S "alt" ∧ hd ≠ S "channel" ∧ hd ≠ S "hand" := by
  rcases h with ⟨ys, e, _⟩ | ⟨x, ys, e, _⟩ | ⟨ys, e, _⟩
  · exact ⟨_, _, e, by decide +kernel, by decide +kernel, by decide +kernel, by decide +kernel⟩
  · exact ⟨_, _, e, by decide +kernel, by decide +kernel, by decide +kernel, by decide +kernel⟩
  · exact ⟨_, _, e, by decide +kernel, by decide +kernel, by decide +kernel, by decide +kernel⟩
/-- the hand that is read: its boxes, its rows -/
structure Hd (K : PySem.W.Frag) (H0 H : Hp) (p dx k c h t b r : Addr) (nm : Str) (bs rs : List V) (ds es : List D) : Prop where
  dr : Dr K H p dx k c h [.ref t]
  tu : H t = some (.tup [.str nm, .ref b, .ref r])
  bo : H b = some (.lst bs)
  ro : H r = some (.lst rs)
  b0 : H0 b = none
  r0 : H0 r = none
  br : b ≠ r
  bh : b ≠ h
  rh : r ≠ h
  bk : b ≠ k
  rk : r ≠ k
  bc : b ≠ c
  rc : r ≠ c
  rb : RelDs H bs ds
  rr : RelDs H rs es
  sm : Same H0 H
section
variable {P : Program} {w : World} {K : PySem.W.Frag} {mg : Str → Option Value} {base : Heap} {n m : Nat}
theorem Hd.same {H0 H H' : Hp} {p dx k c h t b r : Addr} {nm : Str} {bs rs : List V} {ds es : List D} (G : Hd K H0 H p dx k c h t b r nm bs rs ds es) (s : Same H H') : Hd K H0 H' p dx k c h t b r nm bs rs ds es :=
  ⟨G.dr.same s, s _ _ G.tu, s _ _ G.bo, s _ _ G.ro, G.b0, G.r0, G.br, G.bh, G.rh, G.bk, G.rk, G.bc, G.rc, G.rb.same s _, G.rr.same s _, G.sm.trans s⟩
theorem sb_tups {a : Addr} {H H' : Hp} {us : List V} (h : SameBut a H H') (ha : H a = some (.lst us)) : ∀ b vs, H b = some (.tup vs) → H' b = some (.tup vs) := fun b vs e => h b _ e fun z => by rw [z, ha] at e; cases e
theorem Hd.row {H0 H H' : Hp} {p dx k c h t b r : Addr} {nm : Str} {bs rs : List V} {ds es : List D} (G : Hd K H0 H p dx k c h t b r nm bs rs ds es) {v : V} {d : D} (s : SameBut r H H') (hr : H' r = some (.lst (rs ++ [v]))) (rd : RelD H' v d) :
    Hd K H0 H' p dx k c h t b r nm bs (rs ++ [v]) ds (es ++ [d]) := by
  have np : p ≠ r := fun z => by have := G.dr.ob; rw [z, G.ro] at this; cases this
  have nt : t ≠ r := fun z => by have := G.tu; rw [z, G.ro] at this; cases this
  have tu := sb_tups s G.ro
  refine ⟨⟨s _ _ G.dr.ob np, s _ _ G.dr.ki (Ne.symm G.rk), s _ _ G.dr.ch (Ne.symm G.rc), s _ _ G.dr.ha (Ne.symm G.rh)⟩, s _ _ G.tu nt, s _ _ G.bo G.br, hr, G.b0, G.r0, G.br, G.bh, G.rh, G.bk, G.rk, G.bc, G.rc, G.rb.tups tu _, RelDs.append (G.rr.tups tu _) ⟨v, [], rfl, rd, rfl⟩, fun a o e => s _ _ (G.sm _ _ e) fun z => ?_⟩
  rw [z, G.r0] at e; cases e
theorem Hd.box {H0 H H' : Hp} {p dx k c h t b r : Addr} {nm : Str} {bs rs : List V} {ds es : List D} (G : Hd K H0 H p dx k c h t b r nm bs rs ds es) {v : V} {d : D} (s : SameBut b H H') (hb : H' b = some (.lst (bs ++ [v]))) (rd : RelD H' v d) :
    Hd K H0 H' p dx k c h t b r nm (bs ++ [v]) rs (ds ++ [d]) es := by
  have np : p ≠ b := fun z => by have := G.dr.ob; rw [z, G.bo] at this; cases this
  have nt : t ≠ b := fun z => by have := G.tu; rw [z, G.bo] at this; cases this
  have tu := sb_tups s G.bo
  refine ⟨⟨s _ _ G.dr.ob np, s _ _ G.dr.ki (Ne.symm G.bk), s _ _ G.dr.ch (Ne.symm G.bc), s _ _ G.dr.ha (Ne.symm G.bh)⟩, s _ _ G.tu nt, hb, s _ _ G.ro (Ne.symm G.br), G.b0, G.r0, G.br, G.bh, G.rh, G.bk, G.rk, G.bc, G.rc, RelDs.append (G.rb.tups tu _) ⟨v, [], rfl, rd, rfl⟩, G.rr.tups tu _, fun a o e => s _ _ (G.sm _ _ e) fun z => ?_⟩
  rw [z, G.b0] at e; cases e
/-- how it stands behind so many rows -/
def Stage (K : PySem.W.Frag) (H0 : Hp) (p dx k c h : Addr) (nm : Str) (d : D) : Nat → Hp → Prop
  | 0, H => Dr K H p dx k c h [] ∧ Same H0 H
  | 1, H => ∃ t b r, Hd K H0 H p dx k c h t b r nm [] [] [] []
  | 2, H => ∃ t b r bs, Hd K H0 H p dx k c h t b r nm bs [] [.tup [.str nm, .str (S "num")]] [] ∧ bs.length = 1
  | 3, H => ∃ t b r bs rs, Hd K H0 H p dx k c h t b r nm bs rs [.tup [.str nm, .str (S "num")]] [.tup [.str (S "end")]] ∧ bs.length = 1 ∧ rs.length = 1
  | _, H => ∃ t b r bs rs, Hd K H0 H p dx k c h t b r nm bs rs [.tup [.str nm, .str (S "num")]] [.tup [.str (S "end")], d]
theorem Stage.same {H0 H H' : Hp} {p dx k c h : Addr} {nm : Str} {d : D} : ∀ {i : Nat}, Stage K H0 p dx k c h nm d i H → Same H H' → Stage K H0 p dx k c h nm d i H'
  | 0, ⟨D, s0⟩, s => ⟨D.same s, s0.trans s⟩
  | 1, ⟨t, b, r, G⟩, s => ⟨t, b, r, G.same s⟩
  | 2, ⟨t, b, r, bs, G, e⟩, s => ⟨t, b, r, bs, G.same s, e⟩
  | 3, ⟨t, b, r, bs, rs, G, e⟩, s => ⟨t, b, r, bs, rs, G.same s, e⟩
  | _ + 4, ⟨t, b, r, bs, rs, G⟩, s => ⟨t, b, r, bs, rs, G.same s⟩
theorem Stage.sm {H0 H : Hp} {p dx k c h : Addr} {nm : Str} {d : D} : ∀ {i : Nat}, Stage K H0 p dx k c h nm d i H → Same H0 H
  | 0, ⟨_, s0⟩ => s0
  | 1, ⟨t, b, r, G⟩ => G.sm
  | 2, ⟨t, b, r, bs, G, e⟩ => G.sm
  | 3, ⟨t, b, r, bs, rs, G, e⟩ => G.sm
  | _ + 4, ⟨t, b, r, bs, rs, G⟩ => G.sm
end
end K7

end

section
set_option Elab.async false
set_option linter.all false
set_option maxRecDepth 100000
set_option maxHeartbeats 4000000
namespace L2
open PySem PySem.Spec PyProof.Rows
section
variable {X : Cx} {K : PySem.W.Frag} {T : String} {name : Str} {id : String} {r : V → List V → Hp → VK → Prop} {o e : Expr} {es : List Expr} {to : TE} {t : TA} {apos cpos : Pos}
/-- within a try: what stands of K may not hang on the block's own context -/
theorem pe_bmK (hK : X.K = K) (pa : PlainAttrs T) (slot : Slot T name id) (hty : typeOf (.builtin id) = pure (.type "method_descriptor")) (hm : MtR X id r) (ho : PE X o to) (ha : PA X (e :: es) t)
    (hbase : attributeBase o name X.env (eval o X.env) = eval o X.env := by rfl)
    (hfew : ((backTo cpos (starEach (e :: es) X.env)).all (fun x => !x.1) && (backToKw cpos (keywordEach [] X.env)).all (fun x => x.1.isSome)
      && decide ((e :: es).length + ([] : List Keyword).length + (if ([] : List Keyword).isEmpty then 0 else 1) < 30)) = true := by rfl)
    (hline : (apos.endLine == cpos.line) = true := by rfl) (hs : starEach (e :: es) X.env = (false, eval e X.env) :: starEach es X.env := by rfl) (hplain : (backTo cpos (starEach es X.env)).any (·.1) = false := by rfl) :
    PE X (.Call (.Attribute o name apos) (e :: es) [] cpos) (tBM K T r to t) := by
  subst hK
  exact pe_bm pa slot hty hm ho ha hbase hfew hline hs hplain
end
theorem excF_ctx {e C C' : Addr} {d d' : Option Addr} {c c' : Value} (h : excF e C d c = excF e C' d' c') : c = c' := by
  unfold excF at h
  injection h with h
  let o : Obj := { cls := .ref C, dict := d, data := .fields #[.none, .none, c, .none, .none, .none] }
  let hp : Heap := { objs := Array.replicate (e + 1) o }
  have hg : hp.get? e = some o := by
    unfold Heap.get?
    have : hp.objs[e]? = some o := by
      show (Array.replicate (e + 1) o)[e]? = some o
      simp
    rw [this]
  have h1 := congrFun h hp
  have h2 : ∃ vs : Array Value, (vs.size = 6 ∧ vs[2]? = some c) ∧ hp.get? e = some { cls := .ref C, dict := d, data := .fields vs } := ⟨_, ⟨rfl, rfl⟩, hg⟩
  rw [h1] at h2
  obtain ⟨vs, ⟨_, hv⟩, h3⟩ := h2
  rw [hg] at h3
  have h4 := Option.some.inj h3
  have h5 : Data.fields #[.none, .none, c, .none, .none, .none] = Data.fields vs := congrArg Obj.data h4
  injection h5 with h5
  rw [← h5] at hv
  exact Option.some.inj hv
end L2
namespace K7
open PySem L2 M
seal L2.PE L2.PA L2.PS L2.PSs L2.PT L2.PW L2.PI L2.PG L2.PJ L2.PTs
section
variable {P : Program} {w : World} {K : PySem.W.Frag} {mg : Str → Option Value} {base : Heap} {n m : Nat}
theorem ok_read (T : Tx K mg) (D_dinit : InitIs P w K mg base n (ad K "Draft") ["self"] (spDInit K)) (D_initQ : InitQ P w K mg base n (cAt K 0) ["self", "at"] (spInit K)) (D_rows_in : DefIs P w K mg base (n + 1) "rows_in" ["text"] spRows)
    (D_put_row : DefXs P w K mg base (n + 1) "put_row" ["draft", "words"] (spPutRow m K)) (D_made : DefIs P w K mg base (n + 1) "made" ["draft"] (spMade K)) : DefXs P w K mg base (n + 2) "read" ["text"] (spRead m K) := by
  refine DefXs.of T.d_read sc_read (fun vs H Q E h => ?_) (fun f cdv A outer s H vs Q E hr h => ?_)
  · obtain ⟨_, _, _, _, rfl, _⟩ := h
    rfl
  obtain ⟨x, nm, line, ws, rfl, hne, hxl, hn, hsp, hll, hws, h⟩ := h
  have nd := sc_read.nd
  have hnl : nm.length ≤ 6 := by
    have := hn.le
    rw [Array.length_toList] at this
    exact this
  obtain ⟨d, hq⟩ : ∃ d, (RowG m ws d ∧ ∀ v H', Same H H' → RelD H' v (dMade nm [.tup [.str nm, .str (S "num")]] [.tup [.str (S "end")], d]) → Q v H') ∨ (RowBad ws ∧ ∀ v d H', Same H H' → BadC K H' v d 3 → E v d H') := by
    rcases h with ⟨d, h1, h2⟩ | h
    · exact ⟨d, .inl ⟨h1, h2⟩⟩
    · exact ⟨.int 0, .inr h⟩
  clear h
  refine ⟨_, (pss_cons (ps_set (i := 1) nd rfl (by first | exact Or.inl rfl | exact Or.inr rfl) (pe_dmake D_dinit T.dt hr T.c_Draft))
      (pss_cons (ps_for (thr_ownT rfl rfl) rfl (pi_enum rfl T.z_enumerate (pa_cons (pe_dcall D_rows_in hr (pa_cons (pv 0) pa_nil star_name)) pa_nil star_call)) (pg_tup rfl (pgs_cons (pg_name (i := 2) nd rfl (by first | exact Or.inl rfl | exact Or.inr rfl)) (pgs_cons (pg_name (i := 3) nd rfl (by first | exact Or.inl rfl | exact Or.inr rfl)) pgs_nil)))
      (pss_one (ps_tryRe rfl rfl rfl T.c_BadText (T.xt.cl 0 (by decide)).obj (fun pn Es => (pss_one (ps_expr (pe_xcall D_put_row hr (pa_cons (pv 1) (pa_cons (pe_bmK (K := K) rfl PySem.F.plainAttrs_str PySem.F.slot_str_split PySem.F.type_str_split mt_split (pv 3) (pa_cons pe_str pa_nil star_const)) pa_nil star_call) star_name))))) (fun e => (pe_excQ D_initQ (T.xt.cl 0 (by decide)) (RoomQ.mark hr.q _) T.c_BadText (pa_cons (pv 2) pa_nil star_name))))))
      (pss_one (ps_ret (pe_dcall D_made hr (pa_cons (pv 1) pa_nil star_name)))))), ?_⟩
  refine fun p dx hp hdx ndp => ⟨p, dx, rfl, upd_same, fun H1 k c h sb e1 e2 e3 e4 hk hc hh kc kh ch => ⟨rfl, ?_⟩⟩
  have s0 : Same H (upd (upd H dx (.own p)) p (.ins (ad K "Draft") dx [])) := fun a o e => by
    rw [upd_ne (ne_of_none e hp), upd_ne (ne_of_none e hdx)]; exact e
  have s1 : Same H H1 := fun a o e => sb a o (s0 a o e) (ne_of_none e hp)
  have h0 : H h = none := none_of_same s0 hh
  have D1 : Dr K H1 p dx k c h [] := ⟨e1, e2, e3, e4⟩
  refine ⟨_, rfl, x, rfl, hne, by omega, fun l hl => ⟨l, rfl, ⟨_, SqL.of upd_same⟩, ?_⟩⟩
  rw [hsp]
  obtain ⟨rows, hrows⟩ : ∃ rows : List Str, rows = [S "hand" ++ S " " ++ nm, S "box" ++ S " " ++ (nm ++ S " " ++ S "num"), S "end", line] := ⟨_, rfl⟩
  rw [← hrows]
  obtain ⟨H2, hH2⟩ : ∃ H2, H2 = upd H1 l (.lst (rows.map V.str)) := ⟨_, rfl⟩
  rw [← hH2]
  have t2 : Same H1 H2 := by rw [hH2]; exact Same.new hl _
  have hl2 : H2 l = some (.lst (rows.map V.str)) := by rw [hH2]; exact upd_same
  have D2 := D1.same t2
  have lh : l ≠ h := fun z => by rw [z, e4] at hl; cases hl
  obtain ⟨H0, hH0⟩ : ∃ H0, H0 = hide [h] H2 := ⟨_, rfl⟩
  have H0h : H0 h = none := by
    cases e : H0 h with
    | none => rfl
    | some o => rw [hH0] at e; exact absurd (List.mem_singleton.mpr rfl) (hide_get.mp e).1
  have s02 : Same H0 H2 := fun a o e => by rw [hH0] at e; exact (hide_get.mp e).2
  have sH : Same H H0 := fun a o e => by
    rw [hH0]
    exact hide_get.mpr ⟨by simpa using ne_of_none e h0, t2 _ _ (s1 _ _ e)⟩
  have l0 : H0 l = some (.lst (rows.map V.str)) := by rw [hH0]; exact hide_get.mpr ⟨by simpa using lh, hl2⟩
  refine for_enum (xs := rows.map V.str) (fun i σ H' => ∃ o2 o3, σ = [some (.str x), some (.ref p), o2, o3] ∧ Stage K H0 p dx k c h nm d i H' ∧ (4 ≤ i → ∀ v H', Same H H' → RelD H' v (dMade nm [.tup [.str nm, .str (S "num")]] [.tup [.str (S "end")], d]) → Q v H'))
    ⟨_, _, rfl, ⟨D2, s02⟩, fun z => absurd z (by decide)⟩ ?_ ?_ ?_
  · rintro i σ H' _ ⟨_, _, _, st, _⟩
    exact SqL.of (st.sm _ _ l0)
  · rintro i z σ H3 p3 hz ⟨o2, o3, rfl, st, hg⟩ hp3
    have st4 := st.same (Same.new hp3 (.tup [.int (i : Nat), z]))
    clear st
    refine ⟨p3, _, rfl, SqT.of upd_same, rfl, _, _, rfl, _, _, rfl, rfl, ?_⟩
    generalize upd H3 p3 (.tup [.int (i : Nat), z]) = H4 at st4 ⊢
    match i, hz, st4 with
    | 0, hz, st4 =>
      obtain rfl : z = .str (S "hand" ++ S " " ++ nm) := by rw [hrows] at hz; exact (Option.some.inj hz).symm
      refine ⟨fun _ _ _ _ => False, ⟨_, rfl, _, rfl, rfl, _, S " ", rfl, rfl, (by decide +kernel), fits ?_, fun a ha => ?_⟩, fun _ _ _ _ _ _ z => z.elim⟩
      · rw [Str.length_append, Str.length_append]
        have : (S "hand").length = 4 := by decide +kernel
        have : (S " ").length = 1 := by decide +kernel
        omega
      rw [row_hand hn]
      have t5 := Same.new ha (.lst ([S "hand", nm].map V.str))
      have st5 := st4.same t5
      obtain ⟨D5, s5⟩ := st5
      refine ⟨p, a, dx, k, c, h, [], _, rfl, D5, upd_same, .inl ⟨nm, rfl, hn, rfl, fun H6 t b r sb6 f1 f2 f3 f4 b0 r0 br => ?_⟩⟩
      have ph : p ≠ h := fun z => by have := D5.ob; rw [z, D5.ha] at this; cases this
      refine ⟨_, _, rfl, ⟨t, b, r, ⟨sb6 _ _ D5.ob ph, sb6 _ _ D5.ki kh, sb6 _ _ D5.ch ch, f1⟩, f2, f3, f4, none_of_same s5 b0, none_of_same s5 r0, br, Ne.symm (ne_of_none D5.ha b0), Ne.symm (ne_of_none D5.ha r0), Ne.symm (ne_of_none D5.ki b0), Ne.symm (ne_of_none D5.ki r0), Ne.symm (ne_of_none D5.ch b0), Ne.symm (ne_of_none D5.ch r0), rfl, rfl, fun q o e => sb6 _ _ (s5 _ _ e) (ne_of_none e H0h)⟩, fun z => absurd z (by decide)⟩
    | 1, hz, st4 =>
      obtain rfl : z = .str (S "box" ++ S " " ++ (nm ++ S " " ++ S "num")) := by rw [hrows] at hz; exact (Option.some.inj hz).symm
      refine ⟨fun _ _ _ _ => False, ⟨_, rfl, _, rfl, rfl, _, S " ", rfl, rfl, (by decide +kernel), fits ?_, fun a ha => ?_⟩, fun _ _ _ _ _ _ z => z.elim⟩
      · simp only [Str.length_append]
        have : (S "box").length = 3 := by decide +kernel
        have : (S "num").length = 3 := by decide +kernel
        have : (S " ").length = 1 := by decide +kernel
        omega
      rw [row_box hn]
      have t5 := Same.new ha (.lst ([S "box", nm, S "num"].map V.str))
      obtain ⟨t, b, r, G⟩ := st4.same t5
      refine ⟨p, a, dx, k, c, h, [.ref t], _, rfl, G.dr, upd_same, .inr ⟨t, S "box", [nm, S "num"], rfl, rfl, by decide +kernel, by decide +kernel, by decide +kernel, by decide +kernel, fun H6 s6 => ?_⟩⟩
      have G6 := G.same s6
      refine ⟨t, b, r, a, nm, [], [], _, rfl, G6.tu, G6.bo, G6.ro, s6 _ _ upd_same, Nat.zero_le _, Nat.zero_le _, .inl ⟨nm, rfl, hn, rfl, fun H7 u sb7 g1 g2 => ?_⟩⟩
      exact ⟨_, _, rfl, ⟨t, b, r, _, G6.box sb7 g1 ⟨u, _, rfl, g2, _, _, rfl, rfl, _, _, rfl, rfl, rfl⟩, rfl⟩, fun z => absurd z (by decide)⟩
    | 2, hz, st4 =>
      obtain rfl : z = .str (S "end") := by rw [hrows] at hz; exact (Option.some.inj hz).symm
      refine ⟨fun _ _ _ _ => False, ⟨_, rfl, _, rfl, rfl, _, S " ", rfl, rfl, (by decide +kernel), fits (by show 5 ≤ 4000000; decide), fun a ha => ?_⟩, fun _ _ _ _ _ _ z => z.elim⟩
      rw [row_end]
      have t5 := Same.new ha (.lst ([S "end"].map V.str))
      obtain ⟨t, b, r, bs, G, ebs⟩ := st4.same t5
      refine ⟨p, a, dx, k, c, h, [.ref t], _, rfl, G.dr, upd_same, .inr ⟨t, S "end", [], rfl, rfl, by decide +kernel, by decide +kernel, by decide +kernel, by decide +kernel, fun H6 s6 => ?_⟩⟩
      have G6 := G.same s6
      refine ⟨t, b, r, a, nm, bs, [], _, rfl, G6.tu, G6.bo, G6.ro, s6 _ _ upd_same, by omega, Nat.zero_le _, .inr (.inl ⟨_, .inl ⟨rfl, rfl⟩, fun H7 v sb7 g1 g2 => ?_⟩)⟩
      exact ⟨_, _, rfl, ⟨t, b, r, _, _, G6.row sb7 g1 g2, ebs, rfl⟩, fun z => absurd z (by decide)⟩
    | 3, hz, st4 =>
      obtain rfl : z = .str line := by rw [hrows] at hz; exact (Option.some.inj hz).symm
      rcases hq with ⟨hG, q⟩ | ⟨hB, q⟩
      · refine ⟨fun _ _ _ _ => False, ⟨_, rfl, _, rfl, rfl, _, S " ", rfl, rfl, (by decide +kernel), fits (by omega), fun a ha => ?_⟩, fun _ _ _ _ _ _ z => z.elim⟩
        rw [hws]
        have t5 := Same.new ha (.lst (ws.map V.str))
        obtain ⟨t, b, r, bs, rs, G, ebs, ers⟩ := st4.same t5
        obtain ⟨hd, tl, ew, n1, n2, n3, n4⟩ := rowG_head hG
        refine ⟨p, a, dx, k, c, h, [.ref t], _, rfl, G.dr, upd_same, .inr ⟨t, hd, tl, rfl, ew, n1, n2, n3, n4, fun H6 s6 => ?_⟩⟩
        have G6 := G.same s6
        refine ⟨t, b, r, a, nm, bs, rs, ws, rfl, G6.tu, G6.bo, G6.ro, s6 _ _ upd_same, by omega, by omega, .inr (.inl ⟨d, hG, fun H7 v sb7 g1 g2 => ?_⟩)⟩
        exact ⟨_, _, rfl, ⟨t, b, r, _, _, G6.row sb7 g1 g2⟩, fun _ => q⟩
      · refine ⟨fun v d' σ' H' => σ' = [some (.str x), some (.ref p), some (.int 3), some (.str line)] ∧ Same H H' ∧ Bad K H' v d' 0, ⟨_, rfl, _, rfl, rfl, _, S " ", rfl, rfl, (by decide +kernel), fits (by omega), fun a ha => ?_⟩, ?_⟩
        · rw [hws]
          have t5 := Same.new ha (.lst (ws.map V.str))
          obtain ⟨t, b, r, bs, rs, G, ebs, ers⟩ := st4.same t5
          obtain ⟨hd, tl, ew, n1, n2, n3, n4⟩ := rowBad_head hB
          refine ⟨p, a, dx, k, c, h, [.ref t], _, rfl, G.dr, upd_same, .inr ⟨t, hd, tl, rfl, ew, n1, n2, n3, n4, fun H6 s6 => ?_⟩⟩
          have G6 := G.same s6
          refine ⟨t, b, r, a, nm, bs, rs, ws, rfl, G6.tu, G6.bo, G6.ro, s6 _ _ upd_same, by omega, by omega, .inr (.inr ⟨hB, fun v d' H7 s7 bd => ⟨rfl, sH.trans (G6.sm.trans s7), bd⟩⟩)⟩
        · rintro y C d' c2 σ' H7 ⟨rfl, s7, y', dy, ey, rfl, hy, hdy⟩ hy2
          cases ey
          rw [hy] at hy2
          obtain ⟨rfl, -⟩ := excF_inj (Option.some.inj hy2)
          obtain rfl := excF_ctx (Option.some.inj hy2)
          clear hy2
          refine ⟨T.xt.cl 0 (by decide), T.mr0, rfl, ?_⟩
          refine ⟨_, rfl, (by show 1 ≤ sizeLine; decide), fun e he => ⟨e, 3, rfl, upd_same, by decide, by decide, fun H8 de sb8 g1 g2 => ⟨rfl, e, cAt K 0, some de, rfl, g1, ?_, ?_, T.xt.cl 0 (by decide), ?_⟩⟩⟩
          · exact Ne.symm (ne_of_none hy he)
          · exact sb8 _ _ (Same.new he _ _ _ hy) (ne_of_none hy he)
          · have ne : de ≠ e := fun z => by rw [z, g1] at g2; cases g2
            refine q _ _ _ (fun a o ea => ?_) ⟨e, de, _, rfl, rfl, upd_same, by rw [upd_ne ne]; exact g2⟩
            have na : a ≠ e := ne_of_none (s7 _ _ ea) he
            rw [upd_ne na]
            exact sb8 _ _ (Same.new he _ _ _ (s7 _ _ ea)) na
    | i + 4, hz, st4 =>
      have := (List.getElem?_eq_some_iff.mp hz).1
      rw [hrows] at this
      simp at this
      omega
  · rintro σ H3 ⟨o2, o3, rfl, st, hg⟩
    have e4' : (rows.map V.str).length = 4 := by rw [hrows]; rfl
    rw [e4'] at st hg
    obtain ⟨t, b, r, bs, rs, G⟩ := st
    refine ⟨_, rfl, p, dx, k, c, h, t, b, r, nm, bs, rs, _, _, rfl, G.dr, G.tu, G.bo, G.ro, G.rb, G.rr, fun v H' s' rd => ?_⟩
    exact hg (Nat.le_refl _) v H' (sH.trans (G.sm.trans s')) rd
end
end K7

end

section
set_option Elab.async false
set_option linter.all false
set_option maxRecDepth 100000
set_option maxHeartbeats 4000000
namespace L2
open PySem PySem.Spec PyProof.Rows
theorem pe_fldFK {X : Cx} {K : PySem.W.Frag} {o : Expr} {fl : Str} {pos : Pos} {ta : TE} (hK : X.K = K) (he : PE X o ta) (hb : attributeBase o fl X.env (eval o X.env) = eval o X.env) : PE X (.Attribute o fl pos) (tFldF K ta fl) := by
  subst hK
  exact pe_fldF he hb
theorem call_isinstFK {X : Cx} {K : PySem.W.Frag} (hK : X.K = K) : CallR X (.builtin "isinstance") (fun xs H Q => ∃ a C dx c2 y c b, xs = [.ref a, y] ∧ (∀ u, RelV y u → u = c) ∧ H a = some (excF a C dx c2) ∧ (∀ d, dx = some d → ∃ fs, H d = some (.xd fs)) ∧ XCl K C ∧
    PySem.W.kitOne K (.ref C) c = some b ∧ Q (.bl b) H) := by
  subst hK
  exact call_isinstF
theorem call_isinstFTK {X : Cx} {K : PySem.W.Frag} (hK : X.K = K) : CallR X (.builtin "isinstance") (fun xs H Q => ∃ (a C : Addr) (dx : Option Addr) (c2 : Value) (tp : Addr) (cs : List Addr) (b : Bool), xs = [.ref a, .ref tp] ∧ H tp = some (.tup (cs.map V.ref)) ∧ H a = some (excF a C dx c2) ∧ (∀ d, dx = some d → ∃ fs, H d = some (.xd fs)) ∧ XCl K C ∧
    PySem.W.kitAny K (.ref C) (cs.map Value.ref) = some b ∧ Q (.bl b) H) := by
  subst hK
  exact call_isinstFT
end L2
namespace K7
open PySem L2 M
seal L2.PE L2.PA L2.PS L2.PSs L2.PT L2.PW L2.PI L2.PG L2.PJ L2.PTs
theorem only (a : Addr) : ∀ u, RelV (.ref a) u → u = Value.ref a := fun _ h => h
def spTO (m : Nat) (K : PySem.W.Frag) : Sp := fun vs H Q E => spTermG m vs H Q E ∨ spTermBad K vs H Q E
/-- the text of a make of one hand -/
structure Whole (x nm line : Str) (ws : List Str) : Prop where
  ne : x ≠ S ""
  len : x.length ≤ 1000000
  name : Name nm
  rows : Txt.split x (S "\n") = [S "hand" ++ S " " ++ nm, S "box" ++ S " " ++ (nm ++ S " " ++ S "num"), S "end", line]
  short : line.length ≤ 1000000
  words : Txt.split line (S " ") = ws
def FGood (m : Nat) (wh : Int) (x : Str) (d : D) : Prop := (wh = 0 ∧ ∃ t, L x = t.cs ∧ T2 m d t ∧ t.nest ≤ 20 ∧ x.length ≤ 3000000) ∨ (wh = 1 ∧ ∃ nm line ws e, Whole x nm line ws ∧ RowG m ws e ∧ d = dMade nm [.tup [.str nm, .str (S "num")]] [.tup [.str (S "end")], e])
def FBad (wh : Int) (x : Str) (i : Int) : Prop := (wh = 0 ∧ i = 0 ∧ x.length ≤ 3000000 ∧ runs x = none) ∨ (wh = 1 ∧ i = 3 ∧ ∃ nm line ws, Whole x nm line ws ∧ RowBad ws)
def spFound (m : Nat) : Sp := fun vs H Q _ => ∃ (wh : Int) (x : Str), vs = [.int wh, .str x] ∧
  ((∃ d, FGood m wh x d ∧ ∀ a v H', Same H H' → H' a = some (.tup [v, .int (-1)]) → RelD H' v d → Q (.ref a) H') ∨ (∃ i, FBad wh x i ∧ ∀ a H', Same H H' → H' a = some (.tup [.bl false, .int i]) → Q (.ref a) H'))
section
variable {P : Program} {w : World} {K : PySem.W.Frag} {mg : Str → Option Value} {base : Heap} {n m : Nat}
theorem kit10 (T : Tx K mg) : PySem.W.kitAny K (.ref (cAt K 0)) ([cAt K 7, cAt K 5, cAt K 10, cAt K 3, cAt K 9, cAt K 2, cAt K 6, cAt K 8, cAt K 1, cAt K 4].map Value.ref) = some false := by
  refine kit_none fun v hv => ?_
  have hj : ∃ j, j < 11 ∧ v = .ref (cAt K j) ∧ 0 ≠ j := by
    simp only [List.map_cons, List.map_nil, List.mem_cons, List.not_mem_nil, or_false] at hv
    rcases hv with h | h | h | h | h | h | h | h | h | h
    · exact ⟨7, by decide, h, by omega⟩
    · exact ⟨5, by decide, h, by omega⟩
    · exact ⟨10, by decide, h, by omega⟩
    · exact ⟨3, by decide, h, by omega⟩
    · exact ⟨9, by decide, h, by omega⟩
    · exact ⟨2, by decide, h, by omega⟩
    · exact ⟨6, by decide, h, by omega⟩
    · exact ⟨8, by decide, h, by omega⟩
    · exact ⟨1, by decide, h, by omega⟩
    · exact ⟨4, by decide, h, by omega⟩
  obtain ⟨j, h1, rfl, h3⟩ := hj
  rw [T.xt.kit 0 j (by omega) h1, decide_eq_false h3]
theorem ok__law_found (T : Tx K mg) (D_term_of : DefXs P w K mg base n "term_of" ["text"] (spTO m K)) (D_read : DefXs P w K mg base n "read" ["text"] (spRead m K)) : DefIs P w K mg base (n + 1) "_law_found" ["_law_which", "_law_text"] (spFound m) := by
  refine DefIs.of T.d__law_found sc__law_found (fun vs H Q E h => ?_) (fun f cdv A outer s H vs Q E hr h => ?_)
  · obtain ⟨_, _, rfl, _⟩ := h
    rfl
  obtain ⟨wh, x, rfl, h⟩ := h
  have nd := sc__law_found.nd
  refine ⟨_, (pss_cons (ps_set (i := 2) nd rfl (by first | exact Or.inl rfl | exact Or.inr rfl) pe_non)
      (pss_cons (ps_set (i := 3) nd rfl (by first | exact Or.inl rfl | exact Or.inr rfl) (pe_un un_neg pe_int))
      (pss_cons (ps_tryAs (i := 4) rfl rfl nd rfl rfl T.c_BadText (T.xt.cl 0 (by decide)).obj (fun pn Es => (pss_one (ps_if (pt_cmpR op_eq (pv 0) pe_int (nomark _)) (pss_one (ps_set (i := 2) nd rfl (by first | exact Or.inl rfl | exact Or.inr rfl) (pe_xcall D_term_of hr (pa_cons (pv 1) pa_nil star_name)))) (pss_one (ps_set (i := 2) nd rfl (by first | exact Or.inl rfl | exact Or.inr rfl) (pe_xcall D_read hr (pa_cons (pv 1) pa_nil star_name))))))) (fun e => (pss_cons (ps_set (i := 2) nd rfl (by first | exact Or.inl rfl | exact Or.inr rfl) (pe_callB (call_isinstFTK (K := K) rfl) rfl T.z_isinstance PyProof.Rows.boot_isinstance (pa_cons (pv 4) (pa_cons (pe_tup (pa_cons (pe_gref T.c_Falls) (pa_cons (pe_gref T.c_Lacks) (pa_cons (pe_gref T.c_NoCode) (pa_cons (pe_gref T.c_NoCount) (pa_cons (pe_gref T.c_NoFit) (pa_cons (pe_gref T.c_NoName) (pa_cons (pe_gref T.c_NotOwn) (pa_cons (pe_gref T.c_TooBig) (pa_cons (pe_gref T.c_Twice) (pa_cons (pe_gref T.c_WrongKind) pa_nil star_name) star_name) star_name) star_name) star_name) star_name) star_name) star_name) star_name) star_name)) pa_nil star_tup) star_name)))
      (pss_one (ps_if (PW.pt (pw_and (pt_val (pe_callB (call_isinstFK (K := K) rfl) rfl T.z_isinstance PyProof.Rows.boot_isinstance (pa_cons (pv 4) (pa_cons (pe_gref T.c_SwapError) pa_nil star_name) star_name))) (pw_and1 (pt_val (pe_callB (call_isinstFK (K := K) rfl) rfl T.z_isinstance PyProof.Rows.boot_isinstance (pa_cons (pv 4) (pa_cons (pe_gty T.z_ValueError boot_VE) pa_nil star_name) star_name)))))) (pss_one (ps_set (i := 3) nd rfl (by first | exact Or.inl rfl | exact Or.inr rfl) (pe_fldFK (K := K) rfl (pv 4) rfl))) pss_nil)))))
      (pss_one (ps_ret (pe_tup (pa_cons (pv 2) (pa_cons (pv 3) pa_nil star_name) star_name))))))), ?_⟩
  refine ⟨1, rfl, ?_⟩
  rcases h with ⟨d, hg, q⟩ | ⟨i, hb, q⟩
  · refine ⟨fun _ _ _ _ => False, ?_, fun _ _ _ _ _ _ z => z.elim⟩
    rcases hg with ⟨rfl, t, h1, h2, h3, h4⟩ | ⟨rfl, nm, line, ws, e, W, hG, rfl⟩
    · refine ⟨_, rfl, rfl, _, rfl, iteKT (by decide +kernel) ?_⟩
      refine ⟨_, rfl, .inl ⟨x, d, t, rfl, h1, h2, h3, h4, fun v H1 s1 r1 => ?_⟩⟩
      refine ⟨_, rfl, _, rfl, (by show 2 ≤ sizeLine; decide), fun a ha => ?_⟩
      exact q a v _ (s1.trans (Same.new ha _)) upd_same (r1.same (Same.new ha _) _)
    · refine ⟨_, rfl, rfl, _, rfl, iteKF (by decide +kernel) ?_⟩
      refine ⟨_, rfl, x, nm, line, ws, rfl, W.ne, W.len, W.name, W.rows, W.short, W.words, .inl ⟨e, hG, fun v H1 s1 r1 => ?_⟩⟩
      refine ⟨_, rfl, _, rfl, (by show 2 ≤ sizeLine; decide), fun a ha => ?_⟩
      exact q a v _ (s1.trans (Same.new ha _)) upd_same (r1.same (Same.new ha _) _)
  · refine ⟨fun v d σ' H' => σ' = [some (.int wh), some (.str x), some .non, some (.int (-1)), none] ∧ Same H H' ∧ BadC K H' v d i, ?_, ?_⟩
    · rcases hb with ⟨rfl, rfl, h1, h2⟩ | ⟨rfl, rfl, nm, line, ws, W, hB⟩
      · refine ⟨_, rfl, rfl, _, rfl, iteKT (by decide +kernel) ?_⟩
        exact ⟨_, rfl, .inr ⟨x, rfl, h1, h2, fun v d H1 s1 bd => ⟨rfl, s1, bd.c⟩⟩⟩
      · refine ⟨_, rfl, rfl, _, rfl, iteKF (by decide +kernel) ?_⟩
        exact ⟨_, rfl, x, nm, line, ws, rfl, W.ne, W.len, W.name, W.rows, W.short, W.words, .inr ⟨hB, fun v d H1 s1 bd => ⟨rfl, s1, bd⟩⟩⟩
    · rintro y C d c2 σ' H1 ⟨rfl, s1, y', dy, c3, ey, rfl, hy, hdy⟩ hy2
      cases ey
      rw [hy] at hy2
      obtain ⟨rfl, -⟩ := excF_inj (Option.some.inj hy2)
      clear hy2
      have M := T.xt.cl 0 (by decide)
      refine ⟨M, T.mr0, ?_⟩
      refine ⟨_, rfl, (by show 10 ≤ sizeLine; decide), fun tp htp => ?_⟩
      have t1 := Same.new htp (.tup ([cAt K 7, cAt K 5, cAt K 10, cAt K 3, cAt K 9, cAt K 2, cAt K 6, cAt K 8, cAt K 1, cAt K 4].map V.ref))
      have hy1 := t1 _ _ hy
      have hdy1 := t1 _ _ hdy
      have hd : ∀ d, some dy = some d → ∃ fs, (upd H1 tp (.tup ([cAt K 7, cAt K 5, cAt K 10, cAt K 3, cAt K 9, cAt K 2, cAt K 6, cAt K 8, cAt K 1, cAt K 4].map V.ref))) d = some (.xd fs) := fun d z => by cases z; exact ⟨_, hdy1⟩
      refine ⟨y, cAt K 0, some dy, c3, tp, _, _, rfl, upd_same, hy1, hd, M, kit10 T, ?_⟩
      refine ⟨_, rfl, y, cAt K 0, some dy, c3, _, _, _, rfl, only _, hy1, hd, M, T.xt.kS 0 (by decide), _, rfl, iteT ?_⟩
      refine ⟨_, rfl, y, cAt K 0, some dy, c3, _, _, _, rfl, (fun _ h => h), hy1, hd, M, T.xt.kV 0 (by decide), _, rfl, iteT ?_⟩
      have lk : List.lookup ("at" : Str) [((("at" : Str), V.int i) : Str × V)] = some (V.int i) := by
        simp only [List.lookup_cons]
        rw [show (("at" : Str) == ("at" : Str)) = true by decide +kernel]
      refine ⟨_, rfl, y, cAt K 0, dy, c3, _, .int i, rfl, hy1, hdy1, M, T.xt.na, lk, ?_⟩
      refine ⟨_, rfl, _, rfl, (by show 2 ≤ sizeLine; decide), fun a ha => ?_⟩
      exact q a _ (s1.trans (t1.trans (Same.new ha _))) upd_same
end
end K7

end

section
set_option Elab.async false
set_option linter.all false
set_option maxRecDepth 100000
set_option maxHeartbeats 4000000
namespace K7
open PySem L2 M
seal L2.PE L2.PA L2.PS L2.PSs L2.PT L2.PW L2.PI L2.PG L2.PJ L2.PTs
theorem termW {m : Nat} {x : Str} {d : D} {t : Tr} (hx : L x = t.cs) (h2 : T2 m d t) (hn : t.nest ≤ 20) (hl : x.length ≤ 3000) : TermW m (Txt.split x (S " ")) d :=
  ⟨t, by rw [words_sum]; omega, by rw [join_words]; omega, by rw [join_words]; exact hx, h2, hn⟩
theorem badW {x : Str} {t : Tr} (hx : L x = t.cs) (g : t.Good) (hn : 20 < t.nest) (hl : x.length ≤ 3000) : BadW (Txt.split x (S " ")) :=
  ⟨by rw [words_sum]; omega, by rw [join_words]; omega, by rw [join_words]; exact deep_runs g hn hx⟩
/-- the last row: its text, its data -/
structure LineOk (m : Nat) (t : Tr) (line : Str) (e : D) : Prop where
  short : line.length ≤ 4000
  one : 10 ∉ L line
  good : t.nest ≤ 20 → RowG m (Txt.split line (S " ")) e
  bad : 20 < t.nest → RowBad (Txt.split line (S " "))
theorem few (x : Str) : (Txt.split x (S " ")).length ≤ x.length + 1 := by
  have := words_sum x
  omega
theorem no10 {m : Nat} {x : Str} {d : D} {t : Tr} (hx : L x = t.cs) (h2 : T2 m d t) : 10 ∉ L x := by
  rw [hx]
  exact h2.hi.no (by decide)
theorem line_tell {m : Nat} {x : Str} {d : D} {t : Tr} (hx : L x = t.cs) (h2 : T2 m d t) (hl : x.length ≤ 3000) : LineOk m t (Str.ofString "tell " ++ x) (.tup [.str (S "tell"), d]) := by
  have e : Str.ofString "tell " ++ x = S "tell" ++ S " " ++ x := congrArg (· ++ x) (show Str.ofString "tell " = S "tell" ++ S " " by decide +kernel)
  rw [e]
  have hf := few x
  refine ⟨?_, ?_, fun hn => ?_, fun hn => ?_⟩
  · rw [Str.length_append, show (S "tell" ++ S " ").length = 5 by decide +kernel]
    omega
  · rw [L_append]
    intro h
    rcases List.mem_append.mp h with h | h
    · exact absurd h (by decide +kernel)
    · exact no10 hx h2 h
  · rw [split_cons (by decide +kernel)]
    exact .inr (.inl ⟨_, d, rfl, by rw [List.length_cons]; omega, termW hx h2 hn hl, rfl⟩)
  · rw [split_cons (by decide +kernel)]
    exact .inl ⟨_, rfl, badW hx h2.good hn hl⟩
theorem line_set {m : Nat} {x nm : Str} {d : D} {t : Tr} (hx : L x = t.cs) (h2 : T2 m d t) (hl : x.length ≤ 3000) (hn : Name nm) : LineOk m t ((((Str.empty ++ Str.ofString "set ") ++ nm) ++ Str.ofString " ") ++ x) (.tup [.str (S "set"), .str nm, d]) := by
  have e : (((Str.empty ++ Str.ofString "set ") ++ nm) ++ Str.ofString " ") ++ x = S "set" ++ S " " ++ (nm ++ S " " ++ x) := by
    refine L_inj ?_
    have a1 : L (Str.empty ++ Str.ofString "set ") = L (S "set") ++ L (S " ") := by decide +kernel
    have a2 : L (Str.ofString " ") = L (S " ") := rfl
    rw [L_append, L_append, L_append, a1, a2]
    simp only [L_append, List.append_assoc]
  rw [e]
  have hf := few x
  have hnl : nm.length ≤ 6 := by
    have := hn.le
    rw [Array.length_toList] at this
    exact this
  refine ⟨?_, ?_, fun hne => ?_, fun hne => ?_⟩
  · simp only [Str.length_append]
    have : (S "set").length = 3 := by decide +kernel
    have : (S " ").length = 1 := by decide +kernel
    omega
  · simp only [L_append, List.mem_append]
    intro h
    rcases h with (h | h) | (h | h) | h
    · exact absurd h (by decide +kernel)
    · exact absurd h (by decide +kernel)
    · exact hn.no (by decide) h
    · exact absurd h (by decide +kernel)
    · exact no10 hx h2 h
  · rw [split_cons (by decide +kernel), split_cons (hn.no (by decide))]
    exact .inr (.inr (.inl ⟨nm, _, d, rfl, by rw [List.length_cons, List.length_cons]; omega, split_ne _ _, hn, termW hx h2 hne hl, rfl⟩))
  · rw [split_cons (by decide +kernel), split_cons (hn.no (by decide))]
    exact .inr (.inl ⟨nm, _, rfl, split_ne _ _, hn, badW hx h2.good hne hl⟩)
theorem line_if {m : Nat} {x : Str} {d : D} {t : Tr} (hx : L x = t.cs) (h2 : T2 m d t) (hl : x.length ≤ 3000) : LineOk m t (((Str.empty ++ Str.ofString "if ") ++ x) ++ Str.ofString " 3") (.tup [.str (S "if"), d, .int 3]) := by
  have e : ((Str.empty ++ Str.ofString "if ") ++ x) ++ Str.ofString " 3" = S "if" ++ S " " ++ (x ++ S " " ++ numS 3) := by
    refine L_inj ?_
    have a1 : L (Str.empty ++ Str.ofString "if ") = L (S "if") ++ L (S " ") := by decide +kernel
    have a2 : L (Str.ofString " 3") = L (S " ") ++ L (numS 3) := by decide +kernel
    rw [L_append, L_append, a1, a2]
    simp only [L_append, List.append_assoc]
  rw [e]
  have hf := few x
  refine ⟨?_, ?_, fun hne => ?_, fun hne => ?_⟩
  · simp only [Str.length_append]
    have : (S "if").length = 2 := by decide +kernel
    have : (S " ").length = 1 := by decide +kernel
    have : (numS 3).length = 1 := by decide +kernel
    omega
  · simp only [L_append, List.mem_append]
    intro h
    rcases h with (h | h) | (h | h) | h
    · exact absurd h (by decide +kernel)
    · exact absurd h (by decide +kernel)
    · exact no10 hx h2 h
    · exact absurd h (by decide +kernel)
    · exact absurd h (by decide +kernel)
  · rw [split_cons (by decide +kernel), split_snoc (by decide +kernel)]
    exact .inr (.inr (.inr ⟨_, d, rfl, by rw [List.length_cons, List.length_append, List.length_singleton]; omega, termW hx h2 hne hl, rfl⟩))
  · rw [split_cons (by decide +kernel), split_snoc (by decide +kernel)]
    exact .inr (.inr ⟨_, rfl, badW hx h2.good hne hl⟩)
theorem whole_ok {x nm line : Str} (hx : x = ((((((Str.empty ++ Str.ofString "hand ") ++ nm) ++ Str.ofString "\nbox ") ++ nm) ++ Str.ofString " num\nend\n") ++ line)) (hn : Name nm) (hl : line.length ≤ 4000) (h10 : 10 ∉ L line) : Whole x nm line (Txt.split line (S " ")) := by
  have hnl : nm.length ≤ 6 := by
    have := hn.le
    rw [Array.length_toList] at this
    exact this
  have hlen : x.length = 5 + nm.length + 5 + nm.length + 9 + line.length := by
    rw [hx]
    simp only [Str.length_append]
    have : (Str.empty).length = 0 := by decide +kernel
    have : (Str.ofString "hand ").length = 5 := by decide +kernel
    have : (Str.ofString "\nbox ").length = 5 := by decide +kernel
    have : (Str.ofString " num\nend\n").length = 9 := by decide +kernel
    omega
  refine ⟨fun z => ?_, by omega, hn, whole_rows ?_ hn h10, by omega, rfl⟩
  · rw [z, show (S "").length = 0 by decide +kernel] at hlen
    omega
  · rw [hx]
    simp only [L_append]
    have : L Str.empty = [] := by decide +kernel
    rw [this, List.nil_append]
    rfl
theorem made_deep {nm : Str} {e : D} {n : Nat} (h : e.deep ≤ n) (hn : 1 ≤ n) : (dMade nm [.tup [.str nm, .str (S "num")]] [.tup [.str (S "end")], e]).deep ≤ n + 4 := by
  unfold dMade
  simp only [D.deep, deeps]
  omega
end K7

end

section
set_option Elab.async false
set_option linter.all false
set_option maxRecDepth 100000
set_option maxHeartbeats 4000000
local macro_rules | `(tactic| walk_at "rd1") => `(tactic| first
  | refine ⟨_, rfl, ?_⟩
  | refine ⟨_, _, rfl, rfl, ?_⟩
  | refine ⟨_, _, _, _, rfl, rfl, (by assumption), (by first | rfl | assumption), ?_⟩
  | refine ⟨_, _, rfl, .inl (by assumption), ?_⟩
  | refine ⟨(by first | exact .inr ⟨by decide, by decide⟩ | exact .inl ⟨by decide, by decide⟩ | exact ⟨by decide, by decide, by decide⟩ | exact ⟨by decide, by decide⟩ | exact ⟨by assumption, by assumption⟩ | (show (0 : Int) < _; first | decide | assumption)), ?_⟩
  | refine ⟨rfl, ?_⟩)
local macro_rules | `(tactic| walk_at "rd") => `(tactic| repeat walk_at "rd1")
namespace K7
open PySem L2 M
seal L2.PE L2.PA L2.PS L2.PSs L2.PT L2.PW L2.PI L2.PG L2.PJ L2.PTs
def spFeed (K : PySem.W.Frag) : Sp := fun vs H Q _ => ∃ (a : Addr) (ns : List Int) (k : Int), vs = [.ref a, .int k] ∧ SqL K H a (ns.map V.int) ∧ ns.length ≤ 63 ∧ 0 ≤ k ∧ ∀ (r : Addr) (p q : Int), H r = none → Q (.ref r) (upd H r (.lst [.int p, .int q]))
def spTake : Sp := fun vs H Q _ => ∃ (a : Addr) (p q m : Int), vs = [.ref a, .int m] ∧ H a = some (.lst [.int p, .int q]) ∧ 0 < m ∧ m < 2 ^ 64 ∧ ∀ (r : Int) (H' : Hp), 0 ≤ r → r < m → Fed a H H' → Q (.int r) H'
section
variable {P : Program} {w : World} {K : PySem.W.Frag} {mg : Str → Option Value} {base : Heap} {n : Nat}
theorem at_ints {ns : List Int} {k : Int} (h0 : 0 ≤ k) (h : k < (ns.length : Int)) : ∃ v : Int, atI (ns.map V.int) k = some (.int v) := by
  have hk : k.toNat < ns.length := by omega
  have ek : k = ((k.toNat : Nat) : Int) := by omega
  refine ⟨ns[k.toNat], ?_⟩
  have q : atI (ns.map V.int) ((k.toNat : Nat) : Int) = some (.int ns[k.toNat]) := atI_nat (by rw [List.getElem?_map, List.getElem?_eq_getElem hk] <;> rfl)
  rw [← ek] at q
  exact q
theorem two_fits : 2 ≤ sizeLine := by decide
theorem ok__law_feed (T : Tx K mg) : DefIs P w K mg base (n + 1) "_law_feed" ["_law_script", "_law_k"] (spFeed K) := by
  refine DefIs.of T.d__law_feed sc__law_feed (fun vs H Q E h => ?_) (fun f cdv A outer s H vs Q E hr h => ?_)
  · obtain ⟨a, ns, k, rfl, _⟩ := h
    rfl
  obtain ⟨a, ns, k, rfl, hS, h63, hk, q⟩ := h
  have nd := sc__law_feed.nd
  have hl : (ns.map V.int).length = ns.length := List.length_map _
  refine ⟨_, (pss_cons (ps_set (i := 2) nd rfl (by first | exact Or.inl rfl | exact Or.inr rfl) pe_int)
      (pss_cons (ps_if (pt_cmpR op_lt (pv 1) (pe_callB call_len_seq rfl T.z_len PySem.boot_len (pa_cons (pv 0) pa_nil star_name)) (nomark _)) (pss_one (ps_set (i := 2) nd rfl (by first | exact Or.inl rfl | exact Or.inr rfl) (pe_ix ix_list (pv 0) (pv 1) (fun _ _ => rfl)))) pss_nil)
      (pss_cons (ps_if (PW.pt (pw_and (pt_cmpR op_gt (pe_callB call_len_seq rfl T.z_len PySem.boot_len (pa_cons (pv 0) pa_nil star_name)) pe_int (nomark _)) (pw_and1 (pt_cmpR op_eq (pe_op op_mod (pe_ix ix_list (pv 0) pe_int (fun _ _ => rfl)) pe_int) pe_int (nomark _))))) (pss_one (ps_ret (pe_lst (pa_cons (pv 2) (pa_cons (pe_op op_add (pe_op op_mod (pe_op op_add (pe_op op_mul (pe_op op_mod (pv 2) pe_int) pe_int) (pe_op op_mul pe_int (pv 1))) pe_int) pe_int) pa_nil star_bin) star_name)))) pss_nil)
      (pss_cons (ps_if (PW.pt (pw_and (pt_cmpR op_ge (pv 1) (pe_callB call_len_seq rfl T.z_len PySem.boot_len (pa_cons (pv 0) pa_nil star_name)) (nomark _)) (pw_and1 (pt_cmpR op_gt (pe_callB call_len_seq rfl T.z_len PySem.boot_len (pa_cons (pv 0) pa_nil star_name)) pe_int (nomark _))))) (pss_one (ps_set (i := 2) nd rfl (by first | exact Or.inl rfl | exact Or.inr rfl) (pe_op op_add (pe_ix ix_list (pv 0) (pe_op op_mod (pv 1) (pe_callB call_len_seq rfl T.z_len PySem.boot_len (pa_cons (pv 0) pa_nil star_name))) (fun _ _ => rfl)) (pe_op op_mul pe_int (pv 1))))) pss_nil)
      (pss_one (ps_ret (pe_lst (pa_cons pe_int (pa_cons (pe_op op_add (pe_op op_mod (pe_op op_add (pe_op op_mul (pe_op op_mod (pv 2) pe_int) pe_int) (pe_op op_mul pe_int (pv 1))) pe_int) pe_int) pa_nil star_bin) star_const)))))))), ?_⟩
  -- the first item, where there is one
  have h0 : 0 < ns.length → ∃ v : Int, atI (ns.map V.int) 0 = some (.int v) := fun h => at_ints (Int.le_refl 0) (by omega)
  walk_at "rd"
  refine ite2 (fun c => ?_) (fun c => ?_)
  · have c' := of_decide_eq_true c
    rw [hl] at c'
    obtain ⟨v, hv⟩ := at_ints (ns := ns) hk c'
    obtain ⟨v0, hv0⟩ := h0 (by omega)
    walk_at "rd"
    refine ite2 (fun c2 => ?_) (fun c2 => ?_)
    · walk_at "rd"
      refine ite2 (fun c3 => ?_) (fun c3 => ?_)
      · walk_at "rd"
        exact ⟨two_fits, fun l hl' => q l _ _ hl'⟩
      · walk_at "rd"
        refine ite2 (fun c4 => ?_) (fun c4 => ?_)
        · have c4' := of_decide_eq_true c4
          rw [hl] at c4'
          omega
        · refine iteF ?_
          walk_at "rd"
          exact ⟨two_fits, fun l hl' => q l _ _ hl'⟩
    · have c2' := of_decide_eq_false (Bool.eq_false_iff.mpr c2)
      rw [hl] at c2'
      omega
  · have c' := of_decide_eq_false (Bool.eq_false_iff.mpr c)
    rw [hl] at c'
    walk_at "rd"
    refine ite2 (fun c2 => ?_) (fun c2 => ?_)
    · have c2' := of_decide_eq_true c2
      rw [hl] at c2'
      obtain ⟨v0, hv0⟩ := h0 (by omega)
      walk_at "rd"
      refine ite2 (fun c3 => ?_) (fun c3 => ?_)
      · walk_at "rd"
        exact ⟨two_fits, fun l hl' => q l _ _ hl'⟩
      · walk_at "rd"
        refine ite2 (fun c4 => ?_) (fun c4 => ?_)
        · walk_at "rd"
          refine ite2 (fun c5 => ?_) (fun c5 => ?_)
          · obtain ⟨v, hv⟩ := at_ints (ns := ns) (k := k % (ns.length : Int)) (Int.emod_nonneg _ (by omega)) (Int.emod_lt_of_pos _ (by omega))
            rw [← hl] at hv
            have hp : (0 : Int) < ((ns.map V.int).length : Nat) := by rw [hl]; omega
            walk_at "rd"
            exact ⟨two_fits, fun l hl' => q l _ _ hl'⟩
          · walk_at "rd"
            exact ⟨two_fits, fun l hl' => q l _ _ hl'⟩
        · refine iteF ?_
          walk_at "rd"
          exact ⟨two_fits, fun l hl' => q l _ _ hl'⟩
    · refine iteF ?_
      walk_at "rd"
      refine ite2 (fun c4 => ?_) (fun c4 => ?_)
      · walk_at "rd"
        refine ite2 (fun c5 => ?_) (fun c5 => ?_)
        · have c2' := of_decide_eq_false (Bool.eq_false_iff.mpr c2)
          exact absurd (of_decide_eq_true c5) c2'
        · walk_at "rd"
          exact ⟨two_fits, fun l hl' => q l _ _ hl'⟩
      · refine iteF ?_
        walk_at "rd"
        exact ⟨two_fits, fun l hl' => q l _ _ hl'⟩
theorem ok__law_take (T : Tx K mg) : DefIs P w K mg base (n + 1) "_law_take" ["_law_feed_here", "_law_many"] spTake := by
  refine DefIs.of T.d__law_take sc__law_take (fun vs H Q E h => ?_) (fun f cdv A outer s H vs Q E hr h => ?_)
  · obtain ⟨a, p, q, m, rfl, _⟩ := h
    rfl
  obtain ⟨a, p, q, m, rfl, ha, m0, m1, k⟩ := h
  have nd := sc__law_take.nd
  have hS : SqL K H a [.int p, .int q] := SqL.of ha
  refine ⟨_, (pss_cons (ps_if (pt_cmpR op_gt (pe_ix ix_list (pv 0) pe_int (fun _ _ => rfl)) pe_int (nomark _)) (pss_cons (ps_set (i := 2) nd rfl (by first | exact Or.inl rfl | exact Or.inr rfl) (pe_op op_mod (pe_ix ix_list (pv 0) pe_int (fun _ _ => rfl)) (pv 1)))
      (pss_cons (ps_asg (pe_op op_fdivB (pe_ix ix_list (pv 0) pe_int (fun _ _ => rfl)) (pv 1)) (pg_sub (pv 0) pe_int set_list))
      (pss_one (ps_ret (pv 2))))) pss_nil)
      (pss_cons (ps_set (i := 3) nd rfl (by first | exact Or.inl rfl | exact Or.inr rfl) (pe_op op_mod (pe_op op_mul (pe_ix ix_list (pv 0) pe_int (fun _ _ => rfl)) pe_int) pe_int))
      (pss_cons (ps_asg (pe_op op_add (pe_op op_mod (pe_op op_add (pe_op op_mul (pv 3) pe_int) pe_int) pe_int) pe_int) (pg_sub (pv 0) pe_int set_list))
      (pss_one (ps_ret (pe_op op_mod (pe_op op_fdivB (pe_op op_add (pe_op op_mul (pv 3) pe_int) (pe_ix ix_list (pv 0) pe_int (fun _ _ => rfl))) pe_int) (pv 1))))))), ?_⟩
  walk_at "rd"
  refine ite2 (fun c => ?_) (fun c => ?_)
  · walk_at "rd"
    refine k _ _ (Int.emod_nonneg _ (by omega)) (Int.emod_lt_of_pos _ m0) Fed.of
  · walk_at "rd"
    refine ⟨_, _, _, _, rfl, rfl, SqL.of upd_same, rfl, ?_⟩
    walk_at "rd"
    refine k _ _ (Int.emod_nonneg _ (by omega)) (Int.emod_lt_of_pos _ m0) Fed.of
end
end K7

end

section
set_option Elab.async false
set_option linter.all false
set_option maxRecDepth 100000
set_option maxHeartbeats 4000000
namespace K7
open PySem L2 M
seal L2.PE L2.PA L2.PS L2.PSs L2.PT L2.PW L2.PI L2.PG L2.PJ L2.PTs
def spLName : Sp := fun vs H Q _ => ∃ (a : Addr) (p q : Int), vs = [.ref a] ∧ H a = some (.lst [.int p, .int q]) ∧ ∀ (x : Str) (H' : Hp), Name x → Fed a H H' → Q (.str x) H'
section
variable {P : Program} {w : World} {K : PySem.W.Frag} {mg : Str → Option Value} {base : Heap} {n m : Nat}
theorem ok__law_name (T : Tx K mg) (D__law_take : DefIs P w K mg base n "_law_take" ["_law_feed_here", "_law_many"] spTake) : DefIs P w K mg base (n + 1) "_law_name" ["_law_feed_here"] spLName := by
  refine DefIs.of T.d__law_name sc__law_name (fun vs H Q E h => ?_) (fun f cdv A outer s H vs Q E hr h => ?_)
  · obtain ⟨a, p, q, rfl, _⟩ := h
    rfl
  obtain ⟨a, p, q, rfl, ha, k⟩ := h
  have nd := sc__law_name.nd
  refine ⟨_, (pss_cons (ps_set (i := 1) nd rfl (by first | exact Or.inl rfl | exact Or.inr rfl) pe_str)
      (pss_cons (ps_if (pt_cmpR op_eq (pe_dcall D__law_take hr (pa_cons (pv 0) (pa_cons pe_int pa_nil star_const) star_name)) pe_int (nomark _)) (pss_cons (ps_set (i := 2) nd rfl (by first | exact Or.inl rfl | exact Or.inr rfl) (pe_lst (pa_strs [Str.ofString "rec", Str.ofString "alt", Str.ofString "hand", Str.ofString "box", Str.ofString "set", Str.ofString "send", Str.ofString "take", Str.ofString "tell", Str.ofString "go", Str.ofString "if", Str.ofString "end", Str.ofString "get", Str.ofString "tag", Str.ofString "case"] rfl)))
      (pss_cons (ps_set (i := 2) nd rfl (by first | exact Or.inl rfl | exact Or.inr rfl) (pe_op op_cat (pv 2) (pe_lst (pa_strs [Str.ofString "numx", Str.ofString "recq", Str.ofString "takes", Str.ofString "iff", Str.ofString "itq", Str.ofString "goes", Str.ofString "sends", Str.ofString "tags", Str.ofString "ends", Str.ofString "gets", Str.ofString "way", Str.ofString "with"] rfl))))
      (pss_one (ps_ret (pe_ix ix_list (pv 2) (pe_dcall D__law_take hr (pa_cons (pv 0) (pa_cons pe_int pa_nil star_const) star_name)) (fun _ _ => rfl)))))) pss_nil)
      (pss_cons (ps_set (i := 3) nd rfl (by first | exact Or.inl rfl | exact Or.inr rfl) (pe_bm PySem.F.plainAttrs_str PySem.F.slot_str_join PySem.F.type_str_join mt_join pe_str (pa_cons (pe_comp ["_law_k", "_law_letters", "_law_feed_here"] [none, some 1, some 0] rfl (by kernel_rfl) (pi_range1 rfl T.z_range (pa_cons (pe_op op_add pe_int (pe_dcall D__law_take hr (pa_cons (pv 0) (pa_cons pe_int pa_nil star_const) star_name))) pa_nil star_bin)) (fun _ _ _ _ => (pg_name (i := 0) (by show List.Nodup (["_law_k", "_law_letters", "_law_feed_here"] : List Str); decide +kernel) rfl (Or.inl rfl))) (fun _ _ _ _ => pts_nil) (fun _ _ _ _ => (pe_ix ix_str (pv 1) (pe_dcall D__law_take hr (pa_cons (pv 2) (pa_cons pe_int pa_nil star_const) star_name)) (fun _ _ => rfl)))) pa_nil star_comp)))
      (pss_cons (ps_if (PW.pt (pw_or (pt_cmpR op_eq (pv 3) pe_str (nomark _)) (pw_or1 (pt_cmpR op_eq (pv 3) pe_str (nomark _))))) (pss_one (ps_ret (pe_op op_add_str (pv 3) pe_str))) pss_nil)
      (pss_one (ps_ret (pv 3))))))), ?_⟩
  refine ⟨_, rfl, a, p, q, 6, rfl, ha, by decide, by decide, fun r1 H1 r10 r11 f1 => ⟨rfl, _, rfl, ?_⟩⟩
  obtain ⟨p1, q1, h1⟩ := f1.2
  refine ite2 (fun c => ?_) (fun c => ?_)
  · refine ⟨(by show 14 ≤ sizeLine; decide), fun l1 hl1 => ?_⟩
    refine ⟨_, rfl, (by show 12 ≤ sizeLine; decide), fun l2 hl2 => ⟨l1, l2, _, _, rfl, rfl, Same.new hl2 _ _ _ upd_same, upd_same, (by show 26 ≤ sizeLine; decide), fun l3 hl3 => ?_⟩⟩
    have h3 := Same.new hl2 (.lst (nB.map V.str)) _ _ (Same.new hl1 (.lst (nA.map V.str)) _ _ h1)
    refine ⟨_, rfl, _, rfl, a, p1, q1, 26, rfl, Same.new hl3 _ _ _ h3, by decide, by decide, fun r2 H2 r20 r21 f2 => ?_⟩
    obtain ⟨y, hy, hv⟩ := at26 r20 r21
    have hla : l3 ≠ a := fun e => by
      rw [e] at hl3
      exact absurd (h3.symm.trans hl3) (by simp)
    refine ⟨l3, _, _, _, rfl, rfl, SqL.of (f2.1 l3 _ upd_same hla), hv, ?_⟩
    refine k y _ (names26_all y hy) (f1.trans ⟨fun b o e nb => f2.1 b o (Same.new hl3 _ _ _ (Same.new hl2 _ _ _ (Same.new hl1 _ _ _ e))) nb, f2.2⟩)
  · refine ⟨rfl, _, rfl, a, p1, q1, 6, rfl, h1, by decide, by decide, fun r2 H2 r20 r21 f2 => ⟨_, _, rfl, rfl, _, rfl, by omega, by omega, ?_⟩⟩
    refine comp_range (j := 0) (fun i ys H' => Fed a H H' ∧ ∃ cs : List Nat, ys = (cs.map single).map V.str ∧ ∀ c ∈ cs, isLetter c = true) (by rfl) ⟨f1.trans f2, [], rfl, fun _ h => nomatch h⟩ ?_ ?_ ?_
    · exact fitsLt (by omega)
    · rintro i ys H3 hi hl ⟨f3, cs, rfl, hcs⟩
      obtain ⟨p3, q3, h3⟩ := f3.2
      refine ⟨_, rfl, _, rfl, a, p3, q3, 26, rfl, h3, by decide, by decide, fun r4 H4 r40 r41 f4 => ?_⟩
      obtain ⟨ch, _, hc⟩ := at_codes (cs := (S "abcdefghijklmnopqrstuvwxyz").cps.toList) r40 (by rw [show (S "abcdefghijklmnopqrstuvwxyz").cps.toList.length = 26 by decide +kernel]; exact r41)
      refine ⟨_, _, ch, rfl, rfl, by decide +kernel, hc, ?_⟩
      exact nxt hi hl ⟨f3.trans f4, cs ++ [ch], by simp [single], fun c hcm => by
        rcases List.mem_append.mp hcm with hcm | hcm
        · exact hcs c hcm
        · rw [List.mem_singleton.mp hcm]; exact letter_at hc⟩
    · rintro ys H3 hl ⟨f3, cs, rfl, hcs⟩ D3 hD
      rw [List.length_map, List.length_map] at hl
      refine ⟨S "", D3, cs.map single, rfl, rfl, SqL.of upd_same, ?_, ?_⟩
      · rw [sum_singles, show (S "").length = 0 by decide +kernel]
        omega
      rw [join_singles]
      have f4 := f3.new hD (.lst ((cs.map single).map V.str))
      refine ⟨_, rfl, rfl, _, rfl, ?_⟩
      refine ite2 (fun c1 => ?_) (fun c1 => ?_)
      · have c1' : ofL cs = S "num" := V.str.inj (of_decide_eq_true c1)
        refine iteT ?_
        rw [c1']
        exact ⟨_, rfl, _, _, rfl, rfl, (by decide +kernel), k _ _ (show nameL _ = true by decide +kernel) f4⟩
      · have c1' : ofL cs ≠ S "num" := fun e => of_decide_eq_false (Bool.eq_false_iff.mpr c1) (congrArg V.str e)
        refine ⟨_, rfl, rfl, _, rfl, ?_⟩
        refine ite2 (fun c2 => ?_) (fun c2 => ?_)
        · have c2' : ofL cs = S "it" := V.str.inj (of_decide_eq_true c2)
          rw [c2']
          exact ⟨_, rfl, _, _, rfl, rfl, (by decide +kernel), k _ _ (show nameL _ = true by decide +kernel) f4⟩
        · have c2' : ofL cs ≠ S "it" := fun e => of_decide_eq_false (Bool.eq_false_iff.mpr c2) (congrArg V.str e)
          exact ⟨_, rfl, k _ _ (name_drawn (by omega) (by omega) hcs c1' c2') f4⟩
end
end K7

end

section
set_option Elab.async false
set_option linter.all false
set_option maxRecDepth 100000
set_option maxHeartbeats 4000000
namespace K7
open PySem L2 M
seal L2.PE L2.PA L2.PS L2.PSs L2.PT L2.PW L2.PI L2.PG L2.PJ L2.PTs
def spStep (m : Nat) : Sp := fun vs H Q _ => ∃ (f i : Addr) (p q : Int) (x nm : Str) (tv : V) (d : D) (t : Tr), vs = [.ref f, .ref i, .str nm] ∧ H f = some (.lst [.int p, .int q]) ∧ H i = some (.tup [.str x, tv, .int (t.nest : Nat)]) ∧ L x = t.cs ∧ RelD H tv d ∧ T2 m d t ∧ x.length ≤ 3000 ∧ Name nm ∧
  ∀ (i' : Addr) (H' : Hp) (x' : Str) (tv' : V) (d' : D) (t' : Tr), Fed f H H' → H' i' = some (.tup [.str x', tv', .int (t'.nest : Nat)]) → L x' = t'.cs → RelD H' tv' d' → T2 (m + 1) d' t' → x'.length ≤ x.length + 60 → Q (.ref i') H'
theorem ap_le {a b : Str} {m n : Nat} (h1 : a.length ≤ m) (h2 : b.length ≤ n) : (a ++ b).length ≤ m + n := by
  rw [Str.length_append]
  omega
theorem lf_num {n : Nat} {i : Int} (h0 : 0 ≤ i) (h : i < 10 ^ 10) : T2 n (.tup [.str (S "num"), .int i]) (tx (numS i)) := T2.leaf (.inl ⟨i, h0, h, rfl, rfl⟩)
theorem lf_box {n : Nat} {x : Str} (h : Name x) : T2 n (.tup [.str (S "box"), .str x]) (tx x) := T2.leaf (.inr ⟨x, h, rfl, rfl⟩)
theorem n_a : Name (S "a") := show nameL (S "a").cps.toList = true by decide +kernel
theorem n_b : Name (S "b") := show nameL (S "b").cps.toList = true by decide +kernel
theorem n_c : Name (S "c") := show nameL (S "c").cps.toList = true by decide +kernel
theorem iteBT' {c : Bool} {A B : Prop} (h : c = true) (a : A) : if c = true then A else B := by rw [if_pos h]; exact a
section
variable {P : Program} {w : World} {K : PySem.W.Frag} {mg : Str → Option Value} {base : Heap} {n m : Nat}
theorem ok__law_step (T : Tx K mg) (D__law_take : DefIs P w K mg base n "_law_take" ["_law_feed_here", "_law_many"] spTake) : DefIs P w K mg base (n + 1) "_law_step" ["_law_feed_here", "_law_inner", "_law_name_here"] (spStep m) := by
  refine DefIs.of T.d__law_step sc__law_step (fun vs H Q E h => ?_) (fun f cdv A outer s H vs Q E hr h => ?_)
  · obtain ⟨_, _, _, _, _, _, _, _, _, rfl, _⟩ := h
    rfl
  obtain ⟨f', i, p, q, x, nm, tv, d, t, rfl, hf, hi, hx, hd, ht, hl, hnm, k⟩ := h
  have nd := sc__law_step.nd
  refine ⟨_, (pss_cons (ps_set (i := 3) nd rfl (by first | exact Or.inl rfl | exact Or.inr rfl) (pe_dcall D__law_take hr (pa_cons (pv 0) (pa_cons pe_int pa_nil star_const) star_name)))
      (pss_cons (ps_asg (pv 1) (pg_tup rfl (pgs_cons (pg_name (i := 4) nd rfl (by first | exact Or.inl rfl | exact Or.inr rfl)) (pgs_cons (pg_name (i := 5) nd rfl (by first | exact Or.inl rfl | exact Or.inr rfl)) (pgs_cons (pg_name (i := 6) nd rfl (by first | exact Or.inl rfl | exact Or.inr rfl)) pgs_nil)))))
      (pss_cons (ps_if (pt_cmpR op_eq (pv 3) pe_int (nomark _)) (pss_one (ps_ret (pe_tup (pa_cons (pe_fstr (pj_lit (pj_str (pv 4) (pj_lit pj_nil)))) (pa_cons (pe_tup (pa_cons pe_str (pa_cons pe_str (pa_cons (pv 5) (pa_cons (pe_tup (pa_cons pe_str (pa_cons pe_int pa_nil star_const) star_const)) pa_nil star_tup) star_name) star_const) star_const)) (pa_cons (pe_op op_add (pv 6) pe_int) pa_nil star_bin) star_tup) star_fstr)))) pss_nil)
      (pss_cons (ps_if (pt_cmpR op_eq (pv 3) pe_int (nomark _)) (pss_one (ps_ret (pe_tup (pa_cons (pe_fstr (pj_lit (pj_str (pv 2) (pj_lit (pj_str (pv 4) (pj_lit pj_nil)))))) (pa_cons (pe_tup (pa_cons pe_str (pa_cons pe_str (pa_cons (pe_tup (pa_cons pe_str (pa_cons (pv 2) pa_nil star_name) star_const)) (pa_cons (pv 5) pa_nil star_name) star_tup) star_const) star_const)) (pa_cons (pe_op op_add (pv 6) pe_int) pa_nil star_bin) star_tup) star_fstr)))) pss_nil)
      (pss_cons (ps_if (pt_cmpR op_eq (pv 3) pe_int (nomark _)) (pss_one (ps_ret (pe_tup (pa_cons (pe_fstr (pj_lit (pj_str (pv 4) (pj_lit (pj_str (pv 2) (pj_lit pj_nil)))))) (pa_cons (pe_tup (pa_cons pe_str (pa_cons (pv 5) (pa_cons (pv 2) pa_nil star_name) star_name) star_const)) (pa_cons (pe_op op_add (pv 6) pe_int) pa_nil star_bin) star_tup) star_fstr)))) pss_nil)
      (pss_cons (ps_if (pt_cmpR op_eq (pv 3) pe_int (nomark _)) (pss_one (ps_ret (pe_tup (pa_cons (pe_fstr (pj_lit (pj_str (pv 2) (pj_lit (pj_str (pv 4) (pj_lit pj_nil)))))) (pa_cons (pe_tup (pa_cons pe_str (pa_cons (pv 2) (pa_cons pe_str (pa_cons (pv 5) pa_nil star_name) star_const) star_name) star_const)) (pa_cons (pe_op op_add (pv 6) pe_int) pa_nil star_bin) star_tup) star_fstr)))) pss_nil)
      (pss_cons (ps_if (pt_cmpR op_eq (pv 3) pe_int (nomark _)) (pss_one (ps_ret (pe_tup (pa_cons (pe_fstr (pj_lit (pj_str (pv 2) (pj_lit (pj_str (pv 4) (pj_lit pj_nil)))))) (pa_cons (pe_tup (pa_cons pe_str (pa_cons (pv 2) (pa_cons (pe_tup (pa_cons (pe_tup (pa_cons pe_str (pa_cons pe_int pa_nil star_const) star_const)) (pa_cons (pv 5) (pa_cons (pe_tup (pa_cons pe_str (pa_cons pe_int pa_nil star_const) star_const)) pa_nil star_tup) star_name) star_tup)) pa_nil star_tup) star_name) star_const)) (pa_cons (pe_op op_add (pv 6) pe_int) pa_nil star_bin) star_tup) star_fstr)))) pss_nil)
      (pss_cons (ps_if (pt_cmpR op_eq (pv 3) pe_int (nomark _)) (pss_one (ps_ret (pe_tup (pa_cons (pe_fstr (pj_lit (pj_str (pv 4) (pj_lit (pj_str (pv 2) (pj_lit pj_nil)))))) (pa_cons (pe_tup (pa_cons pe_str (pa_cons (pe_tup (pa_cons pe_str (pa_cons pe_int pa_nil star_const) star_const)) (pa_cons (pv 5) (pa_cons (pe_tup (pa_cons pe_str (pa_cons (pv 2) pa_nil star_name) star_const)) pa_nil star_tup) star_name) star_tup) star_const)) (pa_cons (pe_op op_add (pv 6) pe_int) pa_nil star_bin) star_tup) star_fstr)))) pss_nil)
      (pss_cons (ps_if (pt_cmpR op_eq (pv 3) pe_int (nomark _)) (pss_cons (ps_set (i := 7) nd rfl (by first | exact Or.inl rfl | exact Or.inr rfl) (pe_tup (pa_cons (pe_tup (pa_cons pe_str (pa_cons (pv 2) (pa_cons (pe_tup (pa_cons pe_str (pa_cons pe_int pa_nil star_const) star_const)) pa_nil star_tup) star_name) star_const)) (pa_cons (pe_tup (pa_cons pe_str (pa_cons pe_str (pa_cons (pv 5) pa_nil star_name) star_const) star_const)) pa_nil star_tup) star_tup)))
      (pss_one (ps_ret (pe_tup (pa_cons (pe_fstr (pj_lit (pj_str (pv 2) (pj_lit (pj_str (pv 4) (pj_lit pj_nil)))))) (pa_cons (pe_tup (pa_cons pe_str (pa_cons (pe_tup (pa_cons pe_str (pa_cons pe_int pa_nil star_const) star_const)) (pa_cons (pv 7) pa_nil star_name) star_tup) star_const)) (pa_cons (pe_op op_add (pv 6) pe_int) pa_nil star_bin) star_tup) star_fstr))))) pss_nil)
      (pss_one (ps_ret (pe_tup (pa_cons (pe_fstr (pj_lit (pj_str (pv 4) (pj_lit (pj_str (pv 2) (pj_lit pj_nil)))))) (pa_cons (pe_tup (pa_cons pe_str (pa_cons (pv 5) (pa_cons (pe_tup (pa_cons (pe_tup (pa_cons pe_str (pa_cons pe_str (pa_cons (pe_tup (pa_cons pe_str (pa_cons (pv 2) pa_nil star_name) star_const)) pa_nil star_tup) star_const) star_const)) pa_nil star_tup)) pa_nil star_tup) star_name) star_const)) (pa_cons (pe_callB (call_max2 rfl) rfl T.z_max PyProof.Rows.boot_max (pa_cons (pe_op op_add (pv 6) pe_int) (pa_cons pe_int pa_nil star_const) star_bin)) pa_nil star_call) star_tup) star_fstr))))))))))))), ?_⟩
  refine ⟨_, rfl, f', p, q, 8, rfl, hf, by decide, by decide, fun r H1 r0 r1 f1 => ?_⟩
  have tu := fed_tups ⟨p, q, hf⟩ f1
  have hi1 := tu _ _ hi
  have hd1 := hd.tups tu _
  refine ⟨_, rfl, i, _, rfl, SqT.of hi1, rfl, _, _, rfl, _, _, rfl, _, _, rfl, rfl, ?_⟩
  have hn : nm.length ≤ 6 := by
    have := hnm.le
    rw [Array.length_toList] at this
    exact this
  have eq : ∀ {a b : Int}, a = b → decide (V.int a = V.int b) = true := fun e => decide_eq_true (congrArg V.int e)
  have ne : ∀ {a b : Int}, a ≠ b → decide (V.int a = V.int b) = false := fun e => decide_eq_false fun z => e (V.int.inj z)
  rcases (show r = 0 ∨ r = 1 ∨ r = 2 ∨ r = 3 ∨ r = 4 ∨ r = 5 ∨ r = 6 ∨ r = 7 by omega) with hr | hr | hr | hr | hr | hr | hr | hr
  · refine ⟨_, rfl, rfl, _, rfl, iteBT' (eq hr) ?_⟩
    have g0 : (Str.empty ++ Str.ofString "(+ ").length ≤ 3 := by decide +kernel
    have w0 : M.L (Str.empty ++ Str.ofString "(+ ") = [40, 43, 32] := by decide +kernel
    have g1 := ap_le g0 (Nat.le_refl x.length)
    have c2 : (Str.ofString " 1)").length ≤ 3 := by decide +kernel
    have w2 : M.L (Str.ofString " 1)") = [32, 49, 41] := by decide +kernel
    have g2 := ap_le g1 c2
    refine ⟨fits (Nat.le_trans g0 (by omega)), _, rfl, _, rfl, fits (Nat.le_trans hl (by decide)), fits (Nat.le_trans g1 (by omega)), fits (Nat.le_trans g2 (by omega)), fits (Nat.le_trans g2 (by omega)), _, rfl, (by show 2 ≤ sizeLine; decide), fun a0 h0 => ⟨(by show 4 ≤ sizeLine; decide), fun a1 h1 => ⟨_, rfl, _, _, rfl, rfl, (by show 3 ≤ sizeLine; decide), fun a2 h2 => ?_⟩⟩⟩
    have sm := (Same.new h0 _).trans ((Same.new h1 _).trans ((Same.new h2 (.tup [.str (((Str.empty ++ Str.ofString "(+ ") ++ x) ++ Str.ofString " 1)"), .ref a1, .int ((t.nest : Int) + 1)]))))
    have hd' := hd1.same sm _
    have F0 := ((Same.new h2 (.tup [.str (((Str.empty ++ Str.ofString "(+ ") ++ x) ++ Str.ofString " 1)"), .ref a1, .int ((t.nest : Int) + 1)]) _ _ (Same.new h1 _ _ _ upd_same)))
    have F1 := ((Same.new h2 (.tup [.str (((Str.empty ++ Str.ofString "(+ ") ++ x) ++ Str.ofString " 1)"), .ref a1, .int ((t.nest : Int) + 1)]) _ _ upd_same))
    have e : (t.nest : Int) + 1 = ((Tr.nest (.l [tx (S "+"), t, tx (numS 1)]) : Nat) : Int) := by
      simp only [Tr.nest, nests, tx]
      omega
    have k0 : (tx (S "+")).cs = [43] := by decide +kernel
    have k1 : (tx (numS 1)).cs = [49] := by decide +kernel
    refine k a2 _ (((Str.empty ++ Str.ofString "(+ ") ++ x) ++ Str.ofString " 1)") (.ref a1) (.tup [.str (S "op"), .str (S "+"), d, .tup [.str (S "num"), .int 1]]) (.l [tx (S "+"), t, tx (numS 1)]) (f1.same sm) ?_ ?_ ⟨a1, _, rfl, F1, _, _, rfl, rfl, _, _, rfl, rfl, _, _, rfl, hd', _, _, rfl, ⟨a0, _, rfl, F0, _, _, rfl, rfl, _, _, rfl, rfl, rfl⟩, rfl⟩ (.inr (.inl ⟨S "+", d, _, t, _, (by unfold ops; simp), ht, lf_num (by decide) (by decide), rfl, rfl⟩)) ?_
    · rw [← e]; exact upd_same
    · simp only [L_append] at w0 ⊢
      simp only [w0, w2, hx, Tr.cs, bs, List.tail_cons, k0, k1]
      simp [tx, Tr.cs, M.L]
    · exact Nat.le_trans g2 (by omega)
  · refine ⟨_, rfl, rfl, _, rfl, iteBF (ne (by omega)) ⟨_, rfl, rfl, _, rfl, iteBT' (eq hr) ?_⟩⟩
    have g0 : (Str.empty ++ Str.ofString "(= ").length ≤ 3 := by decide +kernel
    have w0 : M.L (Str.empty ++ Str.ofString "(= ") = [40, 61, 32] := by decide +kernel
    have g1 := ap_le g0 hn
    have c2 : (Str.ofString " ").length ≤ 1 := by decide +kernel
    have w2 : M.L (Str.ofString " ") = [32] := by decide +kernel
    have g2 := ap_le g1 c2
    have g3 := ap_le g2 (Nat.le_refl x.length)
    have c4 : (Str.ofString ")").length ≤ 1 := by decide +kernel
    have w4 : M.L (Str.ofString ")") = [41] := by decide +kernel
    have g4 := ap_le g3 c4
    refine ⟨fits (Nat.le_trans g0 (by omega)), _, rfl, _, rfl, fits (Nat.le_trans hn (by decide)), fits (Nat.le_trans g1 (by omega)), fits (Nat.le_trans g2 (by omega)), _, rfl, _, rfl, fits (Nat.le_trans hl (by decide)), fits (Nat.le_trans g3 (by omega)), fits (Nat.le_trans g4 (by omega)), fits (Nat.le_trans g4 (by omega)), _, rfl, (by show 2 ≤ sizeLine; decide), fun a0 h0 => ⟨_, rfl, (by show 4 ≤ sizeLine; decide), fun a1 h1 => ⟨_, rfl, _, _, rfl, rfl, (by show 3 ≤ sizeLine; decide), fun a2 h2 => ?_⟩⟩⟩
    have sm := (Same.new h0 _).trans ((Same.new h1 _).trans ((Same.new h2 (.tup [.str (((((Str.empty ++ Str.ofString "(= ") ++ nm) ++ Str.ofString " ") ++ x) ++ Str.ofString ")"), .ref a1, .int ((t.nest : Int) + 1)]))))
    have hd' := hd1.same sm _
    have F0 := ((Same.new h2 (.tup [.str (((((Str.empty ++ Str.ofString "(= ") ++ nm) ++ Str.ofString " ") ++ x) ++ Str.ofString ")"), .ref a1, .int ((t.nest : Int) + 1)]) _ _ (Same.new h1 _ _ _ upd_same)))
    have F1 := ((Same.new h2 (.tup [.str (((((Str.empty ++ Str.ofString "(= ") ++ nm) ++ Str.ofString " ") ++ x) ++ Str.ofString ")"), .ref a1, .int ((t.nest : Int) + 1)]) _ _ upd_same))
    have e : (t.nest : Int) + 1 = ((Tr.nest (.l [tx (S "="), tx nm, t]) : Nat) : Int) := by
      simp only [Tr.nest, nests, tx]
      omega
    have k0 : (tx (S "=")).cs = [61] := by decide +kernel
    refine k a2 _ (((((Str.empty ++ Str.ofString "(= ") ++ nm) ++ Str.ofString " ") ++ x) ++ Str.ofString ")") (.ref a1) (.tup [.str (S "op"), .str (S "="), .tup [.str (S "box"), .str nm], d]) (.l [tx (S "="), tx nm, t]) (f1.same sm) ?_ ?_ ⟨a1, _, rfl, F1, _, _, rfl, rfl, _, _, rfl, rfl, _, _, rfl, ⟨a0, _, rfl, F0, _, _, rfl, rfl, _, _, rfl, rfl, rfl⟩, _, _, rfl, hd', rfl⟩ (.inr (.inl ⟨S "=", _, d, _, t, (by unfold ops; simp), lf_box hnm, ht, rfl, rfl⟩)) ?_
    · rw [← e]; exact upd_same
    · simp only [L_append] at w0 ⊢
      simp only [w0, w2, w4, hx, Tr.cs, bs, List.tail_cons, k0]
      simp [tx, Tr.cs, M.L]
    · exact Nat.le_trans g4 (by omega)
  · refine ⟨_, rfl, rfl, _, rfl, iteBF (ne (by omega)) ⟨_, rfl, rfl, _, rfl, iteBF (ne (by omega)) ⟨_, rfl, rfl, _, rfl, iteBT' (eq hr) ?_⟩⟩⟩
    have g0 : (Str.empty ++ Str.ofString "(get ").length ≤ 5 := by decide +kernel
    have w0 : M.L (Str.empty ++ Str.ofString "(get ") = [40, 103, 101, 116, 32] := by decide +kernel
    have g1 := ap_le g0 (Nat.le_refl x.length)
    have c2 : (Str.ofString " ").length ≤ 1 := by decide +kernel
    have w2 : M.L (Str.ofString " ") = [32] := by decide +kernel
    have g2 := ap_le g1 c2
    have g3 := ap_le g2 hn
    have c4 : (Str.ofString ")").length ≤ 1 := by decide +kernel
    have w4 : M.L (Str.ofString ")") = [41] := by decide +kernel
    have g4 := ap_le g3 c4
    refine ⟨fits (Nat.le_trans g0 (by omega)), _, rfl, _, rfl, fits (Nat.le_trans hl (by decide)), fits (Nat.le_trans g1 (by omega)), fits (Nat.le_trans g2 (by omega)), _, rfl, _, rfl, fits (Nat.le_trans hn (by decide)), fits (Nat.le_trans g3 (by omega)), fits (Nat.le_trans g4 (by omega)), fits (Nat.le_trans g4 (by omega)), _, rfl, _, rfl, (by show 3 ≤ sizeLine; decide), fun a0 h0 => ⟨_, rfl, _, _, rfl, rfl, (by show 3 ≤ sizeLine; decide), fun a1 h1 => ?_⟩⟩
    have sm := (Same.new h0 _).trans ((Same.new h1 (.tup [.str (((((Str.empty ++ Str.ofString "(get ") ++ x) ++ Str.ofString " ") ++ nm) ++ Str.ofString ")"), .ref a0, .int ((t.nest : Int) + 1)])))
    have hd' := hd1.same sm _
    have F0 := ((Same.new h1 (.tup [.str (((((Str.empty ++ Str.ofString "(get ") ++ x) ++ Str.ofString " ") ++ nm) ++ Str.ofString ")"), .ref a0, .int ((t.nest : Int) + 1)]) _ _ upd_same))
    have e : (t.nest : Int) + 1 = ((Tr.nest (.l [tx (S "get"), t, tx nm]) : Nat) : Int) := by
      simp only [Tr.nest, nests, tx]
      omega
    have k0 : (tx (S "get")).cs = [103, 101, 116] := by decide +kernel
    refine k a1 _ (((((Str.empty ++ Str.ofString "(get ") ++ x) ++ Str.ofString " ") ++ nm) ++ Str.ofString ")") (.ref a0) (.tup [.str (S "get"), d, .str nm]) (.l [tx (S "get"), t, tx nm]) (f1.same sm) ?_ ?_ ⟨a0, _, rfl, F0, _, _, rfl, rfl, _, _, rfl, hd', _, _, rfl, rfl, rfl⟩ (.inr (.inr (.inr (.inl ⟨d, t, nm, hnm, ht, rfl, rfl⟩)))) ?_
    · rw [← e]; exact upd_same
    · simp only [L_append] at w0 ⊢
      simp only [w0, w2, w4, hx, Tr.cs, bs, List.tail_cons, k0]
      simp [tx, Tr.cs, M.L]
    · exact Nat.le_trans g4 (by omega)
  · refine ⟨_, rfl, rfl, _, rfl, iteBF (ne (by omega)) ⟨_, rfl, rfl, _, rfl, iteBF (ne (by omega)) ⟨_, rfl, rfl, _, rfl, iteBF (ne (by omega)) ⟨_, rfl, rfl, _, rfl, iteBT' (eq hr) ?_⟩⟩⟩⟩
    have g0 : (Str.empty ++ Str.ofString "(tag ").length ≤ 5 := by decide +kernel
    have w0 : M.L (Str.empty ++ Str.ofString "(tag ") = [40, 116, 97, 103, 32] := by decide +kernel
    have g1 := ap_le g0 hn
    have c2 : (Str.ofString " a ").length ≤ 3 := by decide +kernel
    have w2 : M.L (Str.ofString " a ") = [32, 97, 32] := by decide +kernel
    have g2 := ap_le g1 c2
    have g3 := ap_le g2 (Nat.le_refl x.length)
    have c4 : (Str.ofString ")").length ≤ 1 := by decide +kernel
    have w4 : M.L (Str.ofString ")") = [41] := by decide +kernel
    have g4 := ap_le g3 c4
    refine ⟨fits (Nat.le_trans g0 (by omega)), _, rfl, _, rfl, fits (Nat.le_trans hn (by decide)), fits (Nat.le_trans g1 (by omega)), fits (Nat.le_trans g2 (by omega)), _, rfl, _, rfl, fits (Nat.le_trans hl (by decide)), fits (Nat.le_trans g3 (by omega)), fits (Nat.le_trans g4 (by omega)), fits (Nat.le_trans g4 (by omega)), _, rfl, _, rfl, (by show 4 ≤ sizeLine; decide), fun a0 h0 => ⟨_, rfl, _, _, rfl, rfl, (by show 3 ≤ sizeLine; decide), fun a1 h1 => ?_⟩⟩
    have sm := (Same.new h0 _).trans ((Same.new h1 (.tup [.str (((((Str.empty ++ Str.ofString "(tag ") ++ nm) ++ Str.ofString " a ") ++ x) ++ Str.ofString ")"), .ref a0, .int ((t.nest : Int) + 1)])))
    have hd' := hd1.same sm _
    have F0 := ((Same.new h1 (.tup [.str (((((Str.empty ++ Str.ofString "(tag ") ++ nm) ++ Str.ofString " a ") ++ x) ++ Str.ofString ")"), .ref a0, .int ((t.nest : Int) + 1)]) _ _ upd_same))
    have e : (t.nest : Int) + 1 = ((Tr.nest (.l [tx (S "tag"), tx nm, tx (S "a"), t]) : Nat) : Int) := by
      simp only [Tr.nest, nests, tx]
      omega
    have k0 : (tx (S "tag")).cs = [116, 97, 103] := by decide +kernel
    have k1 : (tx (S "a")).cs = [97] := by decide +kernel
    refine k a1 _ (((((Str.empty ++ Str.ofString "(tag ") ++ nm) ++ Str.ofString " a ") ++ x) ++ Str.ofString ")") (.ref a0) (.tup [.str (S "tag"), .str nm, .str (S "a"), d]) (.l [tx (S "tag"), tx nm, tx (S "a"), t]) (f1.same sm) ?_ ?_ ⟨a0, _, rfl, F0, _, _, rfl, rfl, _, _, rfl, rfl, _, _, rfl, rfl, _, _, rfl, hd', rfl⟩ (.inr (.inr (.inr (.inr (.inl ⟨nm, S "a", d, t, hnm, n_a, ht, rfl, rfl⟩))))) ?_
    · rw [← e]; exact upd_same
    · simp only [L_append] at w0 ⊢
      simp only [w0, w2, w4, hx, Tr.cs, bs, List.tail_cons, k0, k1]
      simp [tx, Tr.cs, M.L]
    · exact Nat.le_trans g4 (by omega)
  · refine ⟨_, rfl, rfl, _, rfl, iteBF (ne (by omega)) ⟨_, rfl, rfl, _, rfl, iteBF (ne (by omega)) ⟨_, rfl, rfl, _, rfl, iteBF (ne (by omega)) ⟨_, rfl, rfl, _, rfl, iteBF (ne (by omega)) ⟨_, rfl, rfl, _, rfl, iteBT' (eq hr) ?_⟩⟩⟩⟩⟩
    have g0 : (Str.empty ++ Str.ofString "(rec ").length ≤ 5 := by decide +kernel
    have w0 : M.L (Str.empty ++ Str.ofString "(rec ") = [40, 114, 101, 99, 32] := by decide +kernel
    have g1 := ap_le g0 hn
    have c2 : (Str.ofString " 0 ").length ≤ 3 := by decide +kernel
    have w2 : M.L (Str.ofString " 0 ") = [32, 48, 32] := by decide +kernel
    have g2 := ap_le g1 c2
    have g3 := ap_le g2 (Nat.le_refl x.length)
    have c4 : (Str.ofString " 2)").length ≤ 3 := by decide +kernel
    have w4 : M.L (Str.ofString " 2)") = [32, 50, 41] := by decide +kernel
    have g4 := ap_le g3 c4
    refine ⟨fits (Nat.le_trans g0 (by omega)), _, rfl, _, rfl, fits (Nat.le_trans hn (by decide)), fits (Nat.le_trans g1 (by omega)), fits (Nat.le_trans g2 (by omega)), _, rfl, _, rfl, fits (Nat.le_trans hl (by decide)), fits (Nat.le_trans g3 (by omega)), fits (Nat.le_trans g4 (by omega)), fits (Nat.le_trans g4 (by omega)), _, rfl, (by show 2 ≤ sizeLine; decide), fun a0 h0 => ⟨_, rfl, (by show 2 ≤ sizeLine; decide), fun a1 h1 => ⟨(by show 3 ≤ sizeLine; decide), fun a2 h2 => ⟨(by show 3 ≤ sizeLine; decide), fun a3 h3 => ⟨_, rfl, _, _, rfl, rfl, (by show 3 ≤ sizeLine; decide), fun a4 h4 => ?_⟩⟩⟩⟩⟩
    have sm := (Same.new h0 _).trans ((Same.new h1 _).trans ((Same.new h2 _).trans ((Same.new h3 _).trans ((Same.new h4 (.tup [.str (((((Str.empty ++ Str.ofString "(rec ") ++ nm) ++ Str.ofString " 0 ") ++ x) ++ Str.ofString " 2)"), .ref a3, .int ((t.nest : Int) + 1)]))))))
    have hd' := hd1.same sm _
    have F0 := ((Same.new h4 (.tup [.str (((((Str.empty ++ Str.ofString "(rec ") ++ nm) ++ Str.ofString " 0 ") ++ x) ++ Str.ofString " 2)"), .ref a3, .int ((t.nest : Int) + 1)]) _ _ (Same.new h3 _ _ _ (Same.new h2 _ _ _ (Same.new h1 _ _ _ upd_same)))))
    have F1 := ((Same.new h4 (.tup [.str (((((Str.empty ++ Str.ofString "(rec ") ++ nm) ++ Str.ofString " 0 ") ++ x) ++ Str.ofString " 2)"), .ref a3, .int ((t.nest : Int) + 1)]) _ _ (Same.new h3 _ _ _ (Same.new h2 _ _ _ upd_same))))
    have F2 := ((Same.new h4 (.tup [.str (((((Str.empty ++ Str.ofString "(rec ") ++ nm) ++ Str.ofString " 0 ") ++ x) ++ Str.ofString " 2)"), .ref a3, .int ((t.nest : Int) + 1)]) _ _ (Same.new h3 _ _ _ upd_same)))
    have F3 := ((Same.new h4 (.tup [.str (((((Str.empty ++ Str.ofString "(rec ") ++ nm) ++ Str.ofString " 0 ") ++ x) ++ Str.ofString " 2)"), .ref a3, .int ((t.nest : Int) + 1)]) _ _ upd_same))
    have e : (t.nest : Int) + 1 = ((Tr.nest (.l [tx (S "rec"), tx nm, tx (numS 0), t, tx (numS 2)]) : Nat) : Int) := by
      simp only [Tr.nest, nests, tx]
      omega
    have k0 : (tx (S "rec")).cs = [114, 101, 99] := by decide +kernel
    have k1 : (tx (numS 0)).cs = [48] := by decide +kernel
    have k2 : (tx (numS 2)).cs = [50] := by decide +kernel
    refine k a4 _ (((((Str.empty ++ Str.ofString "(rec ") ++ nm) ++ Str.ofString " 0 ") ++ x) ++ Str.ofString " 2)") (.ref a3) (.tup [.str (S "rec"), .str nm, .tup [.tup [.str (S "num"), .int 0], d, .tup [.str (S "num"), .int 2]]]) (.l [tx (S "rec"), tx nm, tx (numS 0), t, tx (numS 2)]) (f1.same sm) ?_ ?_ ⟨a3, _, rfl, F3, _, _, rfl, rfl, _, _, rfl, rfl, _, _, rfl, ⟨a2, _, rfl, F2, _, _, rfl, ⟨a0, _, rfl, F0, _, _, rfl, rfl, _, _, rfl, rfl, rfl⟩, _, _, rfl, hd', _, _, rfl, ⟨a1, _, rfl, F1, _, _, rfl, rfl, _, _, rfl, rfl, rfl⟩, rfl⟩, rfl⟩ (.inr (.inr (.inl ⟨nm, _, _, hnm, (by show 3 ≤ 5; decide), .cons (lf_num (by decide) (by decide)) (.cons ht (.cons (lf_num (by decide) (by decide)) .nil)), rfl, rfl⟩))) ?_
    · rw [← e]; exact upd_same
    · simp only [L_append] at w0 ⊢
      simp only [w0, w2, w4, hx, Tr.cs, bs, List.tail_cons, k0, k1, k2]
      simp [tx, Tr.cs, M.L]
    · exact Nat.le_trans g4 (by omega)
  · refine ⟨_, rfl, rfl, _, rfl, iteBF (ne (by omega)) ⟨_, rfl, rfl, _, rfl, iteBF (ne (by omega)) ⟨_, rfl, rfl, _, rfl, iteBF (ne (by omega)) ⟨_, rfl, rfl, _, rfl, iteBF (ne (by omega)) ⟨_, rfl, rfl, _, rfl, iteBF (ne (by omega)) ⟨_, rfl, rfl, _, rfl, iteBT' (eq hr) ?_⟩⟩⟩⟩⟩⟩
    have g0 : (Str.empty ++ Str.ofString "(if 1 ").length ≤ 6 := by decide +kernel
    have w0 : M.L (Str.empty ++ Str.ofString "(if 1 ") = [40, 105, 102, 32, 49, 32] := by decide +kernel
    have g1 := ap_le g0 (Nat.le_refl x.length)
    have c2 : (Str.ofString " ").length ≤ 1 := by decide +kernel
    have w2 : M.L (Str.ofString " ") = [32] := by decide +kernel
    have g2 := ap_le g1 c2
    have g3 := ap_le g2 hn
    have c4 : (Str.ofString ")").length ≤ 1 := by decide +kernel
    have w4 : M.L (Str.ofString ")") = [41] := by decide +kernel
    have g4 := ap_le g3 c4
    refine ⟨fits (Nat.le_trans g0 (by omega)), _, rfl, _, rfl, fits (Nat.le_trans hl (by decide)), fits (Nat.le_trans g1 (by omega)), fits (Nat.le_trans g2 (by omega)), _, rfl, _, rfl, fits (Nat.le_trans hn (by decide)), fits (Nat.le_trans g3 (by omega)), fits (Nat.le_trans g4 (by omega)), fits (Nat.le_trans g4 (by omega)), (by show 2 ≤ sizeLine; decide), fun a0 h0 => ⟨_, rfl, _, rfl, (by show 2 ≤ sizeLine; decide), fun a1 h1 => ⟨(by show 4 ≤ sizeLine; decide), fun a2 h2 => ⟨_, rfl, _, _, rfl, rfl, (by show 3 ≤ sizeLine; decide), fun a3 h3 => ?_⟩⟩⟩⟩
    have sm := (Same.new h0 _).trans ((Same.new h1 _).trans ((Same.new h2 _).trans ((Same.new h3 (.tup [.str (((((Str.empty ++ Str.ofString "(if 1 ") ++ x) ++ Str.ofString " ") ++ nm) ++ Str.ofString ")"), .ref a2, .int ((t.nest : Int) + 1)])))))
    have hd' := hd1.same sm _
    have F0 := ((Same.new h3 (.tup [.str (((((Str.empty ++ Str.ofString "(if 1 ") ++ x) ++ Str.ofString " ") ++ nm) ++ Str.ofString ")"), .ref a2, .int ((t.nest : Int) + 1)]) _ _ (Same.new h2 _ _ _ (Same.new h1 _ _ _ upd_same))))
    have F1 := ((Same.new h3 (.tup [.str (((((Str.empty ++ Str.ofString "(if 1 ") ++ x) ++ Str.ofString " ") ++ nm) ++ Str.ofString ")"), .ref a2, .int ((t.nest : Int) + 1)]) _ _ (Same.new h2 _ _ _ upd_same)))
    have F2 := ((Same.new h3 (.tup [.str (((((Str.empty ++ Str.ofString "(if 1 ") ++ x) ++ Str.ofString " ") ++ nm) ++ Str.ofString ")"), .ref a2, .int ((t.nest : Int) + 1)]) _ _ upd_same))
    have e : (t.nest : Int) + 1 = ((Tr.nest (.l [tx (S "if"), tx (numS 1), t, tx nm]) : Nat) : Int) := by
      simp only [Tr.nest, nests, tx]
      omega
    have k0 : (tx (S "if")).cs = [105, 102] := by decide +kernel
    have k1 : (tx (numS 1)).cs = [49] := by decide +kernel
    refine k a3 _ (((((Str.empty ++ Str.ofString "(if 1 ") ++ x) ++ Str.ofString " ") ++ nm) ++ Str.ofString ")") (.ref a2) (.tup [.str (S "if"), .tup [.str (S "num"), .int 1], d, .tup [.str (S "box"), .str nm]]) (.l [tx (S "if"), tx (numS 1), t, tx nm]) (f1.same sm) ?_ ?_ ⟨a2, _, rfl, F2, _, _, rfl, rfl, _, _, rfl, ⟨a0, _, rfl, F0, _, _, rfl, rfl, _, _, rfl, rfl, rfl⟩, _, _, rfl, hd', _, _, rfl, ⟨a1, _, rfl, F1, _, _, rfl, rfl, _, _, rfl, rfl, rfl⟩, rfl⟩ (.inr (.inr (.inr (.inr (.inr (.inr ⟨_, d, _, _, t, _, lf_num (by decide) (by decide), ht, lf_box hnm, rfl, rfl⟩)))))) ?_
    · rw [← e]; exact upd_same
    · simp only [L_append] at w0 ⊢
      simp only [w0, w2, w4, hx, Tr.cs, bs, List.tail_cons, k0, k1]
      simp [tx, Tr.cs, M.L]
    · exact Nat.le_trans g4 (by omega)
  · refine ⟨_, rfl, rfl, _, rfl, iteBF (ne (by omega)) ⟨_, rfl, rfl, _, rfl, iteBF (ne (by omega)) ⟨_, rfl, rfl, _, rfl, iteBF (ne (by omega)) ⟨_, rfl, rfl, _, rfl, iteBF (ne (by omega)) ⟨_, rfl, rfl, _, rfl, iteBF (ne (by omega)) ⟨_, rfl, rfl, _, rfl, iteBF (ne (by omega)) ⟨_, rfl, rfl, _, rfl, iteBT' (eq hr) ?_⟩⟩⟩⟩⟩⟩⟩
    have g0 : (Str.empty ++ Str.ofString "(case 7 (a ").length ≤ 11 := by decide +kernel
    have w0 : M.L (Str.empty ++ Str.ofString "(case 7 (a ") = [40, 99, 97, 115, 101, 32, 55, 32, 40, 97, 32] := by decide +kernel
    have g1 := ap_le g0 hn
    have c2 : (Str.ofString " 0) (b c ").length ≤ 9 := by decide +kernel
    have w2 : M.L (Str.ofString " 0) (b c ") = [32, 48, 41, 32, 40, 98, 32, 99, 32] := by decide +kernel
    have g2 := ap_le g1 c2
    have g3 := ap_le g2 (Nat.le_refl x.length)
    have c4 : (Str.ofString "))").length ≤ 2 := by decide +kernel
    have w4 : M.L (Str.ofString "))") = [41, 41] := by decide +kernel
    have g4 := ap_le g3 c4
    refine ⟨_, rfl, (by show 2 ≤ sizeLine; decide), fun a0 h0 => ⟨(by show 3 ≤ sizeLine; decide), fun a1 h1 => ⟨_, rfl, (by show 3 ≤ sizeLine; decide), fun a2 h2 => ⟨(by show 2 ≤ sizeLine; decide), fun a3 h3 => ?_⟩⟩⟩⟩
    refine ⟨fits (Nat.le_trans g0 (by omega)), _, rfl, _, rfl, fits (Nat.le_trans hn (by decide)), fits (Nat.le_trans g1 (by omega)), fits (Nat.le_trans g2 (by omega)), _, rfl, _, rfl, fits (Nat.le_trans hl (by decide)), fits (Nat.le_trans g3 (by omega)), fits (Nat.le_trans g4 (by omega)), fits (Nat.le_trans g4 (by omega)), (by show 2 ≤ sizeLine; decide), fun a4 h4 => ⟨_, rfl, (by show 3 ≤ sizeLine; decide), fun a5 h5 => ⟨_, rfl, _, _, rfl, rfl, (by show 3 ≤ sizeLine; decide), fun a6 h6 => ?_⟩⟩⟩
    have sm := (Same.new h0 _).trans ((Same.new h1 _).trans ((Same.new h2 _).trans ((Same.new h3 _).trans ((Same.new h4 _).trans ((Same.new h5 _).trans ((Same.new h6 (.tup [.str (((((Str.empty ++ Str.ofString "(case 7 (a ") ++ nm) ++ Str.ofString " 0) (b c ") ++ x) ++ Str.ofString "))"), .ref a5, .int ((t.nest : Int) + 2)]))))))))
    have hd' := hd1.same sm _
    have F0 := ((Same.new h6 (.tup [.str (((((Str.empty ++ Str.ofString "(case 7 (a ") ++ nm) ++ Str.ofString " 0) (b c ") ++ x) ++ Str.ofString "))"), .ref a5, .int ((t.nest : Int) + 2)]) _ _ (Same.new h5 _ _ _ (Same.new h4 _ _ _ (Same.new h3 _ _ _ (Same.new h2 _ _ _ (Same.new h1 _ _ _ upd_same)))))))
    have F1 := ((Same.new h6 (.tup [.str (((((Str.empty ++ Str.ofString "(case 7 (a ") ++ nm) ++ Str.ofString " 0) (b c ") ++ x) ++ Str.ofString "))"), .ref a5, .int ((t.nest : Int) + 2)]) _ _ (Same.new h5 _ _ _ (Same.new h4 _ _ _ (Same.new h3 _ _ _ (Same.new h2 _ _ _ upd_same))))))
    have F2 := ((Same.new h6 (.tup [.str (((((Str.empty ++ Str.ofString "(case 7 (a ") ++ nm) ++ Str.ofString " 0) (b c ") ++ x) ++ Str.ofString "))"), .ref a5, .int ((t.nest : Int) + 2)]) _ _ (Same.new h5 _ _ _ (Same.new h4 _ _ _ (Same.new h3 _ _ _ upd_same)))))
    have F3 := ((Same.new h6 (.tup [.str (((((Str.empty ++ Str.ofString "(case 7 (a ") ++ nm) ++ Str.ofString " 0) (b c ") ++ x) ++ Str.ofString "))"), .ref a5, .int ((t.nest : Int) + 2)]) _ _ (Same.new h5 _ _ _ (Same.new h4 _ _ _ upd_same))))
    have F4 := ((Same.new h6 (.tup [.str (((((Str.empty ++ Str.ofString "(case 7 (a ") ++ nm) ++ Str.ofString " 0) (b c ") ++ x) ++ Str.ofString "))"), .ref a5, .int ((t.nest : Int) + 2)]) _ _ (Same.new h5 _ _ _ upd_same)))
    have F5 := ((Same.new h6 (.tup [.str (((((Str.empty ++ Str.ofString "(case 7 (a ") ++ nm) ++ Str.ofString " 0) (b c ") ++ x) ++ Str.ofString "))"), .ref a5, .int ((t.nest : Int) + 2)]) _ _ upd_same))
    have e : (t.nest : Int) + 2 = ((Tr.nest (.l [tx (S "case"), tx (numS 7), .l [tx (S "a"), tx nm, tx (numS 0)], .l [tx (S "b"), tx (S "c"), t]]) : Nat) : Int) := by
      simp only [Tr.nest, nests, tx]
      omega
    have k0 : (tx (S "case")).cs = [99, 97, 115, 101] := by decide +kernel
    have k1 : (tx (numS 7)).cs = [55] := by decide +kernel
    have k2 : (tx (S "a")).cs = [97] := by decide +kernel
    have k3 : (tx (numS 0)).cs = [48] := by decide +kernel
    have k4 : (tx (S "b")).cs = [98] := by decide +kernel
    have k5 : (tx (S "c")).cs = [99] := by decide +kernel
    refine k a6 _ (((((Str.empty ++ Str.ofString "(case 7 (a ") ++ nm) ++ Str.ofString " 0) (b c ") ++ x) ++ Str.ofString "))") (.ref a5) (.tup [.str (S "case"), .tup [.str (S "num"), .int 7], .tup [.tup [.str (S "a"), .str nm, .tup [.str (S "num"), .int 0]], .tup [.str (S "b"), .str (S "c"), d]]]) (.l [tx (S "case"), tx (numS 7), .l [tx (S "a"), tx nm, tx (numS 0)], .l [tx (S "b"), tx (S "c"), t]]) (f1.same sm) ?_ ?_ ⟨a5, _, rfl, F5, _, _, rfl, rfl, _, _, rfl, ⟨a4, _, rfl, F4, _, _, rfl, rfl, _, _, rfl, rfl, rfl⟩, _, _, rfl, ⟨a3, _, rfl, F3, _, _, rfl, ⟨a1, _, rfl, F1, _, _, rfl, rfl, _, _, rfl, rfl, _, _, rfl, ⟨a0, _, rfl, F0, _, _, rfl, rfl, _, _, rfl, rfl, rfl⟩, rfl⟩, _, _, rfl, ⟨a2, _, rfl, F2, _, _, rfl, rfl, _, _, rfl, rfl, _, _, rfl, hd', rfl⟩, rfl⟩, rfl⟩ (.inr (.inr (.inr (.inr (.inr (.inl ⟨_, _, _, _, lf_num (by decide) (by decide), (by show 1 ≤ 2; decide), (by show 2 ≤ 4; decide), .cons ⟨S "a", nm, _, _, n_a, hnm, lf_num (by decide) (by decide), rfl, rfl⟩ (.cons ⟨S "b", S "c", d, t, n_b, n_c, ht, rfl, rfl⟩ .nil), rfl, rfl⟩)))))) ?_
    · rw [← e]; exact upd_same
    · simp only [L_append] at w0 ⊢
      simp only [w0, w2, w4, hx, Tr.cs, bs, List.tail_cons, k0, k1, k2, k3, k4, k5]
      simp [tx, Tr.cs, M.L]
    · exact Nat.le_trans g4 (by omega)
  · refine ⟨_, rfl, rfl, _, rfl, iteBF (ne (by omega)) ⟨_, rfl, rfl, _, rfl, iteBF (ne (by omega)) ⟨_, rfl, rfl, _, rfl, iteBF (ne (by omega)) ⟨_, rfl, rfl, _, rfl, iteBF (ne (by omega)) ⟨_, rfl, rfl, _, rfl, iteBF (ne (by omega)) ⟨_, rfl, rfl, _, rfl, iteBF (ne (by omega)) ⟨_, rfl, rfl, _, rfl, iteBF (ne (by omega)) ?_⟩⟩⟩⟩⟩⟩⟩
    have g0 : (Str.empty ++ Str.ofString "(case ").length ≤ 6 := by decide +kernel
    have w0 : M.L (Str.empty ++ Str.ofString "(case ") = [40, 99, 97, 115, 101, 32] := by decide +kernel
    have g1 := ap_le g0 (Nat.le_refl x.length)
    have c2 : (Str.ofString " (a b ").length ≤ 6 := by decide +kernel
    have w2 : M.L (Str.ofString " (a b ") = [32, 40, 97, 32, 98, 32] := by decide +kernel
    have g2 := ap_le g1 c2
    have g3 := ap_le g2 hn
    have c4 : (Str.ofString "))").length ≤ 2 := by decide +kernel
    have w4 : M.L (Str.ofString "))") = [41, 41] := by decide +kernel
    have g4 := ap_le g3 c4
    refine ⟨fits (Nat.le_trans g0 (by omega)), _, rfl, _, rfl, fits (Nat.le_trans hl (by decide)), fits (Nat.le_trans g1 (by omega)), fits (Nat.le_trans g2 (by omega)), _, rfl, _, rfl, fits (Nat.le_trans hn (by decide)), fits (Nat.le_trans g3 (by omega)), fits (Nat.le_trans g4 (by omega)), fits (Nat.le_trans g4 (by omega)), _, rfl, _, rfl, (by show 2 ≤ sizeLine; decide), fun a0 h0 => ⟨(by show 3 ≤ sizeLine; decide), fun a1 h1 => ⟨(by show 1 ≤ sizeLine; decide), fun a2 h2 => ⟨(by show 3 ≤ sizeLine; decide), fun a3 h3 => ⟨_, rfl, _, _, rfl, rfl, _, _, rfl, (by show 3 ≤ sizeLine; decide), fun a4 h4 => ?_⟩⟩⟩⟩⟩
    have sm := (Same.new h0 _).trans ((Same.new h1 _).trans ((Same.new h2 _).trans ((Same.new h3 _).trans ((Same.new h4 (.tup [.str (((((Str.empty ++ Str.ofString "(case ") ++ x) ++ Str.ofString " (a b ") ++ nm) ++ Str.ofString "))"), .ref a3, .int ((if (2 : Int) > (t.nest : Int) + 1 then 2 else (t.nest : Int) + 1))]))))))
    have hd' := hd1.same sm _
    have F0 := ((Same.new h4 (.tup [.str (((((Str.empty ++ Str.ofString "(case ") ++ x) ++ Str.ofString " (a b ") ++ nm) ++ Str.ofString "))"), .ref a3, .int ((if (2 : Int) > (t.nest : Int) + 1 then 2 else (t.nest : Int) + 1))]) _ _ (Same.new h3 _ _ _ (Same.new h2 _ _ _ (Same.new h1 _ _ _ upd_same)))))
    have F1 := ((Same.new h4 (.tup [.str (((((Str.empty ++ Str.ofString "(case ") ++ x) ++ Str.ofString " (a b ") ++ nm) ++ Str.ofString "))"), .ref a3, .int ((if (2 : Int) > (t.nest : Int) + 1 then 2 else (t.nest : Int) + 1))]) _ _ (Same.new h3 _ _ _ (Same.new h2 _ _ _ upd_same))))
    have F2 := ((Same.new h4 (.tup [.str (((((Str.empty ++ Str.ofString "(case ") ++ x) ++ Str.ofString " (a b ") ++ nm) ++ Str.ofString "))"), .ref a3, .int ((if (2 : Int) > (t.nest : Int) + 1 then 2 else (t.nest : Int) + 1))]) _ _ (Same.new h3 _ _ _ upd_same)))
    have F3 := ((Same.new h4 (.tup [.str (((((Str.empty ++ Str.ofString "(case ") ++ x) ++ Str.ofString " (a b ") ++ nm) ++ Str.ofString "))"), .ref a3, .int ((if (2 : Int) > (t.nest : Int) + 1 then 2 else (t.nest : Int) + 1))]) _ _ upd_same))
    have e : (if (2 : Int) > (t.nest : Int) + 1 then 2 else (t.nest : Int) + 1) = ((Tr.nest (.l [tx (S "case"), t, .l [tx (S "a"), tx (S "b"), tx nm]]) : Nat) : Int) := by
      simp only [Tr.nest, nests, tx]
      split <;> omega
    have k0 : (tx (S "case")).cs = [99, 97, 115, 101] := by decide +kernel
    have k1 : (tx (S "a")).cs = [97] := by decide +kernel
    have k2 : (tx (S "b")).cs = [98] := by decide +kernel
    refine k a4 _ (((((Str.empty ++ Str.ofString "(case ") ++ x) ++ Str.ofString " (a b ") ++ nm) ++ Str.ofString "))") (.ref a3) (.tup [.str (S "case"), d, .tup [.tup [.str (S "a"), .str (S "b"), .tup [.str (S "box"), .str nm]]]]) (.l [tx (S "case"), t, .l [tx (S "a"), tx (S "b"), tx nm]]) (f1.same sm) ?_ ?_ ⟨a3, _, rfl, F3, _, _, rfl, rfl, _, _, rfl, hd', _, _, rfl, ⟨a2, _, rfl, F2, _, _, rfl, ⟨a1, _, rfl, F1, _, _, rfl, rfl, _, _, rfl, rfl, _, _, rfl, ⟨a0, _, rfl, F0, _, _, rfl, rfl, _, _, rfl, rfl, rfl⟩, rfl⟩, rfl⟩, rfl⟩ (.inr (.inr (.inr (.inr (.inr (.inl ⟨d, t, _, _, ht, (by show 1 ≤ 1; decide), (by show 1 ≤ 4; decide), .cons ⟨S "a", S "b", _, _, n_a, n_b, lf_box hnm, rfl, rfl⟩ .nil, rfl, rfl⟩)))))) ?_
    · rw [← e]; exact upd_same
    · simp only [L_append] at w0 ⊢
      simp only [w0, w2, w4, hx, Tr.cs, bs, List.tail_cons, k0, k1, k2]
      simp [tx, Tr.cs, M.L]
    · exact Nat.le_trans g4 (by omega)
end
end K7

end

section
set_option Elab.async false
set_option linter.all false
set_option maxRecDepth 100000
set_option maxHeartbeats 4000000
namespace L2
open PySem PySem.Spec PyProof.Rows
theorem DefIs.any {P : Program} {w : World} {K : PySem.W.Frag} {mg : Str → Option Value} {base : Heap} {n N : Nat} {x : Str} {ps : List Str} {sps : Nat → Sp} (D : ∀ m, m ≤ N → DefIs P w K mg base n x ps (sps m)) : DefIs P w K mg base n x ps (fun vs H Q E => ∃ m, m ≤ N ∧ sps m vs H Q E) := by
  obtain ⟨f, fd, F, b, k, mm, l⟩ := (D 0 (Nat.zero_le _)).ex
  refine ⟨f, fd, ⟨?_, ?_⟩, b, k, mm, l⟩
  · rintro vs H Q E ⟨m, hm, h⟩
    obtain ⟨f2, fd2, F2, _⟩ := (D m hm).ex
    exact F2.1 vs H Q E h
  · rintro A outer s H args us vs Q E h1 h2 h3 h4 ⟨m, hm, h⟩
    obtain ⟨f2, fd2, F2, b2, k2, mm2, l2⟩ := (D m hm).ex
    rw [mm] at mm2
    cases mm2
    obtain ⟨oc, od, osl, l⟩ := l
    obtain ⟨_, _, _, l2⟩ := l2
    rw [l] at l2
    cases l2
    exact F2.2 A outer s H args us vs Q E h1 h2 h3 h4 h
end L2
namespace K7
open PySem L2 M
seal L2.PE L2.PA L2.PS L2.PSs L2.PT L2.PW L2.PI L2.PG L2.PJ L2.PTs
def spLaw (K : PySem.W.Frag) : Sp := fun vs H Q _ => ∃ (a : Addr) (ns : List Int), vs = [.ref a] ∧ SqL K H a (ns.map V.int) ∧ ns.length ≤ 63 ∧ ∀ H', Q (.bl true) H'
def spStepAny : Sp := fun vs H Q E => ∃ m, m ≤ 40 ∧ spStep m vs H Q E
theorem n_x : Name (S "x") := show nameL (S "x").cps.toList = true by decide +kernel
theorem ints_at {cs : List Int} {r : Int} (h0 : 0 ≤ r) (h : r < (cs.length : Int)) : ∃ v ∈ cs, atI (cs.map V.int) r = some (.int v) := by
  obtain ⟨c, hc, e⟩ := at_codes (cs := cs.map V.int) h0 (by rw [List.length_map]; exact h)
  obtain ⟨v, hv, rfl⟩ := List.mem_map.mp hc
  exact ⟨v, hv, e⟩
theorem m8 {v : Int} (h : v ∈ [1, 18, 19, 20, 21, 9, 10, 11]) : 0 ≤ v ∧ v ≤ 21 := by
  simp only [List.mem_cons, List.not_mem_nil, or_false] at h
  omega
section
variable {P : Program} {w : World} {K : PySem.W.Frag} {mg : Str → Option Value} {base : Heap} {n m : Nat}
theorem ok_law (T : Tx K mg) (D__law_feed : DefIs P w K mg base n "_law_feed" ["_law_script", "_law_k"] (spFeed K)) (D__law_take : DefIs P w K mg base n "_law_take" ["_law_feed_here", "_law_many"] spTake) (D__law_name : DefIs P w K mg base n "_law_name" ["_law_feed_here"] spLName) (D__law_step : DefIs P w K mg base n "_law_step" ["_law_feed_here", "_law_inner", "_law_name_here"] spStepAny)
    (D__law_found : DefIs P w K mg base n "_law_found" ["_law_which", "_law_text"] (spFound 40)) : DefIs P w K mg base (n + 1) "law" ["_law_script"] (spLaw K) := by
  refine DefIs.of T.d_law sc_law (fun vs H Q E h => ?_) (fun f cdv A outer s H vs Q E hr h => ?_)
  · obtain ⟨_, _, rfl, _⟩ := h
    rfl
  obtain ⟨a, ns, rfl, hS, h63, k⟩ := h
  have nd := sc_law.nd
  have hu := hu_of hr
  have hu2 := hu2_of hr
  refine ⟨_, (pss_cons (ps_set (i := 1) nd rfl (by first | exact Or.inl rfl | exact Or.inr rfl) (pe_dcall D__law_feed hr (pa_cons (pv 0) (pa_cons pe_int pa_nil star_const) star_name)))
      (pss_cons (ps_set (i := 2) nd rfl (by first | exact Or.inl rfl | exact Or.inr rfl) (pe_dcall D__law_name hr (pa_cons (pv 1) pa_nil star_name)))
      (pss_cons (ps_set (i := 3) nd rfl (by first | exact Or.inl rfl | exact Or.inr rfl) (pe_tup (pa_cons pe_str (pa_cons (pe_tup (pa_cons pe_str (pa_cons pe_str pa_nil star_const) star_const)) (pa_cons pe_int pa_nil star_const) star_tup) star_const)))
      (pss_cons (ps_set (i := 4) nd rfl (by first | exact Or.inl rfl | exact Or.inr rfl) (pe_op op_add (pe_ix ix_list (pe_lst (pa_cons pe_int (pa_cons pe_int (pa_cons pe_int (pa_cons pe_int (pa_cons pe_int (pa_cons pe_int (pa_cons pe_int (pa_cons pe_int pa_nil star_const) star_const) star_const) star_const) star_const) star_const) star_const) star_const)) (pe_dcall D__law_take hr (pa_cons (pv 1) (pa_cons pe_int pa_nil star_const) star_name)) (fun _ _ => rfl)) (pe_ix ix_list (pe_lst (pa_cons pe_int (pa_cons (pe_dcall D__law_take hr (pa_cons (pv 1) (pa_cons pe_int pa_nil star_const) star_name)) pa_nil star_call) star_const)) (pe_dcall D__law_take hr (pa_cons (pv 1) (pa_cons pe_int pa_nil star_const) star_name)) (fun _ _ => rfl))))
      (pss_cons (ps_for PassesOwn.never rfl (pi_range1 rfl T.z_range (pa_cons (pe_callB (call_min2 rfl) rfl T.z_min PyProof.Rows.boot_min (pa_cons pe_int (pa_cons (pv 4) pa_nil star_name) star_const)) pa_nil star_call)) (pg_name (i := 5) nd rfl (by first | exact Or.inl rfl | exact Or.inr rfl))
      (pss_one (ps_set (i := 3) nd rfl (by first | exact Or.inl rfl | exact Or.inr rfl) (pe_dcall D__law_step hr (pa_cons (pv 1) (pa_cons (pv 3) (pa_cons (pv 2) pa_nil star_name) star_name) star_name)))))
      (pss_cons (ps_asg (pv 3) (pg_tup rfl (pgs_cons (pg_name (i := 6) nd rfl (by first | exact Or.inl rfl | exact Or.inr rfl)) (pgs_cons (pg_name (i := 7) nd rfl (by first | exact Or.inl rfl | exact Or.inr rfl)) (pgs_cons (pg_name (i := 8) nd rfl (by first | exact Or.inl rfl | exact Or.inr rfl)) pgs_nil)))))
      (pss_cons (ps_asg (pe_ix ix_list (pe_lst (pa_cons (pe_tup (pa_cons (pe_tup (pa_cons pe_str (pa_cons (pv 7) pa_nil star_name) star_const)) (pa_cons (pe_op op_add_str pe_str (pv 6)) pa_nil star_bin) star_tup)) (pa_cons (pe_tup (pa_cons (pe_tup (pa_cons pe_str (pa_cons (pv 2) (pa_cons (pv 7) pa_nil star_name) star_name) star_const)) (pa_cons (pe_fstr (pj_lit (pj_str (pv 2) (pj_lit (pj_str (pv 6) pj_nil))))) pa_nil star_fstr) star_tup)) (pa_cons (pe_tup (pa_cons (pe_tup (pa_cons pe_str (pa_cons (pv 7) (pa_cons pe_int pa_nil star_const) star_name) star_const)) (pa_cons (pe_fstr (pj_lit (pj_str (pv 6) (pj_lit pj_nil)))) pa_nil star_fstr) star_tup)) pa_nil star_tup) star_tup) star_tup)) (pe_dcall D__law_take hr (pa_cons (pv 1) (pa_cons pe_int pa_nil star_const) star_name)) (fun _ _ => rfl)) (pg_tup rfl (pgs_cons (pg_name (i := 9) nd rfl (by first | exact Or.inl rfl | exact Or.inr rfl)) (pgs_cons (pg_name (i := 10) nd rfl (by first | exact Or.inl rfl | exact Or.inr rfl)) pgs_nil))))
      (pss_cons (ps_set (i := 11) nd rfl (by first | exact Or.inl rfl | exact Or.inr rfl) (pe_tup (pa_cons (pe_tup pa_nil) (pa_cons (pe_tup pa_nil) (pa_cons (pe_tup (pa_cons (pe_tup (pa_cons (pv 2) (pa_cons (pe_tup (pa_cons (pe_tup (pa_cons (pv 2) (pa_cons pe_str pa_nil star_const) star_name)) pa_nil star_tup)) (pa_cons (pe_tup (pa_cons (pe_tup (pa_cons pe_str pa_nil star_const)) (pa_cons (pv 9) pa_nil star_name) star_tup)) pa_nil star_tup) star_tup) star_name)) pa_nil star_tup)) pa_nil star_tup) star_tup) star_tup)))
      (pss_cons (ps_set (i := 12) nd rfl (by first | exact Or.inl rfl | exact Or.inr rfl) (pe_fstr (pj_lit (pj_str (pv 2) (pj_lit (pj_str (pv 2) (pj_lit (pj_str (pv 10) pj_nil))))))))
      (pss_cons (ps_for PassesOwn.never rfl (pi_range1 rfl T.z_range (pa_cons pe_int pa_nil star_const)) (pg_name (i := 13) nd rfl (by first | exact Or.inl rfl | exact Or.inr rfl))
      (pss_cons (ps_set (i := 14) nd rfl (by first | exact Or.inl rfl | exact Or.inr rfl) (pe_lst (pa_cons (pe_dcall D__law_found hr (pa_cons pe_int (pa_cons (pv 6) pa_nil star_name) star_const)) (pa_cons (pe_dcall D__law_found hr (pa_cons pe_int (pa_cons (pv 12) pa_nil star_name) star_const)) pa_nil star_call) star_call)))
      (pss_one (ps_if (PW.pt (pw_or (PW.pt (pw_and (pt_cmpR op_le (pv 8) pe_int (nomark _)) (pw_and1 (pt_cmpR (op_neLDB hu2) (pv 14) (pe_lst (pa_cons (pe_tup (pa_cons (pv 7) (pa_cons (pe_un un_neg pe_int) pa_nil star_un) star_name)) (pa_cons (pe_tup (pa_cons (pv 11) (pa_cons (pe_un un_neg pe_int) pa_nil star_un) star_name)) pa_nil star_tup) star_tup)) (nomark _))))) (pw_or1 (PW.pt (pw_and (pt_cmpR op_gt (pv 8) pe_int (nomark _)) (pw_and1 (pt_cmpR (op_neLDB hu2) (pv 14) (pe_lst (pa_cons (pe_tup (pa_cons pe_bl (pa_cons pe_int pa_nil star_const) star_const)) (pa_cons (pe_tup (pa_cons pe_bl (pa_cons pe_int pa_nil star_const) star_const)) pa_nil star_tup) star_tup)) (nomark _)))))))) (pss_one (ps_ret pe_bl)) pss_nil))))
      (pss_one (ps_ret pe_bl)))))))))))), ?_⟩
  refine ⟨_, rfl, a, ns, 1, rfl, hS, h63, by decide, fun r p q nr => ?_⟩
  refine ⟨_, rfl, r, p, q, rfl, upd_same, fun nm H1 hn f1 => ?_⟩
  obtain ⟨p1, q1, hr1⟩ := f1.2
  have hnl : nm.length ≤ 6 := by
    have := hn.le
    rw [Array.length_toList] at this
    exact this
  clear f1 hS
  refine ⟨(by show 2 ≤ sizeLine; decide), fun u0 hu0 => ⟨(by show 3 ≤ sizeLine; decide), fun u1 hu1 => ?_⟩⟩
  have t0 := Same.new hu0 (.tup [.str (S "box"), .str (S "x")])
  have t1 := Same.new hu1 (.tup [.str (S "x"), .ref u0, .int 0])
  have hu1' : upd (upd H1 u0 (.tup [.str (S "box"), .str (S "x")])) u1 (.tup [.str (S "x"), .ref u0, .int 0]) u1 = some (.tup [.str (S "x"), .ref u0, .int 0]) := upd_same
  have hu0' := t1 _ _ (show upd H1 u0 (.tup [.str (S "box"), .str (S "x")]) u0 = some (.tup [.str (S "box"), .str (S "x")]) from upd_same)
  have hr2 := t1 _ _ (t0 _ _ hr1)
  refine ⟨(by show 8 ≤ sizeLine; decide), fun l1 hl1 => ?_⟩
  have t2 := Same.new hl1 (.lst ([1, 18, 19, 20, 21, 9, 10, 11].map V.int))
  have hr3 := t2 _ _ hr2
  refine ⟨_, rfl, r, p1, q1, 8, rfl, hr3, by decide, by decide, fun c1 H2 c10 c11 f2 => ?_⟩
  have l1r : l1 ≠ r := Ne.symm (ne_of_none hr2 hl1)
  have hl1' := f2.1 _ _ (show upd _ l1 (.lst ([1, 18, 19, 20, 21, 9, 10, 11].map V.int)) l1 = some (.lst ([1, 18, 19, 20, 21, 9, 10, 11].map V.int)) from upd_same) l1r
  obtain ⟨v1, hv1, at1'⟩ := ints_at (cs := [1, 18, 19, 20, 21, 9, 10, 11]) c10 c11
  have b1 := m8 hv1
  refine ⟨l1, _, c1, .int v1, rfl, rfl, SqL.of hl1', at1', ?_⟩
  have tu2 := fed_tups ⟨p1, q1, hr3⟩ f2
  have hu1a := tu2 _ _ (t2 _ _ hu1')
  have hu0a := tu2 _ _ (t2 _ _ hu0')
  obtain ⟨p2, q2, hr4⟩ := f2.2
  refine ⟨_, rfl, r, p2, q2, 20, rfl, hr4, by decide, by decide, fun c2 H3 c20 c21 f3 => ?_⟩
  have tu3 := fed_tups ⟨p2, q2, hr4⟩ f3
  obtain ⟨p3, q3, hr5⟩ := f3.2
  refine ⟨(by show 2 ≤ sizeLine; decide), fun l2 hl2 => ?_⟩
  have t4 := Same.new hl2 (.lst ([0, c2].map V.int))
  have hr6 := t4 _ _ hr5
  refine ⟨_, rfl, r, p3, q3, 2, rfl, hr6, by decide, by decide, fun c3 H4 c30 c31 f4 => ?_⟩
  have tu4 := fed_tups ⟨p3, q3, hr6⟩ f4
  have l2r : l2 ≠ r := Ne.symm (ne_of_none hr5 hl2)
  have hl2' := f4.1 _ _ (show upd _ l2 (.lst ([0, c2].map V.int)) l2 = some (.lst ([0, c2].map V.int)) from upd_same) l2r
  obtain ⟨v2, hv2, at2'⟩ := ints_at (cs := [0, c2]) c30 c31
  have b2 : 0 ≤ v2 ∧ v2 ≤ 20 := by
    simp only [List.mem_cons, List.not_mem_nil, or_false] at hv2
    omega
  refine ⟨l2, _, c3, .int v2, rfl, rfl, SqL.of hl2', at2', _, _, rfl, rfl, ?_⟩
  have hu1b := tu4 _ _ (t4 _ _ (tu3 _ _ hu1a))
  have hu0b := tu4 _ _ (t4 _ _ (tu3 _ _ hu0a))
  obtain ⟨p4, q4, hr7⟩ := f4.2
  clear hl2' hl1' tu4 tu3 tu2 f4 f3 f2 hr6 hr5 hr4 hr3 hr2 hr1 t0 t1 t2 t4 hu0' hu1' hu1a hu0a
  -- the steps inward
  refine ⟨_, rfl, _, _, rfl, _, rfl, by split <;> omega, by split <;> omega, ?_⟩
  obtain ⟨N, hN⟩ : ∃ N : Nat, (if v1 + v2 < 40 then v1 + v2 else 40).toNat = N := ⟨_, rfl⟩
  have hN40 : N ≤ 40 := by
    rw [← hN]
    split <;> omega
  rw [hN]
  refine for_range (fun i σ H' => ∃ ii x tv d t o5, σ = [some (.ref a), some (.ref r), some (.str nm), some (.ref ii), some (.int (v1 + v2)), o5, none, none, none, none, none, none, none, none, none] ∧ (∃ p q : Int, H' r = some (.lst [.int p, .int q])) ∧ H' ii = some (.tup [.str x, tv, .int (t.nest : Nat)]) ∧ L x = t.cs ∧ RelD H' tv d ∧ T2 i d t ∧ x.length ≤ 1 + 60 * i) ?_ ?_ ?_
  · exact ⟨u1, S "x", .ref u0, .tup [.str (S "box"), .str (S "x")], tx (S "x"), _, rfl, ⟨p4, q4, hr7⟩, hu1b, rfl, ⟨u0, _, rfl, hu0b, _, _, rfl, rfl, _, _, rfl, rfl, rfl⟩, T2.leaf (.inr ⟨S "x", n_x, rfl, rfl⟩), by decide +kernel⟩
  · rintro i σ H5 hi ⟨ii, x, tv, d, t, o5, rfl, ⟨p5, q5, hr5⟩, hii, hx, hd, ht, hl⟩
    refine ⟨_, rfl, _, rfl, _, rfl, i, by omega, r, ii, p5, q5, x, nm, tv, d, t, rfl, hr5, hii, hx, hd, ht, by omega, hn, fun i' H6 x' tv' d' t' f g1 g2 g3 g4 g5 => ?_⟩
    exact ⟨i', x', tv', d', t', _, rfl, f.2, g1, g2, g3, g4, by omega⟩
  rintro σ H5 ⟨ii, x, tv, d, t, o5, rfl, ⟨p5, q5, hr5⟩, hii, hx, hd, ht0, hl0⟩
  have ht : T2 40 d t := ht0.mono hN40
  have hl : x.length ≤ 3000 := by omega
  clear hl0 ht0 hu1b hu0b hr7
  refine ⟨_, rfl, ii, _, rfl, SqT.of hii, rfl, _, _, rfl, _, _, rfl, _, _, rfl, rfl, ?_⟩
  have le1 : (Str.ofString "tell ").length = 5 := by decide +kernel
  have le2 : (Str.empty ++ Str.ofString "set ").length = 4 := by decide +kernel
  have le3 : (Str.ofString " ").length = 1 := by decide +kernel
  have le4 : (Str.empty ++ Str.ofString "if ").length = 3 := by decide +kernel
  have le5 : (Str.ofString " 3").length = 2 := by decide +kernel
  have fz : ∀ {n : Nat}, n ≤ 9000 → n ≤ sizeLine := fun h => fits (by omega)
  -- the three rows
  refine ⟨_, rfl, (by show 2 ≤ sizeLine; decide), fun a1 h1 => ⟨_, rfl, _, _, rfl, rfl, fz (by omega), (by show 2 ≤ sizeLine; decide), fun a2 h2 => ?_⟩⟩
  refine ⟨_, rfl, _, rfl, (by show 3 ≤ sizeLine; decide), fun a3 h3 => ⟨fz (by omega), _, rfl, _, rfl, fz (by omega), fz (by rw [Str.length_append]; omega), fz (by rw [Str.length_append, Str.length_append]; omega), _, rfl, _, rfl, fz (by omega), fz (by rw [Str.length_append, Str.length_append, Str.length_append]; omega), fz (by rw [Str.length_append, Str.length_append, Str.length_append]; omega), (by show 2 ≤ sizeLine; decide), fun a4 h4 => ?_⟩⟩
  refine ⟨_, rfl, (by show 3 ≤ sizeLine; decide), fun a5 h5 => ⟨fz (by omega), _, rfl, _, rfl, fz (by omega), fz (by rw [Str.length_append]; omega), fz (by rw [Str.length_append, Str.length_append]; omega), fz (by rw [Str.length_append, Str.length_append]; omega), (by show 2 ≤ sizeLine; decide), fun a6 h6 => ⟨(by show 3 ≤ sizeLine; decide), fun l3 hl3 => ?_⟩⟩⟩
  have s1 := Same.new h1 (.tup [.str (S "tell"), tv])
  have s2 := Same.new h2 (.tup [.ref a1, .str (Str.ofString "tell " ++ x)])
  have s3 := Same.new h3 (.tup [.str (S "set"), .str nm, tv])
  have s4 := Same.new h4 (.tup [.ref a3, .str ((((Str.empty ++ Str.ofString "set ") ++ nm) ++ Str.ofString " ") ++ x)])
  have s5 := Same.new h5 (.tup [.str (S "if"), tv, .int 3])
  have s6 := Same.new h6 (.tup [.ref a5, .str (((Str.empty ++ Str.ofString "if ") ++ x) ++ Str.ofString " 3")])
  have s7 := Same.new hl3 (.lst [.ref a2, .ref a4, .ref a6])
  have e1 := s7 _ _ (s6 _ _ (s5 _ _ (s4 _ _ (s3 _ _ (s2 _ _ (upd_same (H := H5) (a := a1) (o := .tup [.str (S "tell"), tv])))))))
  have e2 := s7 _ _ (s6 _ _ (s5 _ _ (s4 _ _ (s3 _ _ (upd_same (a := a2) (o := .tup [.ref a1, .str (Str.ofString "tell " ++ x)]))))))
  have e3 := s7 _ _ (s6 _ _ (s5 _ _ (s4 _ _ (upd_same (a := a3) (o := .tup [.str (S "set"), .str nm, tv])))))
  have e4 := s7 _ _ (s6 _ _ (s5 _ _ (upd_same (a := a4) (o := .tup [.ref a3, .str ((((Str.empty ++ Str.ofString "set ") ++ nm) ++ Str.ofString " ") ++ x)]))))
  have e5 := s7 _ _ (s6 _ _ (upd_same (a := a5) (o := .tup [.str (S "if"), tv, .int 3])))
  have e6 := s7 _ _ (upd_same (a := a6) (o := .tup [.ref a5, .str (((Str.empty ++ Str.ofString "if ") ++ x) ++ Str.ofString " 3")]))
  have s17 := s1.trans (s2.trans (s3.trans (s4.trans (s5.trans (s6.trans s7)))))
  have hd7 := hd.same s17 _
  have hr8 := s17 _ _ hr5
  have el := upd_same (H := upd (upd (upd (upd (upd (upd H5 a1 (.tup [.str (S "tell"), tv])) a2 (.tup [.ref a1, .str (Str.ofString "tell " ++ x)])) a3 (.tup [.str (S "set"), .str nm, tv])) a4 (.tup [.ref a3, .str ((((Str.empty ++ Str.ofString "set ") ++ nm) ++ Str.ofString " ") ++ x)])) a5 (.tup [.str (S "if"), tv, .int 3])) a6 (.tup [.ref a5, .str (((Str.empty ++ Str.ofString "if ") ++ x) ++ Str.ofString " 3")])) (a := l3) (o := .lst [.ref a2, .ref a4, .ref a6])
  have lr : l3 ≠ r := Ne.symm (ne_of_none (s6 _ _ (s5 _ _ (s4 _ _ (s3 _ _ (s2 _ _ (s1 _ _ hr5)))))) hl3)
  refine ⟨_, rfl, r, p5, q5, 3, rfl, hr8, by decide, by decide, fun c4 H7 c40 c41 f7 => ?_⟩
  have tu7 := fed_tups ⟨p5, q5, hr8⟩ f7
  have el7 := f7.1 _ _ el lr
  have hd8 := hd7.tups tu7 _
  obtain ⟨ai, rv, line, e, hat, hai, hrv, hline, hdeep⟩ : ∃ (ai : Addr) (rv : V) (line : Str) (e : D), atI [V.ref a2, .ref a4, .ref a6] c4 = some (.ref ai) ∧ H7 ai = some (.tup [rv, .str line]) ∧ RelD H7 rv e ∧ LineOk 40 t line e ∧ e.deep ≤ d.deep + 1 := by
    rcases (show c4 = 0 ∨ c4 = 1 ∨ c4 = 2 by omega) with rfl | rfl | rfl
    · exact ⟨a2, .ref a1, _, .tup [.str (S "tell"), d], rfl, tu7 _ _ e2, ⟨a1, _, rfl, tu7 _ _ e1, _, _, rfl, rfl, _, _, rfl, hd8, rfl⟩, line_tell hx ht hl, by simp only [D.deep, deeps]; omega⟩
    · exact ⟨a4, .ref a3, _, .tup [.str (S "set"), .str nm, d], rfl, tu7 _ _ e4, ⟨a3, _, rfl, tu7 _ _ e3, _, _, rfl, rfl, _, _, rfl, rfl, _, _, rfl, hd8, rfl⟩, line_set hx ht hl hn, by simp only [D.deep, deeps]; omega⟩
    · exact ⟨a6, .ref a5, _, .tup [.str (S "if"), d, .int 3], rfl, tu7 _ _ e6, ⟨a5, _, rfl, tu7 _ _ e5, _, _, rfl, rfl, _, _, rfl, hd8, _, _, rfl, rfl, rfl⟩, line_if hx ht hl, by simp only [D.deep, deeps]; omega⟩
  refine ⟨l3, _, c4, .ref ai, rfl, rfl, SqL.of el7, hat, ?_⟩
  refine ⟨ai, _, rfl, SqT.of hai, rfl, _, _, rfl, _, _, rfl, rfl, ?_⟩
  clear el7 el hat hai tu7 f7 e1 e2 e3 e4 e5 e6 s1 s2 s3 s4 s5 s6 s7 s17 hd7 hr8 lr
  -- the make
  refine ⟨(by show 0 ≤ sizeLine; decide), fun w1 g1 => ⟨(by show 0 ≤ sizeLine; decide), fun w2 g2 => ⟨_, rfl, _, rfl, (by show 2 ≤ sizeLine; decide), fun w3 g3 => ⟨(by show 1 ≤ sizeLine; decide), fun w4 g4 => ⟨(by show 1 ≤ sizeLine; decide), fun w5 g5 => ⟨_, rfl, (by show 2 ≤ sizeLine; decide), fun w6 g6 => ⟨(by show 3 ≤ sizeLine; decide), fun w7 g7 => ⟨(by show 1 ≤ sizeLine; decide), fun w8 g8 => ⟨(by show 3 ≤ sizeLine; decide), fun w9 g9 => ?_⟩⟩⟩⟩⟩⟩⟩⟩⟩
  have y1 := Same.new g1 (.tup [])
  have y2 := Same.new g2 (.tup [])
  have y3 := Same.new g3 (.tup [.str nm, .str (S "num")])
  have y4 := Same.new g4 (.tup [.ref w3])
  have y5 := Same.new g5 (.tup [.str (S "end")])
  have y6 := Same.new g6 (.tup [.ref w5, rv])
  have y7 := Same.new g7 (.tup [.str nm, .ref w4, .ref w6])
  have y8 := Same.new g8 (.tup [.ref w7])
  have y9 := Same.new g9 (.tup [.ref w1, .ref w2, .ref w8])
  have z8 := y8.trans y9
  have z7 := y7.trans z8
  have z6 := y6.trans z7
  have z5 := y5.trans z6
  have z4 := y4.trans z5
  have z3 := y3.trans z4
  have z2 := y2.trans z3
  have z1 := y1.trans z2
  have hmade : RelD (upd (upd (upd (upd (upd (upd (upd (upd (upd H7 w1 (.tup [])) w2 (.tup [])) w3 (.tup [.str nm, .str (Str.ofString "num")])) w4 (.tup [.ref w3])) w5 (.tup [.str (Str.ofString "end")])) w6 (.tup [.ref w5, rv])) w7 (.tup [.str nm, .ref w4, .ref w6])) w8 (.tup [.ref w7])) w9 (.tup [.ref w1, .ref w2, .ref w8])) (.ref w9) (dMade nm [.tup [.str nm, .str (S "num")]] [.tup [.str (S "end")], e]) :=
    ⟨w9, _, rfl, upd_same, _, _, rfl, ⟨w1, _, rfl, z2 _ _ upd_same, rfl⟩, _, _, rfl, ⟨w2, _, rfl, z3 _ _ upd_same, rfl⟩, _, _, rfl, ⟨w8, _, rfl, y9 _ _ upd_same, _, _, rfl, ⟨w7, _, rfl, z8 _ _ upd_same, _, _, rfl, rfl, _, _, rfl, ⟨w4, _, rfl, z5 _ _ upd_same, _, _, rfl, ⟨w3, _, rfl, z4 _ _ upd_same, _, _, rfl, rfl, _, _, rfl, rfl, rfl⟩, rfl⟩, _, _, rfl, ⟨w6, _, rfl, z7 _ _ upd_same, _, _, rfl, ⟨w5, _, rfl, z6 _ _ upd_same, _, _, rfl, rfl, rfl⟩, _, _, rfl, hrv.same z1 _, rfl⟩, rfl⟩, rfl⟩, rfl⟩
  have hd9 := hd8.same z1 _
  generalize upd (upd (upd (upd (upd (upd (upd (upd (upd H7 w1 (.tup [])) w2 (.tup [])) w3 (.tup [.str nm, .str (Str.ofString "num")])) w4 (.tup [.ref w3])) w5 (.tup [.str (Str.ofString "end")])) w6 (.tup [.ref w5, rv])) w7 (.tup [.str nm, .ref w4, .ref w6])) w8 (.tup [.ref w7])) w9 (.tup [.ref w1, .ref w2, .ref w8]) = H9 at hmade hd9 ⊢
  clear z1 z2 z3 z4 z5 z6 z7 z8 y1 y2 y3 y4 y5 y6 y7 y8 y9 g1 g2 g3 g4 g5 g6 g7 g8 g9
  have le6 : (Str.empty ++ Str.ofString "hand ").length = 5 := by decide +kernel
  have le7 : (Str.ofString "\nbox ").length = 5 := by decide +kernel
  have le8 : (Str.ofString " num\nend\n").length = 9 := by decide +kernel
  have hls := hline.short
  refine ⟨fz (by omega), _, rfl, _, rfl, fz (by omega), fz (by rw [Str.length_append]; omega), fz (by rw [Str.length_append, Str.length_append]; omega), _, rfl, _, rfl, fz (by omega), fz (by rw [Str.length_append, Str.length_append, Str.length_append]; omega), fz (by rw [Str.length_append, Str.length_append, Str.length_append, Str.length_append]; omega), _, rfl, _, rfl, fz (by omega), fz (by rw [Str.length_append, Str.length_append, Str.length_append, Str.length_append, Str.length_append]; omega), fz (by rw [Str.length_append, Str.length_append, Str.length_append, Str.length_append, Str.length_append]; omega), ?_⟩
  have W := whole_ok (x := ((((((Str.empty ++ Str.ofString "hand ") ++ nm) ++ Str.ofString "\nbox ") ++ nm) ++ Str.ofString " num\nend\n") ++ line)) rfl hn hls hline.one
  generalize ((((((Str.empty ++ Str.ofString "hand ") ++ nm) ++ Str.ofString "\nbox ") ++ nm) ++ Str.ofString " num\nend\n") ++ line) = wx at W ⊢
  have hdd := ht.deep
  have hmd := made_deep (nm := nm) (show e.deep ≤ 122 by omega) (by decide)
  refine ⟨_, rfl, by decide, by decide, ?_⟩
  refine for_range (fun i σ H' => ∃ o13 o14, σ = [some (.ref a), some (.ref r), some (.str nm), some (.ref ii), some (.int (v1 + v2)), o5, some (.str x), some tv, some (.int (t.nest : Nat)), some rv, some (.str line), some (.ref w9), some (.str wx), o13, o14] ∧ Same H9 H') ⟨_, _, rfl, Same.refl _⟩ ?_ ?_
  · rintro i σ H10 hi ⟨o13, o14, rfl, s10⟩
    by_cases hne : t.nest ≤ 20
    · refine ⟨_, rfl, 0, x, rfl, .inl ⟨d, .inl ⟨rfl, t, hx, ht, hne, by omega⟩, fun b1 x1 H11 s11 k11 r11 => ?_⟩⟩
      refine ⟨_, rfl, 1, wx, rfl, .inl ⟨_, .inr ⟨rfl, nm, line, _, e, W, hline.good hne, rfl⟩, fun b2 x2 H12 s12 k12 r12 => ?_⟩⟩
      refine ⟨(by show 2 ≤ sizeLine; decide), fun l hl' => ?_⟩
      have s13 := Same.new hl' (.lst [.ref b1, .ref b2])
      refine ⟨_, rfl, _, _, rfl, rfl, _, rfl, iteBT' (decide_eq_true (by omega)) ?_⟩
      refine ⟨_, rfl, _, rfl, 1, rfl, (by show 2 ≤ sizeLine; decide), fun m1 n1 => ⟨_, rfl, 1, rfl, (by show 2 ≤ sizeLine; decide), fun m2 n2 => ⟨(by show 2 ≤ sizeLine; decide), fun m3 n3 => ?_⟩⟩⟩
      have s14 := Same.new n1 (.tup [tv, .int (-1)])
      have s15 := Same.new n2 (.tup [.ref w9, .int (-1)])
      have s16 := Same.new n3 (.lst [.ref m1, .ref m2])
      have q15 := s15.trans s16
      have q14 := s14.trans q15
      have q13 := s13.trans q14
      have q12 := s12.trans q13
      have q11 := s11.trans q12
      have q10 := s10.trans q11
      refine .inl ⟨l, m3, _, _, [.tup [d, .int (-1)], .tup [dMade nm [.tup [.str nm, .str (S "num")]] [.tup [.str (S "end")], e], .int (-1)]], rfl, rfl, SqL.of (q14 _ _ upd_same), SqL.of upd_same, ?_, ?_, ?_, _, rfl, ?_⟩
      · exact ⟨_, _, rfl, ⟨b1, _, rfl, q12 _ _ k11, _, _, rfl, r11.same q12 _, _, _, rfl, rfl, rfl⟩, _, _, rfl, ⟨b2, _, rfl, q13 _ _ k12, _, _, rfl, r12.same q13 _, _, _, rfl, rfl, rfl⟩, rfl⟩
      · exact ⟨_, _, rfl, ⟨m1, _, rfl, q15 _ _ upd_same, _, _, rfl, hd9.same q10 _, _, _, rfl, rfl, rfl⟩, _, _, rfl, ⟨m2, _, rfl, s16 _ _ upd_same, _, _, rfl, hmade.same q10 _, _, _, rfl, rfl, rfl⟩, rfl⟩
      · simp only [deeps, D.deep] at hmd ⊢
        omega
      refine iteF ⟨_, rfl, _, _, rfl, rfl, _, rfl, iteBF (decide_eq_false (by omega)) (iteF ?_)⟩
      exact ⟨_, _, rfl, q10⟩
    · have hne' : 20 < t.nest := by omega
      refine ⟨_, rfl, 0, x, rfl, .inr ⟨0, .inl ⟨rfl, rfl, by omega, deep_runs ht.good hne' hx⟩, fun b1 H11 s11 k11 => ?_⟩⟩
      refine ⟨_, rfl, 1, wx, rfl, .inr ⟨3, .inr ⟨rfl, rfl, nm, line, _, W, hline.bad hne'⟩, fun b2 H12 s12 k12 => ?_⟩⟩
      refine ⟨(by show 2 ≤ sizeLine; decide), fun l hl' => ?_⟩
      have s13 := Same.new hl' (.lst [.ref b1, .ref b2])
      refine ⟨_, rfl, _, _, rfl, rfl, _, rfl, iteBF (decide_eq_false (by omega)) (iteF ?_)⟩
      refine ⟨_, rfl, _, _, rfl, rfl, _, rfl, iteBT' (decide_eq_true (by omega)) ?_⟩
      refine ⟨_, rfl, (by show 2 ≤ sizeLine; decide), fun m1 n1 => ⟨(by show 2 ≤ sizeLine; decide), fun m2 n2 => ⟨(by show 2 ≤ sizeLine; decide), fun m3 n3 => ?_⟩⟩⟩
      have s14 := Same.new n1 (.tup [.bl false, .int 0])
      have s15 := Same.new n2 (.tup [.bl false, .int 3])
      have s16 := Same.new n3 (.lst [.ref m1, .ref m2])
      have q15 := s15.trans s16
      have q14 := s14.trans q15
      have q13 := s13.trans q14
      have q12 := s12.trans q13
      have q11 := s11.trans q12
      have q10 := s10.trans q11
      refine .inr ⟨l, m3, _, _, [.tup [.bl false, .int 0], .tup [.bl false, .int 3]], rfl, rfl, SqL.of (q14 _ _ upd_same), SqL.of upd_same, ?_, ?_, (by decide), _, rfl, iteF ?_⟩
      · exact ⟨_, _, rfl, ⟨b1, _, rfl, q12 _ _ k11, _, _, rfl, rfl, _, _, rfl, rfl, rfl⟩, _, _, rfl, ⟨b2, _, rfl, q13 _ _ k12, _, _, rfl, rfl, _, _, rfl, rfl, rfl⟩, rfl⟩
      · exact ⟨_, _, rfl, ⟨m1, _, rfl, q15 _ _ upd_same, _, _, rfl, rfl, _, _, rfl, rfl, rfl⟩, _, _, rfl, ⟨m2, _, rfl, s16 _ _ upd_same, _, _, rfl, rfl, _, _, rfl, rfl, rfl⟩, rfl⟩
      exact ⟨_, _, rfl, q10⟩
  · rintro σ H10 ⟨o13, o14, rfl, s10⟩
    exact k _
end
end K7

end

set_option Elab.async false
set_option linter.all false
set_option maxRecDepth 100000
set_option maxHeartbeats 4000000
namespace K7
open PySem L2 M
seal L2.PE L2.PA L2.PS L2.PSs L2.PT L2.PW L2.PI L2.PG L2.PJ L2.PTs
section
variable {P : Program} {w : World} {K : PySem.W.Frag} {mg : Str → Option Value} {base : Heap} {n m : Nat}
theorem hr_is (T : Tx K mg) : DefXs P w K mg base 92 "hand_row" ["words"] (spHR 40 K) := by
  have tG := term_ok (P := P) (w := w) (base := base) T 40
  have tI := ok_term_in (P := P) (w := w) (base := base) (n := 90) T tG
  have nf : DefXs P w K mg base 91 "number_from" ["word"] spNumberFrom := ((ok_number_from T (need_r T 87) (number_r T 88)).mono (by omega)).xs
  have g := ok_hand_row (P := P) (w := w) (base := base) (n := 91) T (need_r T 88) (nf_r T 87) tI ((ok_number_from (n := 90) T (need_r T 87) (number_r T 88)))
  have b := ok_hand_row_bad (P := P) (w := w) (base := base) (n := 91) T (need_x T 88) (nf_r T 87).xs (ok_term_in_bad (n := 90) T (term_bad T 82)) nf
  exact g.xs.or b
theorem read_is (T : Tx K mg) : DefXs P w K mg base 96 "read" ["text"] (spRead 40 K) := by
  have pin := ok_put_in_hand (P := P) (w := w) (base := base) (n := 92) T (need_x T 89) (nf_r T 88).xs (ok_kind_from (n := 91) T (need_r T 88) (ok_is_kind (n := 90) T (name_r T 88))).xs (hr_is T)
  have prow := ok_put_row (P := P) (w := w) (base := base) (n := 93) T (need_x T 90) (nf_r T 89).xs (DefXs.none T.d_kind_row fun _ _ _ _ h => h) (DefXs.none T.d_channel_row fun _ _ _ _ h => h) pin
  exact ok_read (n := 94) T (ok_dinit T) (ok_initQ T) (ok_rows_in T) (prow.mono (by omega)) (ok_made T)
theorem law_is (T : Tx K mg) : DefIs P w K mg base 98 "law" ["_law_script"] (spLaw K) := by
  have take : ∀ k, DefIs P w K mg base (k + 1) "_law_take" ["_law_feed_here", "_law_many"] spTake := fun k => ok__law_take T
  have tO : DefXs P w K mg base 96 "term_of" ["text"] (spTO 40 K) := ((term_ok T 40).xs.mono (by omega)).or ((term_bad T 88))
  exact ok_law (n := 97) T (ok__law_feed T) (take 96) (ok__law_name T (take 95)) (DefIs.any fun m _ => ok__law_step T (take 95)) (ok__law_found (n := 96) T tO (read_is T))
end
end K7
noncomputable def PySem.W.Fast.tw2076836826951084212 : Nat := 0
noncomputable def PySem.W.Fast.tw3514197701846161406 : Nat := 0
noncomputable def PySem.W.Fast.tw624041645491296871 : Nat := 0
noncomputable def PySem.W.Fast.tw10461105547476211843 : Nat := 0
noncomputable def PySem.W.Fast.tw7122473212986237108 : Nat := 0
noncomputable def PySem.W.Fast.tw5616611223568248058 : Nat := 0
noncomputable def PySem.W.Fast.tw12123538133672716615 : Nat := 0
noncomputable def PySem.W.Fast.tw12367646188619567561 : Nat := 0
noncomputable def PySem.W.Fast.tw4878767592480702657 : Nat := 0
noncomputable def PySem.W.Fast.tw9684168912854590654 : Nat := 0
noncomputable def PySem.W.Fast.tw2141340602634299868 : Nat := 0
noncomputable def PySem.W.Fast.tw399295444183415354 : Nat := 0
noncomputable def PySem.W.Fast.tw6616665463805715106 : Nat := 0
noncomputable def PySem.W.Fast.tw2646807588840257741 : Nat := 0
noncomputable def PySem.W.Fast.tw17649747119768565384 : Nat := 0
noncomputable def PySem.W.Fast.tw8825804173964818238 : Nat := 0
noncomputable def PySem.W.Fast.tw1146543072537295222 : Nat := 0
noncomputable def PySem.W.Fast.tw10542425870101291015 : Nat := 0
noncomputable def PySem.W.Fast.tw6435792890979187855 : Nat := 0
noncomputable def PySem.W.Fast.tw7101390908330604926 : Nat := 0
noncomputable def PySem.W.Fast.tw2612937601491949417 : Nat := 0
noncomputable def PySem.W.Fast.tw6145188898878688131 : Nat := 0
noncomputable def PySem.W.Fast.tw3919181528192067795 : Nat := 0
noncomputable def PySem.W.Fast.tw12919425693064538612 : Nat := 0
noncomputable def PySem.W.Fast.tw11270042041588229503 : Nat := 0
noncomputable def PySem.W.Fast.tw8507158443540801604 : Nat := 0
noncomputable def PySem.W.Fast.tw16293517765150018893 : Nat := 0
noncomputable def PySem.W.Fast.tw2534550406387195795 : Nat := 0
noncomputable def PySem.W.Fast.tw17524701712167843214 : Nat := 0
noncomputable def PySem.W.Fast.tw6705287751347702734 : Nat := 0
noncomputable def PySem.W.Fast.tw11024960680076752856 : Nat := 0
noncomputable def PySem.W.Fast.tw11943049855777592823 : Nat := 0
noncomputable def PySem.W.Fast.tw5205744399683792605 : Nat := 0
noncomputable def PySem.W.Fast.tw1825840403266826564 : Nat := 0
open PySem PySem.W PyProof.Rows
set_option maxRecDepth 100000 in
set_option maxHeartbeats 0 in
theorem PySem.Challenge.cw_swapstride_k07_brackets_in_brackets_holds : PySem.Challenge.rw_swapstride_k07_brackets_in_brackets.Holds := by
  w_on; o_law; k_head; (case hw => w_witness2)
  k_fill
  refine L2.walk_of (l := PySem.Challenge.rw_swapstride_k07_brackets_in_brackets) (n := 63) (k := 98) (x := "_law_script") (CX := fun _ => L2.CX0) (sp := fun _ => K7.spLaw _) rfl (by decide) rfl ⟨rfl, by decide, by decide⟩ (fun w h Y => PySem.W.kIn_of Y) ?F (fun _ _ a ns hl _ hS => ⟨a, ns, rfl, hS, hl, fun _ => rfl⟩) fun _ _ _ _ _ z => z
  case F =>
    intro w mg fa h KX G hmg
    have d_is_name : L2.DefTx (L2.KOf KX) mg "is_name" K7.s_is_name ["text"] := by
      dsimp only [L2.KOf]
      refine' L2.deftx_mk KX G ?a ?l ?c ?k ?b
      (case a => k_is); (case l => k_is); (case c => k_is); (case k => k_is)
      (case b => exact fun _ _ _ _ _ _ us hl => match us, hl with | [_], _ => rfl)
    have d_is_number : L2.DefTx (L2.KOf KX) mg "is_number" K7.s_is_number ["text"] := by
      dsimp only [L2.KOf]
      refine' L2.deftx_mk KX G ?a ?l ?c ?k ?b
      (case a => k_is); (case l => k_is); (case c => k_is); (case k => k_is)
      (case b => exact fun _ _ _ _ _ _ us hl => match us, hl with | [_], _ => rfl)
    have d_is_kind : L2.DefTx (L2.KOf KX) mg "is_kind" K7.s_is_kind ["text"] := by
      dsimp only [L2.KOf]
      refine' L2.deftx_mk KX G ?a ?l ?c ?k ?b
      (case a => k_is); (case l => k_is); (case c => k_is); (case k => k_is)
      (case b => exact fun _ _ _ _ _ _ us hl => match us, hl with | [_], _ => rfl)
    have d_is_made_of : L2.DefTx (L2.KOf KX) mg "is_made_of" K7.s_is_made_of ["text", "signs", "most"] := by
      dsimp only [L2.KOf]
      refine' L2.deftx_mk KX G ?a ?l ?c ?k ?b
      (case a => k_is); (case l => k_is); (case c => k_is); (case k => k_is)
      (case b => exact fun _ _ _ _ _ _ us hl => match us, hl with | [_, _, _], _ => rfl)
    have d_term_of : L2.DefTx (L2.KOf KX) mg "term_of" K7.s_term_of ["text"] := by
      dsimp only [L2.KOf]
      refine' L2.deftx_mk KX G ?a ?l ?c ?k ?b
      (case a => k_is); (case l => k_is); (case c => k_is); (case k => k_is)
      (case b => exact fun _ _ _ _ _ _ us hl => match us, hl with | [_], _ => rfl)
    have d_term_with : L2.DefTx (L2.KOf KX) mg "term_with" K7.s_term_with ["text", "more"] := by
      dsimp only [L2.KOf]
      refine' L2.deftx_mk KX G ?a ?l ?c ?k ?b
      (case a => k_is); (case l => k_is); (case c => k_is); (case k => k_is)
      (case b => exact fun _ _ _ _ _ _ us hl => match us, hl with | [_, _], _ => rfl)
    have d_need : L2.DefTx (L2.KOf KX) mg "need" K7.s_need ["holds"] := by
      dsimp only [L2.KOf]
      refine' L2.deftx_mk KX G ?a ?l ?c ?k ?b
      (case a => k_is); (case l => k_is); (case c => k_is); (case k => k_is)
      (case b => exact fun _ _ _ _ _ _ us hl => match us, hl with | [_], _ => rfl)
    have d_trees_of : L2.DefTx (L2.KOf KX) mg "trees_of" K7.s_trees_of ["text"] := by
      dsimp only [L2.KOf]
      refine' L2.deftx_mk KX G ?a ?l ?c ?k ?b
      (case a => k_is); (case l => k_is); (case c => k_is); (case k => k_is)
      (case b => exact fun _ _ _ _ _ _ us hl => match us, hl with | [_], _ => rfl)
    have d_put_word : L2.DefTx (L2.KOf KX) mg "put_word" K7.s_put_word ["pile", "word"] := by
      dsimp only [L2.KOf]
      refine' L2.deftx_mk KX G ?a ?l ?c ?k ?b
      (case a => k_is); (case l => k_is); (case c => k_is); (case k => k_is)
      (case b => exact fun _ _ _ _ _ _ us hl => match us, hl with | [_, _], _ => rfl)
    have d_close_brackets : L2.DefTx (L2.KOf KX) mg "close_brackets" K7.s_close_brackets ["pile", "many"] := by
      dsimp only [L2.KOf]
      refine' L2.deftx_mk KX G ?a ?l ?c ?k ?b
      (case a => k_is); (case l => k_is); (case c => k_is); (case k => k_is)
      (case b => exact fun _ _ _ _ _ _ us hl => match us, hl with | [_, _], _ => rfl)
    have d_term_from : L2.DefTx (L2.KOf KX) mg "term_from" K7.s_term_from ["tree", "more"] := by
      dsimp only [L2.KOf]
      refine' L2.deftx_mk KX G ?a ?l ?c ?k ?b
      (case a => k_is); (case l => k_is); (case c => k_is); (case k => k_is)
      (case b => exact fun _ _ _ _ _ _ us hl => match us, hl with | [_, _], _ => rfl)
    have d_terms_from : L2.DefTx (L2.KOf KX) mg "terms_from" K7.s_terms_from ["trees", "more"] := by
      dsimp only [L2.KOf]
      refine' L2.deftx_mk KX G ?a ?l ?c ?k ?b
      (case a => k_is); (case l => k_is); (case c => k_is); (case k => k_is)
      (case b => exact fun _ _ _ _ _ _ us hl => match us, hl with | [_, _], _ => rfl)
    have d_leaf_from : L2.DefTx (L2.KOf KX) mg "leaf_from" K7.s_leaf_from ["word", "more"] := by
      dsimp only [L2.KOf]
      refine' L2.deftx_mk KX G ?a ?l ?c ?k ?b
      (case a => k_is); (case l => k_is); (case c => k_is); (case k => k_is)
      (case b => exact fun _ _ _ _ _ _ us hl => match us, hl with | [_, _], _ => rfl)
    have d_name_from : L2.DefTx (L2.KOf KX) mg "name_from" K7.s_name_from ["tree"] := by
      dsimp only [L2.KOf]
      refine' L2.deftx_mk KX G ?a ?l ?c ?k ?b
      (case a => k_is); (case l => k_is); (case c => k_is); (case k => k_is)
      (case b => exact fun _ _ _ _ _ _ us hl => match us, hl with | [_], _ => rfl)
    have d_arm_from : L2.DefTx (L2.KOf KX) mg "arm_from" K7.s_arm_from ["tree", "more"] := by
      dsimp only [L2.KOf]
      refine' L2.deftx_mk KX G ?a ?l ?c ?k ?b
      (case a => k_is); (case l => k_is); (case c => k_is); (case k => k_is)
      (case b => exact fun _ _ _ _ _ _ us hl => match us, hl with | [_, _], _ => rfl)
    have d_read : L2.DefTx (L2.KOf KX) mg "read" K7.s_read ["text"] := by
      dsimp only [L2.KOf]
      refine' L2.deftx_mk KX G ?a ?l ?c ?k ?b
      (case a => k_is); (case l => k_is); (case c => k_is); (case k => k_is)
      (case b => exact fun _ _ _ _ _ _ us hl => match us, hl with | [_], _ => rfl)
    have d_rows_in : L2.DefTx (L2.KOf KX) mg "rows_in" K7.s_rows_in ["text"] := by
      dsimp only [L2.KOf]
      refine' L2.deftx_mk KX G ?a ?l ?c ?k ?b
      (case a => k_is); (case l => k_is); (case c => k_is); (case k => k_is)
      (case b => exact fun _ _ _ _ _ _ us hl => match us, hl with | [_], _ => rfl)
    have d_made : L2.DefTx (L2.KOf KX) mg "made" K7.s_made ["draft"] := by
      dsimp only [L2.KOf]
      refine' L2.deftx_mk KX G ?a ?l ?c ?k ?b
      (case a => k_is); (case l => k_is); (case c => k_is); (case k => k_is)
      (case b => exact fun _ _ _ _ _ _ us hl => match us, hl with | [_], _ => rfl)
    have d_put_row : L2.DefTx (L2.KOf KX) mg "put_row" K7.s_put_row ["draft", "words"] := by
      dsimp only [L2.KOf]
      refine' L2.deftx_mk KX G ?a ?l ?c ?k ?b
      (case a => k_is); (case l => k_is); (case c => k_is); (case k => k_is)
      (case b => exact fun _ _ _ _ _ _ us hl => match us, hl with | [_, _], _ => rfl)
    have d_put_in_hand : L2.DefTx (L2.KOf KX) mg "put_in_hand" K7.s_put_in_hand ["hand", "words"] := by
      dsimp only [L2.KOf]
      refine' L2.deftx_mk KX G ?a ?l ?c ?k ?b
      (case a => k_is); (case l => k_is); (case c => k_is); (case k => k_is)
      (case b => exact fun _ _ _ _ _ _ us hl => match us, hl with | [_, _], _ => rfl)
    have d_kind_row : L2.DefTx (L2.KOf KX) mg "kind_row" K7.s_kind_row ["words"] := by
      dsimp only [L2.KOf]
      refine' L2.deftx_mk KX G ?a ?l ?c ?k ?b
      (case a => k_is); (case l => k_is); (case c => k_is); (case k => k_is)
      (case b => exact fun _ _ _ _ _ _ us hl => match us, hl with | [_], _ => rfl)
    have d_channel_row : L2.DefTx (L2.KOf KX) mg "channel_row" K7.s_channel_row ["words"] := by
      dsimp only [L2.KOf]
      refine' L2.deftx_mk KX G ?a ?l ?c ?k ?b
      (case a => k_is); (case l => k_is); (case c => k_is); (case k => k_is)
      (case b => exact fun _ _ _ _ _ _ us hl => match us, hl with | [_], _ => rfl)
    have d_hand_row : L2.DefTx (L2.KOf KX) mg "hand_row" K7.s_hand_row ["words"] := by
      dsimp only [L2.KOf]
      refine' L2.deftx_mk KX G ?a ?l ?c ?k ?b
      (case a => k_is); (case l => k_is); (case c => k_is); (case k => k_is)
      (case b => exact fun _ _ _ _ _ _ us hl => match us, hl with | [_], _ => rfl)
    have d_term_in : L2.DefTx (L2.KOf KX) mg "term_in" K7.s_term_in ["words"] := by
      dsimp only [L2.KOf]
      refine' L2.deftx_mk KX G ?a ?l ?c ?k ?b
      (case a => k_is); (case l => k_is); (case c => k_is); (case k => k_is)
      (case b => exact fun _ _ _ _ _ _ us hl => match us, hl with | [_], _ => rfl)
    have d_number_from : L2.DefTx (L2.KOf KX) mg "number_from" K7.s_number_from ["word"] := by
      dsimp only [L2.KOf]
      refine' L2.deftx_mk KX G ?a ?l ?c ?k ?b
      (case a => k_is); (case l => k_is); (case c => k_is); (case k => k_is)
      (case b => exact fun _ _ _ _ _ _ us hl => match us, hl with | [_], _ => rfl)
    have d_kind_from : L2.DefTx (L2.KOf KX) mg "kind_from" K7.s_kind_from ["word"] := by
      dsimp only [L2.KOf]
      refine' L2.deftx_mk KX G ?a ?l ?c ?k ?b
      (case a => k_is); (case l => k_is); (case c => k_is); (case k => k_is)
      (case b => exact fun _ _ _ _ _ _ us hl => match us, hl with | [_], _ => rfl)
    have d__law_feed : L2.DefTx (L2.KOf KX) mg "_law_feed" K7.s__law_feed ["_law_script", "_law_k"] := by
      dsimp only [L2.KOf]
      refine' L2.deftx_mk KX G ?a ?l ?c ?k ?b
      (case a => k_is); (case l => k_is); (case c => k_is); (case k => k_is)
      (case b => exact fun _ _ _ _ _ _ us hl => match us, hl with | [_, _], _ => rfl)
    have d__law_take : L2.DefTx (L2.KOf KX) mg "_law_take" K7.s__law_take ["_law_feed_here", "_law_many"] := by
      dsimp only [L2.KOf]
      refine' L2.deftx_mk KX G ?a ?l ?c ?k ?b
      (case a => k_is); (case l => k_is); (case c => k_is); (case k => k_is)
      (case b => exact fun _ _ _ _ _ _ us hl => match us, hl with | [_, _], _ => rfl)
    have d__law_name : L2.DefTx (L2.KOf KX) mg "_law_name" K7.s__law_name ["_law_feed_here"] := by
      dsimp only [L2.KOf]
      refine' L2.deftx_mk KX G ?a ?l ?c ?k ?b
      (case a => k_is); (case l => k_is); (case c => k_is); (case k => k_is)
      (case b => exact fun _ _ _ _ _ _ us hl => match us, hl with | [_], _ => rfl)
    have d__law_step : L2.DefTx (L2.KOf KX) mg "_law_step" K7.s__law_step ["_law_feed_here", "_law_inner", "_law_name_here"] := by
      dsimp only [L2.KOf]
      refine' L2.deftx_mk KX G ?a ?l ?c ?k ?b
      (case a => k_is); (case l => k_is); (case c => k_is); (case k => k_is)
      (case b => exact fun _ _ _ _ _ _ us hl => match us, hl with | [_, _, _], _ => rfl)
    have d__law_found : L2.DefTx (L2.KOf KX) mg "_law_found" K7.s__law_found ["_law_which", "_law_text"] := by
      dsimp only [L2.KOf]
      refine' L2.deftx_mk KX G ?a ?l ?c ?k ?b
      (case a => k_is); (case l => k_is); (case c => k_is); (case k => k_is)
      (case b => exact fun _ _ _ _ _ _ us hl => match us, hl with | [_, _], _ => rfl)
    have d_law : L2.DefTx (L2.KOf KX) mg "law" K7.s_law ["_law_script"] := by
      dsimp only [L2.KOf]
      refine' L2.deftx_mk KX G ?a ?l ?c ?k ?b
      (case a => k_is); (case l => k_is); (case c => k_is); (case k => k_is)
      (case b => exact fun _ _ _ _ _ _ us hl => match us, hl with | [_], _ => rfl)
    have g_LONGEST_NAME : ∃ t, mg "LONGEST_NAME" = some (.int 6 t) := by
      refine' L2.gint_mk KX G ?a
      (case a => k_is)
    have g_LONGEST_NUMBER : ∃ t, mg "LONGEST_NUMBER" = some (.int 10 t) := by
      refine' L2.gint_mk KX G ?a
      (case a => k_is)
    have g_DEEPEST : ∃ t, mg "DEEPEST" = some (.int 20 t) := by
      refine' L2.gint_mk KX G ?a
      (case a => k_is)
    have g_MOST_ARMS : ∃ t, mg "MOST_ARMS" = some (.int 4 t) := by
      refine' L2.gint_mk KX G ?a
      (case a => k_is)
    have g_MOST_PARTS : ∃ t, mg "MOST_PARTS" = some (.int 4 t) := by
      refine' L2.gint_mk KX G ?a
      (case a => k_is)
    have g_LETTERS : ∃ t, mg "LETTERS" = some (.str (PySem.Str.ofString "abcdefghijklmnopqrstuvwxyz") t) := by
      refine' L2.gstr_mk KX G ?a
      (case a => k_is)
    have g_FIGURES : ∃ t, mg "FIGURES" = some (.str (PySem.Str.ofString "0123456789") t) := by
      refine' L2.gstr_mk KX G ?a
      (case a => k_is)
    have g_NO_NAMES : ∃ a, mg "NO_NAMES" = some (.ref a) ∧ ∀ H, L2.SqT (L2.KOf KX) H a [.str (PySem.Str.ofString "num"), .str (PySem.Str.ofString "it")] := by
      dsimp only [L2.KOf]
      refine' L2.gtup_mk KX G ?a ?l ?z ?r
      (case a => k_is); (case l => k_is); (case z => decide)
      (case r => exact (.cons ⟨_, rfl⟩ (.cons ⟨_, rfl⟩ .nil)))
    have g_OPS : ∃ a, mg "OPS" = some (.ref a) ∧ ∀ H, L2.SqT (L2.KOf KX) H a [.str (PySem.Str.ofString "+"), .str (PySem.Str.ofString "-"), .str (PySem.Str.ofString "*"), .str (PySem.Str.ofString "<"), .str (PySem.Str.ofString "=")] := by
      dsimp only [L2.KOf]
      refine' L2.gtup_mk KX G ?a ?l ?z ?r
      (case a => k_is); (case l => k_is); (case z => decide)
      (case r => exact (.cons ⟨_, rfl⟩ (.cons ⟨_, rfl⟩ (.cons ⟨_, rfl⟩ (.cons ⟨_, rfl⟩ (.cons ⟨_, rfl⟩ .nil))))))
    have z_ValueError : mg "ValueError" = none := by
      refine' PySem.W.mg_none_of KX G ?a
      (case a => k_is)
    have z_all : mg "all" = none := by
      refine' PySem.W.mg_none_of KX G ?a
      (case a => k_is)
    have z_enumerate : mg "enumerate" = none := by
      refine' PySem.W.mg_none_of KX G ?a
      (case a => k_is)
    have z_int : mg "int" = none := by
      refine' PySem.W.mg_none_of KX G ?a
      (case a => k_is)
    have z_isinstance : mg "isinstance" = none := by
      refine' PySem.W.mg_none_of KX G ?a
      (case a => k_is)
    have z_len : mg "len" = none := by
      refine' PySem.W.mg_none_of KX G ?a
      (case a => k_is)
    have z_list : mg "list" = none := by
      refine' PySem.W.mg_none_of KX G ?a
      (case a => k_is)
    have z_max : mg "max" = none := by
      refine' PySem.W.mg_none_of KX G ?a
      (case a => k_is)
    have z_min : mg "min" = none := by
      refine' PySem.W.mg_none_of KX G ?a
      (case a => k_is)
    have z_range : mg "range" = none := by
      refine' PySem.W.mg_none_of KX G ?a
      (case a => k_is)
    have z_str : mg "str" = none := by
      refine' PySem.W.mg_none_of KX G ?a
      (case a => k_is)
    have z_tuple : mg "tuple" = none := by
      refine' PySem.W.mg_none_of KX G ?a
      (case a => k_is)
    have c_BadText : mg "BadText" = some (.ref (L2.cAt (L2.KOf KX) 0)) := by
      refine' PySem.W.mg_of KX G ?a
      (case a => kernel_rfl)
    have c_Twice : mg "Twice" = some (.ref (L2.cAt (L2.KOf KX) 1)) := by
      refine' PySem.W.mg_of KX G ?a
      (case a => kernel_rfl)
    have c_NoName : mg "NoName" = some (.ref (L2.cAt (L2.KOf KX) 2)) := by
      refine' PySem.W.mg_of KX G ?a
      (case a => kernel_rfl)
    have c_NoCount : mg "NoCount" = some (.ref (L2.cAt (L2.KOf KX) 3)) := by
      refine' PySem.W.mg_of KX G ?a
      (case a => kernel_rfl)
    have c_WrongKind : mg "WrongKind" = some (.ref (L2.cAt (L2.KOf KX) 4)) := by
      refine' PySem.W.mg_of KX G ?a
      (case a => kernel_rfl)
    have c_Lacks : mg "Lacks" = some (.ref (L2.cAt (L2.KOf KX) 5)) := by
      refine' PySem.W.mg_of KX G ?a
      (case a => kernel_rfl)
    have c_NotOwn : mg "NotOwn" = some (.ref (L2.cAt (L2.KOf KX) 6)) := by
      refine' PySem.W.mg_of KX G ?a
      (case a => kernel_rfl)
    have c_Falls : mg "Falls" = some (.ref (L2.cAt (L2.KOf KX) 7)) := by
      refine' PySem.W.mg_of KX G ?a
      (case a => kernel_rfl)
    have c_TooBig : mg "TooBig" = some (.ref (L2.cAt (L2.KOf KX) 8)) := by
      refine' PySem.W.mg_of KX G ?a
      (case a => kernel_rfl)
    have c_NoFit : mg "NoFit" = some (.ref (L2.cAt (L2.KOf KX) 9)) := by
      refine' PySem.W.mg_of KX G ?a
      (case a => kernel_rfl)
    have c_NoCode : mg "NoCode" = some (.ref (L2.cAt (L2.KOf KX) 10)) := by
      refine' PySem.W.mg_of KX G ?a
      (case a => kernel_rfl)
    have c_SwapError : mg "SwapError" = some (.ref (L2.ad (L2.KOf KX) "SwapError")) := by
      refine' PySem.W.mg_of KX G ?a
      (case a => kernel_rfl)
    have c_Draft : mg "Draft" = some (.ref (L2.ad (L2.KOf KX) "Draft")) := by
      refine' PySem.W.mg_of KX G ?a
      (case a => kernel_rfl)
    have dt : L2.DTab (L2.KOf KX) "Draft" ["kinds", "channels", "hands"] := by
      refine' L2.dtab_of ?a
      (case a => kernel_rfl)
    have di : L2.InitTx (L2.KOf KX) "Draft.__init__" (L2.ad (L2.KOf KX) "Draft") K7.s_dinit ["self"] := by
      dsimp only [L2.KOf]
      refine' L2.init_mk ?a ?i ?n ?l ?c ?k ?b
      (case a => k_is); (case i => k_is); (case n => k_is); (case l => k_is); (case c => k_is); (case k => k_is)
      (case b => exact fun _ _ _ _ _ _ us hl => match us, hl with | [_], _ => rfl)
    have mr0 : PySem.W.mroIn (L2.KOf KX) (L2.cAt (L2.KOf KX) 0) (.ref (L2.cAt (L2.KOf KX) 0)) = some true := by
      kernel_rfl
    have xt2 : L2.XTab2 (L2.KOf KX) := by
      refine' L2.xtab2_of ?a
      (case a => kernel_rfl)
    have xt : L2.XTab (L2.KOf KX) := by
      refine' L2.xtab_of ?a
      (case a => kernel_rfl)
    have it : L2.InitTx (L2.KOf KX) "BadText.__init__" (L2.ad (L2.KOf KX) "BadText") K7.s_init ["self", "at"] := by
      dsimp only [L2.KOf]
      refine' L2.init_mk ?a ?i ?n ?l ?c ?k ?b
      (case a => k_is); (case i => k_is); (case n => k_is); (case l => k_is); (case c => k_is); (case k => k_is)
      (case b => exact fun _ _ _ _ _ _ us hl => match us, hl with | [_, _], _ => rfl)
    have T : K7.Tx (L2.KOf KX) mg := ⟨d_is_name, d_is_number, d_is_kind, d_is_made_of, d_term_of, d_term_with, d_need, d_trees_of, d_put_word, d_close_brackets, d_term_from, d_terms_from, d_leaf_from, d_name_from, d_arm_from, d_read, d_rows_in, d_made, d_put_row, d_put_in_hand, d_kind_row, d_channel_row, d_hand_row, d_term_in, d_number_from, d_kind_from, d__law_feed, d__law_take, d__law_name, d__law_step, d__law_found, d_law, g_LONGEST_NAME, g_LONGEST_NUMBER, g_DEEPEST, g_MOST_ARMS, g_MOST_PARTS, g_LETTERS, g_FIGURES, g_NO_NAMES, g_OPS, z_ValueError, z_all, z_enumerate, z_int, z_isinstance, z_len, z_list, z_max, z_min, z_range, z_str, z_tuple, c_BadText, c_Twice, c_NoName, c_NoCount, c_WrongKind, c_Lacks, c_NotOwn, c_Falls, c_TooBig, c_NoFit, c_NoCode, c_SwapError, c_Draft, dt, di, mr0, xt2, xt, it⟩
    exact L2.law_top d_law hmg fun base => K7.law_is T
