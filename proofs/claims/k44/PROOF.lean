import PyProof.Rows.All
import Wide.All
import OpenK.AllK
import Wide.FinOn
import Lean
import PyProof.EqAt
import PyProof.EqKinds
import PyProof.TupleCall
import PyProof.ZipIter
import PyProof.ListNew
import PyProof.TupleIter
import PyProof.WalksMore
import KE.KIntText
import PyProof.Rows.EqBoolInt
import PyProof.Rows.ZipGen
import PySem.Str
import PyProof.StrLawsTight
import PyProof.StrLawsIdx
import PyProof.StrLawsIn
import PyProof.NeKinds
import PyProof.Rows.SetFrom
import KE.KDictSum
import PyProof.Rows.SortWalk
import PyProof.EnumMake
import PyProof.Rows.EnumRows
import PyProof.ExcInit
import PyProof.InstStoreFacts
import PyProof.ExcArgsOwn
import PyProof.ExcAttrAll.ValueError
import PyProof.ExcBaseAll.ValueError
import KE.KDictList
import KE.KRevIter
import PyProof.ConsumeWalk
import PyProof.AttrMissHeap
import KE.KItemsList
import KE.KEqDict
import PyProof.DictWalks
import PyProof.StationsW
import PyProof.RulesAs
import PyProof.NsDelKeeps
import PySem.Challenge.RW_swapstride_k44_whole_turned_is_of_its_ki
set_option Elab.async false
set_option linter.all false
set_option maxRecDepth 100000
set_option maxHeartbeats 4000000
local macro_rules | `(tactic| walk_at "o") => `(tactic| first | exact Or.inl rfl | exact Or.inr rfl)
local macro_rules | `(tactic| walk_at "q") => `(tactic| exact ⟨rfl, rfl, rfl, by decide +kernel, rfl, by decide +kernel, by decide +kernel⟩)
local macro_rules | `(tactic| walk_at "k") => `(tactic| decide +kernel)
local macro_rules | `(tactic| walk_at "c") => `(tactic| ((case a => k_is); (case l => k_is); (case c => k_is); (case k => k_is)))
set_option hygiene false in
local macro_rules | `(tactic| walk_at "d") => `(tactic| (dsimp only [L2.KOf]; refine' L2.deftx_mk KX G ?a ?l ?c ?k ?b; (case a => k_is); (case l => k_is); (case c => k_is); (case k => k_is); (case b => (intro _ _ _ _ _ _ us hl; first | (obtain ⟨_, rfl⟩ := L2.ln1 hl; rfl) | (obtain ⟨_, _, rfl⟩ := L2.ln2 hl; rfl) | (obtain ⟨_, _, _, rfl⟩ := L2.ln3 hl; rfl) | (obtain ⟨_, _, _, _, rfl⟩ := L2.ln4 hl; rfl) | (obtain ⟨_, _, _, _, _, rfl⟩ := L2.ln5 hl; rfl) | (obtain ⟨_, _, _, _, _, _, rfl⟩ := L2.ln6 hl; rfl) | (obtain ⟨_, _, _, _, _, _, _, rfl⟩ := L2.ln7 hl; rfl)))))
set_option hygiene false in
local macro_rules | `(tactic| walk_at "i") => `(tactic| first | intro f cdv A outer s H vs Q E hr h | intro vs H Q E h)
local macro_rules | `(tactic| walk_at "s") => `(tactic| first | (show 2 ≤ PySem.sizeLine; decide) | (show 3 ≤ PySem.sizeLine; decide) | (show 1 ≤ PySem.sizeLine; decide) | (show 0 ≤ PySem.sizeLine; decide) | (show 4 ≤ PySem.sizeLine; decide) | (show 5 ≤ PySem.sizeLine; decide) | (show 6 ≤ PySem.sizeLine; decide) | (show 8 ≤ PySem.sizeLine; decide))
theorem zGA {α : Type _} {l : List α} {i : Nat} (h : i < l.length) : l[i]? = some l[i] := List.getElem?_eq_getElem h
theorem zMS {α β : Type _} {f : α → β} {x : Option α} {b : β} (h : x.map f = some b) : ∃ a, x = some a ∧ f a = b := Option.map_eq_some_iff.mp h
theorem zLM {α β : Type _} {as : List α} (f : α → β) : (as.map f).length = as.length := List.length_map f
theorem zGM {α β : Type _} {f : α → β} {l : List α} {i : Nat} : (l.map f)[i]? = l[i]?.map f := List.getElem?_map
theorem zES {α : Type _} {l : List α} {i : Nat} {a : α} (h : l[i]? = some a) : ∃ h : i < l.length, l[i] = a := List.getElem?_eq_some_iff.mp h
theorem zMG {α : Type _} {l : List α} {i : Nat} {a : α} (e : l[i]? = some a) : a ∈ l := List.mem_of_getElem? e
theorem zTL {α : Type _} {i : Nat} {l : List α} (h : l.length ≤ i) : l.take i = l := List.take_of_length_le h
theorem zMA {α : Type _} {a : α} {s t : List α} (h : a ∈ s ++ t) : a ∈ s ∨ a ∈ t := List.mem_append.mp h
theorem zMO {α : Type _} {a b : α} (h : a ∈ [b]) : a = b := List.mem_singleton.mp h
theorem zDT {p : Prop} [Decidable p] (h : p) : decide p = true := decide_eq_true h
theorem zDF {p : Prop} [Decidable p] (h : ¬p) : decide p = false := decide_eq_false h
namespace L2
theorem ln1 {α : Type} {l : List α} (h : l.length = 1) : ∃ a, l = [a] := match l, h with | [a], _ => ⟨a, rfl⟩
theorem ln2 {α : Type} {l : List α} (h : l.length = 2) : ∃ a b, l = [a, b] := match l, h with | [a, b], _ => ⟨a, b, rfl⟩
theorem ln3 {α : Type} {l : List α} (h : l.length = 3) : ∃ a b c, l = [a, b, c] := match l, h with | [a, b, c], _ => ⟨a, b, c, rfl⟩
theorem ln4 {α : Type} {l : List α} (h : l.length = 4) : ∃ a b c d, l = [a, b, c, d] := match l, h with | [a, b, c, d], _ => ⟨a, b, c, d, rfl⟩
theorem ln5 {α : Type} {l : List α} (h : l.length = 5) : ∃ a b c d e, l = [a, b, c, d, e] := match l, h with | [a, b, c, d, e], _ => ⟨a, b, c, d, e, rfl⟩
theorem ln6 {α : Type} {l : List α} (h : l.length = 6) : ∃ a b c d e f, l = [a, b, c, d, e, f] := match l, h with | [a, b, c, d, e, f], _ => ⟨a, b, c, d, e, f, rfl⟩
theorem ln7 {α : Type} {l : List α} (h : l.length = 7) : ∃ a b c d e f g, l = [a, b, c, d, e, f, g] := match l, h with | [a, b, c, d, e, f, g], _ => ⟨a, b, c, d, e, f, g, rfl⟩
end L2
namespace L2
open PySem PySem.Spec PyProof.Rows
abbrev Key := Sum Int Str
def xmi : Key -> Value -> Bool
 | .inl k, v => Value.isInt k v
 | .inr x, v => Value.isStrOf x v
def keyH (w : World) : Key -> Int
 | .inl k => hashInt k
 | .inr x => hashStr w x
theorem xbi : ∀ {k : Key} {v : Value}, xmi k v = true -> (∃ i t, k = Sum.inl i /\ v = Value.int i t) \/ (∃ x t, k = Sum.inr x /\ v = Value.str x t)
 | .inl i, v, h => by
  obtain ⟨t, e⟩ := Value.isInt_shape (k := i) (v := v) h
  exact .inl ⟨i, t, rfl, e⟩
 | .inr x, v, h => by
  obtain ⟨t, e⟩ := Value.isStrOf_shape (x := x) (v := v) h
  exact .inr ⟨x, t, rfl, e⟩
theorem xol (i : Int) (t : Tok) : xmi (.inl i) (.int i t) = true := by simp [xmi, Value.isInt]
theorem xok (x : Str) (t : Tok) : xmi (.inr x) (.str x t) = true := by simp [xmi, Value.isStrOf]
theorem key_ll (a b : Int) : decide ((Sum.inl a : Key) = Sum.inl b) = (a == b) := by
 by_cases e : a = b
 ·subst e; simp
 ·have h : ¬ (Sum.inl a : Key) = Sum.inl b := fun q => e (Sum.inl.inj q)
  rw [zDF h]
  exact (beq_eq_false_iff_ne.mpr e).symm
theorem key_rr (a b : Str) : decide ((Sum.inr a : Key) = Sum.inr b) = decide (a = b) := by
 by_cases e : a = b
 ·subst e; simp
 ·have h : ¬ (Sum.inr a : Key) = Sum.inr b := fun q => e (Sum.inr.inj q)
  rw [zDF h, zDF e]
theorem key_lr (a : Int) (b : Str) : decide ((Sum.inl a : Key) = Sum.inr b) = false := zDF (fun q => nomatch q)
theorem key_rl (a : Str) (b : Int) : decide ((Sum.inr a : Key) = Sum.inl b) = false := zDF (fun q => nomatch q)
def xbd (prog : Program) (w : World) : PySem.KeyKind prog w Key where
 is := xmi
 hash := keyH w
 inj := fun v a b ha hb => by
  rcases xbi ha with ⟨i, t, rfl, rfl⟩ | ⟨x, t, rfl, rfl⟩
  ·rcases xbi hb with ⟨j, u, rfl, e⟩ | ⟨y, u, rfl, e⟩
   ·injection e with e1 _; rw [e1]
   ·exact nomatch e
  ·rcases xbi hb with ⟨j, u, rfl, e⟩ | ⟨y, u, rfl, e⟩
   ·exact nomatch e
   ·injection e with e1 _; rw [e1]
 byValue := fun k v h => by
  rcases xbi h with ⟨i, t, rfl, rfl⟩ | ⟨x, t, rfl, rfl⟩ <;> rfl
 pyHash := fun hv h => by
  rcases xbi hv with ⟨i, t, rfl, rfl⟩ | ⟨x, t, rfl, rfl⟩
  ·exact wpAny_pyHash_int h
  ·exact wpAny_pyHash_str h
 eqBool := fun hu hv h => by
  rcases xbi hu with ⟨i, t, rfl, rfl⟩ | ⟨x, t, rfl, rfl⟩
  ·rcases xbi hv with ⟨j, u, rfl, rfl⟩ | ⟨y, u, rfl, rfl⟩
   ·rw [key_ll] at h; exact wpAny_eqBool_int h
   ·rw [key_lr] at h; exact SeqAt.EqAt.int_str i t y u _ _ _ _ h
  ·rcases xbi hv with ⟨j, u, rfl, rfl⟩ | ⟨y, u, rfl, rfl⟩
   ·rw [key_rl] at h; exact SeqAt.EqAt.str_int x t j u _ _ _ _ h
   ·rw [key_rr] at h; exact wpAny_eqBool_str h
 «strs» := fun k x t v h => by
  rcases xbi h with ⟨i, u, rfl, e⟩ | ⟨y, u, rfl, e⟩
  ·exact nomatch e
  ·injection e with e1 _
   subst e1
   cases v <;> rfl
theorem xkj (prog : Program) (w : World) (i : Int) (t : Tok) : (xbd prog w).is (.inl i) (.int i t) = true := xol i t
theorem xki (prog : Program) (w : World) (x : Str) (t : Tok) : (xbd prog w).is (.inr x) (.str x t) = true := xok x t
end L2
namespace L2
open PySem PySem.Spec PyProof.Rows
inductive V where
 | non | bl (b : Bool) | int (i : Int) | str (x : Str) | byt (b : Array UInt8) | flt (b : UInt64) | ref (a : Addr) | ty (n : String)
 deriving DecidableEq
def RelV : V -> Value -> Prop
 | .non, u => u = Value.none
 | .bl b, u => u = Value.bool b
 | .int i, u => ∃ t, u = Value.int i t
 | .str x, u => ∃ t, u = Value.str x t
 | .byt b, u => ∃ t, u = Value.bytes b t
 | .flt b, u => ∃ t, u = Value.float b t
 | .ref a, u => u = Value.ref a
 | .ty n, u => u = Value.type n
abbrev Vals : List V -> List Value -> Prop := Paired RelV
theorem Vals.length {xs : List V} {us : List Value} (r : Vals xs us) : xs.length = us.length := Paired.length r
theorem Vals.get : ∀ {xs : List V} {us : List Value} {i : Nat} {x : V}, Vals xs us -> xs[i]? = some x -> ∃ u, us[i]? = some u /\ RelV x u
 | _, _, _, _, .nil, e => by simp at e
 | _, _, 0, _, .cons r _, e => by simp at e; subst e; exact ⟨_, rfl, r⟩
 | _, _, i + 1, x, .cons _ t, e => by
  obtain ⟨u, h1, h2⟩ := Vals.get (i := i) (x := x) t (by simpa using e)
  exact ⟨u, by simpa using h1, h2⟩
theorem Vals.set {x : V} {u : Value} (r : RelV x u) : ∀ {xs : List V} {us : List Value} (i : Nat), Vals xs us -> Vals (xs.set i x) (us.set i u)
 | _, _, _, .nil => .nil
 | _, _, 0, .cons _ t => .cons r t
 | _, _, i + 1, .cons q t => .cons q (Vals.set r i t)
theorem Vals.append : ∀ {xs ys : List V} {us ws : List Value}, Vals xs us -> Vals ys ws -> Vals (xs ++ ys) (us ++ ws)
 | _, _, _, _, .nil, s => s
 | _, _, _, _, .cons r t, s => .cons r (Vals.append t s)
theorem Vals.take : ∀ {xs : List V} {us : List Value} (n : Nat), Vals xs us -> Vals (xs.take n) (us.take n)
 | _, _, 0, _ => .nil
 | _, _, _ + 1, .nil => .nil
 | _, _, n + 1, .cons r t => .cons r (Vals.take n t)
theorem Vals.drop : ∀ {xs : List V} {us : List Value} (n : Nat), Vals xs us -> Vals (xs.drop n) (us.drop n)
 | _, _, 0, r => r
 | _, _, _ + 1, .nil => .nil
 | _, _, n + 1, .cons _ t => Vals.drop n t
def RelO : Option V -> Option Value -> Prop
 | some v, some u => RelV v u
 | none, none => True
 | _, _ => False
def KV {κ : Type} : List (κ × V) -> List (κ × Value) -> Prop := Paired fun (p : κ × V) (q : κ × Value) => p.1 = q.1 /\ RelV p.2 q.2
def kV : Key -> V
 | .inl i => .int i
 | .inr x => .str x
inductive HO where
 | lst (xs : List V)
 | tup (xs : List V)
 | dK (kvs : List (Key × V)) | dT (kvs : List (List Key × V))
 | set (S : Int -> Bool) (n : Nat)
 | ins (C dx : Addr) (fs : List (Str × V))
 | own (x : Addr)
 | xd (fs : List (Str × V))
 | met (f x : Addr)
 | rng (lo hi : Int)
 | frz (o : Obj) (u : HO)
 | tbl (ps : Array Value)
 | ext (φ : Heap -> Prop)
abbrev Hp := Addr -> Option HO
def upd (H : Hp) (a : Addr) (o : HO) : Hp := fun b => if b = a then some o else H b
theorem ups {H : Hp} {a : Addr} {o : HO} : upd H a o a = some o := by unfold upd; rw [if_pos rfl]
theorem xaw {H : Hp} {a b : Addr} {o : HO} (h : b ≠ a) : upd H a o b = H b := by unfold upd; rw [if_neg h]
theorem xrc {H : Hp} {a : Addr} {o u : HO} : upd (upd H a o) a u = upd H a u := by
 funext b; unfold upd; split <;> rfl
theorem ne_of {H : Hp} {a b : Addr} {o u : HO} (h : H a = some o) (h' : H b = some u) (d : o ≠ u) : a ≠ b := by
 intro e; subst e; rw [h] at h'; exact d (Option.some.inj h')
theorem neN {H : Hp} {a b : Addr} {o : HO} (h : H a = some o) (h' : H b = none) : a ≠ b := by
 intro e; subst e; rw [h] at h'; cases h'
section
variable (P : Program) (w : World)
def ObjOk (H : Hp) (h : Heap) (a : Addr) : HO -> Prop
 | .lst xs => xs.length <= sizeLine /\ ∃ (its : List Value) (n : Nat), Vals xs its /\ h.get? a = some { cls := .type "list", data := .seq its.toArray n }
 | .tup xs => xs.length <= sizeLine /\ ∃ its : List Value, Vals xs its /\ ∃ o, h.get? a = some o /\ o.cls = .type "tuple" /\ ∃ n, o.data = .seq its.toArray n /\ o.dict = none
 | .dK kvs => kvs.length <= sizeLine /\ (a == sysModules) = false /\ ∃ vs, KV kvs vs /\ h.DictOf (xbd P w) a vs
 | .dT kvs => kvs.length <= sizeLine /\ (a == sysModules) = false /\ ∃ xs : List (List Key × Addr × Value),
   Paired (fun (p : List Key × V) (q : List Key × Addr × Value) => p.1 = q.1 /\ H q.2.1 = some (.tup (p.1.map kV)) /\ RelV p.2 q.2.2) kvs xs ∧
   ∃ o es ep, h.get? a = some o /\ o.ExactDict /\ o.data = .dict es ep /\ es.toList = xs.map (entryOfKey (tupleKind (xbd P w))) /\ (xs.map (·.1)).Nodup
 | .set S n => h.SetOf (intKind P w) a S n
 | .ins C dx fs => H dx = some (.own a) /\ fs.length <= 1000 /\ dx ≠ a /\ h.get? a = some (PySem.W.instObj C dx) ∧
   ∃ mA, h.Ns1 dx mA /\ (∀ f, RelO (fs.lookup f) (mA f)) /\ PySem.Within mA (fs.map (·.1))
 | .own _ => ∃ o, h.get? a = some o
 | .xd fs => ∃ mA, h.Ns1 a mA /\ ∀ f, RelO (fs.lookup f) (mA f)
 | .rng lo hi => ∃ t u v, h.get? a = some { cls := .type "range", data := .fields #[.int lo t, .int hi u, .int 1 v] }
 | .frz o u => h.get? a = some o /\ ObjOk H h a u
 | .tbl ps => h.get? a = some { cls := .none, data := .fields ps }
 | .met f x => h.get? a = some (PySem.W.methodObj (.ref f) (.ref x))
 | .ext φ => φ h /\ (∃ o, h.get? a = some o) /\ ∀ h1 h2 : Heap, φ h1 -> (∀ o, h1.get? a = some o -> h2.get? a = some o) -> φ h2
def HOk (H : Hp) (h : Heap) : Prop := ∀ a o, H a = some o -> ObjOk P w H h a o
end
section
variable {P : Program} {w : World} {H H' : Hp} {h h' : Heap} {a : Addr} {o : HO}
theorem ObjOk.lt (x : ObjOk P w H h a o) : a < h.objs.size := by
 cases o with
 | lst xs => obtain ⟨_, _, _, _, e⟩ := x; exact Heap.lt_size e
 | tup xs => obtain ⟨_, _, _, _, e, _⟩ := x; exact Heap.lt_size e
 | dK kvs => obtain ⟨_, _, _, _, o, _, _, e, _⟩ := x; exact Heap.lt_size e
 | dT kvs => obtain ⟨_, _, _, _, o, _, _, e, _⟩ := x; exact Heap.lt_size e
 | set S n => obtain ⟨o, _, _, _, e, _⟩ := x; exact Heap.lt_size e
 | ins C dx fs => obtain ⟨_, _, _, e, _⟩ := x; exact Heap.lt_size e
 | own y => obtain ⟨_, e⟩ := x; exact Heap.lt_size e
 | xd fs => obtain ⟨_, ⟨_, _, _, e, _⟩, _⟩ := x; exact Heap.lt_size e
 | rng lo hi => obtain ⟨_, _, _, e⟩ := x; exact Heap.lt_size e
 | frz ob u => obtain ⟨e, _⟩ := x; exact Heap.lt_size e
 | tbl ps => exact Heap.lt_size (show h.get? a = some _ from x)
 | met f y => exact Heap.lt_size (show h.get? a = some _ from x)
 | ext φ => obtain ⟨_, ⟨_, e⟩, _⟩ := x; exact Heap.lt_size e
theorem Paired.mapP {α β : Type} {F G : α -> β -> Prop} : ∀ {l₁ : List α} {l₂ : List β}, Paired F l₁ l₂ -> (∀ a b, F a b -> G a b) -> Paired G l₁ l₂
 | _, _, .nil, _ => .nil
 | _, _, .cons r t, f => .cons (f _ _ r) (Paired.mapP t f)
theorem ObjOk.stay (x : ObjOk P w H h a o) (k : ∀ b u, (b = a \/ H b = some (.own a)) -> h.get? b = some u -> h'.get? b = some u)
  (ho : ∀ b, H b = some (.own a) -> H' b = some (.own a)) (ht : ∀ b xs, H b = some (.tup xs) -> H' b = some (.tup xs)) : ObjOk P w H' h' a o := by
 induction o with
 | lst xs => obtain ⟨z, its, n, r, e⟩ := x; exact ⟨z, its, n, r, k _ _ (.inl rfl) e⟩
 | tup xs => obtain ⟨z, its, r, ob, e, c⟩ := x; exact ⟨z, its, r, ob, k _ _ (.inl rfl) e, c⟩
 | dK kvs => obtain ⟨z, y, vs, r, ob, es, ep, e, c⟩ := x; exact ⟨z, y, vs, r, ob, es, ep, k _ _ (.inl rfl) e, c⟩
 | dT kvs =>
  obtain ⟨z, y, xs, r, ob, es, ep, e, c⟩ := x
  exact ⟨z, y, xs, Paired.mapP r fun p q z => ⟨z.1, ht _ _ z.2.1, z.2.2⟩, ob, es, ep, k _ _ (.inl rfl) e, c⟩
 | set S n => obtain ⟨ob, es, ep, t, e, c⟩ := x; exact ⟨ob, es, ep, t, k _ _ (.inl rfl) e, c⟩
 | ins C dx fs =>
  obtain ⟨d, z, ne, e, mA, ⟨od, es, ep, e2, c⟩, r⟩ := x
  exact ⟨ho _ d, z, ne, k _ _ (.inl rfl) e, mA, ⟨od, es, ep, k _ _ (.inr d) e2, c⟩, r⟩
 | own y => obtain ⟨ob, e⟩ := x; exact ⟨ob, k _ _ (.inl rfl) e⟩
 | xd fs => obtain ⟨mA, ⟨od, es, ep, e, c⟩, r⟩ := x; exact ⟨mA, ⟨od, es, ep, k _ _ (.inl rfl) e, c⟩, r⟩
 | rng lo hi => obtain ⟨t, u, v, e⟩ := x; exact ⟨t, u, v, k _ _ (.inl rfl) e⟩
 | frz ob u ih => obtain ⟨e, q⟩ := x; exact ⟨k _ _ (.inl rfl) e, ih q⟩
 | tbl ps =>
  have e : h.get? a = some { cls := .none, data := .fields ps } := x
  show h'.get? a = some { cls := .none, data := .fields ps }
  exact k a _ (.inl rfl) e
 | met f y =>
  have e : h.get? a = some (PySem.W.methodObj (.ref f) (.ref y)) := x
  show h'.get? a = some (PySem.W.methodObj (.ref f) (.ref y))
  exact k a _ (.inl rfl) e
 | ext φ => obtain ⟨p, ⟨o, e⟩, st⟩ := x; exact ⟨st _ _ p fun o q => k _ _ (.inl rfl) q, ⟨o, k _ _ (.inl rfl) e⟩, st⟩
theorem HOk.lt (x : HOk P w H h) (e : H a = some o) : a < h.objs.size := (x a o e).lt
theorem HOk.fresh (x : HOk P w H h) (e : h.objs.size <= a) : H a = none := by
 cases q : H a with
 | none => rfl
 | some u => exact absurd (Nat.lt_of_lt_of_le (x.lt q) e) (Nat.lt_irrefl _)
theorem HOk.kept (x : HOk P w H h) (k : ∀ b u, h.get? b = some u -> h'.get? b = some u) : HOk P w H h' := fun a o e =>
 (x a o e).stay (fun b u _ q => k b u q) (fun _ q => q) fun _ _ q => q
theorem HOk.laid (x : HOk P w H h) (k : ∀ b u, h.get? b = some u -> h'.get? b = some u) (hp : h.objs.size <= a) (new : ObjOk P w (upd H a o) h' a o) : HOk P w (upd H a o) h' := fun b u e => by
 have hn := x.fresh hp
 by_cases hb : b = a
 ·subst hb; rw [ups] at e; cases e; exact new
 ·rw [xaw hb] at e
  exact (x b u e).stay (fun c v _ q => k c v q) (fun c q => by rw [xaw (neN q hn)]; exact q) fun c xs q => by rw [xaw (neN q hn)]; exact q
end
def Rd (H : Hp) (a : Addr) (u : HO) : Prop := H a = some u \/ ∃ o, H a = some (.frz o u)
theorem Rd.ok {P : Program} {w : World} {H : Hp} {h : Heap} {a : Addr} {u : HO} (r : Rd H a u) (x : HOk P w H h) : ObjOk P w H h a u := by
 rcases r with r | ⟨o, r⟩
 ·exact x a u r
 ·obtain ⟨_, q⟩ := x a _ r
  exact q
def Mut : Option HO -> Prop
 | some (.lst _) => True
 | some (.dK _) => True
 | some (.dT _) => True
 | some (.set _ _) => True
 | some (.ins _ _ _) => True
 | some (.ext _) => True
 | _ => False
section
variable {P : Program} {w : World} {H : Hp} {h h' : Heap} {x e : Addr} {o' : HO}
theorem HOk.write (ok : HOk P w H h) (mu : Mut (H x)) (he : e = x \/ H e = some (.own x)) (k : ∀ b u, b ≠ e -> h.get? b = some u -> h'.get? b = some u) (heo : ∃ u, h'.get? e = some u)
  (new : ObjOk P w (upd H x o') h' x o') : HOk P w (upd H x o') h' := fun b u q => by
 have nown : ∀ c y, H c = some (.own y) -> c ≠ x := fun c y r z => by subst z; rw [r] at mu; exact mu
 have ntup : ∀ c xs, H c = some (.tup xs) -> c ≠ x := fun c xs r z => by subst z; rw [r] at mu; exact mu
 by_cases hb : b = x
 ·subst hb; rw [ups] at q; cases q; exact new
 ·rw [xaw hb] at q
  by_cases hbe : b = e
  ·have q' : H b = some (.own x) := by
    rcases he with z | z
    ·exact absurd (hbe.trans z) hb
    ·rw [hbe]; exact z
   rw [q] at q'; cases q'
   obtain ⟨v, hv⟩ := heo
   exact ⟨v, by rw [hbe]; exact hv⟩
  ·refine (ok b u q).stay (fun c v hc r => k c v ?_ r) (fun c r => by rw [xaw (nown c b r)]; exact r) fun c xs r => by rw [xaw (ntup c xs r)]; exact r
   rcases hc with rfl | hc
   ·exact hbe
   ·rintro rfl
    rcases he with z | z
    ·exact nown c b hc z
    ·rw [hc] at z; cases z; exact hb rfl
end
structure Un (fs ex : List Addr) (H H' : Hp) (h h' : Heap) : Prop where
 keep : ∀ b o, h.get? b = some o -> H b = none -> b ∉ fs -> b ∉ ex -> h'.get? b = some o
 slot : ∀ b o, h.get? b = some o -> H b = none -> b ∈ fs -> b ∉ ex -> ∃ sl, h'.get? b = some { o with slots := sl }
 free : ∀ b o, h.get? b = some o -> H b = none -> b ∉ ex -> H' b = none
 there : ∀ b o, h.get? b = some o -> b ∉ ex -> ∃ o', h'.get? b = some o'
 tups : ∀ b xs, H b = some (.tup xs) -> H' b = some (.tup xs)
 frzs : ∀ b o u, H b = some (.frz o u) -> H' b = some (.frz o u)
 tbls : ∀ b ps, H b = some (.tbl ps) -> ∃ more, H' b = some (.tbl (ps ++ more))
section
variable {fs fs' ex ex' : List Addr} {H H1 H2 : Hp} {h h1 h2 h' : Heap} {a x e : Addr} {o : HO}
theorem Un.any (u : Un fs ex H H1 h h1) {b : Addr} {ob : Obj} (q : h.get? b = some ob) (n : H b = none) (hx : b ∉ ex) : ∃ sl, h1.get? b = some { ob with slots := sl } := by
 by_cases hb : b ∈ fs
 ·exact u.slot b ob q n hb hx
 ·exact ⟨ob.slots, u.keep b ob q n hb hx⟩
theorem Un.kept (k : ∀ b u, h.get? b = some u -> h'.get? b = some u) : Un fs ex H H h h' :=
 ⟨fun b ob q _ _ _ => k b ob q, fun b ob q _ _ _ => ⟨ob.slots, k b ob q⟩, fun _ _ _ n _ => n, fun b ob q _ => ⟨ob, k b ob q⟩, fun _ _ q => q, fun _ _ _ q => q, fun _ ps q => ⟨#[], by rw [q]; simp⟩⟩
theorem Un.refl : Un fs ex H H h h := Un.kept fun _ _ q => q
theorem Un.laid (k : ∀ b u, h.get? b = some u -> h'.get? b = some u) (hp : h.objs.size <= a) (hn : H a = none) : Un fs ex H (upd H a o) h h' where
 keep := fun b u q _ _ _ => k b u q
 slot := fun b u q _ _ _ => ⟨u.slots, k b u q⟩
 free := fun b u q n _ => by rw [xaw (Nat.ne_of_lt (Nat.lt_of_lt_of_le (Heap.lt_size q) hp))]; exact n
 there := fun b u q _ => ⟨u, k b u q⟩
 tups := fun b xs q => by rw [xaw (neN q hn)]; exact q
 frzs := fun b u xs q => by rw [xaw (neN q hn)]; exact q
 tbls := fun b ps q => ⟨#[], by rw [xaw (neN q hn), q]; simp⟩
theorem Un.write (mu : Mut (H x)) (he : e = x \/ H e = some (.own x)) (k : ∀ b u, b ≠ e -> h.get? b = some u -> h'.get? b = some u) (heo : ∃ u, h'.get? e = some u) : Un fs ex H (upd H x o) h h' := by
 have hx : ∀ b, H b = none -> b ≠ x := fun b n z => by subst z; rw [n] at mu; exact mu
 have hb : ∀ b, H b = none -> b ≠ e := fun b n z => by
  subst z
  rcases he with r | r
  ·exact hx b n r
  ·rw [n] at r; cases r
 have hm : ∀ b u, H b = some u -> ¬ Mut (some u) -> b ≠ x := fun b u q nm z => by subst z; rw [q] at mu; exact nm mu
 refine ⟨fun b u q n _ _ => k b u (hb b n) q, fun b u q n _ _ => ⟨u.slots, k b u (hb b n) q⟩, fun b u q n _ => by rw [xaw (hx b n)]; exact n, fun b u q _ => ?_,
  fun b xs q => by rw [xaw (hm b _ q fun z => z)]; exact q, fun b u xs q => by rw [xaw (hm b _ q fun z => z)]; exact q, fun b ps q => ⟨#[], by rw [xaw (hm b _ q fun z => z), q]; simp⟩⟩
 by_cases hbe : b = e
 ·subst hbe; exact heo
 ·exact ⟨u, k b u hbe q⟩
end
def trk (h : Heap) (H : Hp) : List Addr := (List.range h.objs.size).filter fun a => (H a).isSome
def hidT (h : Heap) (H : Hp) : Heap := PySem.W.hideAll h (trk h H)
theorem xor (h : Heap) (H : Hp) : (hidT h H).objs.size = h.objs.size := PySem.W.hideAll_size _ _
theorem xqc {h : Heap} {H : Hp} {b : Addr} {o : Obj} (e : h.get? b = some o) (n : H b = none) : (hidT h H).get? b = some o :=
 PySem.W.hideAll_get _ e fun hm => by
  have q : (H b).isSome = true := (List.mem_filter.mp hm).2
  rw [n] at q; simp at q
theorem xr4 {h : Heap} {H : Hp} {b : Addr} {o : Obj} (e : (hidT h H).get? b = some o) : h.get? b = some o /\ H b = none := by
 have e' : h.get? b = some o := PySem.W.of_hideAll (trk h H) e
 refine ⟨e', ?_⟩
 cases q : H b with
 | none => rfl
 | some x =>
  have hm : b ∈ trk h H := List.mem_filter.mpr ⟨List.mem_range.mpr (Heap.lt_size e'), by simp [q]⟩
  have z : (hidT h H).get? b = none := PySem.W.hideAll_none (trk h H) hm
  rw [z] at e; cases e
end L2
namespace L2
open PySem PySem.Spec PyProof.Rows
structure Mod (K : PySem.W.Frag) (mg : Str -> Option Value) (base : Heap) : Prop where
 kin : K.In base
 glob : base.Ns mainGlobals mg
 blt : ∃ mb, base.Ns builtinsNs mb /\ ∀ x : Str, x ≠ "__name__" -> mb x = bootBuiltins x
 nolimit : base.NoLimit
structure Cx where
 prog : Program
 w : World
 K : PySem.W.Frag
 mg : Str -> Option Value
 base : Heap
 A : Around
 N : List Str
 s₀ : Shared
 H₀ : Hp
 env : Env
 outer : List Env
 stack : List Env
 ex : List Addr
 fn : Str -> Bool
 calm : Bool
 pn : List (Addr × Obj)
 xe : Value -> Shared -> Prop
def frs (l : List Env) : List Addr := l.filterMap (·.frame)
abbrev Cx.fs (X : Cx) : List Addr := frs X.outer
def Vis (sc : Scope) (x : Str) : Prop := sc.names.lookup x = some .local \/ sc.names.lookup x = some .cell \/ sc.names.lookup x = some .free
def Loc (sc : Scope) (x : Str) : Prop := sc.names.lookup x = some .local \/ sc.names.lookup x = some .cell
def Look (env : Env) (h : Heap) (m : Str -> Option Value) (x : Str) (u : Value) : Prop :=
 (env.kindOf x = some .local /\ m x = some u) \/ ((env.kindOf x = some .cell \/ env.kindOf x = some .free) /\ ∃ c, env.cells.lookup x = some c /\ h.IsCell c (some u))
structure Cx.Ok (X : Cx) : Prop where
 mod : Mod X.K X.mg X.base
 kind : X.env.scope.kind = .function
 glob : X.env.globals = mainGlobals
 blt : X.env.builtins = builtinsNs
 above : X.s₀.heap.objs.size <= X.env.locals
 inj : ∀ x y c, X.env.cells.lookup x = some c -> X.env.cells.lookup y = some c -> x = y
 has : ∀ x, (X.env.kindOf x = some .cell \/ X.env.kindOf x = some .free) -> ∃ c, X.env.cells.lookup x = some c
 cab : ∀ x c, X.fn x = true -> X.env.cells.lookup x = some c -> X.s₀.heap.objs.size <= c
 hd : X.calm = true -> X.A.handled = none
 frames : X.A.frames = some X.stack
 stk : X.stack = X.outer \/ (X.stack = X.env :: X.outer /\ X.env.frame = some X.env.locals)
 exf : ∀ b ∈ X.ex, b ≠ X.env.locals /\ ∀ x c, X.env.cells.lookup x = some c -> c ≠ b
 bs : ∀ b o, X.base.get? b = some o -> X.s₀.heap.get? b = some o /\ X.H₀ b = none
 bsz : X.base.objs.size <= X.s₀.heap.objs.size
 noex : ∀ b o, X.base.get? b = some o -> b ∉ X.ex
 exfs : ∀ b ∈ X.ex, b ∉ X.fs
 funs : X.s₀.heap.FunFrames X.base X.outer
 frf : ∀ b ∈ X.fs, X.H₀ b = none
structure Inv (X : Cx) (pins : List (Addr × Obj)) (σ : List (Option V)) (H : Hp) (s : Shared) : Prop where
 ok : X.Ok
 os : s.os = X.s₀.os
 bare : AllBare s.gens
 base : Un X.fs X.ex X.H₀ H X.s₀.heap s.heap
 loc : ∃ m, s.heap.Ns X.env.locals m /\ ∀ (i : Nat) (x : Str) (v : V), X.N[i]? = some x -> σ[i]? = some (some v) -> Vis X.env.scope x -> ∃ u, RelV v u /\ Look X.env s.heap m x u
 cell : ∀ x c, X.env.cells.lookup x = some c -> ∃ v, s.heap.IsCell c v
 free : H X.env.locals = none
 freeC : ∀ x c, X.env.cells.lookup x = some c -> H c = none
 pin : ∀ p ∈ X.pn ++ pins, s.heap.get? p.1 = some p.2 /\ H p.1 = none /\ p.1 ≠ X.env.locals /\ p.1 ∉ X.fs /\ ∀ v, p.2.data ≠ .cell v
 hok : HOk X.prog X.w H s.heap
 len : σ.length = X.N.length
section
variable {X : Cx} {pins : List (Addr × Obj)} {σ : List (Option V)} {H H' : Hp} {s : Shared} {h' : Heap}
theorem Cx.Ok.nofr (ok : X.Ok) {b : Addr} {o : Obj} (e : X.base.get? b = some o) : b ∉ X.fs := fun hb => by
 have := (ok.funs.mem hb).1
 rw [e] at this; cases this
theorem Inv.bs (I : Inv X pins σ H s) : ∀ b o, X.base.get? b = some o -> s.heap.get? b = some o /\ H b = none := fun b o e =>
 ⟨I.base.keep b o (I.ok.bs b o e).1 (I.ok.bs b o e).2 (I.ok.nofr e) (I.ok.noex b o e), I.base.free b o (I.ok.bs b o e).1 (I.ok.bs b o e).2 (I.ok.noex b o e)⟩
theorem Inv.bk (I : Inv X pins σ H s) : ∀ b o, X.base.get? b = some o -> s.heap.get? b = some o := fun b o e => (I.bs b o e).1
theorem Inv.mod (I : Inv X pins σ H s) : Mod X.K X.mg X.base := I.ok.mod
theorem Inv.kIn (I : Inv X pins σ H s) : X.K.In s.heap := I.ok.mod.kin.keeps I.bk
theorem Inv.lt (I : Inv X pins σ H s) : X.env.locals < s.heap.objs.size := let ⟨_, hn, _⟩ := I.loc; hn.lt
theorem Inv.sz (I : Inv X pins σ H s) : X.s₀.heap.objs.size <= s.heap.objs.size := Nat.le_trans I.ok.above (Nat.le_of_lt I.lt)
theorem Inv.nofs (I : Inv X pins σ H s) {a : Addr} (h : s.heap.objs.size <= a) : a ∉ X.fs := fun hb => by
 obtain ⟨_, o, ho, _⟩ := I.ok.funs.mem hb
 exact absurd (Nat.lt_of_lt_of_le (Heap.lt_size ho) (Nat.le_trans I.sz h)) (Nat.lt_irrefl _)
theorem Inv.cne (I : Inv X pins σ H s) : ∀ x c, X.env.cells.lookup x = some c -> c ≠ X.env.locals := fun x c e z => by
 obtain ⟨v, o, ho, hd⟩ := I.cell x c e
 obtain ⟨m, ⟨o', es, ep, ho', hd', _⟩, _⟩ := I.loc
 rw [z, ho'] at ho; cases ho; rw [hd'] at hd; cases hd
theorem Inv.funs (I : Inv X pins σ H s) : s.heap.FunFrames X.base X.outer := by
 have all : ∀ (l : List Env), (∀ b ∈ frs l, b ∈ X.fs) -> X.s₀.heap.FunFrames X.base l -> s.heap.FunFrames X.base l := by
  intro l
  induction l with
  | nil => intro _ _; trivial
  | cons env r ih =>
   intro hs hl
   obtain ⟨hk, ⟨L, o, hf, hn, ho, hd⟩, hr⟩ := hl
   have hL : L ∈ X.fs := hs L (by unfold frs; rw [List.filterMap_cons, hf]; exact List.mem_cons_self)
   obtain ⟨sl, e⟩ := I.base.slot L o ho (I.ok.frf L hL) hL fun z => I.ok.exfs L z hL
   exact ⟨hk, ⟨L, _, hf, hn, e, hd⟩, ih (fun b hb => hs b (by unfold frs; rw [List.filterMap_cons, hf]; exact List.mem_cons_of_mem _ hb)) hr⟩
 exact all X.outer (fun _ hb => hb) I.ok.funs
theorem Inv.stack (I : Inv X pins σ H s) : s.heap.FunFrames X.base X.stack := by
 rcases I.ok.stk with e | ⟨e, hf⟩
 ·rw [e]; exact I.funs
 ·rw [e]
  obtain ⟨m, hn, _⟩ := I.loc
  refine .cons (by rw [I.ok.kind]; decide) hf hn ?_ I.funs
  exact Heap.get?_none_of_le (Nat.le_trans I.ok.bsz I.ok.above)
theorem Inv.stkSub (I : Inv X pins σ H s) : ∀ b ∈ frs X.stack, b ∈ X.env.locals :: X.fs := fun b hb => by
 rcases I.ok.stk with e | ⟨e, hf⟩
 ·rw [e] at hb; exact List.mem_cons_of_mem _ hb
 ·rw [e] at hb
  unfold frs at hb
  rw [List.filterMap_cons, hf] at hb
  exact hb
theorem Inv.stkFree (I : Inv X pins σ H s) : ∀ b ∈ frs X.stack, H b = none := fun b hb => by
 rcases List.mem_cons.mp (I.stkSub b hb) with e | hb
 ·rw [e]; exact I.free
 ·obtain ⟨_, o, ho, _⟩ := I.ok.funs.mem hb
  exact I.base.free b o ho (I.ok.frf b hb) fun z => I.ok.exfs b z hb
theorem Inv.step {g' : Array GenState} {t' : Nat} {d' : Drawn} {ch : List Addr} (I : Inv X pins σ H s)
  (hch : ∀ b ∈ ch, (b ∈ X.ex \/ X.s₀.heap.objs.size <= b) /\ b ≠ X.env.locals /\ (∀ x c, X.env.cells.lookup x = some c -> c ≠ b) /\ ∀ p ∈ X.pn ++ pins, p.1 ≠ b)
  (keep : ∀ b o, b ≠ X.env.locals -> b ∉ X.fs -> b ∉ ch -> s.heap.get? b = some o -> H b = none -> h'.get? b = some o)
  (slot : ∀ b o, b ≠ X.env.locals -> b ∈ X.fs -> b ∉ ch -> s.heap.get? b = some o -> H b = none -> ∃ sl, h'.get? b = some { o with slots := sl }) (free : ∀ b o, b ∉ ch -> s.heap.get? b = some o -> H b = none -> H' b = none)
  (there : ∀ b o, b ∉ ch -> s.heap.get? b = some o -> ∃ o', h'.get? b = some o')
  (tups : ∀ b xs, H b = some (.tup xs) -> H' b = some (.tup xs)) (frzs : ∀ b o u, H b = some (.frz o u) -> H' b = some (.frz o u)) (tbls : ∀ b ps, H b = some (.tbl ps) -> ∃ more, H' b = some (.tbl (ps ++ more)))
  (ns : ∀ m, s.heap.Ns X.env.locals m -> h'.Ns X.env.locals m) (hok : HOk X.prog X.w H' h') (hg : AllBare g') :
  Inv X pins σ H' { s with heap := h', gens := g', drawn := d', toks := t' } := by
 have neL : ∀ b o, X.s₀.heap.get? b = some o -> b ≠ X.env.locals := fun b o e => Nat.ne_of_lt (Nat.lt_of_lt_of_le (Heap.lt_size e) I.ok.above)
 have neC : ∀ b o, X.s₀.heap.get? b = some o -> b ∉ X.ex -> b ∉ ch := fun b o e hx hb => by
  rcases (hch b hb).1 with z | z
  ·exact hx z
  ·exact absurd (Nat.lt_of_lt_of_le (Heap.lt_size e) z) (Nat.lt_irrefl _)
 have cellK : ∀ x c, X.env.cells.lookup x = some c -> ∀ v, s.heap.IsCell c v -> h'.IsCell c v := fun x c e v ⟨o, ho, hd⟩ => by
  have nch : c ∉ ch := fun z => (hch c z).2.2.1 x c e rfl
  by_cases hc : c ∈ X.fs
  ·obtain ⟨sl, q⟩ := slot c o (I.cne x c e) hc nch ho (I.freeC x c e)
   exact ⟨_, q, hd⟩
  ·exact ⟨o, keep c o (I.cne x c e) hc nch ho (I.freeC x c e), hd⟩
 refine ⟨I.ok, I.os, hg, ⟨fun b o e n hb hx => ?_, fun b o e n hb hx => ?_, fun b o e n hx => ?_, fun b o e hx => ?_, fun b xs e => tups b xs (I.base.tups b xs e), fun b o xs e => frzs b o xs (I.base.frzs b o xs e), fun b ps e => ?_⟩, ?_, fun x c e => ?_, ?_, fun x c e => ?_, fun p hp => ?_, hok, I.len⟩
 ·exact keep b o (neL b o e) hb (neC b o e hx) (I.base.keep b o e n hb hx) (I.base.free b o e n hx)
 ·obtain ⟨sl, e1⟩ := I.base.slot b o e n hb hx
  obtain ⟨sl', e2⟩ := slot b _ (neL b o e) hb (neC b o e hx) e1 (I.base.free b o e n hx)
  exact ⟨sl', e2⟩
 ·obtain ⟨o', e1⟩ := I.base.there b o e hx
  exact free b o' (neC b o e hx) e1 (I.base.free b o e n hx)
 ·obtain ⟨o', e1⟩ := I.base.there b o e hx
  exact there b o' (neC b o e hx) e1
 ·obtain ⟨m1, e1⟩ := I.base.tbls b ps e
  obtain ⟨m2, e2⟩ := tbls b _ e1
  exact ⟨m1 ++ m2, by rw [e2, Array.append_assoc]⟩
 ·obtain ⟨m, hn, hl⟩ := I.loc
  refine ⟨m, ns m hn, fun i x v e1 e2 e3 => ?_⟩
  obtain ⟨u, r, l⟩ := hl i x v e1 e2 e3
  refine ⟨u, r, ?_⟩
  rcases l with l | ⟨k, c, e, z⟩
  ·exact .inl l
  ·exact .inr ⟨k, c, e, cellK x c e _ z⟩
 ·obtain ⟨v, z⟩ := I.cell x c e
  exact ⟨v, cellK x c e v z⟩
 ·obtain ⟨m, ⟨o, _, _, ho, _⟩, _⟩ := I.loc
  exact free _ o (fun z => (hch _ z).2.1 rfl) ho I.free
 ·obtain ⟨v, o, ho, hd⟩ := I.cell x c e
  exact free c o (fun z => (hch c z).2.2.1 x c e rfl) ho (I.freeC x c e)
 ·obtain ⟨e, n, ne, nf, d⟩ := I.pin p hp
  have nch : p.1 ∉ ch := fun z => (hch p.1 z).2.2.2 p hp rfl
  exact ⟨keep p.1 p.2 ne nf nch e n, free p.1 p.2 nch e n, ne, nf, d⟩
theorem Inv.un {t' : Nat} (I : Inv X pins σ H s) (u : Un X.fs [] H H' s.heap h') (hok : HOk X.prog X.w H' h') : Inv X pins σ H' { s with heap := h', toks := t' } := by
 obtain ⟨m, ⟨o, es, ep, ho, r⟩, _⟩ := id I.loc
 obtain ⟨sl, hL⟩ := u.any ho I.free (by simp)
 exact I.step (g' := s.gens) (d' := s.drawn) (ch := []) (fun _ z => nomatch z) (fun b o _ hb _ e n => u.keep b o e n hb (by simp)) (fun b o _ hb _ e n => u.slot b o e n hb (by simp)) (fun b o _ e n => u.free b o e n (by simp)) (fun b o _ e => u.there b o e (by simp)) u.tups u.frzs u.tbls (fun m' hm => by
  obtain ⟨o', es', ep', ho', r'⟩ := hm
  rw [ho] at ho'; cases ho'
  exact ⟨_, es', ep', hL, r'⟩) hok I.bare
theorem Inv.call {g' : Array GenState} {t' : Nat} {d' : Drawn} {ch : List Addr} (I : Inv X pins σ H s) (u : Un (frs X.stack) ch H H' s.heap h') (hok : HOk X.prog X.w H' h') (hg : AllBare g')
  (hch : ∀ b ∈ ch, (b ∈ X.ex \/ X.s₀.heap.objs.size <= b) /\ b ≠ X.env.locals /\ (∀ x c, X.env.cells.lookup x = some c -> c ≠ b) /\ ∀ p ∈ X.pn ++ pins, p.1 ≠ b) :
  Inv X pins σ H' { s with heap := h', gens := g', drawn := d', toks := t' } := by
 obtain ⟨m, ⟨o, es, ep, ho, r⟩, _⟩ := id I.loc
 obtain ⟨sl, hL⟩ := u.any ho I.free fun z => (hch _ z).2.1 rfl
 exact I.step (ch := ch) hch (fun b o hL hb hc e n => u.keep b o e n (fun z => (List.mem_cons.mp (I.stkSub b z)).elim hL hb) hc) (fun b o _ _ hc e n => u.any e n hc) (fun b o hc e n => u.free b o e n hc) (fun b o hc e => u.there b o e hc) u.tups u.frzs u.tbls (fun m' hm => by
  obtain ⟨o', es', ep', ho', r'⟩ := hm
  rw [ho] at ho'; cases ho'
  exact ⟨_, es', ep', hL, r'⟩) hok hg
theorem Inv.turned {t' : Nat} {it : Addr} (I : Inv X pins σ H s) (k : ∀ b o, b ≠ it -> s.heap.get? b = some o -> h'.get? b = some o) (hn : H it = none) (hL : it ≠ X.env.locals)
  (h1 : it ∈ X.ex \/ X.s₀.heap.objs.size <= it) (h2 : ∀ x c, X.env.cells.lookup x = some c -> c ≠ it) (h3 : ∀ p ∈ X.pn ++ pins, p.1 ≠ it) : Inv X pins σ H { s with heap := h', toks := t' } := by
 have nit : ∀ b u, H b = some u -> b ≠ it := fun b u e z => by rw [z, hn] at e; cases e
 refine I.step (g' := s.gens) (d' := s.drawn) (ch := [it]) (fun b hb => ?_) (fun b o _ _ hc e _ => k b o (fun z => hc (by simp [z])) e) (fun b o _ _ hc e _ => ⟨o.slots, k b o (fun z => hc (by simp [z])) e⟩) (fun _ _ _ _ n => n)
  (fun b o hc e => ⟨o, k b o (fun z => hc (by simp [z])) e⟩) (fun _ _ e => e) (fun _ _ _ e => e) (fun b ps e => ⟨#[], by rw [e]; simp⟩) (fun m hm => ?_) (fun b u e => ?_) I.bare
 ·have e : b = it := by simpa using hb
  subst e
  exact ⟨h1, hL, h2, h3⟩
 ·obtain ⟨o, es, ep, ho, r⟩ := hm
  exact ⟨o, es, ep, k _ o (Ne.symm hL) ho, r⟩
 ·refine (I.hok b u e).stay (fun c v hc q => k c v ?_ q) (fun _ q => q) fun _ _ q => q
  rcases hc with z | z
  ·rw [z]; exact nit b u e
  ·exact nit c _ z
theorem Inv.tok (I : Inv X pins σ H s) (t : Nat) : Inv X pins σ H { s with toks := t } := I.un (h' := s.heap) (t' := t) Un.refl I.hok
theorem Inv.kept {t' : Nat} (I : Inv X pins σ H s) (k : ∀ b u, s.heap.get? b = some u -> h'.get? b = some u) : Inv X pins σ H { s with heap := h', toks := t' } := I.un (Un.kept k) (I.hok.kept k)
theorem Inv.laid {a : Addr} {o : HO} {t' : Nat} (I : Inv X pins σ H s) (k : ∀ b u, s.heap.get? b = some u -> h'.get? b = some u) (hp : s.heap.objs.size <= a) (new : ObjOk X.prog X.w (upd H a o) h' a o) :
  Inv X pins σ (upd H a o) { s with heap := h', toks := t' } := I.un (Un.laid k hp (I.hok.fresh hp)) (I.hok.laid k hp new)
theorem Inv.write {x e : Addr} {o : HO} {t' : Nat} (I : Inv X pins σ H s) (mu : Mut (H x)) (he : e = x \/ H e = some (.own x)) (k : ∀ b u, b ≠ e -> s.heap.get? b = some u -> h'.get? b = some u) (heo : ∃ u, h'.get? e = some u)
  (new : ObjOk X.prog X.w (upd H x o) h' x o) : Inv X pins σ (upd H x o) { s with heap := h', toks := t' } := I.un (Un.write mu he k heo) (I.hok.write mu he k heo new)
theorem Inv.weak {σ' : List (Option V)} (I : Inv X pins σ H s) (hl : σ'.length = σ.length) (w : ∀ (i : Nat) v, σ'[i]? = some (some v) -> σ[i]? = some (some v)) : Inv X pins σ' H s :=
 ⟨I.ok, I.os, I.bare, I.base, let ⟨m, hn, hl'⟩ := I.loc; ⟨m, hn, fun i x v e1 e2 e3 => hl' i x v e1 (w i v e2) e3⟩, I.cell, I.free, I.freeC, I.pin, I.hok, hl.trans I.len⟩
theorem Inv.pins_of {pins' : List (Addr × Obj)} (I : Inv X pins σ H s) (h : ∀ p ∈ pins', s.heap.get? p.1 = some p.2 /\ H p.1 = none /\ p.1 ≠ X.env.locals /\ p.1 ∉ X.fs /\ ∀ v, p.2.data ≠ .cell v) : Inv X pins' σ H s :=
 ⟨I.ok, I.os, I.bare, I.base, I.loc, I.cell, I.free, I.freeC, fun p hp => (zMA hp).elim (fun z => I.pin p (List.mem_append_left _ z)) (h p), I.hok, I.len⟩
theorem xlj {N : List Str} (hN : N.Nodup) {i j : Nat} {x : Str} (a : N[i]? = some x) (b : N[j]? = some x) : i = j := by
 obtain ⟨h1, e1⟩ := zES a
 obtain ⟨h2, e2⟩ := zES b
 exact (List.getElem_inj hN).mp (e1.trans e2.symm)
theorem xh0 {M : Model} {A : Around} {E : Value -> Shared -> Prop} {i : Nat} {x : Str} {v : V} {u : Value} {Q : Unit -> Shared -> Prop} (I : Inv X pins σ H s) (hN : X.N.Nodup) (hi : X.N[i]? = some x) (hx : Loc X.env.scope x) (r : RelV v u)
  (h : ∀ s', Inv X pins (σ.set i (some v)) H s' -> (∃ a, Heap.SameBut a s.heap s'.heap /\ (a = X.env.locals \/ X.env.cells.lookup x = some a)) -> Q () s') (hf : X.fn x = true \/ X.env.scope.names.lookup x = some .local := by first | exact .inl rfl | exact .inr rfl | assumption) : wpAny M A (storeName X.env x u) Q E s := by
 obtain ⟨m, hn, hl⟩ := id I.loc
 have hcls : (X.env.scope.kind == .class || (X.env.scope.kind == .module && X.env.locals != X.env.globals)) = false := by rw [I.ok.kind]; rfl
 have hiσ : i < σ.length := by rw [I.len]; exact (zES hi).1
 have cne := I.cne
 have tracked : ∀ {a : Addr} {h' : Heap}, (∃ o, s.heap.get? a = some o /\ H a = none) -> Heap.SameBut a s.heap h' -> HOk X.prog X.w H h' := fun {a h'} ha hs b ob e => by
  obtain ⟨_, _, hfree⟩ := ha
  refine (I.hok b ob e).stay (fun c w' hc q => (hs.2 c ?_).trans q) (fun _ q => q) fun _ _ q => q
  rintro rfl
  rcases hc with rfl | hc
  ·rw [hfree] at e; cases e
  ·rw [hfree] at hc; cases hc
 rcases hx with hk | hk
 ·refine wpAny_storeName_local hk hn (fun h' hn' hs => ?_) hcls
  obtain ⟨oL, _, _, hoL, _⟩ := id hn
  refine h _ ⟨I.ok, I.os, I.bare, ⟨fun b o e n hb hx => ?_, fun b o e n hb hx => ?_, I.base.free, fun b o e hx => ?_, I.base.tups, I.base.frzs, I.base.tbls⟩, ⟨_, hn', fun j y v' e1 e2 e3 => ?_⟩, fun y c e => ?_, I.free, I.freeC, fun p hp => ?_, tracked ⟨oL, hoL, I.free⟩ hs, by simpa using I.len⟩ ⟨_, hs, .inl rfl⟩
  ·exact (hs.2 b (Nat.ne_of_lt (Nat.lt_of_lt_of_le (Heap.lt_size e) I.ok.above))).trans (I.base.keep b o e n hb hx)
  ·obtain ⟨sl, e1⟩ := I.base.slot b o e n hb hx
   exact ⟨sl, (hs.2 b (Nat.ne_of_lt (Nat.lt_of_lt_of_le (Heap.lt_size e) I.ok.above))).trans e1⟩
  ·obtain ⟨o', e1⟩ := I.base.there b o e hx
   exact ⟨o', (hs.2 b (Nat.ne_of_lt (Nat.lt_of_lt_of_le (Heap.lt_size e) I.ok.above))).trans e1⟩
  ·by_cases hj : j = i
   ·subst hj
    rw [hi] at e1; cases e1
    rw [List.getElem?_set_self hiσ] at e2
    cases e2
    exact ⟨u, r, .inl ⟨hk, by simp⟩⟩
   ·rw [List.getElem?_set_ne (Ne.symm hj)] at e2
    obtain ⟨u', r', q⟩ := hl j y v' e1 e2 e3
    refine ⟨u', r', ?_⟩
    rcases q with ⟨k, e⟩ | ⟨k, c, e, z⟩
    ·refine .inl ⟨k, ?_⟩
     have : y ≠ x := fun e => hj (xlj hN e1 (e ▸ hi))
     simp [this, e]
    ·exact .inr ⟨k, c, e, z.sameBut hs (cne y c e)⟩
  ·obtain ⟨w', z⟩ := I.cell y c e
   exact ⟨w', z.sameBut hs (cne y c e)⟩
  ·obtain ⟨e, n, ne, nf, d⟩ := I.pin p hp
   exact ⟨(hs.2 p.1 ne).trans e, n, ne, nf, d⟩
 ·have hfn : X.fn x = true := by
   rcases hf with z | z
   ·exact z
   ·rw [z] at hk; cases hk
  obtain ⟨c, hc⟩ := I.ok.has x (.inl hk)
  obtain ⟨w', z⟩ := I.cell x c hc
  refine wpAny_storeName_cell I.ok.kind hk hc z (fun h' hc' hs => ?_)
  obtain ⟨oc, hoc, hocd⟩ := id z
  refine h { s with heap := h' } ⟨I.ok, I.os, I.bare, ⟨fun b o e n hb hx => ?_, fun b o e n hb hx => ?_, I.base.free, fun b o e hx => ?_, I.base.tups, I.base.frzs, I.base.tbls⟩, ⟨m, hn.sameBut hs (Ne.symm (cne x c hc)), fun j y v' e1 e2 e3 => ?_⟩, fun y c' e => ?_, I.free, I.freeC, fun p hp => ?_, tracked ⟨oc, hoc, I.freeC x c hc⟩ hs, by simpa using I.len⟩ ⟨c, hs, .inr hc⟩
  ·exact (hs.2 b (Nat.ne_of_lt (Nat.lt_of_lt_of_le (Heap.lt_size e) (I.ok.cab x c hfn hc)))).trans (I.base.keep b o e n hb hx)
  ·obtain ⟨sl, e1⟩ := I.base.slot b o e n hb hx
   exact ⟨sl, (hs.2 b (Nat.ne_of_lt (Nat.lt_of_lt_of_le (Heap.lt_size e) (I.ok.cab x c hfn hc)))).trans e1⟩
  ·obtain ⟨o', e1⟩ := I.base.there b o e hx
   exact ⟨o', (hs.2 b (Nat.ne_of_lt (Nat.lt_of_lt_of_le (Heap.lt_size e) (I.ok.cab x c hfn hc)))).trans e1⟩
  ·by_cases hj : j = i
   ·subst hj
    rw [hi] at e1; cases e1
    rw [List.getElem?_set_self hiσ] at e2
    cases e2
    exact ⟨u, r, .inr ⟨.inl hk, c, hc, hc'⟩⟩
   ·rw [List.getElem?_set_ne (Ne.symm hj)] at e2
    obtain ⟨u', r', q⟩ := hl j y v' e1 e2 e3
    refine ⟨u', r', ?_⟩
    rcases q with q | ⟨k, c', e, z'⟩
    ·exact .inl q
    ·refine .inr ⟨k, c', e, z'.sameBut hs ?_⟩
     rintro rfl
     exact hj (xlj hN e1 (I.ok.inj _ _ _ e hc ▸ hi))
  ·by_cases hcc : c' = c
   ·subst hcc; exact ⟨_, hc'⟩
   ·obtain ⟨w2, z2⟩ := I.cell y c' e
    exact ⟨w2, z2.sameBut hs hcc⟩
  ·obtain ⟨e, n, ne, nf, d⟩ := I.pin p hp
   refine ⟨(hs.2 p.1 ?_).trans e, n, ne, nf, d⟩
   intro q
   rw [q, hoc] at e
   have q' : oc = p.2 := Option.some.inj e
   exact d w' (by rw [<- q']; exact hocd)
theorem xk6 {M : Model} {A : Around} {E : Value -> Shared -> Prop} {i : Nat} {x : Str} {v : V} {u : Value} {Q : Unit -> Shared -> Prop} (I : Inv X pins σ H s) (hN : X.N.Nodup) (hi : X.N[i]? = some x) (hx : Loc X.env.scope x) (r : RelV v u)
  (h : ∀ s', Inv X pins (σ.set i (some v)) H s' -> Q () s') (hf : X.fn x = true \/ X.env.scope.names.lookup x = some .local := by first | exact .inl rfl | exact .inr rfl | assumption) : wpAny M A (storeName X.env x u) Q E s :=
 xh0 I hN hi hx r (fun s' I' _ => h s' I') hf
theorem Inv.call' {s' : Shared} {ch : List Addr} (I : Inv X pins σ H s) (ho : s'.os = s.os) (u : Un (frs X.stack) ch H H' s.heap s'.heap) (hok : HOk X.prog X.w H' s'.heap) (hg : AllBare s'.gens)
  (hch : ∀ b ∈ ch, (b ∈ X.ex \/ X.s₀.heap.objs.size <= b) /\ b ≠ X.env.locals /\ (∀ x c, X.env.cells.lookup x = some c -> c ≠ b) /\ ∀ p ∈ X.pn ++ pins, p.1 ≠ b) : Inv X pins σ H' s' := by
 obtain ⟨h', g', d', t', o'⟩ := s'
 have e : o' = s.os := ho
 subst e
 exact I.call (g' := g') (t' := t') (d' := d') u hok hg hch
end
abbrev XK := Value -> Option Addr -> Hp -> Prop
abbrev St := List (Option V)
abbrev VK := V -> Hp -> Prop
abbrev TE := St -> Hp -> VK -> Prop
abbrev TT := St -> Hp -> (Bool -> Hp -> Prop) -> Prop
abbrev TA := St -> Hp -> (List V -> Hp -> Prop) -> Prop
structure Ends where
 nx : St -> Hp -> Prop
 rt : VK
 bk : St -> Hp -> Prop := fun _ _ => False
 ct : St -> Hp -> Prop := fun _ _ => False
abbrev TS := Ends -> St -> Hp -> Prop
def EP (X : Cx) (pins : List (Addr × Obj)) (σ : St) (Q : VK) (u : Value) (s' : Shared) : Prop := ∃ v H', Inv X pins σ H' s' /\ RelV v u /\ Q v H'
def TP (X : Cx) (pins : List (Addr × Obj)) (σ : St) (Q : Bool -> Hp -> Prop) (b : Bool) (s' : Shared) : Prop := ∃ H', Inv X pins σ H' s' /\ Q b H'
def AP (X : Cx) (pins : List (Addr × Obj)) (σ : St) (Q : List V -> Hp -> Prop) (us : List Value) (s' : Shared) : Prop := ∃ vs H', Inv X pins σ H' s' /\ Vals vs us /\ Q vs H'
def SP (X : Cx) (pins : List (Addr × Obj)) (D : Ends) (f : Flow) (s' : Shared) : Prop :=
 match f with
 | .next => ∃ σ' H', Inv X pins σ' H' s' /\ D.nx σ' H'
 | .brk => ∃ σ' H', Inv X pins σ' H' s' /\ D.bk σ' H'
 | .cont => ∃ σ' H', Inv X pins σ' H' s' /\ D.ct σ' H'
 | .ret u => ∃ v σ' H', Inv X pins σ' H' s' /\ RelV v u /\ D.rt v H'
def PE (X : Cx) (e : Expr) (t : TE) : Prop :=
 ∀ (pins : List (Addr × Obj)) (s : Shared) (σ : St) (H : Hp) (Q : VK), Inv X pins σ H s -> t σ H Q -> wpAny (model X.prog X.w) X.A (eval e X.env) (EP X pins σ Q) X.xe s
def PT (X : Cx) (e : Expr) (t : TT) : Prop :=
 ∀ (pins : List (Addr × Obj)) (s : Shared) (σ : St) (H : Hp) (Q : Bool -> Hp -> Prop), Inv X pins σ H s -> t σ H Q -> wpAny (model X.prog X.w) X.A (isTrue e X.env (eval e X.env)) (TP X pins σ Q) X.xe s
def PW (X : Cx) (e : Expr) (t : TT) : Prop :=
 ∀ (whole : Sem Value) (pins : List (Addr × Obj)) (s : Shared) (σ : St) (H : Hp) (Q : Bool -> Hp -> Prop), Inv X pins σ H s -> t σ H Q -> wpAny (model X.prog X.w) X.A (isTrue e X.env whole) (TP X pins σ Q) X.xe s
theorem PW.pt {X : Cx} {e : Expr} {t : TT} (h : PW X e t) : PT X e t := h _
def PA (X : Cx) (es : List Expr) (t : TA) : Prop :=
 ∀ (pos : Pos) (pins : List (Addr × Obj)) (s : Shared) (σ : St) (H : Hp) (Q : List V -> Hp -> Prop), Inv X pins σ H s -> t σ H Q -> wpAny (model X.prog X.w) X.A (spliced (backTo pos (starEach es X.env))) (AP X pins σ Q) X.xe s
def PS (X : Cx) (st : Stmt) (t : TS) : Prop :=
 ∀ (pins : List (Addr × Obj)) (s : Shared) (σ : St) (H : Hp) (D : Ends), Inv X pins σ H s -> t D σ H -> wpAny (model X.prog X.w) X.A (exec st X.env) (SP X pins D) X.xe s
def PSs (X : Cx) (st : List Stmt) (t : TS) : Prop :=
 ∀ (pins : List (Addr × Obj)) (s : Shared) (σ : St) (H : Hp) (D : Ends), Inv X pins σ H s -> t D σ H -> wpAny (model X.prog X.w) X.A (execs st X.env) (SP X pins D) X.xe s
theorem thn {α : Type} {t : Sem α} {Q Q' : α -> Shared -> Prop} {M : Model} {A : Around} {E : Value -> Shared -> Prop} {s : Shared} (h : wpAny M A t Q E s) (hQ : ∀ a s, Q a s -> Q' a s) : wpAny M A t Q' E s := wpAny_mono h hQ fun _ _ x => x
end L2
namespace L2
open PySem PySem.Spec PyProof.Rows
section
variable {X : Cx}
def tVar (i : Nat) : TE := fun σ H Q => ∃ v, σ[i]? = some (some v) /\ Q v H
def tC (v : V) : TE := fun _ H Q => Q v H
theorem xtm {i : Nat} {x : Str} {pos : Pos} (hN : X.N[i]? = some x) (hv : Vis X.env.scope x) (hd : (x == ("__debug__" : Str)) = false := by decide) (hcd : (x == ("__classdict__" : Str)) = false := by decide) : PE X (.Name x pos) (tVar i) := by
 intro pins s σ H Q I h
 obtain ⟨v, e, h⟩ := h
 obtain ⟨m, hn, hl⟩ := I.loc
 obtain ⟨u, r, l⟩ := hl i x v hN e hv
 have fin : EP X pins σ Q u s := ⟨v, H, I, r, h⟩
 rcases l with ⟨hk, hm⟩ | ⟨hk, c, hc, hcell⟩
 ·exact wpAny_Name (wpAny_loadName_local I.ok.kind hk hn hm fin) hd
 ·rcases hk with hk | hk
  ·exact wpAny_Name (wpAny_loadName_cell I.ok.kind hk hc hcell fin) hd
  ·exact wpAny_Name (wpAny_loadName_free I.ok.kind hk hc hcell fin hcd) hd
theorem pI {i j pos} : PE X (.Constant (.int i) j pos) (tC (.int i)) := fun _ _ _ H _ I h => wpAny_Constant_int ⟨.int i, H, I.tok _, ⟨_, rfl⟩, h⟩
theorem xf5 {b j pos} : PE X (.Constant (.bool b) j pos) (tC (.bl b)) := fun _ _ _ H _ I h => Constant_bool ⟨.bl b, H, I, rfl, h⟩
theorem xcf {j pos} : PE X (.Constant .none j pos) (tC .non) := fun _ _ _ H _ I h => Constant_none ⟨.non, H, I, rfl, h⟩
theorem pS {x j pos} : PE X (.Constant (.str x) j pos) (tC (.str x)) := fun _ _ _ H _ I h => Calls.Constant_str ⟨.str x, H, I.tok _, ⟨_, rfl⟩, h⟩
def Gl (X : Cx) (x : Str) : Prop := X.env.kindOf x = some .globalImplicit
theorem xoi {E : Value -> Shared -> Prop} {pins : List (Addr × Obj)} {s : Shared} {σ : St} {H : Hp} {x : Str} {u : Value} {pos : Pos} {Q : Value -> Shared -> Prop} (I : Inv X pins σ H s) (hg : Gl X x) (hm : X.mg x = some u) (h : Q u s)
  (hd : (x == ("__debug__" : Str)) = false := by decide) : wpAny (model X.prog X.w) X.A (eval (.Name x pos) X.env) Q E s :=
 Calls.Name_function_global I.ok.kind hg (Calls.loadGlobal_global (by rw [I.ok.glob]; exact I.mod.glob.keeps I.bk) hm h) hd
theorem xer {E : Value -> Shared -> Prop} {pins : List (Addr × Obj)} {s : Shared} {σ : St} {H : Hp} {x : Str} {u : Value} {pos : Pos} {Q : Value -> Shared -> Prop} (I : Inv X pins σ H s) (hg : Gl X x) (hm : X.mg x = none) (hv : bootBuiltins x = some u) (h : Q u s)
  (hn : x ≠ "__name__" := by decide) (hd : (x == ("__debug__" : Str)) = false := by decide) : wpAny (model X.prog X.w) X.A (eval (.Name x pos) X.env) Q E s := by
 obtain ⟨mb, h1, h2⟩ := I.mod.blt
 exact Calls.Name_function_global I.ok.kind hg (Calls.loadGlobal_builtin (by rw [I.ok.glob]; exact I.mod.glob.keeps I.bk) hm (by rw [I.ok.blt]; exact h1.keeps I.bk) ((h2 x hn).trans hv) h) hd
theorem xrv {x : Str} {v : V} {u : Value} {pos : Pos} (hg : Gl X x) (hm : X.mg x = some u) (r : RelV v u) (hd : (x == ("__debug__" : Str)) = false := by decide) : PE X (.Name x pos) (tC v) :=
 fun _ _ _ H _ I h => xoi I hg hm ⟨v, H, I, r, h⟩ hd
theorem xrz {x : Str} {v : V} {u : Value} {pos : Pos} (hg : Gl X x) (hm : X.mg x = none) (hv : bootBuiltins x = some u) (r : RelV v u) (hn : x ≠ "__name__" := by decide) (hd : (x == ("__debug__" : Str)) = false := by decide) : PE X (.Name x pos) (tC v) :=
 fun _ _ _ H _ I h => xer I hg hm hv ⟨v, H, I, r, h⟩ hn hd
variable {a b : Expr} {ta tb : TE} {pos : Pos}
def PC (X : Cx) (op : CmpOp) (a b : Expr) (t : TE) : Prop :=
 ∀ (pins : List (Addr × Obj)) (s : Shared) (σ : St) (H : Hp) (Q : VK), Inv X pins σ H s -> t σ H Q ->
  wpAny (model X.prog X.w) X.A (eval a X.env) (fun v s₁ => wpAny (model X.prog X.w) X.A (eval b X.env) (fun u s₂ => wpAny (model X.prog X.w) X.A (compareOp op v u) (EP X pins σ Q) X.xe s₂) X.xe s₁) X.xe s
def tB (t : TE) : TT := fun σ H Q => t σ H fun x H1 => ∃ c, x = .bl c /\ Q c H1
theorem xfi {op : CmpOp} {t : TE} (h : PC X op a b t) (h1 : behindInMarks op b = false := by first | exact nobehind _ (by decide) (by decide) | rfl) : PT X (.Compare a [op] [b] pos) (tB t) := by
 intro pins s σ H Q I hw
 refine wpAny_isTrue_Compare1 (thn (h pins s σ H _ I hw) fun v s1 h1 => thn h1 fun u s2 h2 => thn h2 fun c s3 ⟨x, H1, I1, r1, q1⟩ => ?_) h1
 obtain ⟨d, rfl, q⟩ := q1
 cases r1
 exact wpAny_truthy_bool ⟨H1, I1, q⟩
theorem xig {e : Expr} {t : TE} (h : PE X e t) (he : ∀ whole, isTrue e X.env whole = (do let v <- whole; standAt e.pos; holding [v] (truthy v)) := by intro _; rfl) : PT X e (tB t) := by
 intro pins s σ H Q I hw
 refine isTrue_plain (thn (h pins s σ H _ I hw) fun v s1 ⟨x, H1, I1, r1, q1⟩ => ?_) (he _)
 obtain ⟨d, rfl, q⟩ := q1
 cases r1
 exact wpAny_truthy_bool ⟨H1, I1, q⟩
variable {tA tB' : TT} {rest : List Expr}
def tAnd (t u : TT) : TT := fun σ H Q => t σ H fun c H1 => if c = true then u σ H1 Q else Q false H1
def tOr (t u : TT) : TT := fun σ H Q => t σ H fun c H1 => if c = true then Q true H1 else u σ H1 Q
def tNot (t : TT) : TT := fun σ H Q => t σ H fun c H1 => Q (!c) H1
theorem xb3 (ha : PT X a tA) : PW X (.BoolOp .And [a] pos) tA := by
 intro wh pins s σ H Q I h
 refine isTrue_and (thn (ha pins s σ H Q I h) fun c s1 e => ?_)
 cases c with
 | true => exact isTrue_and_nil e
 | false => exact e
theorem xep (ha : PT X a tA) : PW X (.BoolOp .Or [a] pos) tA := by
 intro wh pins s σ H Q I h
 refine isTrue_or (thn (ha pins s σ H Q I h) fun c s1 e => ?_)
 cases c with
 | false => exact isTrue_or_nil e
 | true => exact e
theorem xcl (ha : PT X a tA) (hb : PW X (.BoolOp .And (b :: rest) pos) tB') : PW X (.BoolOp .And (a :: b :: rest) pos) (tAnd tA tB') := by
 intro wh pins s σ H Q I h
 refine isTrue_and (thn (ha pins s σ H _ I h) fun c s1 ⟨H1, I1, q1⟩ => ?_)
 cases c with
 | true => exact hb wh pins s1 σ H1 Q I1 q1
 | false => exact ⟨H1, I1, q1⟩
theorem xfh (ha : PT X a tA) (hb : PW X (.BoolOp .Or (b :: rest) pos) tB') : PW X (.BoolOp .Or (a :: b :: rest) pos) (tOr tA tB') := by
 intro wh pins s σ H Q I h
 refine isTrue_or (thn (ha pins s σ H _ I h) fun c s1 ⟨H1, I1, q1⟩ => ?_)
 cases c with
 | true => exact ⟨H1, I1, q1⟩
 | false => exact hb wh pins s1 σ H1 Q I1 q1
theorem xih (ha : PT X a tA) : PT X (.UnaryOp .Not a pos) (tNot tA) := by
 intro pins s σ H Q I h
 exact isTrue_not (ha pins s σ H (fun c H1 => Q (!c) H1) I h)
def tAndV (ta tb : TE) : TE := fun σ H Q => ta σ H fun x H1 => ∃ c, x = .bl c /\ if c = true then tb σ H1 Q else Q (.bl false) H1
def tNotV (ta : TE) : TE := fun σ H Q => ta σ H fun x H1 => ∃ c, x = .bl c /\ Q (.bl (!c)) H1
theorem xij {op} {t : TE} (h : PE X a t) : PE X (.BoolOp op [a] pos) t := fun pins s σ H Q I hw => BoolOp_one (h pins s σ H Q I hw)
theorem xfj (ha : PE X a ta) (hb : PE X (.BoolOp .And (b :: rest) pos) tb) : PE X (.BoolOp .And (a :: b :: rest) pos) (tAndV ta tb) := by
 intro pins s σ H Q I h
 refine BoolOp_and (thn (ha pins s σ H _ I h) fun v s1 ⟨x, H1, I1, r1, q1⟩ => ?_)
 obtain ⟨c, rfl, q1⟩ := q1
 cases r1
 refine wpAny_truthy_bool ?_
 cases c with
 | true => exact hb pins s1 σ H1 Q I1 q1
 | false => exact ⟨.bl false, H1, I1, rfl, q1⟩
theorem xqv (ha : PE X a ta) : PE X (.UnaryOp .Not a pos) (tNotV ta) := by
 intro pins s σ H Q I h
 refine UnaryOp_ (thn (ha pins s σ H _ I h) fun v s1 ⟨x, H1, I1, r1, q1⟩ => ?_)
 obtain ⟨c, rfl, q1⟩ := q1
 cases r1
 exact not_of (wpAny_truthy_bool ⟨.bl (!c), H1, I1, rfl, q1⟩)
def tIf (t : TT) (ta tb : TE) : TE := fun σ H Q => t σ H fun c H1 => if c = true then ta σ H1 Q else tb σ H1 Q
theorem xg0 {c : Expr} (hc : PT X c tA) (ha : PE X a ta) (hb : PE X b tb) : PE X (.IfExp c a b pos) (tIf tA ta tb) := by
 intro pins s σ H Q I h
 refine wpAny_IfExp (thn (hc pins s σ H _ I h) fun d s1 ⟨H1, I1, q1⟩ => ?_)
 cases d with
 | true => exact ha pins s1 σ H1 Q I1 q1
 | false => exact hb pins s1 σ H1 Q I1 q1
end
end L2
namespace L2
open PySem PySem.Spec PyProof.Rows
def SqL (K : PySem.W.Frag) (H : Hp) (a : Addr) (xs : List V) : Prop :=
 Rd H a (.lst xs) ∨
  ∃ (o : Obj) (its : Array Value) (n : Nat), K.lookup a = some o /\ o.cls = .type "list" /\ o.dict = none /\ o.data = .seq its n /\ its.size <= sizeLine /\ Vals xs its.toList
def SqT (K : PySem.W.Frag) (H : Hp) (a : Addr) (xs : List V) : Prop :=
 Rd H a (.tup xs) ∨
  ∃ (o : Obj) (its : Array Value) (n : Nat), K.lookup a = some o /\ o.cls = .type "tuple" /\ o.data = .seq its n /\ its.size <= sizeLine /\ Vals xs its.toList
def absV : Value -> Option V
 | .none => some .non
 | .bool b => some (.bl b)
 | .int i _ => some (.int i)
 | .str x _ => some (.str x)
 | .bytes b _ => some (.byt b)
 | .float b _ => some (.flt b)
 | .ref a => some (.ref a)
 | .type n => some (.ty n)
 | _ => none
theorem RelV.abs {x : V} {u : Value} (r : RelV x u) : absV u = some x := by
 cases x with
 | non => cases r; rfl
 | bl _ => cases r; rfl
 | int _ => obtain ⟨t, rfl⟩ := r; rfl
 | str _ => obtain ⟨t, rfl⟩ := r; rfl
 | byt _ => obtain ⟨t, rfl⟩ := r; rfl
 | flt _ => obtain ⟨t, rfl⟩ := r; rfl
 | ref _ => cases r; rfl
 | ty _ => cases r; rfl
theorem RelV.inj {x y : V} {u : Value} (r : RelV x u) (q : RelV y u) : x = y := Option.some.inj (r.abs.symm.trans q.abs)
theorem Vals.inj : ∀ {xs ys : List V} {us : List Value}, Vals xs us -> Vals ys us -> xs = ys
 | _, _, _, .nil, .nil => rfl
 | _, _, _, .cons r t, .cons r' t' => by rw [r.inj r', Vals.inj t t']
section
variable {X : Cx} {pins : List (Addr × Obj)} {σ : St} {H : Hp} {s : Shared} {a : Addr} {xs ys : List V}
theorem SqL.of {K : PySem.W.Frag} (h : H a = some (.lst xs)) : SqL K H a xs := .inl (.inl h)
theorem SqT.of {K : PySem.W.Frag} (h : H a = some (.tup xs)) : SqT K H a xs := .inl (.inl h)
theorem Inv.list (I : Inv X pins σ H s) (h : SqL X.K H a xs) : ∃ its : List Value, Vals xs its /\ PlainL s.heap a its.toArray /\ xs.length <= sizeLine := by
 rcases h with h | ⟨o, its, n, hk, hc, hd, hs, hz, r⟩
 ·obtain ⟨z, its, n, r, e⟩ := h.ok I.hok
  exact ⟨its, r, ⟨_, n, e, rfl, rfl, rfl⟩, z⟩
 ·refine ⟨its.toList, r, ⟨o, n, I.kIn a o hk, hc, hd, by simpa using hs⟩, ?_⟩
  have e := r.length
  simp only [Array.length_toList] at e
  omega
theorem Inv.tuple (I : Inv X pins σ H s) (h : SqT X.K H a xs) : ∃ its : List Value, Vals xs its /\ IsTup s.heap a its.toArray /\ xs.length <= sizeLine := by
 rcases h with h | ⟨o, its, n, hk, hc, hs, hz, r⟩
 ·obtain ⟨z, its, r, o, e, c, n, d, _⟩ := h.ok I.hok
  exact ⟨its, r, ⟨o, e, c, n, d⟩, z⟩
 ·refine ⟨its.toList, r, ⟨o, I.kIn a o hk, hc, n, by simpa using hs⟩, ?_⟩
  have e := r.length
  simp only [Array.length_toList] at e
  omega
theorem Inv.list_inj (I : Inv X pins σ H s) (h : SqL X.K H a xs) (h' : SqL X.K H a ys) : xs = ys := by
 obtain ⟨its, r, ⟨o, n, e, _, _, d⟩, _⟩ := I.list h
 obtain ⟨its', r', ⟨o', n', e', _, _, d'⟩, _⟩ := I.list h'
 rw [e] at e'; cases e'
 rw [d] at d'
 injection d' with d1 _
 have : its = its' := by simpa using congrArg Array.toList d1
 subst this
 exact r.inj r'
theorem Inv.tuple_inj (I : Inv X pins σ H s) (h : SqT X.K H a xs) (h' : SqT X.K H a ys) : xs = ys := by
 obtain ⟨its, r, ⟨o, e, _, n, d⟩, _⟩ := I.tuple h
 obtain ⟨its', r', ⟨o', e', _, n', d'⟩, _⟩ := I.tuple h'
 rw [e] at e'; cases e'
 rw [d] at d'
 injection d' with d1 _
 have : its = its' := by simpa using congrArg Array.toList d1
 subst this
 exact r.inj r'
end
abbrev Cx.wish (X : Cx) (E : Value -> Shared -> Prop) : Cx := { X with xe := E }
abbrev Cx.nox (X : Cx) : Cx := X.wish fun _ _ => False
theorem Cx.Ok.wish {X : Cx} (ok : X.Ok) (E : Value -> Shared -> Prop) : (X.wish E).Ok :=
 ⟨ok.mod, ok.kind, ok.glob, ok.blt, ok.above, ok.inj, ok.has, ok.cab, ok.hd, ok.frames, ok.stk, ok.exf, ok.bs, ok.bsz, ok.noex, ok.exfs, ok.funs, ok.frf⟩
theorem Cx.Ok.unwish {X : Cx} {E : Value -> Shared -> Prop} (ok : (X.wish E).Ok) : X.Ok :=
 ⟨ok.mod, ok.kind, ok.glob, ok.blt, ok.above, ok.inj, ok.has, ok.cab, ok.hd, ok.frames, ok.stk, ok.exf, ok.bs, ok.bsz, ok.noex, ok.exfs, ok.funs, ok.frf⟩
section
variable {X : Cx} {pins : List (Addr × Obj)} {σ : St} {H : Hp} {s : Shared} {E : Value -> Shared -> Prop}
theorem Inv.wish (I : Inv X pins σ H s) (E : Value -> Shared -> Prop) : Inv (X.wish E) pins σ H s := ⟨I.ok.wish E, I.os, I.bare, I.base, I.loc, I.cell, I.free, I.freeC, I.pin, I.hok, I.len⟩
theorem Inv.unwish (I : Inv (X.wish E) pins σ H s) : Inv X pins σ H s := ⟨I.ok.unwish, I.os, I.bare, I.base, I.loc, I.cell, I.free, I.freeC, I.pin, I.hok, I.len⟩
theorem SP.unwish {D : Ends} {f : Flow} {s' : Shared} (h : SP (X.wish E) pins D f s') : SP X pins D f s' := by
 cases f with
 | next => obtain ⟨σ', H', I, q⟩ := h; exact ⟨σ', H', I.unwish, q⟩
 | brk => obtain ⟨σ', H', I, q⟩ := h; exact ⟨σ', H', I.unwish, q⟩
 | cont => obtain ⟨σ', H', I, q⟩ := h; exact ⟨σ', H', I.unwish, q⟩
 | ret u => obtain ⟨v, σ', H', I, r, q⟩ := h; exact ⟨v, σ', H', I.unwish, r, q⟩
theorem PSs.nox {st : List Stmt} {t : TS} (h : PSs X.nox st t) : PSs X st t := fun pins s σ H D I hw =>
 wpAny_mono (h pins s σ H D (I.wish _) hw) (fun _ _ q => q.unwish) fun _ _ z => False.elim z
end
section
variable {X : Cx} {st : Stmt} {rest : List Stmt} {t u : TS} {e : Expr} {te : TE} {pos : Pos}
def tNext : TS := fun D σ H => D.nx σ H
def tSeq (t u : TS) : TS := fun D σ H => t { D with nx := u D } σ H
theorem pQ : PSs X [] tNext := fun _ _ σ H _ I h => wpAny_execs_nil ⟨σ, H, I, h⟩
theorem zpn (h1 : PS X st t) (h2 : PSs X rest u) : PSs X (st :: rest) (tSeq t u) := by
 intro pins s σ H D I h
 refine wpAny_execs_cons (thn (h1 pins s σ H { D with nx := u D } I h) fun f s1 q => ?_)
 cases f with
 | next =>
  obtain ⟨σ', H', I', q⟩ := q
  exact h2 pins s1 σ' H' D I' q
 | ret v => exact q
 | brk => exact q
 | cont => exact q
theorem zpo (h1 : PS X st t) : PSs X [st] t := by
 intro pins s σ H D I h
 refine wpAny_execs_cons (thn (h1 pins s σ H D I h) fun f s1 q => ?_)
 cases f with
 | next => exact wpAny_execs_nil q
 | ret v => exact q
 | brk => exact q
 | cont => exact q
theorem Inv.quiet {pins : List (Addr × Obj)} {σ : St} {H : Hp} {s : Shared} (I : Inv X pins σ H s) : interactive X.env = false := by simp [interactive, I.ok.kind]
def tDrop (te : TE) : TS := fun D σ H => te σ H fun _ H1 => D.nx σ H1
theorem xaz (he : PE X e te) (hs : swapsWith e none pos.line X.env = pure false := by rfl) : PS X (.Expr e pos) (tDrop te) := by
 intro pins s σ H D I h
 exact wpAny_Expr_any (thn (he pins s σ H _ I h) fun v s1 ⟨x, H1, I1, r1, q1⟩ => ⟨σ, H1, I1, q1⟩) I.quiet hs
def tRet (te : TE) : TS := fun D σ H => te σ H D.rt
theorem xae (he : PE X e te) : PS X (.Return (some e) pos) (tRet te) := by
 intro pins s σ H D I h
 exact wpAny_Return_some (thn (he pins s σ H _ I h) fun v s1 ⟨x, H1, I1, r1, q1⟩ => ⟨x, σ, H1, I1, r1, q1⟩)
def tIfS (c : TT) (t u : TS) : TS := fun D σ H => c σ H fun b H1 => if b = true then t D σ H1 else u D σ H1
theorem xao {c : Expr} {a b : List Stmt} {tc : TT} (hc : PT X c tc) (ha : PSs X a t) (hb : PSs X b u) : PS X (.If c a b pos) (tIfS tc t u) := by
 intro pins s σ H D I h
 refine wpAny_If (thn (hc pins s σ H _ I h) fun d s1 ⟨H1, I1, q1⟩ => ?_)
 cases d with
 | true => exact ha pins s1 σ H1 D I1 q1
 | false => exact hb pins s1 σ H1 D I1 q1
def xs1 : TS := fun _ _ _ => False
theorem xbh : PS X st xs1 := fun _ _ _ _ _ _ h => h.elim
end
abbrev TG := V -> St -> Hp -> (St -> Hp -> Prop) -> Prop
abbrev TGs := List V -> St -> Hp -> (St -> Hp -> Prop) -> Prop
def PG (X : Cx) (target : Expr) (t : TG) : Prop :=
 ∀ (pins : List (Addr × Obj)) (s : Shared) (σ : St) (H : Hp) (v : V) (u : Value) (Q : St -> Hp -> Prop), Inv X pins σ H s -> RelV v u -> t v σ H Q ->
  wpAny (model X.prog X.w) X.A (assign target X.env u) (fun _ s' => ∃ σ' H', Inv X pins σ' H' s' /\ Q σ' H') X.xe s
def PGs (X : Cx) (ts : List Expr) (t : TGs) : Prop :=
 ∀ (pins : List (Addr × Obj)) (s : Shared) (σ : St) (H : Hp) (vs : List V) (us : List Value) (Q : St -> Hp -> Prop), Inv X pins σ H s -> Vals vs us -> t vs σ H Q ->
  wpAny (model X.prog X.w) X.A (assignInOrder ((assignEach ts X.env).map (·.2)) us) (fun _ s' => ∃ σ' H', Inv X pins σ' H' s' /\ Q σ' H') X.xe s
abbrev TSet := V -> V -> V -> Hp -> (Hp -> Prop) -> Prop
def PSet (X : Cx) (t : TSet) : Prop :=
 ∀ (pins : List (Addr × Obj)) (s : Shared) (σ : St) (H : Hp) (o i v : V) (ov iv u : Value) (Q : Hp -> Prop), Inv X pins σ H s -> RelV o ov -> RelV i iv -> RelV v u -> t o i v H Q ->
  wpAny (model X.prog X.w) X.A (setItem ov iv u) (fun _ s' => ∃ H', Inv X pins σ H' s' /\ Q H') X.xe s
section
variable {X : Cx} {pos : Pos}
def xjn (i : Nat) : TG := fun v σ H Q => Q (σ.set i (some v)) H
theorem xaa {i : Nat} {x : Str} (hN : X.N.Nodup) (hi : X.N[i]? = some x) (hx : Loc X.env.scope x) (hf : X.fn x = true \/ X.env.scope.names.lookup x = some .local := by first | exact .inl rfl | exact .inr rfl | assumption) : PG X (.Name x pos) (xjn i) := by
 intro pins s σ H v u Q I r h
 exact wpAny_assign_Name (xk6 I hN hi hx r (fun s' I' => ⟨_, H, I', h⟩) hf)
def gNil : TGs := fun vs σ H Q => vs = [] /\ Q σ H
def gCons (t : TG) (u : TGs) : TGs := fun vs σ H Q => ∃ v r, vs = v :: r /\ t v σ H fun σ' H' => u r σ' H' Q
theorem xaq : PGs X [] gNil := by
 intro pins s σ H vs us Q I r h
 obtain ⟨e, h⟩ := h
 subst e
 cases r
 exact assignInOrder_nil ⟨σ, H, I, h⟩
theorem xab {e : Expr} {es : List Expr} {t : TG} {u : TGs} (h1 : PG X e t) (h2 : PGs X es u)
  (hs : (assignEach (e :: es) X.env).map (·.2) = assign e X.env :: (assignEach es X.env).map (·.2) := by rfl) : PGs X (e :: es) (gCons t u) := by
 intro pins s σ H vs us Q I r h
 obtain ⟨v, vr, e1, h⟩ := h
 subst e1
 cases r with
 | cons r rr =>
  rw [hs]
  refine assignInOrder_cons (thn (h1 pins s σ H _ _ _ I r h) fun _ s1 ⟨σ1, H1, I1, q1⟩ => ?_)
  exact h2 pins s1 σ1 H1 _ _ Q I1 rr q1
def gTup (K : PySem.W.Frag) (n : Nat) (t : TGs) : TG := fun v σ H Q => ∃ a xs, v = .ref a /\ SqT K H a xs /\ xs.length = n /\ t xs σ H Q
theorem xbb {es : List Expr} {k : Nat} {t : TGs} {n : Nat} (hc : X.calm = true) (h : PGs X es t)
  (hn : (assignEach es X.env).length = n := by rfl) (hst : (assignEach es X.env).findIdx? (·.1) = none := by rfl) : PG X (.Tuple es k pos) (gTup X.K n t) := by
 intro pins s σ H v u Q I r hw
 obtain ⟨a, xs, e1, hq, hl, hw⟩ := hw
 subst e1
 cases r
 obtain ⟨its, rv, ht, hz⟩ := I.tuple hq
 refine assign_Tuple_tuple (I.ok.hd hc) ht (by simp [hn, <- hl, rv.length]) hst fun h' hx => ?_
 have I1 : Inv X pins σ H { s with heap := h' } := I.kept (t' := s.toks) fun b o e => hx b o (Nat.ne_of_lt (Heap.lt_size e)) e
 exact h pins _ σ H xs _ Q I1 (by simpa using rv) hw
def gSub (to ti : TE) (t : TSet) : TG := fun v σ H Q => to σ H fun o H1 => ti σ H1 fun i H2 => t o i v H2 fun H3 => Q σ H3
theorem xns {o i : Expr} {to ti : TE} {t : TSet} (ho : PE X o to) (hi : PE X i ti) (hs : PSet X t)
  (ha : ∀ v, assign (.Subscript o i pos) X.env v = (do
   let ov <- holding [v] (eval o X.env)
   let iv <- holding [v, ov] (eval i X.env)
   standAt pos
   holding [v, ov, iv] (setItem ov iv v)
   release [v, ov, iv] []) := by intro _; rfl) : PG X (.Subscript o i pos) (gSub to ti t) := by
 intro pins s σ H v u Q I r h
 rw [ha]
 refine wpAny_bind (wpAny_holding (thn (ho pins s σ H _ I h) fun ov s1 ⟨x, H1, I1, r1, q1⟩ => ?_))
 refine wpAny_bind (wpAny_holding (thn (hi pins s1 σ H1 _ I1 q1) fun iv s2 ⟨y, H2, I2, r2, q2⟩ => ?_))
 refine wpAny_bind (wpAny_standAt (wpAny_bind (wpAny_holding (thn (hs pins s2 σ H2 x y v ov iv u _ I2 r1 r2 r q2) fun _ s3 ⟨H3, I3, q3⟩ => ?_))))
 exact wpAny_release ⟨σ, H3, I3, q3⟩
def tAsg (te : TE) (g : TG) : TS := fun D σ H => te σ H fun x H1 => g x σ H1 D.nx
theorem xcb {tg e : Expr} {te : TE} {g : TG} (he : PE X e te) (hg : PG X tg g) (hs : swapsWithSole [tg] e pos.line X.env = pure false := by rfl) (hw : swappedStores [tg] e X.env = pure none := by rfl)
  (h1 : (assignEach [tg] X.env).map (·.2) = [assign tg X.env] := by rfl) : PS X (.Assign [tg] e pos) (tAsg te g) := by
 intro pins s σ H D I h
 refine wpAny_Assign_stores (thn (he pins s σ H _ I h) fun v s1 ⟨x, H1, I1, r1, q1⟩ => ?_) hs hw
 rw [h1]
 exact thn (hg pins s1 σ H1 x v _ I1 r1 q1) fun _ s2 q => q
theorem xah {i : Nat} {x : Str} {e : Expr} {te : TE} {pos' : Pos} (hN : X.N.Nodup) (hi : X.N[i]? = some x) (hx : Loc X.env.scope x) (he : PE X e te) (hs : swapsWith e (some (.Name x pos')) pos.line X.env = pure false := by rfl) (hf : X.fn x = true \/ X.env.scope.names.lookup x = some .local := by first | exact .inl rfl | exact .inr rfl | assumption) :
  PS X (.Assign [.Name x pos'] e pos) (tAsg te (xjn i)) := by
 intro pins s σ H D I h
 refine wpAny_Assign_Name (thn (he pins s σ H _ I h) fun v s1 ⟨y, H1, I1, r1, q1⟩ => ?_) hs
 exact xk6 I1 hN hi hx r1 (fun s2 I2 => ⟨_, H1, I2, q1⟩) hf
end
structure It where
 go : Nat -> Hp -> Prop
 yld : Nat -> Hp -> V -> Hp -> Prop
 stop : Nat -> Hp -> Prop
def FpOk (X : Cx) (pins : List (Addr × Obj)) (H : Hp) (b : Addr) : Prop :=
 H b = none /\ b ≠ X.env.locals /\ b ∉ X.fs /\ (b ∈ X.ex \/ X.s₀.heap.objs.size <= b) /\ (∀ x c, X.env.cells.lookup x = some c -> c ≠ b) /\ ∀ p ∈ X.pn ++ pins, p.1 ≠ b
theorem Inv.fpOk {X : Cx} {pins : List (Addr × Obj)} {σ : St} {H H' : Hp} {s : Shared} {b : Addr} (I : Inv X pins σ H s) (hb : s.heap.objs.size <= b) (hn : H' b = none) : FpOk X pins H' b := by
 refine ⟨hn, Nat.ne_of_gt (Nat.lt_of_lt_of_le I.lt hb), I.nofs hb, .inr (Nat.le_trans I.sz hb), fun x c e z => ?_, fun p hp z => ?_⟩
 ·obtain ⟨v, q⟩ := I.cell x c e
  exact absurd (Nat.lt_of_lt_of_le q.lt (by rw [z]; exact hb)) (Nat.lt_irrefl _)
 ·exact absurd (Nat.lt_of_lt_of_le (Heap.lt_size (I.pin p hp).1) (by rw [z]; exact hb)) (Nat.lt_irrefl _)
structure Turn (P : Program) (w : World) (K : PySem.W.Frag) (tg : Expr) (J : It) (fp : List Addr) (it : Addr) (tn : Nat -> Heap -> Prop) : Prop where
 mem : it ∈ fp
 obj : ∀ i h, tn i h -> ∀ b ∈ fp, ∃ o, h.get? b = some o /\ ∀ v, o.data ≠ .cell v
 keep : ∀ i h h', tn i h -> (∀ b ∈ fp, ∀ o, h.get? b = some o -> h'.get? b = some o) -> tn i h'
 item : ∀ (X : Cx), X.prog = P -> X.w = w -> X.K = K -> X.calm = true -> ∀ (i : Nat) (pins : List (Addr × Obj)) (s : Shared) (σ : St) (H : Hp) (E : Value -> Shared -> Prop), Inv X pins σ H s -> (∀ b ∈ fp, FpOk X pins H b) -> tn i s.heap -> J.go i H ->
  wpAny (model P w) X.A (pyNext (.ref it)) (fun r s1 => ∃ u, r = some u ∧
   wpAny (model P w) X.A (letOwnedTupleGo tg (.ref it) u) (fun _ s2 => ∃ x H', Inv X pins σ H' s2 /\ RelV x u /\ J.yld i H x H' /\ tn (i + 1) s2.heap /\ ∀ b ∈ fp, H' b = none) E s1) E s
 done : ∀ (X : Cx), X.prog = P -> X.w = w -> X.K = K -> X.calm = true -> ∀ (i : Nat) (pins : List (Addr × Obj)) (s : Shared) (σ : St) (H : Hp) (E : Value -> Shared -> Prop), Inv X pins σ H s -> (∀ b ∈ fp, FpOk X pins H b) -> tn i s.heap -> J.stop i H ->
  wpAny (model P w) X.A (pyNext (.ref it)) (fun r s1 => r = none /\ Inv X pins σ H s1) E s
 self : ∀ (A : Around) (i : Nat) (s : Shared) (Q : Value -> Shared -> Prop) (E : Value -> Shared -> Prop), tn i s.heap -> Q (.ref it) s -> wpAny (model P w) A (pyIter (.ref it)) Q E s
abbrev TI := St -> Hp -> (It -> Hp -> Prop) -> Prop
def PIE (X : Cx) (pins : List (Addr × Obj)) (σ : St) (tg : Expr) (R : It -> Hp -> Prop) (itv : Value) (s2 : Shared) : Prop :=
 ∃ (it : Addr) (fp : List Addr) (tn : Nat -> Heap -> Prop) (J : It) (H' : Hp), itv = .ref it /\ Inv X pins σ H' s2 /\ Turn X.prog X.w X.K tg J fp it tn /\ tn 0 s2.heap /\ (∀ b ∈ fp, FpOk X pins H' b) /\ R J H'
def PI (X : Cx) (tg iter : Expr) (wi : TI) : Prop :=
 ∀ (pins : List (Addr × Obj)) (s : Shared) (σ : St) (H : Hp) (R : It -> Hp -> Prop), Inv X pins σ H s -> wi σ H R ->
  wpAny (model X.prog X.w) X.A (eval iter X.env) (fun v s1 => wpAny (model X.prog X.w) X.A (pyIter v) (PIE X pins σ tg R) X.xe s1) X.xe s
theorem xqd {M : Model} {A : Around} {E : Value -> Shared -> Prop} {s : Shared} {tg : Expr} {it : Addr} {u : Value} {o : Obj} {n : String} {vs : Array Value} {Q : Unit -> Shared -> Prop} (ho : s.heap.get? it = some o) (hc : o.cls = .type n) (hd : o.data = .fields vs)
    (hn : ["enumerate", "zip", "dict_itemiterator", "dict_reverseitemiterator", "odict_iterator", "itertools.zip_longest", "itertools.pairwise"].contains n = false) (hQ : Q () s) : wpAny M A (letOwnedTupleGo tg (.ref it) u) Q E s := by
  unfold letOwnedTupleGo
  cases tg <;> first
    | exact wpAny_pure hQ
    | (cases u <;> first
        | exact wpAny_pure hQ
        | (refine wpAny_bind (wpAny_load ho ?_)
           rw [hc, hd]
           show wpAny M A (if (["enumerate", "zip", "dict_itemiterator", "dict_reverseitemiterator", "odict_iterator", "itertools.zip_longest", "itertools.pairwise"].contains n && vs[0]? == some (rawInt _)) = true then _ else _) Q E s
           rw [if_neg (by intro h; rw [hn, Bool.false_and] at h; cases h)]
           exact wpAny_pure hQ))
def Itl (K : PySem.W.Frag) (a : Addr) : It :=
 ⟨fun i H => ∃ xs x, SqL K H a xs /\ xs[i]? = some x, fun i H x H' => H' = H /\ ∀ xs, SqL K H a xs -> xs[i]? = some x, fun i H => ∃ xs, SqL K H a xs /\ xs.length <= i⟩
def Itt (K : PySem.W.Frag) (a : Addr) : It :=
 ⟨fun i H => ∃ xs x, SqT K H a xs /\ xs[i]? = some x, fun i H x H' => H' = H /\ ∀ xs, SqT K H a xs -> xs[i]? = some x, fun i H => ∃ xs, SqT K H a xs /\ xs.length <= i⟩
def Itr (lo : Int) (n : Nat) : It := ⟨fun i _ => i < n, fun i H x H' => H' = H /\ x = .int (lo + i), fun i _ => n <= i⟩
theorem xmt {P : Program} {w : World} {K : PySem.W.Frag} {tg : Expr} (a it : Addr) : Turn P w K tg (Itl K a) [it] it (fun i h => h.IsListIter it a i) where
 mem := by simp
 obj := fun i h st b hb => by
  have e : b = it := by simpa using hb
  subst e
  obtain ⟨o, e, c, d⟩ := st
  exact ⟨o, e, fun v z => by rw [d] at z; cases z⟩
 keep := fun i h h' st k => st.at fun o e => k it (by simp) o e
 item := by
  intro X hP hw hK hc i pins s σ H E I hf st hg
  subst hP hw hK
  obtain ⟨xs, x, hq, hx⟩ := hg
  obtain ⟨its, rv, p, hz⟩ := I.list hq
  obtain ⟨u, hu, ru⟩ := rv.get hx
  obtain ⟨f0, f1, f2, f3, f4, f5⟩ := hf it (by simp)
  refine wpAny_pyNext_list_item st p.isList (x := u) (by simpa using hu) fun h' st' sb => ?_
  have I1 : Inv X pins σ H { s with heap := h' } := I.turned (t' := s.toks) (fun b o hb e => (sb.2 b hb).trans e) f0 f1 f3 f4 f5
  obtain ⟨o, e, c, d⟩ := id st'
  exact ⟨u, rfl, xqd (s := { s with heap := h' }) e c d (by decide) ⟨x, H, I1, ru, ⟨rfl, fun ys hy => by rw [I.list_inj hy hq]; exact hx⟩, st', fun b hb => (hf b hb).1⟩⟩
 done := by
  intro X hP hw hK hc i pins s σ H E I hf st hg
  subst hP hw hK
  obtain ⟨xs, hq, hx⟩ := hg
  obtain ⟨its, rv, p, hz⟩ := I.list hq
  obtain ⟨f0, f1, f2, f3, f4, f5⟩ := hf it (by simp)
  have hl := rv.length
  exact wpAny_pyNext_list_end (I.ok.hd hc) st p.isList (by simp; omega) fun h' eb => ⟨rfl, I.turned (t' := s.toks) (fun b o hb e => eb b o hb e) f0 f1 f3 f4 f5⟩
 self := fun _ _ _ _ _ st h => wpAny_pyIter_listiter st h
theorem xl3 {P : Program} {w : World} {K : PySem.W.Frag} {tg : Expr} (a it : Addr) : Turn P w K tg (Itt K a) [it] it (fun i h => h.IsTupleIter it a i) where
 mem := by simp
 obj := fun i h st b hb => by
  have e : b = it := by simpa using hb
  subst e
  obtain ⟨o, e, c, d⟩ := st
  exact ⟨o, e, fun v z => by rw [d] at z; cases z⟩
 keep := fun i h h' st k => st.at fun o e => k it (by simp) o e
 item := by
  intro X hP hw hK hc i pins s σ H E I hf st hg
  subst hP hw hK
  obtain ⟨xs, x, hq, hx⟩ := hg
  obtain ⟨its, rv, p, hz⟩ := I.tuple hq
  obtain ⟨u, hu, ru⟩ := rv.get hx
  obtain ⟨f0, f1, f2, f3, f4, f5⟩ := hf it (by simp)
  refine wpAny_pyNext_tuple_item st (show s.heap.IsTuple a its.toArray from p) (x := u) (by simpa using hu) fun h' st' sb => ?_
  have I1 : Inv X pins σ H { s with heap := h' } := I.turned (t' := s.toks) (fun b o hb e => (sb.2 b hb).trans e) f0 f1 f3 f4 f5
  obtain ⟨o, e, c, d⟩ := id st'
  exact ⟨u, rfl, xqd (s := { s with heap := h' }) e c d (by decide) ⟨x, H, I1, ru, ⟨rfl, fun ys hy => by rw [I.tuple_inj hy hq]; exact hx⟩, st', fun b hb => (hf b hb).1⟩⟩
 done := by
  intro X hP hw hK hc i pins s σ H E I hf st hg
  subst hP hw hK
  obtain ⟨xs, hq, hx⟩ := hg
  obtain ⟨its, rv, p, hz⟩ := I.tuple hq
  obtain ⟨f0, f1, f2, f3, f4, f5⟩ := hf it (by simp)
  have hl := rv.length
  exact wpAny_pyNext_tuple_end (I.ok.hd hc) st (show s.heap.IsTuple a its.toArray from p) (by simp; omega) fun h' eb => ⟨rfl, I.turned (t' := s.toks) (fun b o hb e => eb b o hb e) f0 f1 f3 f4 f5⟩
 self := fun _ _ _ _ _ st h => wpAny_pyIter_tupleiter st h
theorem xl4 {P : Program} {w : World} {K : PySem.W.Frag} {tg : Expr} (it : Addr) (lo : Int) (n : Nat) : Turn P w K tg (Itr lo n) [it] it (fun i h => IsRangeIter h it (lo + (i : Nat) * 1) ((n : Int) - (i : Nat)) 1) where
 mem := by simp
 obj := fun i h st b hb => by
  have e : b = it := by simpa using hb
  subst e
  exact ⟨_, st, fun v z => by
   have z' : Data.fields _ = Data.cell v := z
   cases z'⟩
 keep := fun i h h' st k => k it (by simp) _ st
 item := by
  intro X hP hw hK hc i pins s σ H E I hf st hg
  subst hP hw hK
  obtain ⟨f0, f1, f2, f3, f4, f5⟩ := hf it (by simp)
  have W := Walks.range (prog := X.prog) (w := X.w) (I.ok.hd hc) it lo 1 n
  refine W.item i s _ _ hg st fun v h' tk hv st' kk => ?_
  obtain ⟨t, rfl⟩ := hv
  have I1 : Inv X pins σ H { s with heap := h', toks := tk } := I.turned (fun b o hb e => kk b o (by simpa using hb) e) f0 f1 f3 f4 f5
  refine ⟨_, rfl, xqd (s := { s with heap := h', toks := tk }) (n := "range_iterator") st' rfl rfl (by decide) ⟨.int (lo + i), H, I1, ⟨t, ?_⟩, ⟨rfl, rfl⟩, st', fun b hb => (hf b hb).1⟩⟩
  rw [Int.mul_one]
 done := by
  intro X hP hw hK hc i pins s σ H E I hf st hg
  subst hP hw hK
  obtain ⟨f0, f1, f2, f3, f4, f5⟩ := hf it (by simp)
  exact wpAny_pyNext_range_end (I.ok.hd hc) st (by have : n <= i := hg; omega) fun h' eb => ⟨rfl, I.turned (t' := s.toks) (fun b o hb e => eb b o hb e) f0 f1 f3 f4 f5⟩
 self := fun _ _ _ _ _ st h => wpAny_pyIter_rangeiter st h
end L2
namespace L2
open PySem PySem.Spec PyProof.Rows
section
variable {X : Cx} {tg : Expr}
def iList (K : PySem.W.Frag) (tl : TE) : TI := fun σ H R => tl σ H fun x H1 => ∃ a, x = .ref a /\ (∃ xs, SqL K H1 a xs) /\ R (Itl K a) H1
def iTup (K : PySem.W.Frag) (tl : TE) : TI := fun σ H R => tl σ H fun x H1 => ∃ a, x = .ref a /\ (∃ xs, SqT K H1 a xs) /\ R (Itt K a) H1
theorem xce {l : Expr} {tl : TE} (hl : PE X l tl) : PI X tg l (iList X.K tl) := by
 intro pins s σ H R I h
 refine thn (hl pins s σ H _ I h) fun v s1 ⟨x, H1, I1, r1, q1⟩ => ?_
 obtain ⟨a, e, ⟨xs, hq⟩, q⟩ := q1
 subst e
 cases r1
 obtain ⟨its, rv, p, hz⟩ := I1.list hq
 refine wpAny_pyIter_list p.isList ?_
 refine ⟨s1.heap.objs.size, [s1.heap.objs.size], _, _, H1, rfl, I1.kept (t' := s1.toks) fun b o e => Heap.get?_push_of_some _ e, xmt a _, ⟨_, Heap.get?_push_size _ rfl, rfl, rfl⟩, fun b hb => ?_, q⟩
 have e : b = s1.heap.objs.size := by simpa using hb
 subst e
 exact I1.fpOk (Nat.le_refl _) (I1.hok.fresh (Nat.le_refl _))
theorem xa4 {l : Expr} {tl : TE} (hl : PE X l tl) : PI X tg l (iTup X.K tl) := by
 intro pins s σ H R I h
 refine thn (hl pins s σ H _ I h) fun v s1 ⟨x, H1, I1, r1, q1⟩ => ?_
 obtain ⟨a, e, ⟨xs, hq⟩, q⟩ := q1
 subst e
 cases r1
 obtain ⟨its, rv, p, hz⟩ := I1.tuple hq
 refine wpAny_pyIter_tuple (show s1.heap.IsTuple a its.toArray from p) ?_
 refine ⟨s1.heap.objs.size, [s1.heap.objs.size], _, _, H1, rfl, I1.kept (t' := s1.toks) fun b o e => Heap.get?_push_of_some _ e, xl3 a _, ⟨_, Heap.get?_push_size _ rfl, rfl, rfl⟩, fun b hb => ?_, q⟩
 have e : b = s1.heap.objs.size := by simpa using hb
 subst e
 exact I1.fpOk (Nat.le_refl _) (I1.hok.fresh (Nat.le_refl _))
theorem xld {pins : List (Addr × Obj)} {σ : St} {H : Hp} {s : Shared} {R : It -> Hp -> Prop} {E : Value -> Shared -> Prop} {lo hi : Int} {t u v : Tok} {tk : Nat} (I : Inv X pins σ H s) (h1 : -(2 ^ 62) <= lo) (h2 : lo < 2 ^ 62) (h3 : -(2 ^ 62) <= hi) (h4 : hi < 2 ^ 62)
  (q : R (Itr lo (hi - lo).toNat) H) : wpAny (model X.prog X.w) X.A (pyIter (.ref s.heap.objs.size)) (PIE X pins σ tg R) E { s with heap := s.heap.push { cls := .type "range", data := .fields #[.int lo t, .int hi u, .int 1 v] }, toks := tk } := by
 refine wpAny_pyIter_range (IsRange.new ..) (small_one h1 h2 h3 h4) ?_
 have I1 : Inv X pins σ H { s with heap := s.heap.push { cls := .type "range", data := .fields #[.int lo t, .int hi u, .int 1 v] }, toks := tk } := I.kept fun b o e => Heap.get?_push_of_some _ e
 refine ⟨(s.heap.push { cls := .type "range", data := .fields #[.int lo t, .int hi u, .int 1 v] }).objs.size, [(s.heap.push { cls := .type "range", data := .fields #[.int lo t, .int hi u, .int 1 v] }).objs.size], _, _, H, rfl,
  I1.kept (t' := tk) fun b o e => Heap.get?_push_of_some _ e, xl4 _ lo (hi - lo).toNat, ?_, fun b hb => ?_, q⟩
 ·have e1 : lo + ((0 : Nat) : Int) * 1 = lo := by simp
  have e2 : (((hi - lo).toNat : Nat) : Int) - ((0 : Nat) : Int) = Builtin.Range.rangeSize lo hi 1 := by rw [rangeSize_one]; split <;> omega
  show IsRangeIter _ _ (lo + ((0 : Nat) : Int) * 1) ((((hi - lo).toNat : Nat) : Int) - ((0 : Nat) : Int)) 1
  rw [e1, e2]
  exact Heap.get?_push_size _ rfl
 ·have e : b = (s.heap.push { cls := .type "range", data := .fields #[.int lo t, .int hi u, .int 1 v] }).objs.size := by simpa using hb
  subst e
  exact I1.fpOk (Nat.le_refl _) (I1.hok.fresh (Nat.le_refl _))
def iRng1 (ta : TA) : TI := fun σ H R => ta σ H fun vs H1 => ∃ j : Int, vs = [.int j] /\ -(2 ^ 62) <= j /\ j < 2 ^ 62 /\ R (Itr 0 j.toNat) H1
def iRng2 (ta : TA) : TI := fun σ H R => ta σ H fun vs H1 => ∃ i j : Int, vs = [.int i, .int j] /\ (-(2 ^ 62) <= i /\ i < 2 ^ 62 /\ -(2 ^ 62) <= j /\ j < 2 ^ 62) /\ R (Itr i (j - i).toNat) H1
theorem xc5 {a : Expr} {ta : TA} {p pos : Pos} (hg : Gl X "range") (hm : X.mg "range" = none) (ha : PA X [a] ta) (hs : starEach [a] X.env = [(false, eval a X.env)] := by rfl) : PI X tg (.Call (.Name "range" p) [a] [] pos) (iRng1 ta) := by
 intro pins s σ H R I h
 refine Call_ (xer I hg hm boot_range (PyProof.Rows.callWith_type1 (thn (ha pos pins s σ H _ I h) fun us s1 ⟨vs, H1, I1, r1, q1⟩ => ?_) hs rfl))
 obtain ⟨j, e, q1, q2, q⟩ := q1
 subst e
 cases r1 with
 | cons r rr =>
  cases rr
  obtain ⟨t, rfl⟩ := r
  exact call_range_1 (xld I1 (by omega) (by omega) q1 q2 (by simpa using q))
theorem xnr {a b : Expr} {ta : TA} {p pos : Pos} (hg : Gl X "range") (hm : X.mg "range" = none) (ha : PA X [a, b] ta) (hs : starEach [a, b] X.env = [(false, eval a X.env), (false, eval b X.env)] := by rfl) (hs2 : starEach [b] X.env = [(false, eval b X.env)] := by rfl) :
  PI X tg (.Call (.Name "range" p) [a, b] [] pos) (iRng2 ta) := by
 intro pins s σ H R I h
 refine Call_ (xer I hg hm boot_range (PyProof.Rows.callWith_type1 (thn (ha pos pins s σ H _ I h) fun us s1 ⟨vs, H1, I1, r1, q1⟩ => ?_) (by rw [hs, hs2]) (by rw [hs2]; rfl)))
 obtain ⟨i, j, e, ⟨q1, q2, q3, q4⟩, q⟩ := q1
 subst e
 cases r1 with
 | cons r rr =>
  cases rr with
  | cons r' rr =>
   cases rr
   obtain ⟨t, rfl⟩ := r
   obtain ⟨t', rfl⟩ := r'
   exact call_range_2 (xld I1 q1 q2 q3 q4 q)
def tFor (wi : TI) (g : TG) (tb : TS) : TS := fun D σ H => wi σ H fun J H1 => ∃ W : Nat -> Nat -> St -> Hp -> Prop, (∃ m, W 0 m σ H1) /\ ∀ i m σ H, W i m σ H ->
 (J.stop i H /\ D.nx σ H) \/ (J.go i H /\ ∃ N : St -> Hp -> Prop, (∀ σ' H', N σ' H' -> ∃ m', m' < m /\ W (i + 1) m' σ' H') /\ ∀ x H', J.yld i H x H' -> g x σ H' fun σ2 H2 => tb { D with nx := N, ct := N, bk := D.nx } σ2 H2)
def xii (fp : List Addr) (h : Heap) : List (Addr × Obj) := fp.filterMap fun b => (h.get? b).map fun o => (b, o)
theorem xde {fp : List Addr} {h : Heap} {b : Addr} {o : Obj} (hb : b ∈ fp) (e : h.get? b = some o) : (b, o) ∈ xii fp h := List.mem_filterMap.mpr ⟨b, hb, by rw [e]; rfl⟩
theorem xn1 {fp : List Addr} {h : Heap} {p : Addr × Obj} (hp : p ∈ xii fp h) : p.1 ∈ fp /\ h.get? p.1 = some p.2 := by
 obtain ⟨b, hb, e⟩ := List.mem_filterMap.mp hp
 cases q : h.get? b with
 | none => rw [q] at e; cases e
 | some o =>
  rw [q] at e
  have e' : (b, o) = p := Option.some.inj e
  subst e'
  exact ⟨hb, q⟩
theorem Inv.pinned {pins : List (Addr × Obj)} {σ : St} {H : Hp} {s : Shared} {fp : List Addr} (I : Inv X pins σ H s) (hf : ∀ b ∈ fp, FpOk X pins H b) (ho : ∀ b ∈ fp, ∃ o, s.heap.get? b = some o /\ ∀ v, o.data ≠ .cell v) : Inv X (pins ++ xii fp s.heap) σ H s :=
 I.pins_of fun p hp => (zMA hp).elim (fun z => I.pin p (List.mem_append_right _ z)) fun z => by
  obtain ⟨hb, e⟩ := xn1 z
  obtain ⟨f0, f1, f2, _⟩ := hf p.1 hb
  obtain ⟨o, e', d⟩ := ho p.1 hb
  rw [e] at e'; cases e'
  exact ⟨e, f0, f1, f2, d⟩
theorem Inv.unpinned {pins pl : List (Addr × Obj)} {σ : St} {H : Hp} {s : Shared} (I : Inv X (pins ++ pl) σ H s) : Inv X pins σ H s := I.pins_of fun p hp => I.pin p (List.mem_append_right _ (List.mem_append_left _ hp))
theorem xbo {iter : Expr} {body : List Stmt} {wi : TI} {g : TG} {tb : TS} {pos : Pos} (hp : PassesOwn (model X.prog X.w) X.A X.env X.xe) (hc : X.calm = true) (hi : PI X tg iter wi) (hg : PG X tg g) (hb : PSs X body tb)
  (hs : ∀ x, foldedSetIterable iter X.env x = pure x := by intro _; rfl) : PS X (.For tg iter body [] pos) (tFor wi g tb) := by
 intro pins s σ H D I h
 refine wpAny_For (thn (hi pins s σ H _ I h) fun v s1 h1 => thn h1 fun itv s2 h2 => ?_) hs
 obtain ⟨it, fp, tn, J, H2, e, I2, T, st2, f2, W, ⟨m0, w0⟩, turn⟩ := h2
 subst e
 have stat : ∀ {H' : Hp}, (∀ b ∈ fp, H' b = none) -> ∀ b ∈ fp, FpOk X pins H' b := fun hn b hb => ⟨hn b hb, (f2 b hb).2⟩
 refine codeAny_forLoop_any (fun n s' => ∃ i σ' H', Inv X pins σ' H' s' /\ tn i s'.heap /\ (∀ b ∈ fp, H' b = none) /\ W i n σ' H') ?_ m0 ⟨0, σ, H2, I2, st2, fun b hb => (f2 b hb).1, w0⟩
 rintro n s3 ⟨i, σ3, H3, I3, st3, fr3, w3⟩
 rcases turn i n σ3 H3 w3 with ⟨stop, qn⟩ | ⟨go, N, hN, step⟩
 ·refine wpAny_passesOwn hp (thn (T.done X rfl rfl rfl hc i pins s3 σ3 H3 X.xe I3 (stat fr3) st3 stop) fun r s4 ⟨hr, I4⟩ => ?_)
  subst hr
  exact wpAny_execs_nil ⟨σ3, H3, I4, qn⟩
 ·refine wpAny_passesOwn hp (thn (T.item X rfl rfl rfl hc i pins s3 σ3 H3 X.xe I3 (stat fr3) st3 go) fun r s4 ⟨u, hr, h4⟩ => ?_)
  subst hr
  refine wpAny_passesOwn hp (thn h4 fun _ s5 ⟨x, H5, I5, r5, y5, st5, fr5⟩ => ?_)
  have I5' := I5.pinned (stat fr5) (T.obj _ _ st5)
  refine wpAny_passesOwn hp (thn (hg _ s5 σ3 H5 x u _ I5' r5 (step x H5 y5)) fun _ s6 ⟨σ6, H6, I6, q6⟩ => ?_)
  refine wpAny_passesOwn hp (thn (hb _ s6 σ6 H6 _ I6 q6) fun f s7 q7 => ?_)
  have again : ∀ {σ7 : St} {H7 : Hp}, Inv X (pins ++ xii fp s5.heap) σ7 H7 s7 -> N σ7 H7 -> ∃ m, m < n /\ ∃ i σ' H', Inv X pins σ' H' s7 /\ tn i s7.heap /\ (∀ b ∈ fp, H' b = none) /\ W i m σ' H' := fun {σ7 H7} I7 n7 => by
   obtain ⟨m', hm, w7⟩ := hN σ7 H7 n7
   refine ⟨m', hm, i + 1, σ7, H7, I7.unpinned, T.keep _ _ _ st5 fun b hb o e => (I7.pin (b, o) (List.mem_append_right _ (List.mem_append_right _ (xde hb e)))).1, fun b hb => ?_, w7⟩
   obtain ⟨o, e, d⟩ := T.obj _ _ st5 b hb
   exact (I7.pin (b, o) (List.mem_append_right _ (List.mem_append_right _ (xde hb e)))).2.1
  cases f with
  | next => obtain ⟨σ7, H7, I7, n7⟩ := q7; exact again I7 n7
  | cont => obtain ⟨σ7, H7, I7, n7⟩ := q7; exact again I7 n7
  | brk => obtain ⟨σ7, H7, I7, q7⟩ := q7; exact ⟨σ7, H7, I7.unpinned, q7⟩
  | ret v => obtain ⟨x7, σ7, H7, I7, r7, q7⟩ := q7; exact ⟨x7, σ7, H7, I7.unpinned, r7, q7⟩
end
theorem xhf {K : PySem.W.Frag} {a : Addr} {xs : List V} {g : TG} {tb : TS} {D : Ends} {σ : St} {H : Hp} (Pv : Nat -> St -> Hp -> Prop) (h0 : Pv 0 σ H) (hl : ∀ i σ H, i <= xs.length -> Pv i σ H -> SqL K H a xs)
  (hs : ∀ i x σ H, xs[i]? = some x -> Pv i σ H -> g x σ H fun σ2 H2 => tb { D with nx := Pv (i + 1), ct := Pv (i + 1), bk := D.nx } σ2 H2) (hd : ∀ σ H, Pv xs.length σ H -> D.nx σ H) :
  ∃ W : Nat -> Nat -> St -> Hp -> Prop, (∃ m, W 0 m σ H) /\ ∀ i m σ H, W i m σ H ->
   ((Itl K a).stop i H /\ D.nx σ H) \/ ((Itl K a).go i H /\ ∃ N : St -> Hp -> Prop, (∀ σ' H', N σ' H' -> ∃ m', m' < m /\ W (i + 1) m' σ' H') /\ ∀ x H', (Itl K a).yld i H x H' -> g x σ H' fun σ2 H2 => tb { D with nx := N, ct := N, bk := D.nx } σ2 H2) := by
 refine ⟨fun i m σ H => m = xs.length - i /\ i <= xs.length /\ Pv i σ H, ⟨xs.length, by simp, Nat.zero_le _, h0⟩, ?_⟩
 rintro i m σ H ⟨rfl, hi, p⟩
 have q := hl i σ H hi p
 by_cases hlt : i < xs.length
 ·refine .inr ⟨⟨xs, xs[i], q, by simp [hlt]⟩, Pv (i + 1), fun σ' H' p' => ⟨xs.length - (i + 1), by omega, rfl, hlt, p'⟩, fun x H' y => ?_⟩
  obtain ⟨e, y⟩ := y
  subst e
  exact hs i x σ _ (y xs q) p
 ·have e : i = xs.length := by omega
  subst e
  exact .inl ⟨⟨xs, q, Nat.le_refl _⟩, hd σ H p⟩
theorem xb5 {K : PySem.W.Frag} {a : Addr} {xs : List V} {g : TG} {tb : TS} {D : Ends} {σ : St} {H : Hp} (Pv : Nat -> St -> Hp -> Prop) (h0 : Pv 0 σ H) (hl : ∀ i σ H, i <= xs.length -> Pv i σ H -> SqT K H a xs)
  (hs : ∀ i x σ H, xs[i]? = some x -> Pv i σ H -> g x σ H fun σ2 H2 => tb { D with nx := Pv (i + 1), ct := Pv (i + 1), bk := D.nx } σ2 H2) (hd : ∀ σ H, Pv xs.length σ H -> D.nx σ H) :
  ∃ W : Nat -> Nat -> St -> Hp -> Prop, (∃ m, W 0 m σ H) /\ ∀ i m σ H, W i m σ H ->
   ((Itt K a).stop i H /\ D.nx σ H) \/ ((Itt K a).go i H /\ ∃ N : St -> Hp -> Prop, (∀ σ' H', N σ' H' -> ∃ m', m' < m /\ W (i + 1) m' σ' H') /\ ∀ x H', (Itt K a).yld i H x H' -> g x σ H' fun σ2 H2 => tb { D with nx := N, ct := N, bk := D.nx } σ2 H2) := by
 refine ⟨fun i m σ H => m = xs.length - i /\ i <= xs.length /\ Pv i σ H, ⟨xs.length, by simp, Nat.zero_le _, h0⟩, ?_⟩
 rintro i m σ H ⟨rfl, hi, p⟩
 have q := hl i σ H hi p
 by_cases hlt : i < xs.length
 ·refine .inr ⟨⟨xs, xs[i], q, by simp [hlt]⟩, Pv (i + 1), fun σ' H' p' => ⟨xs.length - (i + 1), by omega, rfl, hlt, p'⟩, fun x H' y => ?_⟩
  obtain ⟨e, y⟩ := y
  subst e
  exact hs i x σ _ (y xs q) p
 ·have e : i = xs.length := by omega
  subst e
  exact .inl ⟨⟨xs, q, Nat.le_refl _⟩, hd σ H p⟩
theorem xfv {lo : Int} {n : Nat} {g : TG} {tb : TS} {D : Ends} {σ : St} {H : Hp} (Pv : Nat -> St -> Hp -> Prop) (h0 : Pv 0 σ H)
  (hs : ∀ i σ H, i < n -> Pv i σ H -> g (.int (lo + i)) σ H fun σ2 H2 => tb { D with nx := Pv (i + 1), ct := Pv (i + 1), bk := D.nx } σ2 H2) (hd : ∀ σ H, Pv n σ H -> D.nx σ H) :
  ∃ W : Nat -> Nat -> St -> Hp -> Prop, (∃ m, W 0 m σ H) /\ ∀ i m σ H, W i m σ H ->
   ((Itr lo n).stop i H /\ D.nx σ H) \/ ((Itr lo n).go i H /\ ∃ N : St -> Hp -> Prop, (∀ σ' H', N σ' H' -> ∃ m', m' < m /\ W (i + 1) m' σ' H') /\ ∀ x H', (Itr lo n).yld i H x H' -> g x σ H' fun σ2 H2 => tb { D with nx := N, ct := N, bk := D.nx } σ2 H2) := by
 refine ⟨fun i m σ H => m = n - i /\ i <= n /\ Pv i σ H, ⟨n, by simp, Nat.zero_le _, h0⟩, ?_⟩
 rintro i m σ H ⟨rfl, hi, p⟩
 by_cases hlt : i < n
 ·refine .inr ⟨hlt, Pv (i + 1), fun σ' H' p' => ⟨n - (i + 1), by omega, rfl, hlt, p'⟩, fun x H' y => ?_⟩
  obtain ⟨e, y⟩ := y
  subst e y
  exact hs i σ _ hlt p
 ·have e : i = n := by omega
  subst e
  exact .inl ⟨Nat.le_refl _, hd σ H p⟩
end L2
namespace L2
open PySem PySem.Spec PyProof.Rows
abbrev R2 := V -> V -> Hp -> VK -> Prop
def OpR (X : Cx) (f : Value -> Value -> Sem Value) (r : R2) : Prop :=
 ∀ (pins : List (Addr × Obj)) (s : Shared) (σ : St) (H : Hp) (x y : V) (v u : Value) (Q : VK), Inv X pins σ H s -> RelV x v -> RelV y u -> r x y H Q ->
  wpAny (model X.prog X.w) X.A (f v u) (EP X pins σ Q) X.xe s
def xdl (X : Cx) (f : Value) (r : List V -> Hp -> VK -> Prop) : Prop :=
 ∀ (pins : List (Addr × Obj)) (s : Shared) (σ : St) (H : Hp) (xs : List V) (us : List Value) (Q : VK), Inv X pins σ H s -> Vals xs us -> r xs H Q ->
  wpAny (model X.prog X.w) X.A (call f us) (EP X pins σ Q) X.xe s
def tOp (r : R2) (ta tb : TE) : TE := fun σ H Q => ta σ H fun x H1 => tb σ H1 fun y H2 => r x y H2 Q
def rI (C : Int -> Int -> Prop) (g : Int -> Int -> V) : R2 := fun x y H Q => ∃ i j, x = .int i /\ y = .int j /\ C i j /\ Q (g i j) H
def rI0 (g : Int -> Int -> V) : R2 := fun x y H Q => ∃ i j, x = .int i /\ y = .int j /\ Q (g i j) H
section
variable {X : Cx} {a b c : Expr} {ta tb tc : TE} {pos : Pos}
theorem binT (ha : PE X a ta) (hb : PE X b tb) {pins : List (Addr × Obj)} {s : Shared} {σ : St} {H : Hp} {R : V -> V -> Hp -> Prop} (I : Inv X pins σ H s)
  (h : ta σ H fun x H1 => tb σ H1 fun y H2 => R x y H2) {Q : Value -> Shared -> Prop} {f : Value -> Value -> Sem Value}
  (hf : ∀ v u s2 x y H2, Inv X pins σ H2 s2 -> RelV x v -> RelV y u -> R x y H2 -> wpAny (model X.prog X.w) X.A (f v u) Q X.xe s2) :
  wpAny (model X.prog X.w) X.A (eval a X.env) (fun v s₁ => wpAny (model X.prog X.w) X.A (eval b X.env) (fun u s₂ => wpAny (model X.prog X.w) X.A (f v u) Q X.xe s₂) X.xe s₁) X.xe s := by
 refine thn (ha pins s σ H _ I h) fun v s1 ⟨x, H1, I1, r1, q1⟩ => ?_
 refine thn (hb pins s1 σ H1 _ I1 q1) fun u s2 ⟨y, H2, I2, r2, q2⟩ => ?_
 exact hf v u s2 x y H2 I2 r1 r2 q2
theorem xam {op : Operator} {r : R2} (ho : OpR X (binaryOp op) r) (ha : PE X a ta) (hb : PE X b tb) : PE X (.BinOp a op b pos) (tOp r ta tb) := by
 intro pins s σ H Q I h
 exact wpAny_BinOp (binT ha hb I h fun v u s2 x y H2 I2 rx ry q => ho pins s2 σ H2 x y v u Q I2 rx ry q)
theorem opI {f : Value -> Value -> Sem Value} {C : Int -> Int -> Prop} {g : Int -> Int -> Int}
  (rule : ∀ (i j : Int) (t u : Tok) (s : Shared) (Q : Value -> Shared -> Prop) (E : Value -> Shared -> Prop), C i j -> Q (.int (g i j) s.toks) { s with toks := s.toks + 1 } -> wpAny (model X.prog X.w) X.A (f (.int i t) (.int j u)) Q E s) :
  OpR X f (rI C fun i j => .int (g i j)) := by
 intro pins s σ H x y v u Q I rx ry h
 obtain ⟨i, j, rfl, rfl, hc, q⟩ := h
 obtain ⟨t, rfl⟩ := rx
 obtain ⟨t', rfl⟩ := ry
 exact rule i j t t' s _ _ hc ⟨.int (g i j), H, I.tok _, ⟨_, rfl⟩, q⟩
theorem opI0 {f : Value -> Value -> Sem Value} {g : Int -> Int -> Int}
  (rule : ∀ (i j : Int) (t u : Tok) (s : Shared) (Q : Value -> Shared -> Prop) (E : Value -> Shared -> Prop), Q (.int (g i j) s.toks) { s with toks := s.toks + 1 } -> wpAny (model X.prog X.w) X.A (f (.int i t) (.int j u)) Q E s) :
  OpR X f (rI0 fun i j => .int (g i j)) := by
 intro pins s σ H x y v u Q I rx ry h
 obtain ⟨i, j, rfl, rfl, q⟩ := h
 obtain ⟨t, rfl⟩ := rx
 obtain ⟨t', rfl⟩ := ry
 exact rule i j t t' s _ _ ⟨.int (g i j), H, I.tok _, ⟨_, rfl⟩, q⟩
theorem opB0 {f : Value -> Value -> Sem Value} {g : Int -> Int -> Bool}
  (rule : ∀ (i j : Int) (t u : Tok) (s : Shared) (Q : Value -> Shared -> Prop) (E : Value -> Shared -> Prop), Q (.bool (g i j)) s -> wpAny (model X.prog X.w) X.A (f (.int i t) (.int j u)) Q E s) :
  OpR X f (rI0 fun i j => .bl (g i j)) := by
 intro pins s σ H x y v u Q I rx ry h
 obtain ⟨i, j, rfl, rfl, q⟩ := h
 obtain ⟨t, rfl⟩ := rx
 obtain ⟨t', rfl⟩ := ry
 exact rule i j t t' s _ _ ⟨.bl (g i j), H, I, rfl, q⟩
def CPow (i j : Int) : Prop := 0 <= j /\ j <= 1000000 /\ i.natAbs < 2 ^ 64
def CMul (i j : Int) : Prop := (-(2 ^ 64) < i /\ i < 2 ^ 64) \/ (-(2 ^ 64) < j /\ j < 2 ^ 64)
theorem CMul.ok {i j : Int} (h : CMul i j) : IntMulOk i j := by
 rcases h with ⟨h1, h2⟩ | ⟨h1, h2⟩
 ·exact .of_left (intBits_le_64 h1 h2)
 ·exact .of_right (intBits_le_64 h1 h2)
theorem xbe : OpR X (binaryOp .Add) (rI0 fun i j => .int (i + j)) := opI0 fun _ _ _ _ _ _ _ q => add_int q
theorem xb0 : OpR X (binaryOp .Sub) (rI0 fun i j => .int (i - j)) := opI0 fun _ _ _ _ _ _ _ q => sub_int q
theorem xcs : OpR X (binaryOp .Mult) (rI CMul fun i j => .int (i * j)) := opI fun _ _ _ _ _ _ _ hc q => mul_int q hc.ok
theorem xbw : OpR X (binaryOp .Mod) (rI (fun _ j => 0 < j) fun i j => .int (i % j)) := opI fun i j _ _ _ _ _ hc q => by
 have h1 : (0 : Int) < j := hc
 exact mod_int' (by omega) (by rw [Int.fmod_eq_emod_of_nonneg i (by omega)]; exact q)
theorem xnw : OpR X (binaryOp .Pow) (rI CPow fun i j => .int (i ^ j.toNat)) := opI fun _ _ _ _ _ _ _ hc q => pow_int_small hc.1 hc.2.1 hc.2.2 q
end
def scal : V -> V -> Bool
 | .non, .non => true | .non, .int _ => true | .int _, .non => true | .non, .bl _ => true | .bl _, .non => true | .non, .str _ => true | .str _, .non => true
 | .int _, .int _ => true | .bl _, .bl _ => true | .str _, .str _ => true | .byt _, .byt _ => true
 | .int _, .str _ => true | .str _, .int _ => true | .bl _, .str _ => true | .str _, .bl _ => true
 | _, _ => false
def rEq : R2 := fun x y H Q => scal x y = true /\ Q (.bl (decide (x = y))) H
def rNe : R2 := fun x y H Q => scal x y = true /\ Q (.bl (!decide (x = y))) H
theorem xo2 {i j : Int} : decide (V.int i = V.int j) = (i == j) := by
 rw [Bool.eq_iff_iff]
 simp
theorem xq8 {i j : Bool} : decide (V.bl i = V.bl j) = (i == j) := by
 rw [Bool.eq_iff_iff]
 simp
theorem xo1 {i j : Str} : decide (V.str i = V.str j) = (i == j) := by
 rw [Bool.eq_iff_iff]
 simp
theorem xo3 {i j : Array UInt8} : decide (V.byt i = V.byt j) = (i.toList == j.toList) := by
 rw [Bool.eq_iff_iff]
 cases i
 cases j
 simp
section
variable {X : Cx} {a b c : Expr} {ta tb tc : TE} {pos : Pos}
theorem xa5 {pins : List (Addr × Obj)} {σ : St} {H : Hp} {s : Shared} {Q : VK} {k k' : Bool} (I : Inv X pins σ H s) (q : Q (.bl k) H) (e : k = k') : EP X pins σ Q (.bool k') s := by
 subst e
 exact ⟨.bl k, H, I, rfl, q⟩
theorem xas : OpR X (compareOp .Eq) rEq := by
 intro pins s σ H x y v u Q I rx ry h
 obtain ⟨hs, q⟩ := h
 cases x with
 | non =>
  cases rx
  cases y with
  | non => cases ry; exact PySem.EqNone.eq_none_none (xa5 I q (by simp))
  | bl j => cases ry; exact PySem.EqNone.eq_none_bool (xa5 I q (by simp))
  | int j => obtain ⟨t', rfl⟩ := ry; exact PySem.EqNone.eq_none_int (xa5 I q (by simp))
  | str j => obtain ⟨t', rfl⟩ := ry; exact PySem.EqNone.eq_none_str (xa5 I q (by simp))
  | _ => exact absurd (show false = true from hs) Bool.false_ne_true
 | bl i =>
  cases rx
  cases y with
  | non => cases ry; exact PySem.EqNone.eq_bool_none (xa5 I q (by simp))
  | bl j => cases ry; exact eq_bool (xa5 I q xq8)
  | str j => obtain ⟨t', rfl⟩ := ry; exact PySem.EqMixed.eq_bool_str (xa5 I q (by simp))
  | _ => exact absurd (show false = true from hs) Bool.false_ne_true
 | int i =>
  obtain ⟨t, rfl⟩ := rx
  cases y with
  | non => cases ry; exact PySem.EqNone.eq_int_none (xa5 I q (by simp))
  | int j => obtain ⟨t', rfl⟩ := ry; exact eq_int (xa5 I q xo2)
  | str j => obtain ⟨t', rfl⟩ := ry; exact PySem.EqMixed.eq_int_str (xa5 I q (by simp))
  | _ => exact absurd (show false = true from hs) Bool.false_ne_true
 | str i =>
  obtain ⟨t, rfl⟩ := rx
  cases y with
  | non => cases ry; exact PySem.EqNone.eq_str_none (xa5 I q (by simp))
  | bl j => cases ry; exact PySem.EqMixed.eq_str_bool (xa5 I q (by simp))
  | int j => obtain ⟨t', rfl⟩ := ry; exact PySem.EqMixed.eq_str_int (xa5 I q (by simp))
  | str j => obtain ⟨t', rfl⟩ := ry; exact eq_str (xa5 I q xo1)
  | _ => exact absurd (show false = true from hs) Bool.false_ne_true
 | byt i =>
  obtain ⟨t, rfl⟩ := rx
  cases y with
  | byt j => obtain ⟨t', rfl⟩ := ry; exact PySem.W.eq_bytes (xa5 I q xo3)
  | _ => exact absurd (show false = true from hs) Bool.false_ne_true
 | _ => cases y <;> exact absurd (show false = true from hs) Bool.false_ne_true
theorem xeg : OpR X (compareOp .NotEq) rNe := by
 intro pins s σ H x y v u Q I rx ry h
 obtain ⟨hs, q⟩ := h
 cases x with
 | non =>
  cases rx
  cases y with
  | non => cases ry; exact PySem.EqNone.ne_none_none (xa5 I q (by simp))
  | bl j => cases ry; exact PySem.EqNone.ne_none_bool (xa5 I q (by simp))
  | int j => obtain ⟨t', rfl⟩ := ry; exact PySem.EqNone.ne_none_int (xa5 I q (by simp))
  | str j => obtain ⟨t', rfl⟩ := ry; exact PySem.EqNone.ne_none_str (xa5 I q (by simp))
  | _ => exact absurd (show false = true from hs) Bool.false_ne_true
 | bl i =>
  cases rx
  cases y with
  | non => cases ry; exact PySem.EqNone.ne_bool_none (xa5 I q (by simp))
  | bl j => cases ry; exact ne_bool (xa5 I q (congrArg not xq8))
  | str j => obtain ⟨t', rfl⟩ := ry; exact PySem.EqMixed.ne_bool_str (xa5 I q (by simp))
  | _ => exact absurd (show false = true from hs) Bool.false_ne_true
 | int i =>
  obtain ⟨t, rfl⟩ := rx
  cases y with
  | non => cases ry; exact PySem.EqNone.ne_int_none (xa5 I q (by simp))
  | int j => obtain ⟨t', rfl⟩ := ry; exact ne_int (xa5 I q (congrArg not xo2))
  | str j => obtain ⟨t', rfl⟩ := ry; exact PySem.EqMixed.ne_int_str (xa5 I q (by simp))
  | _ => exact absurd (show false = true from hs) Bool.false_ne_true
 | str i =>
  obtain ⟨t, rfl⟩ := rx
  cases y with
  | non => cases ry; exact PySem.EqNone.ne_str_none (xa5 I q (by simp))
  | bl j => cases ry; exact PySem.EqMixed.ne_str_bool (xa5 I q (by simp))
  | int j => obtain ⟨t', rfl⟩ := ry; exact PySem.EqMixed.ne_str_int (xa5 I q (by simp))
  | str j => obtain ⟨t', rfl⟩ := ry; exact ne_str (xa5 I q (congrArg not xo1))
  | _ => exact absurd (show false = true from hs) Bool.false_ne_true
 | byt i =>
  obtain ⟨t, rfl⟩ := rx
  cases y with
  | byt j => obtain ⟨t', rfl⟩ := ry; exact PySem.W.ne_bytes (xa5 I q (congrArg not xo3))
  | _ => exact absurd (show false = true from hs) Bool.false_ne_true
 | _ => cases y <;> exact absurd (show false = true from hs) Bool.false_ne_true
theorem xfm : OpR X (compareOp .Lt) (rI0 fun i j => .bl (decide (i < j))) := opB0 fun _ _ _ _ _ _ _ q => lt_int q
theorem xtp : OpR X (compareOp .LtE) (rI0 fun i j => .bl (decide (i <= j))) := opB0 fun _ _ _ _ _ _ _ q => le_int q
theorem xdr : OpR X (compareOp .Gt) (rI0 fun i j => .bl (decide (j < i))) := opB0 fun _ _ _ _ _ _ _ q => gt_int q
theorem op_ge : OpR X (compareOp .GtE) (rI0 fun i j => .bl (decide (j <= i))) := opB0 fun _ _ _ _ _ _ _ q => ge_int q
theorem xip : OpR X (compareOp .Is) (fun x y H Q => y = .non /\ Q (.bl (decide (x = .non))) H) := by
 intro pins s σ H x y v u Q I rx ry h
 obtain ⟨rfl, q⟩ := h
 cases ry
 refine is_none_gen (xa5 I q ?_)
 cases x <;> first
  | (cases rx; rfl)
  | (obtain ⟨t, rfl⟩ := rx; rfl)
theorem xg5 : OpR X (compareOp .IsNot) (fun x y H Q => y = .non /\ Q (.bl (!decide (x = .non))) H) := by
 intro pins s σ H x y v u Q I rx ry h
 obtain ⟨rfl, q⟩ := h
 cases ry
 refine isnot_none_gen (xa5 I q ?_)
 cases x <;> first
  | (cases rx; rfl)
  | (obtain ⟨t, rfl⟩ := rx; rfl)
theorem nM (b : Expr) {op : CmpOp} (h : op ≠ .In := by decide) (h2 : op ≠ .NotIn := by decide) : behindInMarks op b = false := by
 have e1 : (op == CmpOp.In) = false := by cases op <;> first | rfl | exact absurd rfl h
 have e2 : (op == CmpOp.NotIn) = false := by cases op <;> first | rfl | exact absurd rfl h2
 cases b <;> simp [behindInMarks, e1, e2]
theorem xcw {op : CmpOp} {r : R2} (ho : OpR X (compareOp op) r) (ha : PE X a ta) (hb : PE X b tb) (hm : behindInMarks op b = false) : PE X (.Compare a [op] [b] pos) (tOp r ta tb) := by
 intro pins s σ H Q I h
 exact wpAny_Compare1 (binT ha hb I h fun v u s2 x y H2 I2 rx ry q => ho pins s2 σ H2 x y v u Q I2 rx ry q) hm
def xs0 (t : TE) : TT := fun σ H Q => t σ H fun x H' => ∃ k, x = .bl k /\ Q k H'
theorem pR {op : CmpOp} {r : R2} (ho : OpR X (compareOp op) r) (ha : PE X a ta) (hb : PE X b tb) (hm : behindInMarks op b = false) : PT X (.Compare a [op] [b] pos) (xs0 (tOp r ta tb)) := by
 intro pins s σ H Q I h
 refine wpAny_isTrue_Compare1 (thn (ha pins s σ H _ I h) fun v s1 ⟨x, H1, I1, r1, q1⟩ => thn (hb pins s1 σ H1 _ I1 q1) fun u s2 ⟨y, H2, I2, r2, q2⟩ =>
  thn (ho pins s2 σ H2 x y v u _ I2 r1 r2 q2) fun c s3 ⟨z, H3, I3, r3, k, e, q3⟩ => ?_) hm
 subst e
 cases r3
 exact wpAny_truthy_bool ⟨H3, I3, q3⟩
def xqp (r r' : R2) (ta tb tc : TE) : TE := fun σ H Q => ta σ H fun x H1 => tb σ H1 fun y H2 => r x y H2 fun z H3 => ∃ k, z = .bl k ∧
 (if k = true then tc σ H3 fun w' H4 => r' y w' H4 Q else Q (.bl false) H3)
theorem xpv {op op' : CmpOp} {r r' : R2} (ho : OpR X (compareOp op) r) (ho' : OpR X (compareOp op') r') (ha : PE X a ta) (hb : PE X b tb) (hc : PE X c tc)
  (hm : lastMarks [op, op'] [b, c] = false := by with_unfolding_all rfl) : PE X (.Compare a [op, op'] [b, c] pos) (xqp r r' ta tb tc) := by
 intro pins s σ H Q I h
 refine Compare_chain (thn (ha pins s σ H _ I h) fun v s1 ⟨x, H1, I1, r1, q1⟩ => chain_link (thn (hb pins s1 σ H1 _ I1 q1) fun u s2 ⟨y, H2, I2, r2, q2⟩ =>
  thn (ho pins s2 σ H2 x y v u _ I2 r1 r2 q2) fun d s3 ⟨z, H3, I3, r3, k, e, q3⟩ => ?_)) hm
 subst e
 cases r3
 refine wpAny_truthy_bool ?_
 cases k with
 | false => exact ite_ff ⟨.bl false, H3, I3, rfl, q3⟩
 | true => exact ite_tt (chain_last (thn (hc pins s3 σ H3 _ I3 q3) fun w' s4 ⟨z', H4, I4, r4, q4⟩ => ho' pins s4 σ H4 y z' u w' Q I4 r2 r4 q4))
theorem xpq {op op' : CmpOp} {r r' : R2} (ho : OpR X (compareOp op) r) (ho' : OpR X (compareOp op') r') (ha : PE X a ta) (hb : PE X b tb) (hc : PE X c tc)
  (hm : lastMarks [op, op'] [b, c] = false := by with_unfolding_all rfl) : PT X (.Compare a [op, op'] [b, c] pos) (xs0 (xqp r r' ta tb tc)) := by
 intro pins s σ H Q I h
 refine isTrue_chain (thn (ha pins s σ H _ I h) fun v s1 ⟨x, H1, I1, r1, q1⟩ => test_link (thn (hb pins s1 σ H1 _ I1 q1) fun u s2 ⟨y, H2, I2, r2, q2⟩ =>
  thn (ho pins s2 σ H2 x y v u _ I2 r1 r2 q2) fun d s3 ⟨z, H3, I3, r3, k, e, q3⟩ => ?_)) hm
 subst e
 cases r3
 refine wpAny_truthy_bool ?_
 cases k with
 | false =>
  obtain ⟨k', e', q'⟩ := q3
  cases e'
  exact ite_ff ⟨H3, I3, q'⟩
 | true =>
  refine ite_tt (test_last (thn (hc pins s3 σ H3 _ I3 q3) fun w' s4 ⟨z', H4, I4, r4, q4⟩ => thn (ho' pins s4 σ H4 y z' u w' _ I4 r2 r4 q4) fun d' s5 ⟨z2, H5, I5, r5, k2, e2, q5⟩ => ?_))
  subst e2
  cases r5
  exact wpAny_truthy_bool ⟨H5, I5, q5⟩
theorem xjc : (sizeLine : Nat) < 2 ^ 63 := by rw [sizeLine_eq]; decide
theorem xdd : OpR X (binaryOp .Add) (fun x y H Q => ∃ i j, x = .str i /\ y = .str j /\ i.length + j.length <= sizeLine /\ Q (.str (i ++ j)) H) := by
 intro pins s σ H x y v u Q I rx ry h
 obtain ⟨i, j, rfl, rfl, hz, q⟩ := h
 obtain ⟨t, rfl⟩ := rx
 obtain ⟨t', rfl⟩ := ry
 exact add_str (fun t' tk => ⟨.str (i ++ j), H, I.tok _, ⟨_, rfl⟩, q⟩) hz
theorem xd9 {x : V} {us : List Value} (r : Vals [x] us) : ∃ u, us = [u] /\ RelV x u := by
 cases r with
 | cons r1 r2 => cases r2; exact ⟨_, rfl, r1⟩
theorem xst {x y : V} {us : List Value} (r : Vals [x, y] us) : ∃ u w', us = [u, w'] /\ RelV x u /\ RelV y w' := by
 cases r with
 | cons r1 r2 =>
  cases r2 with
  | cons r3 r4 => cases r4; exact ⟨_, _, rfl, r1, r3⟩
theorem xpd (hc : X.calm = true) : xdl X (.builtin "max") (fun xs H Q => ∃ i j, xs = [.int i, .int j] /\ Q (.int (if j > i then j else i)) H) := by
 intro pins s σ H xs us Q I r h
 obtain ⟨i, j, rfl, q⟩ := h
 obtain ⟨u, w', rfl, ⟨t, rfl⟩, ⟨t', rfl⟩⟩ := xst r
 refine max_two_ints (I.ok.hd hc) fun h' tk k => ⟨_, H, I.kept k, ?_, q⟩
 by_cases hj : j > i
 ·rw [if_pos hj, if_pos hj]; exact ⟨_, rfl⟩
 ·rw [if_neg hj, if_neg hj]; exact ⟨_, rfl⟩
theorem xpb (hc : X.calm = true) : xdl X (.builtin "min") (fun xs H Q => ∃ i j, xs = [.int i, .int j] /\ Q (.int (if j < i then j else i)) H) := by
 intro pins s σ H xs us Q I r h
 obtain ⟨i, j, rfl, q⟩ := h
 obtain ⟨u, w', rfl, ⟨t, rfl⟩, ⟨t', rfl⟩⟩ := xst r
 refine min_two_ints (I.ok.hd hc) fun h' tk k => ⟨_, H, I.kept k, ?_, q⟩
 by_cases hj : j < i
 ·rw [if_pos hj, if_pos hj]; exact ⟨_, rfl⟩
 ·rw [if_neg hj, if_neg hj]; exact ⟨_, rfl⟩
theorem xd6 : xdl X (.type "int") (fun xs H Q => (∃ i, xs = [.int i] /\ Q (.int i) H) \/ ∃ k, xs = [.bl k] /\ Q (.int (if k then 1 else 0)) H) := by
 intro pins s σ H xs us Q I r h
 rcases h with ⟨i, rfl, q⟩ | ⟨k, rfl, q⟩
 ·obtain ⟨u, rfl, t, rfl⟩ := xd9 r
  exact call_int_int ⟨.int i, H, I, ⟨_, rfl⟩, q⟩
 ·obtain ⟨u, rfl, r1⟩ := xd9 r
  cases r1
  exact call_int_bool ⟨.int (if k then 1 else 0), H, I.tok _, ⟨_, rfl⟩, q⟩
end
end L2
namespace L2
open PySem PySem.Spec PyProof.Rows
structure ObjM (h : Heap) (x dx C : Addr) (mA : Str -> Option Value) : Prop where
 obj : h.get? x = some (PySem.W.instObj C dx)
 ns : h.Ns1 dx mA
 ne : dx ≠ x
theorem xog {h : Heap} {dx : Addr} {mA : Str -> Option Value} (n : h.Ns1 dx mA) : ∃ od, h.get? dx = some od /\ ∀ name, PySem.W.lookIn name od = some (mA name) := by
 obtain ⟨o, es, ep, ho, hd, hk, _, hm⟩ := n
 refine ⟨o, ho, fun name => ?_⟩
 have e := hm name
 unfold nsFind findBy at e
 rw [<- Array.find?_toList] at e
 unfold PySem.W.lookIn
 rw [hd]
 dsimp only
 split
 ·rename_i y q
  rw [q] at e
  exact congrArg some e
 ·rename_i q
  rw [q] at e
  have a : es.toList.any (·.refKey) = false := by
   rw [List.any_eq_false]
   intro y hy
   obtain ⟨z, t, hkey⟩ := hk y (Array.mem_toList_iff.mp hy)
   simp [DictEntry.refKey, hkey]
  have a' : ¬ es.toList.any (·.refKey) = true := by rw [a]; exact Bool.false_ne_true
  rw [if_neg a']
  exact congrArg some e
theorem ObjM.look {h : Heap} {x dx C : Addr} {mA : Str -> Option Value} (I : ObjM h x dx C mA) : ∃ od, PySem.W.InstAt h x (PySem.W.instObj C dx) C (some od) /\ ∀ name, PySem.W.lookIn name od = some (mA name) :=
 let ⟨od, ho, hl⟩ := xog I.ns
 ⟨od, ⟨I.obj, rfl, rfl, ho⟩, hl⟩
theorem RelO.some_of {v : V} {o : Option Value} (r : RelO (some v) o) : ∃ u, o = some u /\ RelV v u := by
 cases o with
 | none => exact (show False from r).elim
 | some u => exact ⟨u, rfl, r⟩
section
variable {P : Program} {w : World} {H H' : Hp} {h h' : Heap} {a C dx : Addr} {fs fs' : List (Str × V)}
theorem xsg (hok : HOk P w H h) (e : H a = some (.ins C dx fs)) : ∃ mA, ObjM h a dx C mA /\ (∀ f, RelO (fs.lookup f) (mA f)) /\ PySem.Within mA (fs.map (·.1)) /\ fs.length <= 1000 /\ H dx = some (.own a) := by
 obtain ⟨d, z, ne, ob, mA, n, r, q⟩ := (show ObjOk P w H h a (.ins C dx fs) from hok a _ e)
 exact ⟨mA, ⟨ob, n, ne⟩, r, q, z, d⟩
end
structure Cls (K : PySem.W.Frag) (C : Addr) : Prop where
 pg : PySem.W.plainGet K C Str.empty = true
 hd : PySem.W.hasDictIn K C = true
 po : PySem.W.plainOver K C = true
 sa : PySem.W.findIn K (.ref C) "__setattr__" = some (some (.builtin "object.__setattr__"))
theorem Cls.get {K : PySem.W.Frag} {C : Addr} (c : Cls K C) (f : Str) : PySem.W.plainGet K C f = true := c.pg
section
variable {X : Cx} {pins : List (Addr × Obj)} {σ : St} {H : Hp} {s : Shared} {A : Around} {E : Value -> Shared -> Prop} {Q : Value -> Shared -> Prop} {c : Value} {b : Bool}
inductive TyOf (K : PySem.W.Frag) (H : Hp) : V -> Value -> Prop where
 | non : TyOf K H .non (.type "NoneType")
 | bl (x : Bool) : TyOf K H (.bl x) (.type "bool")
 | int (i : Int) : TyOf K H (.int i) (.type "int")
 | str (x : Str) : TyOf K H (.str x) (.type "str")
 | flt (x : UInt64) : TyOf K H (.flt x) (.type "float")
 | lst {a : Addr} {xs : List V} (e : H a = some (.lst xs)) : TyOf K H (.ref a) (.type "list")
 | frz {a : Addr} {o : Obj} {xs : List V} (e : H a = some (.frz o (.lst xs))) : TyOf K H (.ref a) (.type "list")
 | tup {a : Addr} {xs : List V} (e : H a = some (.tup xs)) : TyOf K H (.ref a) (.type "tuple")
 | dK {a : Addr} {kvs : List (Key × V)} (e : H a = some (.dK kvs)) : TyOf K H (.ref a) (.type "dict")
 | dT {a : Addr} {kvs : List (List Key × V)} (e : H a = some (.dT kvs)) : TyOf K H (.ref a) (.type "dict")
 | ins {a C dx : Addr} {fs : List (Str × V)} (e : H a = some (.ins C dx fs)) (cl : Cls K C) (ha : PySem.W.findIn K (.ref C) "__class__" = some (some (.builtin "object.__class__")))
   (hn : PySem.W.specialIn K (.builtin "object.__class__") "__get__" = some (some (.builtin "getset_descriptor.__get__"))) (htk : PySem.W.takesIn K (.builtin "object.__class__") = some true)
   (hm : PySem.W.mroIn K C (.type "object") = some true) : TyOf K H (.ref a) (.ref C)
theorem xoo {x : V} {u t : Value} (I : Inv X pins σ H s) (rx : RelV x u) (ty : TyOf X.K H x t) (e : PySem.W.kitOne X.K t c = some b) (h : ∀ tk, Q (.bool b) { s with toks := tk }) :
  wpAny (model X.prog X.w) A (call (.builtin "isinstance") [u, c]) Q E s := by
 cases ty with
 | non => cases (show u = Value.none from rx); exact PySem.W.kia_one PySem.W.kitx_none I.kIn True.intro e (fun z => nomatch z) h
 | bl y => cases (show u = Value.bool y from rx); exact PySem.W.kia_one PySem.W.kitx_bool I.kIn True.intro e (fun z => nomatch z) h
 | int i => obtain ⟨t, q⟩ := (show ∃ t, u = Value.int i t from rx); cases q; exact PySem.W.kia_one PySem.W.kitx_int I.kIn True.intro e (fun z => nomatch z) h
 | str y => obtain ⟨t, q⟩ := (show ∃ t, u = Value.str y t from rx); cases q; exact PySem.W.kia_one PySem.W.kitx_str I.kIn True.intro e (fun z => nomatch z) h
 | flt y => obtain ⟨t, q⟩ := (show ∃ t, u = Value.float y t from rx); cases q; exact PySem.W.kia_one PySem.W.kitx_float I.kIn True.intro e (fun z => nomatch z) h
 | @lst a xs ea =>
  cases (show u = Value.ref a from rx)
  obtain ⟨_, _, n, _, h1⟩ := (show ObjOk X.prog X.w H s.heap a (.lst xs) from I.hok a _ ea)
  exact PySem.W.kia_one PySem.W.kitx_list I.kIn ⟨_, h1, rfl⟩ e (fun z => nomatch z) h
 | @frz a ob xs ea =>
  cases (show u = Value.ref a from rx)
  obtain ⟨_, _, _, n, _, h1⟩ := (show ObjOk X.prog X.w H s.heap a (.frz ob (.lst xs)) from I.hok a _ ea)
  exact PySem.W.kia_one PySem.W.kitx_list I.kIn ⟨_, h1, rfl⟩ e (fun z => nomatch z) h
 | @tup a xs ea =>
  cases (show u = Value.ref a from rx)
  obtain ⟨_, _, _, p⟩ := (show ObjOk X.prog X.w H s.heap a (.tup xs) from I.hok a _ ea)
  obtain ⟨o, h1, h2, _⟩ := p
  exact PySem.W.kia_one PySem.W.kitx_tuple I.kIn ⟨o, h1, h2⟩ e (fun z => nomatch z) h
 | @dK a kvs ea =>
  cases (show u = Value.ref a from rx)
  obtain ⟨_, _, vs, _, p⟩ := (show ObjOk X.prog X.w H s.heap a (.dK kvs) from I.hok a _ ea)
  obtain ⟨o, es, ep, h1, h2, _⟩ := p
  exact PySem.W.kia_one PySem.W.kitx_dict I.kIn ⟨o, h1, h2.1⟩ e (fun z => nomatch z) h
 | @dT a kvs ea =>
  cases (show u = Value.ref a from rx)
  obtain ⟨_, _, xs, _, o, es, ep, h1, h2, _⟩ := (show ObjOk X.prog X.w H s.heap a (.dT kvs) from I.hok a _ ea)
  exact PySem.W.kia_one PySem.W.kitx_dict I.kIn ⟨o, h1, h2.1⟩ e (fun z => nomatch z) h
 | @ins a C dx fs ea cl ha hn htk hm =>
  cases (show u = Value.ref a from rx)
  obtain ⟨mA, O, _⟩ := xsg I.hok ea
  obtain ⟨od, J, _⟩ := O.look
  exact PySem.W.kia_one (PySem.W.kitx_own (cl.get _) cl.hd ha hn htk hm) I.kIn J e (fun z => nomatch z) h
end
end L2
namespace L2
open PySem PySem.Spec PyProof.Rows
structure Room (k : Nat) (A : Around) : Prop where
 hd : A.handled = none
 dp : A.depth + 3 * k + 5 < recursionLimit
 un : A.units + 16 * k + 200 < cLine
theorem Room.mono {j k : Nat} {A : Around} (r : Room k A) (h : j <= k) : Room j A := ⟨r.hd, by have := r.dp; omega, by have := r.un; omega⟩
theorem Room.deeper {k : Nat} {A : Around} (r : Room (k + 1) A) (env : Env) : Room k (A.deeper env) :=
 ⟨r.hd, by have := r.dp; show A.depth + 1 + 3 * k + 5 < _; omega, by have := r.un; show A.units + 3 + 16 * k + 200 < _; omega⟩
theorem Room.depth {k : Nat} {A : Around} (r : Room k A) : A.depth < recursionLimit := by have := r.dp; omega
theorem Room.units {k : Nat} {A : Around} (r : Room k A) : A.units + 64 < cLine := by have := r.un; omega
def tNil : TA := fun _ H Q => Q [] H
def tCons (ta : TE) (tr : TA) : TA := fun σ H Q => ta σ H fun x H1 => tr σ H1 fun xs H2 => Q (x :: xs) H2
section
variable {X : Cx} {e : Expr} {es : List Expr} {te : TE} {t : TA} {pos : Pos}
theorem pN : PA X [] tNil := fun _ _ _ _ H Q I h => Calls.spliced_nil ⟨[], H, I, .nil, h⟩
theorem pc (ha : PE X e te) (hr : PA X es t) (hs : starEach (e :: es) X.env = (false, eval e X.env) :: starEach es X.env := by rfl) : PA X (e :: es) (tCons te t) := by
 intro pos pins s σ H Q I h
 rw [hs]
 show wpAny _ _ (spliced ((false, eval e X.env) :: backTo pos (starEach es X.env))) _ _ s
 refine Calls.spliced_cons (thn (ha pins s σ H _ I h) fun u s1 ⟨x, H1, I1, r1, q1⟩ => ?_)
 exact thn (hr pos pins s1 σ H1 _ I1 q1) fun us s2 ⟨xs, H2, I2, r2, q2⟩ => ⟨x :: xs, H2, I2, .cons r1 r2, q2⟩
def tTup (t : TA) : TE := fun σ H Q => t σ H fun xs H1 => xs.length <= sizeLine /\ ∀ p, H1 p = none -> Q (.ref p) (upd H1 p (.tup xs))
def tLst (t : TA) : TE := fun σ H Q => t σ H fun xs H1 => xs.length <= sizeLine /\ ∀ p, H1 p = none -> Q (.ref p) (upd H1 p (.lst xs))
theorem xan {x1} (h : PA X es t) : PE X (.Tuple es x1 pos) (tTup t) := by
 intro pins s σ H Q I hq
 refine wpAny_Tuple_spliced (thn (h pos pins s σ H _ I hq) fun us s1 ⟨xs, H1, I1, r, z, q⟩ => ⟨by rw [<- r.length]; exact z, ?_⟩)
 have hf : H1 s1.heap.objs.size = none := I1.hok.fresh (Nat.le_refl _)
 refine ⟨.ref s1.heap.objs.size, upd H1 s1.heap.objs.size (.tup xs), I1.laid (t' := s1.toks) (fun b u e => Heap.get?_push_of_some _ e) (Nat.le_refl _) ?_, rfl, q _ hf⟩
 exact ⟨z, us, r, ⟨_, Heap.get?_push_size _ rfl, rfl, _, rfl, rfl⟩⟩
theorem xbs (h : PA X es t) : PE X (.List es pos) (tLst t) := by
 intro pins s σ H Q I hq
 refine wpAny_List_spliced (thn (h pos pins s σ H _ I hq) fun us s1 ⟨xs, H1, I1, r, z, q⟩ => ⟨by rw [<- r.length]; exact z, ?_⟩)
 have hf : H1 s1.heap.objs.size = none := I1.hok.fresh (Nat.le_refl _)
 refine ⟨.ref s1.heap.objs.size, upd H1 s1.heap.objs.size (.lst xs), I1.laid (t' := s1.toks) (fun b u e => Heap.get?_push_of_some _ e) (Nat.le_refl _) ?_, rfl, q _ hf⟩
 exact ⟨z, us, 0, r, Heap.get?_push_size _ rfl⟩
end
abbrev Sp := List V -> Hp -> VK -> XK -> Prop
abbrev CXT := List Env -> Hp -> Shared -> XK -> Value -> Shared -> Prop
structure Env0 (P : Program) (w : World) (K : PySem.W.Frag) (mg : Str -> Option Value) (base : Heap) (A : Around) (outer : List Env) (s : Shared) (H : Hp) : Prop where
 frames : A.frames = some outer
 mod : Mod K mg base
 bs : ∀ b o, base.get? b = some o -> s.heap.get? b = some o /\ H b = none
 bsz : base.objs.size <= s.heap.objs.size
 funs : s.heap.FunFrames base outer
 frf : ∀ b ∈ frs outer, H b = none
 hok : HOk P w H s.heap
 bare : AllBare s.gens
def CE (outer : List Env) (P : Program) (w : World) (H : Hp) (s : Shared) (Q : VK) (u : Value) (s' : Shared) : Prop :=
 ∃ v H', s'.os = s.os /\ AllBare s'.gens /\ Un (frs outer) [] H H' s.heap s'.heap /\ HOk P w H' s'.heap /\ RelV v u /\ Q v H'
def CR (CX : CXT) (outer : List Env) (P : Program) (w : World) (H : Hp) (s : Shared) (Q : VK) (E : XK) (r : Result) (s' : Shared) : Prop :=
 match r with
 | .ok (.ret u) => CE outer P w H s Q u s'
 | .ok _ => False
 | .error e => CX outer H s E e s'
structure FnOk (P : Program) (w : World) (K : PySem.W.Frag) (mg : Str -> Option Value) (base : Heap) (CX : CXT) (k : Nat) (f : Addr) (fd : FuncData) (ps : List Str) (sp : Sp) : Prop where
 len : ∀ vs H Q E, sp vs H Q E -> vs.length = ps.length
 run : ∀ (A : Around) (outer : List Env) (s : Shared) (H : Hp) (args : Args) (us : List Value) (vs : List V) (Q : VK) (E : XK), Room k A -> Env0 P w K mg base A outer s H -> BindsTo s fd args (ps.zip us) -> Vals vs us -> sp vs H Q E ->
  codeAny (model P w) A (.call (.ref f) args) (CR CX outer P w H s Q E) s
theorem FnOk.mono {P : Program} {w : World} {K : PySem.W.Frag} {mg : Str -> Option Value} {base : Heap} {CX : CXT} {j k : Nat} {f : Addr} {fd : FuncData} {ps : List Str} {sp : Sp} (F : FnOk P w K mg base CX j f fd ps sp) (h : j <= k) :
  FnOk P w K mg base CX k f fd ps sp := ⟨F.len, fun A outer s H args us vs Q E hr => F.run A outer s H args us vs Q E (hr.mono h)⟩
theorem FnOk.imp {P : Program} {w : World} {K : PySem.W.Frag} {mg : Str -> Option Value} {base : Heap} {CX : CXT} {k : Nat} {f : Addr} {fd : FuncData} {ps : List Str} {sp sp' : Sp} (F : FnOk P w K mg base CX k f fd ps sp)
  (h : ∀ vs H Q E, sp' vs H Q E -> sp vs H Q E) : FnOk P w K mg base CX k f fd ps sp' :=
 ⟨fun vs H Q E q => F.len vs H Q E (h _ _ _ _ q), fun A outer s H args us vs Q E hr he hb hv hs => F.run A outer s H args us vs Q E hr he hb hv (h _ _ _ _ hs)⟩
section
variable {X : Cx} {pins : List (Addr × Obj)} {σ : St} {H : Hp} {s s' : Shared}
theorem Inv.env0 (I : Inv X pins σ H s) : Env0 X.prog X.w X.K X.mg X.base X.A X.stack s H :=
 ⟨I.ok.frames, I.ok.mod, I.bs, Nat.le_trans I.ok.bsz I.sz, I.stack, I.stkFree, I.hok, I.bare⟩
theorem Inv.after {Q : VK} {u : Value} (I : Inv X pins σ H s) (h : CE X.stack X.prog X.w H s Q u s') : EP X pins σ Q u s' := by
 obtain ⟨v, H', os, bare, un, hok, r, q⟩ := h
 obtain ⟨hh, g, d, t, os'⟩ := s'
 obtain rfl : os' = s.os := os
 exact ⟨v, H', I.call (h' := hh) (g' := g) (d' := d) (t' := t) (ch := []) un hok bare (fun b z => absurd z (by simp)), r, q⟩
end
def xs4 (sp : Sp) (dvs : List V) (E : XK) (t : TA) : TE := fun σ H Q => t σ H fun vs H1 => sp (vs ++ dvs) H1 Q E
def Binds (K : PySem.W.Frag) (fd : FuncData) (ps : List Str) (ds : List Value) : Prop :=
 ∀ (s : Shared) (us : List Value), K.In s.heap -> (us ++ ds).length = ps.length -> BindsTo s fd ⟨us, []⟩ (ps.zip (us ++ ds))
theorem Binds.all {K : PySem.W.Frag} {fd : FuncData} {ps : List Str} (h : ∀ us : List Value, us.length = ps.length -> bindArgs fd ⟨us, []⟩ = pure (ps.zip us)) : Binds K fd ps [] := fun s us _ hl => by
 rw [List.append_nil] at hl ⊢
 exact .of_eq (h us hl)
def xpe (CX : CXT) (X : Cx) (E : XK) : Prop := ∀ (pins : List (Addr × Obj)) (σ : St) (H : Hp) (s : Shared) (e : Value) (s' : Shared), Inv X pins σ H s -> CX X.stack H s E e s' -> X.xe e s'
section
variable {X : Cx} {CX : CXT} {k : Nat} {f C : Addr} {fd : FuncData} {ps : List Str} {sp : Sp} {dvs : List V} {ds : List Value} {E : XK} {x m : Str} {p pos apos : Pos} {e o : Expr} {es : List Expr} {ta : TE} {t : TA}
theorem xte {pins : List (Addr × Obj)} {σ : St} {H : Hp} {s : Shared} {Q : VK} {us : List Value} {vs : List V} (F : FnOk X.prog X.w X.K X.mg X.base CX k f fd ps sp) (hr : Room k X.A) (hb : Binds X.K fd ps ds) (hd : Vals dvs ds) (hx : xpe CX X E)
  (I : Inv X pins σ H s) (r : Vals vs us) (h : sp (vs ++ dvs) H Q E) : wpAny (model X.prog X.w) X.A (call (.ref f) us) (EP X pins σ Q) X.xe s := by
 have r2 : Vals (vs ++ dvs) (us ++ ds) := r.append hd
 have hl : (us ++ ds).length = ps.length := by rw [<- r2.length]; exact F.len _ _ _ _ h
 refine wpAny_call (codeAny_mono (F.run X.A X.stack s H ⟨us, []⟩ (us ++ ds) (vs ++ dvs) Q E hr I.env0 (hb s us I.kIn hl) r2 h) fun r s' hq => ?_)
 cases r with
 | error e => exact hx pins σ H s e s' I hq
 | ok fl =>
  cases fl with
  | ret u => exact I.after hq
  | next => exact False.elim hq
  | brk => exact False.elim hq
  | cont => exact False.elim hq
theorem xry (F : FnOk X.prog X.w X.K X.mg X.base CX k f fd ps sp) (hr : Room k X.A) (hg : Gl X x) (hm : X.mg x = some (.ref f)) (hk : PySem.W.keepIn X.K (.ref f) = true) (hb : Binds X.K fd ps ds) (hd : Vals dvs ds) (hx : xpe CX X E)
  (ha : PA X (e :: es) t) (hdb : (x == ("__debug__" : Str)) = false := by decide) (he : starEach (e :: es) X.env = (false, eval e X.env) :: starEach es X.env := by rfl) (hpl : (backTo pos (starEach es X.env)).any (·.1) = false := by rfl) :
  PE X (.Call (.Name x p) (e :: es) [] pos) (xs4 sp dvs E t) := by
 intro pins s σ H Q I h
 refine wpAny_Call_Name_kw (xoi I hg hm ?_ hdb)
 refine PySem.W.callWith_K (h₀ := X.base) I.ok.mod.kin hk (thn (ha pos pins s σ H _ I h) fun us s1 ⟨vs, H1, I1, r, q⟩ => ⟨I1.kIn, ?_⟩) he hpl
 exact xte F hr hb hd hx I1 r q
end
structure FnScope (N P : List Str) (sc : Scope) : Prop where
 kind : sc.kind = .function
 co : sc.isCoroutine = false
 gen : sc.isGenerator = false
 nd : N.Nodup
 pre : N.take P.length = P
 par : ∀ x ∈ P, sc.names.lookup x = some .local \/ sc.names.lookup x = some .cell
 nofree : ∀ y ∈ sc.names, y.2 ≠ .free
theorem xjs {kindOf : Str -> Option NameKind} {x : Str} : ∀ {binds : List (Str × Value)} {m : Str -> Option Value}, (∀ v, (x, v) ∉ binds) -> bindL kindOf binds m x = m x
 | [], _, _ => rfl
 | (n, v) :: r, m, h => by
  unfold bindL
  rw [xjs fun w hw => h w (List.mem_cons_of_mem _ hw)]
  split
  ·have : x ≠ n := by rintro rfl; exact h v List.mem_cons_self
   simp [this]
  ·rfl
theorem xju {kindOf : Str -> Option NameKind} {x : Str} : ∀ {binds : List (Str × Value)} {m : Str -> Option Value}, (∀ v, (x, v) ∉ binds) -> bindC kindOf binds m x = m x
 | [], _, _ => rfl
 | (n, v) :: r, m, h => by
  unfold bindC
  rw [xju fun w hw => h w (List.mem_cons_of_mem _ hw)]
  split
  ·rfl
  ·have : x ≠ n := by rintro rfl; exact h v List.mem_cons_self
   simp [this]
theorem xjt {kindOf : Str -> Option NameKind} {x : Str} {v : Value} : ∀ {P : List Str} {vs : List Value} {i : Nat} {m : Str -> Option Value}, P.Nodup -> P[i]? = some x -> vs[i]? = some v -> kindOf x = some .local ->
  bindL kindOf (P.zip vs) m x = some v
 | [], _, _, _, _, h, _, _ => by simp at h
 | _ :: _, [], _, _, _, _, h, _ => by simp at h
 | p :: P, w :: vs, 0, m, nd, h1, h2, hk => by
  simp at h1 h2; subst h1; subst h2
  show bindL kindOf ((p, w) :: P.zip vs) m p = _
  unfold bindL
  rw [xjs fun v hv => (List.nodup_cons.mp nd).1 (List.of_mem_zip hv).1, if_pos hk]
  simp
 | p :: P, w :: vs, i + 1, m, nd, h1, h2, hk => by
  show bindL kindOf ((p, w) :: P.zip vs) m x = _
  unfold bindL
  exact xjt (i := i) (List.nodup_cons.mp nd).2 (by simpa using h1) (by simpa using h2) hk
theorem xjv {kindOf : Str -> Option NameKind} {x : Str} {v : Value} : ∀ {P : List Str} {vs : List Value} {i : Nat} {m : Str -> Option Value}, P.Nodup -> P[i]? = some x -> vs[i]? = some v -> kindOf x ≠ some .local ->
  bindC kindOf (P.zip vs) m x = some v
 | [], _, _, _, _, h, _, _ => by simp at h
 | _ :: _, [], _, _, _, _, h, _ => by simp at h
 | p :: P, w :: vs, 0, m, nd, h1, h2, hk => by
  simp at h1 h2; subst h1; subst h2
  show bindC kindOf ((p, w) :: P.zip vs) m p = _
  unfold bindC
  rw [xju fun v hv => (List.nodup_cons.mp nd).1 (List.of_mem_zip hv).1, if_neg hk]
  simp
 | p :: P, w :: vs, i + 1, m, nd, h1, h2, hk => by
  show bindC kindOf ((p, w) :: P.zip vs) m x = _
  unfold bindC
  exact xjv (i := i) (List.nodup_cons.mp nd).2 (by simpa using h1) (by simpa using h2) hk
def xfb (N : List Str) (vs : List V) : St := vs.map some ++ List.replicate (N.length - vs.length) none
def cxOf (CX : CXT) (P : Program) (w : World) (K : PySem.W.Frag) (mg : Str -> Option Value) (base : Heap) (N : List Str) (qual : Str) (scope : Scope) (f : Addr) (cd : Value) (A : Around) (outer : List Env) (s : Shared) (H : Hp) (E : XK) : Cx where
 prog := P
 w := w
 K := K
 mg := mg
 base := base
 A := A.deeper (envOfC qual scope s.heap.objs.size f cd)
 N := N
 s₀ := s
 H₀ := H
 env := envOfC qual scope s.heap.objs.size f cd
 outer := outer
 stack := envOfC qual scope s.heap.objs.size f cd :: outer
 ex := []
 calm := true
 fn := fun _ => true
 pn := []
 xe := fun e s' => wpAny (model P w) (A.deeper (envOfC qual scope s.heap.objs.size f cd)) (leaving (envOfC qual scope s.heap.objs.size f cd) e) (fun _ s'' => CX outer H s E e s'') (fun e' s'' => CX outer H s E e' s'') s'
theorem xlw {sc : Scope} {n : Nat} {x : Str} (h : sc.names.lookup x = some .cell) : ∃ c, (cellsFrom n sc.names []).lookup x = some c := by
 have q := PySem.W.cellsFrom_some sc.names n [] (.inl h)
 exact Option.isSome_iff_exists.mp q
theorem xop {CX : CXT} {P : Program} {w : World} {K : PySem.W.Frag} {mg : Str -> Option Value} {base : Heap} {N ps : List Str} {qual : Str} {scope : Scope} {f : Addr} {cd : Value} {A : Around} {outer : List Env} {s s1 : Shared} {H : Hp} {E : XK} {us : List Value} {vs : List V}
  (S : FnScope N ps scope) (hd : A.handled = none) (e0 : Env0 P w K mg base A outer s H) (hl : vs.length = ps.length) (r : Vals vs us)
  (x : InCallC s s.heap.objs.size (bindL (envOfC qual scope s.heap.objs.size f cd).kindOf (ps.zip us) fun _ => none) (cellsFrom (s.heap.objs.size + 1) scope.names []) (bindC (envOfC qual scope s.heap.objs.size f cd).kindOf (ps.zip us) fun _ => none) s1) :
  Inv (cxOf CX P w K mg base N qual scope f cd A outer s H E) [] (xfb N vs) H s1 := by
 have hpl : ps.length <= N.length := by have := congrArg List.length S.pre; rw [List.length_take] at this; omega
 obtain ⟨h1, tk, rfl, hk⟩ := x.done
 have noA : ∀ b : Addr, b ∉ (cxOf CX P w K mg base N qual scope f cd A outer s H E).ex := fun b z => absurd (show b ∈ ([] : List Addr) from z) (by simp)
 refine ⟨⟨e0.mod, S.kind, rfl, rfl, Nat.le_refl _, fun y z c h1 h2 => ?_, fun y hy => ?_, fun y c _ h => ?_, fun _ => hd, Around.frames_deeper e0.frames, .inr ⟨rfl, rfl⟩, fun b z => absurd z (noA b), e0.bs, e0.bsz, fun b _ _ => noA b, fun b z => absurd z (noA b), e0.funs, e0.frf⟩,
  rfl, e0.bare, Un.kept hk, ⟨_, x.toInCall.ns, fun i y v h1 h2 h3 => ?_⟩, fun y c h => ⟨_, x.cell y c h⟩, e0.hok.fresh (Nat.le_refl _), fun y c h => ?_, fun p hp => absurd (show p ∈ ([] : List (Addr × Obj)) from hp) (by simp), e0.hok.kept hk, ?_⟩
 ·exact name_of_addr x.apart (PySem.mem_of_lookup h1) (PySem.mem_of_lookup h2)
 ·have hy : scope.names.lookup y = some .cell \/ scope.names.lookup y = some .free := hy
  rcases hy with hy | hy
  ·exact xlw hy
  ·exact absurd rfl (S.nofree _ (PySem.mem_of_lookup hy))
 ·exact Nat.le_of_lt (x.above y c (PySem.mem_of_lookup h))
 ·have hi : i < vs.length := by
   unfold xfb at h2
   by_cases hi : i < vs.length
   ·exact hi
   ·rw [List.getElem?_append_right (by simpa using hi)] at h2
    rw [List.getElem?_replicate] at h2
    split at h2 <;> cases h2
  have ha : vs[i]? = some v := by
   unfold xfb at h2
   rw [List.getElem?_append_left (by simpa using hi), zGM] at h2
   cases e : vs[i]? with
   | none => rw [e] at h2; cases h2
   | some a => rw [e] at h2; cases h2; rfl
  obtain ⟨u, hu, rv⟩ := r.get ha
  have hp : ps[i]? = some y := by
   rw [<- S.pre, List.getElem?_take_of_lt (by omega)]; exact h1
  have ndP : ps.Nodup := by rw [<- S.pre]; exact S.nd.sublist (List.take_sublist _ _)
  refine ⟨u, rv, ?_⟩
  rcases S.par y (zMG hp) with k | k
  ·exact .inl ⟨k, xjt ndP hp hu k⟩
  ·obtain ⟨c, e⟩ := xlw (n := s.heap.objs.size + 1) k
   refine .inr ⟨.inl k, c, e, ?_⟩
   have q := x.cell y c e
   rw [xjv ndP hp hu (by show scope.names.lookup y ≠ _; rw [k]; decide)] at q
   exact q
 ·exact e0.hok.fresh (Nat.le_of_lt (x.above y c (PySem.mem_of_lookup h)))
 ·unfold xfb
  show _ = N.length
  rw [List.length_append, zLM, List.length_replicate]
  omega
theorem fn_of {CX : CXT} {P : Program} {w : World} {K : PySem.W.Frag} {mg : Str -> Option Value} {base : Heap} {k : Nat} {f : Addr} {name qual : Str} {params : Arguments} {body : List Stmt} {scope : Scope} {dV kV doc pm cdv ct oc : Value} {an od : Option Addr}
  {osl : Array (Option Value)} {N ps : List Str} {sp : Sp} (lk : K.lookup f = some ⟨oc, od, .func (PySem.W.fnOf name qual params body scope dV kV doc pm an cdv ct), osl⟩) (hcd : PySem.W.codeIn K cdv qual = true) (S : FnScope N ps scope)
  (len : ∀ vs H Q E, sp vs H Q E -> vs.length = ps.length)
  (hbody : ∀ (A : Around) (outer : List Env) (s : Shared) (H : Hp) (vs : List V) (Q : VK) (E : XK), Room k (A.deeper (envOfC qual scope s.heap.objs.size f cdv)) -> sp vs H Q E ->
   ∃ t, PSs (cxOf CX P w K mg base N qual scope f cdv A outer s H E) body t /\ t { nx := fun _ H' => Q .non H', rt := Q } (xfb N vs) H) :
  FnOk P w K mg base CX (k + 1) f (PySem.W.fnOf name qual params body scope dV kV doc pm an cdv ct) ps sp := by
 refine ⟨len, fun A outer s H args us vs Q E hr e0 hb r hsp => ?_⟩
 have hl := len _ _ _ _ hsp
 have KX : K.In s.heap := e0.mod.kin.keeps fun b o e => (e0.bs b o e).1
 have lim : s.heap.NoLimit := e0.mod.nolimit.keeps fun b o e => (e0.bs b o e).1
 have hkind : ∀ y ∈ ps.zip us, scope.names.lookup y.1 = some .local \/ (scope.names.lookup y.1 = some .cell /\ ((cellsFrom (s.heap.objs.size + 1) scope.names []).lookup y.1).isSome = true) := fun ⟨n, v⟩ hy => by
  rcases S.par n (List.of_mem_zip hy).1 with q | q
  ·exact .inl q
  ·exact .inr ⟨q, PySem.W.cellsFrom_some _ _ _ (.inl q)⟩
 refine codeAny_call_function hr.depth (KX _ _ lk) rfl S.co S.gen rfl (PySem.W.codeRec_of KX hcd) (hb _ _ _ _ ?_)
 refine wpAny_newFunctionEnv_cells S.kind hkind fun env he s1 x => ?_
 subst he
 refine ⟨lim.keeps x.toInCall.keep, codeAny_func ?_⟩
 obtain ⟨t, ht, hq⟩ := hbody A outer s H vs Q E (hr.deeper _) hsp
 have I : Inv (cxOf CX P w K mg base N qual scope f cdv A outer s H E) [] (xfb N vs) H s1 := xop S hr.hd e0 hl r x
 refine wpAny_mono (ht [] s1 (xfb N vs) H _ I hq) (fun fl s' hs => ?_) fun e s' hs => hs
 have fin : ∀ {σ' : St} {H' : Hp} {v : V} {u : Value}, Inv (cxOf CX P w K mg base N qual scope f cdv A outer s H E) [] σ' H' s' -> RelV v u -> Q v H' -> CE outer P w H s Q u s' :=
  fun {σ' H' v u} J rv q => ⟨v, H', J.os, J.bare, J.base, J.hok, rv, q⟩
 cases fl with
 | ret u =>
  obtain ⟨v, σ', H', J, rv, q⟩ := hs
  exact fin J rv q
 | next =>
  obtain ⟨σ', H', J, q⟩ := hs
  exact fin (v := V.non) (u := Value.none) J rfl q
 | brk =>
  obtain ⟨_, _, _, q⟩ := hs
  exact False.elim q
 | cont =>
  obtain ⟨_, _, _, q⟩ := hs
  exact False.elim q
end L2
namespace L2
open PySem PySem.Spec PyProof.Rows
section
variable {X : Cx} {x : Str} {p pos : Pos} {e : Expr} {es : List Expr} {t : TA} {id T : String} {r : List V -> Hp -> VK -> Prop}
def tCB (r : List V -> Hp -> VK -> Prop) (t : TA) : TE := fun σ H Q => t σ H fun vs H1 => r vs H1 Q
theorem xak (hc : xdl X (.builtin id) r) (hg : Gl X x) (hm : X.mg x = none) (hv : bootBuiltins x = some (.builtin id)) (ha : PA X (e :: es) t) (hn : x ≠ "__name__" := by decide) (hdb : (x == ("__debug__" : Str)) = false := by decide)
  (he : starEach (e :: es) X.env = (false, eval e X.env) :: starEach es X.env := by rfl) (hpl : (backTo pos (starEach es X.env)).any (·.1) = false := by rfl) : PE X (.Call (.Name x p) (e :: es) [] pos) (tCB r t) := by
 intro pins s σ H Q I h
 refine wpAny_Call_Name_kw (xer I hg hm hv ?_ hn hdb)
 exact PyProof.Rows.callWith_builtin1 (thn (ha pos pins s σ H _ I h) fun us s1 ⟨vs, H1, I1, r1, q1⟩ => hc pins s1 σ H1 vs us Q I1 r1 q1) he hpl
theorem xar (hc : xdl X (.type T) r) (hg : Gl X x) (hm : X.mg x = none) (hv : bootBuiltins x = some (.type T)) (ha : PA X (e :: es) t) (hn : x ≠ "__name__" := by decide) (hdb : (x == ("__debug__" : Str)) = false := by decide)
  (he : starEach (e :: es) X.env = (false, eval e X.env) :: starEach es X.env := by rfl) (hpl : (backTo pos (starEach es X.env)).any (·.1) = false := by rfl) : PE X (.Call (.Name x p) (e :: es) [] pos) (tCB r t) := by
 intro pins s σ H Q I h
 refine wpAny_Call_Name_kw (xer I hg hm hv ?_ hn hdb)
 exact PyProof.Rows.callWith_type1 (thn (ha pos pins s σ H _ I h) fun us s1 ⟨vs, H1, I1, r1, q1⟩ => hc pins s1 σ H1 vs us Q I1 r1 q1) he hpl
end
end L2
namespace HT
open PySem PyProof.Rows
section
variable {prog : Program} {w : World} {A : Around} {E : Value -> Shared -> Prop} {s : Shared}
def sIx (n d : Nat) : Option Int -> Nat
 | none => d
 | some v => if v < 0 then (v + (n : Int)).toNat else min v.toNat n
theorem sIx_none (n d : Nat) : sIx n d none = d := rfl
theorem sIx_nat (n d k : Nat) : sIx n d (some (k : Int)) = min k n := by
 show (if (k : Int) < 0 then ((k : Int) + (n : Int)).toNat else min (k : Int).toNat n) = min k n
 rw [if_neg (by omega), Int.toNat_natCast]
theorem xtd (n d : Nat) (hd : d <= n) (o : Option Int) : sIx n d o <= n := by
 cases o with
 | none => exact hd
 | some v =>
  show (if v < 0 then (v + (n : Int)).toNat else min v.toNat n) <= n
  by_cases hv : v < 0
  ·rw [if_pos hv]; omega
  ·rw [if_neg hv]; exact Nat.min_le_right _ _
theorem xo9 (v : Int) (n d : Nat) : (if v < 0 then max (v + (n : Int)) 0 else min v (n : Int)) = ((sIx n d (some v) : Nat) : Int) := by
 show (if v < 0 then max (v + (n : Int)) 0 else min v (n : Int)) = (((if v < 0 then (v + (n : Int)).toNat else min v.toNat n) : Nat) : Int)
 by_cases hv : v < 0
 ·simp only [if_pos hv]; omega
 ·simp only [if_neg hv]; omega
theorem xmp (lo hi : Option Int) (n : Nat) : Builtin.Slice.sliceAdjust lo hi 1 (n : Int) = (((sIx n 0 lo : Nat) : Int), ((sIx n n hi : Nat) : Int)) := by
 have h1 : ¬ ((1 : Int) < 0) := by omega
 unfold Builtin.Slice.sliceAdjust
 simp only [h1, if_false]
 refine Prod.ext ?_ ?_
 ·cases lo with
  | none => rfl
  | some v => exact xo9 v n 0
 ·cases hi with
  | none => rfl
  | some v => exact xo9 v n n
theorem xl9 (i j : Nat) : Builtin.Slice.slicePlaces (i : Int) (j : Int) 1 = j - i := by
 unfold Builtin.Slice.slicePlaces
 have h1 : (1 : Int) > 0 := by omega
 simp only [h1, if_true, Int.ediv_one]
 split <;> omega
theorem xgc {v : Value} {o : Option Int} {Q : Option Int -> Shared -> Prop} (p : IsPart v o) (h : Q o s) : wpAny (model prog w) A (Builtin.Slice.slicePartIndex v) Q E s := by
 cases p with
 | none => exact slicePart_none h
 | int i t => exact slicePart_int h
theorem xeu {sl : Addr} {vl vu : Value} {lo hi : Option Int} {n : Nat} {Q : Int × Int × Nat -> Shared -> Prop} (hs : s.heap.IsSliceOf sl vl vu .none) (pl : IsPart vl lo) (pu : IsPart vu hi)
  (h : Q (((sIx n 0 lo : Nat) : Int), 1, sIx n n hi - sIx n 0 lo) s) : wpAny (model prog w) A (Builtin.Slice.sliceApplied (.ref sl) (pure (n : Int))) Q E s := by
 obtain ⟨os, hos, hcs, hds⟩ := id hs
 unfold Builtin.Slice.sliceApplied Builtin.Slice.sliceFields
 refine wpAny_bind (wpAny_bind (wpAny_field hos hds (x := vl) rfl (wpAny_bind (wpAny_field hos hds (x := vu) rfl (wpAny_bind (wpAny_field hos hds (x := .none) rfl (wpAny_pure ?_)))))))
 refine wpAny_bind (slicePart_none ?_)
 show wpAny _ _ (if ((1 : Int) == 0) = true then _ else _) _ _ s
 rw [if_neg (by decide)]
 refine wpAny_bind (xgc pl (wpAny_bind (xgc pu (wpAny_bind (wpAny_pure ?_)))))
 show wpAny _ _ (match Builtin.Slice.sliceAdjust lo hi 1 (n : Int) with | (lo, hi) => pure (lo, (1 : Int), Builtin.Slice.slicePlaces lo hi 1)) _ _ s
 rw [xmp lo hi n]
 show wpAny _ _ (pure (((sIx n 0 lo : Nat) : Int), (1 : Int), Builtin.Slice.slicePlaces ((sIx n 0 lo : Nat) : Int) ((sIx n n hi : Nat) : Int) 1)) _ _ s
 rw [xl9]
 exact wpAny_pure h
theorem xps (xs : Array Value) (i k : Nat) : ((List.range k).filterMap fun (m : Nat) => xs[((i : Int) + (m : Int) * 1).toNat]?).toArray = ((xs.toList.drop i).take k).toArray := by
 have e : (fun (m : Nat) => xs[((i : Int) + (m : Int) * 1).toNat]?) = fun m => xs[i + m]? := by
  funext m
  have : ((i : Int) + (m : Int) * 1).toNat = i + m := by omega
  rw [this]
 rw [e]
 have := pick_run xs i k
 rw [List.filterMap_map] at this
 have e2 : ((fun x => xs[x]?) ∘ fun x => i + x) = fun m => xs[i + m]? := rfl
 rw [e2] at this
 rw [this]
theorem getItem_tuple_cut {t sl : Addr} {items : Array Value} {vl vu : Value} {lo hi : Option Int} {Q : Value -> Shared -> Prop} (ht : IsTup s.heap t items) (hs : s.heap.IsSliceOf sl vl vu .none) (pl : IsPart vl lo) (pu : IsPart vu hi)
  (hw : ¬ (sIx items.size 0 lo = 0 /\ sIx items.size items.size hi = items.size))
  (h : Q (.ref s.heap.objs.size) { s with heap := s.heap.push { cls := .type "tuple", data := .seq ((items.toList.drop (sIx items.size 0 lo)).take (sIx items.size items.size hi - sIx items.size 0 lo)).toArray } })
  (hsz : items.size <= sizeLine) : wpAny (model prog w) A (getItem (.ref t) (.ref sl)) Q E s := by
 have htake : sizeOk (.seq ((items.toList.drop (sIx items.size 0 lo)).take (sIx items.size items.size hi - sIx items.size 0 lo)).toArray) := by
  show ((items.toList.drop (sIx items.size 0 lo)).take (sIx items.size items.size hi - sIx items.size 0 lo)).toArray.size <= sizeLine
  rw [List.size_toArray, List.length_take, List.length_drop, Array.length_toList]
  omega
 have hj : sIx items.size items.size hi <= items.size := xtd _ _ (Nat.le_refl _) hi
 obtain ⟨os, hos, hcs, hds⟩ := id hs
 have hTs : s.TypeIs (.ref sl) "slice" := ⟨os, hos, hcs⟩
 unfold getItem
 try with_reducible refine wpAny_holding ?_
 first | refine wpAny_bind (wpAny_pure ?_) | skip
 refine wpAny_bind (wpAny_sequenceKey ht.typeIs (by decide) ?_)
 refine wpAny_bind (wpAny_callSpecial?_slot (name := Str.ofString "__getitem__") ht.typeIs PyProof.Rows.slot_tuple_getitem
  (wpAny_call_entry PyProof.Rows.slot_tuple_getitem ht.typeIs entry_tuple_getitem ?_ (args_tuple_getitem _ _)))
 show wpAny _ _ (Builtin.Tuple.tupleItemsOf (.ref t) >>= _) _ _ s
 refine wpAny_bind (tupleItemsOf_ ht ?_)
 refine wpAny_bind (wpAny_typeOf hTs ?_)
 rw [if_pos (by decide)]
 refine wpAny_bind (xeu hs pl pu ?_)
 have hno : ¬ ((((sIx items.size 0 lo : Nat) : Int) == 0 && (1 : Int) == 1 && (sIx items.size items.size hi - sIx items.size 0 lo) == items.size) = true) := by
  intro q
  rw [Bool.and_eq_true, Bool.and_eq_true] at q
  have q1 : ((sIx items.size 0 lo : Nat) : Int) = 0 := eq_of_beq q.1.1
  have q2 : sIx items.size items.size hi - sIx items.size 0 lo = items.size := eq_of_beq q.2
  exact hw ⟨by omega, by omega⟩
 show wpAny _ _ (if (((sIx items.size 0 lo : Nat) : Int) == 0 && (1 : Int) == 1 && (sIx items.size items.size hi - sIx items.size 0 lo) == items.size) = true then _ else _) _ _ s
 rw [if_neg hno, xps]
 first
  | exact wpAny_bind (m := Builtin.Tuple.tupleExact _) (wpAny_newObj_type (wpAny_pure ⟨_, rfl, wpAny_pure h⟩) htake)
  | exact wpAny_bind (m := Builtin.Tuple.tupleExact _) (wpAny_newObj_type (wpAny_bind (wpAny_pure (wpAny_pure ⟨_, rfl, wpAny_pure h⟩))) htake)
  | exact wpAny_bind (wpAny_bind (m := Builtin.Tuple.tupleExact _) (wpAny_newObj_type (wpAny_pure (wpAny_pure ⟨_, rfl, wpAny_pure h⟩)) htake))
  | exact wpAny_bind (wpAny_bind (m := Builtin.Tuple.tupleExact _) (wpAny_newObj_type (wpAny_pure ⟨_, rfl, wpAny_pure h⟩) htake))
end
end HT
namespace L2
open PySem PySem.Spec PyProof.Rows
abbrev TO := St -> Hp -> (Option Int -> Hp -> Prop) -> Prop
def PO (X : Cx) (e : Option Expr) (t : TO) : Prop :=
 ∀ (pins : List (Addr × Obj)) (s : Shared) (σ : St) (H : Hp) (Q : Option Int -> Hp -> Prop), Inv X pins σ H s -> t σ H Q ->
  wpAny (model X.prog X.w) X.A (evalPart e X.env) (fun u s' => ∃ o H', Inv X pins σ H' s' /\ IsPart u o /\ Q o H') X.xe s
def xrj : TO := fun _ H Q => Q none H
def tPart (t : TE) : TO := fun σ H Q => t σ H fun x H1 => ∃ i, x = .int i /\ Q (some i) H1
theorem xej {ns : List Int} : ∀ {us : List Value}, Vals (ns.map V.int) us -> IntsAre us ns := by
 induction ns with
 | nil => intro us r; rw [List.map_nil] at r; cases r; exact .nil
 | cons n ns ih =>
  intro us r
  rw [List.map_cons] at r
  cases r with
  | cons r1 r2 =>
   obtain ⟨t, e⟩ := r1
   subst e
   exact .cons n t (ih r2)
section
variable {X : Cx} {e : Expr} {te : TE} {lo hi : Option Expr} {tl th : TO} {pos p2 : Pos}
theorem xed : PO X none xrj := by
 intro pins s σ H Q I h
 rw [evalPart_none]
 exact wpAny_pure ⟨none, H, I, .none, h⟩
theorem xcq (h : PE X e te) : PO X (some e) (tPart te) := by
 intro pins s σ H Q I hw
 rw [evalPart_some]
 refine thn (h pins s σ H _ I hw) fun u s1 ⟨x, H1, I1, r1, q1⟩ => ?_
 obtain ⟨i, rfl, q⟩ := q1
 obtain ⟨t, rfl⟩ := r1
 exact ⟨some i, H1, I1, .int i t, q⟩
def SlR (X : Cx) (r : V -> Option Int -> Option Int -> Hp -> VK -> Prop) : Prop :=
 ∀ (pins : List (Addr × Obj)) (s : Shared) (σ : St) (H : Hp) (x : V) (v vl vu : Value) (lo hi : Option Int) (sl : Addr) (Q : VK), Inv X pins σ H s -> RelV x v -> s.heap.IsSliceOf sl vl vu .none -> IsPart vl lo -> IsPart vu hi -> r x lo hi H Q ->
  ∃ T id, typeLookup (.type T) "__getitem__" = pure (some (.builtin id)) /\ s.TypeIs v T /\ wpAny (model X.prog X.w) X.A (getItem v (.ref sl)) (EP X pins σ Q) X.xe s
def tSl (r : V -> Option Int -> Option Int -> Hp -> VK -> Prop) (te : TE) (tl th : TO) : TE := fun σ H Q => te σ H fun x H1 => tl σ H1 fun l H2 => th σ H2 fun u H3 => r x l u H3 Q
theorem xcm {r : V -> Option Int -> Option Int -> Hp -> VK -> Prop} (hr : SlR X r) (he : PE X e te) (hl : PO X lo tl) (hu : PO X hi th) : PE X (.Subscript e (.Slice lo hi none p2) pos) (tSl r te tl th) := by
 intro pins s σ H Q I h
 refine Subscript_ (thn (he pins s σ H _ I h) fun v s1 ⟨x, H1, I1, r1, q1⟩ => ?_)
 refine wpAny_Slice (thn (hl pins s1 σ H1 _ I1 q1) fun vl s2 ⟨l, H2, I2, pl, q2⟩ => thn (hu pins s2 σ H2 _ I2 q2) fun vu s3 ⟨u, H3, I3, pu, q3⟩ => ?_)
 rw [evalPart_none]
 refine wpAny_pure ?_
 have I4 : Inv X pins σ H3 { s3 with heap := s3.heap.push { cls := .type "slice", data := .fields #[vl, vu, .none] } } := I3.kept (t' := s3.toks) fun b ob q => Heap.get?_push_of_some _ q
 obtain ⟨T, id, hT, ht, hg⟩ := hr pins { s3 with heap := s3.heap.push { cls := .type "slice", data := .fields #[vl, vu, .none] } } σ H3 x v vl vu l u s3.heap.objs.size Q I4 r1 (Heap.IsSliceOf.new ..) pl pu q3
 show wpAny (model X.prog X.w) X.A (subscriptTail e (.Slice lo hi none p2) v (.ref s3.heap.objs.size)) (EP X pins σ Q) X.xe { s3 with heap := s3.heap.push { cls := .type "slice", data := .fields #[vl, vu, .none] } }
 exact tail_any (ops := [.ref s3.heap.objs.size, v]) ht hT hg (by with_unfolding_all rfl)
def cutV (xs : List V) (lo hi : Option Int) : List V := (xs.drop (HT.sIx xs.length 0 lo)).take (HT.sIx xs.length xs.length hi - HT.sIx xs.length 0 lo)
theorem xfz (xs : List V) (lo hi : Option Int) : (cutV xs lo hi).length <= xs.length := by
 unfold cutV
 rw [List.length_take, List.length_drop]
 omega
def rSlT (K : PySem.W.Frag) : V -> Option Int -> Option Int -> Hp -> VK -> Prop := fun x lo hi H Q => ∃ a xs, x = .ref a /\ SqT K H a xs ∧
 ¬ (HT.sIx xs.length 0 lo = 0 /\ HT.sIx xs.length xs.length hi = xs.length) /\ ∀ p, H p = none -> Q (.ref p) (upd H p (.tup (cutV xs lo hi)))
theorem xtc : SlR X (rSlT X.K) := by
 intro pins s σ H x v vl vu lo hi sl Q I rx hs pl pu h
 obtain ⟨a, xs, rfl, hx, hw, q⟩ := h
 cases rx
 obtain ⟨its, r, ht, hz⟩ := I.tuple hx
 have hlen : its.toArray.size = xs.length := by rw [List.size_toArray]; exact r.length.symm
 refine ⟨"tuple", _, PyProof.Rows.slot_tuple_getitem.lookup, ht.typeIs, ?_⟩
 refine HT.getItem_tuple_cut ht hs pl pu (by rw [hlen]; exact hw) ?_ (by rw [hlen]; exact hz)
 rw [hlen]
 refine ⟨.ref s.heap.objs.size, _, I.laid (t' := s.toks) (o := .tup (cutV xs lo hi)) (fun b ob q => Heap.get?_push_of_some _ q) (Nat.le_refl _) ?_, rfl, q _ (I.hok.fresh (Nat.le_refl _))⟩
 exact ⟨Nat.le_trans (xfz xs lo hi) hz, _, (r.drop (HT.sIx xs.length 0 lo)).take (HT.sIx xs.length xs.length hi - HT.sIx xs.length 0 lo), _, Heap.get?_push_size _ rfl, rfl, _, rfl, rfl⟩
end
end L2
namespace L2
open PySem PySem.Spec PyProof.Rows
def ixN (n : Nat) (i : Int) : Option Nat := if 0 <= i then (if i < n then some i.toNat else none) else if -(n : Int) <= i then some (i + n).toNat else none
def atI {α : Type} (xs : List α) (i : Int) : Option α := (ixN xs.length i).bind fun j => xs[j]?
theorem xon {n : Nat} {i : Int} {j : Nat} (h : ixN n i = some j) : seqIndex? i n = some j /\ j < n /\ -(n : Int) <= i /\ i < n := by
 unfold ixN at h
 by_cases h0 : 0 <= i
 ·rw [if_pos h0] at h
  by_cases h1 : i < n
  ·rw [if_pos h1] at h
   have e : i.toNat = j := Option.some.inj h
   exact ⟨by rw [seqIndex_of h0 h1, e], by omega, by omega, h1⟩
  ·rw [if_neg h1] at h; cases h
 ·rw [if_neg h0] at h
  by_cases h1 : -(n : Int) <= i
  ·rw [if_pos h1] at h
   have e : (i + n).toNat = j := Option.some.inj h
   exact ⟨by rw [seqIndex_neg (by omega) h1, e], by omega, h1, by omega⟩
  ·rw [if_neg h1] at h; cases h
theorem xkw {α : Type} {xs : List α} {i : Int} {v : α} (h : atI xs i = some v) : ∃ j, seqIndex? i xs.length = some j /\ xs[j]? = some v /\ j < xs.length /\ -(xs.length : Int) <= i /\ i < xs.length := by
 unfold atI at h
 cases e : ixN xs.length i with
 | none => rw [e] at h; cases h
 | some j =>
  rw [e] at h
  obtain ⟨h1, h2, h3, h4⟩ := xon e
  exact ⟨j, h1, h, h2, h3, h4⟩
theorem xap {α : Type} {xs : List α} {j : Nat} {v : α} (h : xs[j]? = some v) : atI xs (j : Int) = some v := by
 have hj : j < xs.length := (zES h).1
 have e : ixN xs.length (j : Int) = some j := by
  unfold ixN
  rw [if_pos (by omega), if_pos (by omega)]; simp
 unfold atI; rw [e]; exact h
def xsq (b : Expr) : Prop := ∀ o i, subscripted b false o i = operate [o, i] (getItem o i)
def IxR (X : Cx) (r : R2) : Prop :=
 ∀ (value slice : Expr) (pins : List (Addr × Obj)) (s : Shared) (σ : St) (H : Hp) (x y : V) (v u : Value) (Q : VK), Inv X pins σ H s -> RelV x v -> RelV y u -> r x y H Q ->
  subscripted slice false v u = operate [v, u] (getItem v u) -> wpAny (model X.prog X.w) X.A (subscriptTail value slice v u) (EP X pins σ Q) X.xe s
def MtR (X : Cx) (id : String) (r : V -> List V -> Hp -> VK -> Prop) : Prop :=
 ∀ (pins : List (Addr × Obj)) (s : Shared) (σ : St) (H : Hp) (x : V) (xs : List V) (v : Value) (us : List Value) (Q : VK), Inv X pins σ H s -> RelV x v -> Vals xs us -> r x xs H Q ->
  wpAny (model X.prog X.w) X.A (call (.builtin id) (v :: us)) (EP X pins σ Q) X.xe s
section
variable {X : Cx} {a b : Expr} {ta tb : TE} {pos : Pos}
theorem xag {r : R2} (hr : IxR X r) (ha : PE X a ta) (hb : PE X b tb) (hs : xsq b) : PE X (.Subscript a b pos) (tOp r ta tb) := by
 intro pins s σ H Q I h
 exact Subscript_ (binT ha hb I h fun v u s2 x y H2 I2 rx ry q => hr a b pins s2 σ H2 x y v u Q I2 rx ry q (hs _ _))
def rIxL (K : PySem.W.Frag) : R2 := fun x y H Q => ∃ p xs i v, x = .ref p /\ y = .int i /\ SqL K H p xs /\ atI xs i = some v /\ Q v H
def rIxT (K : PySem.W.Frag) : R2 := fun x y H Q => ∃ p xs i v, x = .ref p /\ y = .int i /\ SqT K H p xs /\ atI xs i = some v /\ Q v H
def rIxS : R2 := fun x y H Q => ∃ z i c, x = .str z /\ y = .int i /\ z.length <= sizeLine /\ atI z.cps.toList i = some c /\ Q (.str ⟨#[c]⟩) H
theorem iL : IxR X (rIxL X.K) := by
 intro value slice pins s σ H x y v u Q I rx ry h hs
 obtain ⟨p, xs, i, z, rfl, rfl, hq, he, q⟩ := h
 cases rx
 obtain ⟨t, rfl⟩ := ry
 obtain ⟨its, r, pl, hz⟩ := I.list hq
 obtain ⟨j, h1, h2, h3, h4, h5⟩ := xkw he
 obtain ⟨w, ew, rw'⟩ := r.get h2
 have hl := r.length
 have hn := xjc
 have fin : EP X pins σ Q w s := ⟨z, H, I, rw', q⟩
 by_cases h0 : 0 <= i
 ·have hj : i.toNat = j := by
   rw [seqIndex_of h0 h5] at h1
   exact Option.some.inj h1
  exact item_listR pl.isList h0 (by omega) (by rw [hj]; simpa using ew) fin hs
 ·have hj : (i + (its.toArray.size : Int)).toNat = j := by
   rw [seqIndex_neg (by omega) h4] at h1
   rw [List.size_toArray, <- hl]
   exact Option.some.inj h1
  exact subscriptTail_builtinR (x := w) pl.isList.typeIs slot_list_getitem.lookup
   (wpAny_getItem_list_neg (Q := fun r s' => r = w /\ EP X pins σ Q r s') pl.isList (by omega) (by rw [List.size_toArray] <;> omega) (by omega) (by rw [hj]; simpa using ew) ⟨rfl, fin⟩) hs
theorem xaf : IxR X (rIxT X.K) := by
 intro value slice pins s σ H x y v u Q I rx ry h hs
 obtain ⟨p, xs, i, z, rfl, rfl, hq, he, q⟩ := h
 cases rx
 obtain ⟨t, rfl⟩ := ry
 obtain ⟨its, r, pl, hz⟩ := I.tuple hq
 obtain ⟨j, h1, h2, h3, h4, h5⟩ := xkw he
 obtain ⟨w, ew, rw'⟩ := r.get h2
 have hl := r.length
 have hn := xjc
 have fin : EP X pins σ Q w s := ⟨z, H, I, rw', q⟩
 exact subscriptTail_builtinR (x := w) pl.typeIs slot_tuple_getitem.lookup
  (getItem_tuple (j := j) (Q := fun r s' => r = w /\ EP X pins σ Q r s') pl (by omega) (by omega) (by rw [List.size_toArray, <- hl]; exact h1) (by simpa using ew) ⟨rfl, fin⟩) hs
theorem xln : IxR X rIxS := by
 intro value slice pins s σ H x y v u Q I rx ry h hs
 obtain ⟨z, i, c, rfl, rfl, hz, he, q⟩ := h
 obtain ⟨t, rfl⟩ := rx
 obtain ⟨t', rfl⟩ := ry
 obtain ⟨j, h1, h2, h3, h4, h5⟩ := xkw he
 have hl : z.cps.toList.length = z.length := by simp [Str.length]
 rw [hl] at h1 h4 h5
 have hn := xjc
 exact tail_any (typeIs_str s z t) slot_str_getitem.lookup (getItem_str (c := c) (by
  have e1 : decide (i < -(2 ^ 63 : Int)) = false := zDF (by omega)
  have e2 : decide (i ≥ 2 ^ 63) = false := zDF (by omega)
  rw [e1, e2, Bool.or_false]) (by rw [h1]; simpa using h2) ⟨.str ⟨#[c]⟩, H, I.tok _, ⟨_, rfl⟩, q⟩) hs
theorem xmh (its : List Value) (n j : Nat) (u : Value) : Obj.mapSeq (·.setIfInBounds j u) { cls := .type "list", data := .seq its.toArray n } = { cls := .type "list", data := .seq (its.set j u).toArray n } := by
 simp [Obj.mapSeq]
theorem Inv.lst {pins : List (Addr × Obj)} {σ : St} {H : Hp} {s : Shared} {p : Addr} {xs : List V} (I : Inv X pins σ H s) (h : H p = some (.lst xs)) :
  ∃ (its : List Value) (n : Nat), Vals xs its /\ s.heap.get? p = some { cls := .type "list", data := .seq its.toArray n } /\ xs.length <= sizeLine := by
 obtain ⟨z, its, n, r, e⟩ := I.hok p _ h
 exact ⟨its, n, r, e, z⟩
theorem Inv.lstUpd {pins : List (Addr × Obj)} {σ : St} {H : Hp} {s : Shared} {p : Addr} {xs ys : List V} {its its' : List Value} {n n' : Nat} {f : Obj -> Obj} (I : Inv X pins σ H s) (h : H p = some (.lst xs))
  (ho : s.heap.get? p = some { cls := .type "list", data := .seq its.toArray n }) (hf : f { cls := .type "list", data := .seq its.toArray n } = { cls := .type "list", data := .seq its'.toArray n' }) (r : Vals ys its') (hz : ys.length <= sizeLine) (t : Nat) :
  Inv X pins σ (upd H p (.lst ys)) { s with heap := s.heap.update p f, toks := t } := by
 have e : (s.heap.update p f).get? p = some { cls := .type "list", data := .seq its'.toArray n' } := by
  rw [Heap.get?_update_self f ho (by rw [hf] <;> rfl), hf]
 refine I.write (x := p) (e := p) (by rw [h]; trivial) (.inl rfl) (fun b u hb q => (Heap.get?_update_other _ _ (Ne.symm hb)).trans q) ⟨_, e⟩ ?_
 exact ⟨hz, its', n', r, e⟩
def rSetL : V -> V -> V -> Hp -> (Hp -> Prop) -> Prop := fun o i v H Q => ∃ p xs k j, o = .ref p /\ i = .int k /\ H p = some (.lst xs) /\ ixN xs.length k = some j /\ Q (upd H p (.lst (xs.set j v)))
theorem xgy : PSet X rSetL := by
 intro pins s σ H o i v ov iv u Q I ro ri rv h
 obtain ⟨p, xs, k, j, rfl, rfl, hp, hj, q⟩ := h
 cases ro
 obtain ⟨t, rfl⟩ := ri
 obtain ⟨its, n, r, ho, hz⟩ := I.lst hp
 obtain ⟨h1, h2, h3, h4⟩ := xon hj
 have hl := r.length
 have hn := xjc
 have I' : Inv X pins σ (upd H p (.lst (xs.set j v))) { s with heap := s.heap.update p (Obj.mapSeq (·.setIfInBounds j u)) } :=
  I.lstUpd hp ho (xmh its n j u) (r.set rv j) (by rw [List.length_set]; exact hz) s.toks
 by_cases h0 : 0 <= k
 ·have hk : k.toNat = j := by
   rw [seqIndex_of h0 h4] at h1
   exact Option.some.inj h1
  exact PySem.W.ki_setAt ho h0 (by omega) (by rw [List.size_toArray, <- hl]; exact h4) (by rw [hk]; exact ⟨_, I', q⟩)
 ·have hk : (k + (its.toArray.size : Int)).toNat = j := by
   rw [seqIndex_neg (by omega) h3] at h1
   rw [List.size_toArray, <- hl]
   exact Option.some.inj h1
  exact PySem.W.ki_setBack ho (by omega) (by rw [List.size_toArray, <- hl]; exact h3) (by omega) (by rw [hk]; exact ⟨_, I', q⟩)
theorem xh9 (lo hi : Option Int) (n : Nat) : (sliceBounds lo hi none n).1 = ((HT.sIx n 0 lo : Nat) : Int) /\ (sliceBounds lo hi none n).2.1 = ((HT.sIx n n hi : Nat) : Int) /\ (sliceBounds lo hi none n).2.2 = 1 := by
 refine ⟨?_, ?_, rfl⟩
 ·cases lo with
  | none => simp [sliceBounds, HT.sIx]
  | some i =>
   simp only [sliceBounds, HT.sIx, Option.getD_none, show (1 : Int) > 0 by decide, if_true]
   by_cases h : i < 0
   ·simp only [h, if_true] <;> omega
   ·simp only [h, if_false] <;> omega
 ·cases hi with
  | none => simp [sliceBounds, HT.sIx]
  | some i =>
   simp only [sliceBounds, HT.sIx, Option.getD_none, show (1 : Int) > 0 by decide, if_true]
   by_cases h : i < 0
   ·simp only [h, if_true] <;> omega
   ·simp only [h, if_false] <;> omega
theorem xgx (its : List Value) (lo hi : Option Int) : slicePick its.toArray lo hi none = ((its.drop (HT.sIx its.length 0 lo)).take (HT.sIx its.length its.length hi - HT.sIx its.length 0 lo)).toArray := by
 obtain ⟨h1, h2, h3⟩ := xh9 lo hi its.toArray.size
 unfold slicePick
 rw [h1, h2, h3]
 simp only [sliceRange_one, pick_run, List.size_toArray] <;> rfl
def rSlL (K : PySem.W.Frag) : V -> Option Int -> Option Int -> Hp -> VK -> Prop := fun x lo hi H Q => ∃ a xs, x = .ref a /\ SqL K H a xs /\ ∀ p, H p = none -> Q (.ref p) (upd H p (.lst (cutV xs lo hi)))
theorem xfg : SlR X (rSlL X.K) := by
 intro pins s σ H x v vl vu lo hi sl Q I rx hs pl pu h
 obtain ⟨a, xs, rfl, hx, q⟩ := h
 cases rx
 obtain ⟨its, r, ht, hz⟩ := I.list hx
 have hlen := r.length
 refine ⟨"list", _, slot_list_getitem.lookup, ht.isList.typeIs, ?_⟩
 refine wpAny_getItem_list_slice ht.isList hs pl pu .none (by simp) ?_ (by rw [List.size_toArray] <;> omega)
 rw [xgx, <- hlen]
 refine ⟨.ref s.heap.objs.size, _, I.laid (t' := s.toks) (o := .lst (cutV xs lo hi)) (fun b ob q => Heap.get?_push_of_some _ q) (Nat.le_refl _) ?_, rfl, q _ (I.hok.fresh (Nat.le_refl _))⟩
 exact ⟨Nat.le_trans (xfz xs lo hi) hz, _, 0, (r.drop (HT.sIx xs.length 0 lo)).take (HT.sIx xs.length xs.length hi - HT.sIx xs.length 0 lo), Heap.get?_push_size _ rfl⟩
def xd4 : V -> Bool
 | .non => true
 | .bl _ => true
 | .int _ => true
 | .str _ => true
 | _ => false
def eqV : V -> V -> Bool
 | .non, .non => true
 | .bl a, .bl b => a == b
 | .bl a, .int b => (if a then 1 else 0) == b
 | .int a, .bl b => a == (if b then 1 else 0)
 | .int a, .int b => a == b
 | .str a, .str b => a == b
 | _, _ => false
theorem xq7 {A : Around} {s : Shared} {y x : V} {u v : Value} (ry : RelV y u) (rx : RelV x v) (fy : xd4 y = true) (fx : xd4 x = true) : SeqAt.EqAt A s u v (eqV y x) := by
 cases y with
 | non =>
  cases ry
  cases x with
  | non => cases rx; exact SeqAt.EqAt.same _
  | bl b => cases rx; exact SeqAt.EqAt.none_bool b
  | int b => obtain ⟨t, rfl⟩ := rx; exact SeqAt.EqAt.none_int b t
  | str b => obtain ⟨t, rfl⟩ := rx; exact SeqAt.EqAt.none_str b t
  | _ => exact absurd (show false = true from fx) Bool.false_ne_true
 | bl a =>
  cases ry
  cases x with
  | non => cases rx; exact SeqAt.EqAt.bool_none a
  | bl b => cases rx; exact SeqAt.EqAt.bool_bool a b
  | int b => obtain ⟨t, rfl⟩ := rx; exact SeqAt.EqAt.bool_int a b t
  | str b => obtain ⟨t, rfl⟩ := rx; exact SeqAt.EqAt.bool_str a b t
  | _ => exact absurd (show false = true from fx) Bool.false_ne_true
 | int a =>
  obtain ⟨t', rfl⟩ := ry
  cases x with
  | non => cases rx; exact SeqAt.EqAt.int_none a t'
  | bl b => cases rx; exact SeqAt.EqAt.int_bool a t' b
  | int b => obtain ⟨t, rfl⟩ := rx; exact SeqAt.EqAt.int_int a t' b t
  | str b => obtain ⟨t, rfl⟩ := rx; exact SeqAt.EqAt.int_str a t' b t
  | _ => exact absurd (show false = true from fx) Bool.false_ne_true
 | str a =>
  obtain ⟨t', rfl⟩ := ry
  cases x with
  | non => cases rx; exact SeqAt.EqAt.str_none a t'
  | bl b => cases rx; exact SeqAt.EqAt.str_bool a t' b
  | int b => obtain ⟨t, rfl⟩ := rx; exact SeqAt.EqAt.str_int a t' b t
  | str b => obtain ⟨t, rfl⟩ := rx; exact SeqAt.EqAt.str_str a t' b t
  | _ => exact absurd (show false = true from fx) Bool.false_ne_true
 | _ => exact absurd (show false = true from fy) Bool.false_ne_true
def eqU (x : V) (u : Value) : Bool := match u with
 | .none => eqV .non x
 | .bool b => eqV (.bl b) x
 | .int i _ => eqV (.int i) x
 | .str z _ => eqV (.str z) x
 | _ => false
theorem xox {x y : V} {u : Value} (r : RelV y u) (f : xd4 y = true) : eqU x u = eqV y x := by
 cases y with
 | non => cases r; rfl
 | bl b => cases r; rfl
 | int i => obtain ⟨t, rfl⟩ := r; rfl
 | str z => obtain ⟨t, rfl⟩ := r; rfl
 | _ => exact absurd (show false = true from f) Bool.false_ne_true
theorem xf1 {x : V} : ∀ {xs : List V} {us : List Value}, Vals xs us -> xs.all xd4 = true -> us.any (eqU x) = xs.any fun y => eqV y x
 | _, _, .nil, _ => rfl
 | y :: xs, u :: us, .cons r t, f => by
  rw [List.all_cons, Bool.and_eq_true] at f
  rw [List.any_cons, List.any_cons, xox r f.1, xf1 t f.2]
theorem xdf {A : Around} {s : Shared} {x : V} {v : Value} (rx : RelV x v) (fx : xd4 x = true) : ∀ {xs : List V} {us : List Value}, Vals xs us -> xs.all xd4 = true -> ∀ u ∈ us, SeqAt.EqAt A s u v (eqU x u)
 | _, _, .nil, _ => fun u hu => by cases hu
 | y :: xs, u :: us, .cons r t, f => fun u' hu => by
  rw [List.all_cons, Bool.and_eq_true] at f
  rcases List.mem_cons.mp hu with rfl | hu
  ·rw [xox r f.1]; exact xq7 r rx f.1 fx
  ·exact xdf rx fx t f.2 u' hu
def inV (x : V) (xs : List V) : Bool := xs.any fun y => eqV y x
def rIn (K : PySem.W.Frag) (neg : Bool) : R2 := fun x y H Q => ∃ p xs, y = .ref p /\ (SqL K H p xs \/ SqT K H p xs) /\ xd4 x = true /\ xs.all xd4 = true /\ Q (.bl (if neg then !inV x xs else inV x xs)) H
theorem xiq : OpR X (compareOp .In) (rIn X.K false) := by
 intro pins s σ H x y v u Q I rx ry h
 obtain ⟨p, xs, rfl, hq, fx, fs, q⟩ := h
 cases ry
 rcases hq with hq | hq
 ·obtain ⟨its, r, pl, hz⟩ := I.list hq
  refine SeqAt.in_listAt (eqU x) pl.isList (fun w hw => xdf rx fx r fs w (by simpa using hw)) ⟨.bl _, H, I, rfl, ?_⟩
  rw [show its.toArray.any (eqU x) = its.any (eqU x) by simp, xf1 r fs]
  exact q
 ·obtain ⟨its, r, pl, hz⟩ := I.tuple hq
  refine SeqAt.in_tupleAt (eqU x) pl (fun w hw => xdf rx fx r fs w (by simpa using hw)) ⟨.bl _, H, I, rfl, ?_⟩
  rw [show its.toArray.any (eqU x) = its.any (eqU x) by simp, xf1 r fs]
  exact q
theorem xio : OpR X (compareOp .NotIn) (rIn X.K true) := by
 intro pins s σ H x y v u Q I rx ry h
 obtain ⟨p, xs, rfl, hq, fx, fs, q⟩ := h
 cases ry
 rcases hq with hq | hq
 ·obtain ⟨its, r, pl, hz⟩ := I.list hq
  refine SeqAt.notIn_listAt (eqU x) pl.isList (fun w hw => xdf rx fx r fs w (by simpa using hw)) ⟨.bl _, H, I, rfl, ?_⟩
  rw [show its.toArray.any (eqU x) = its.any (eqU x) by simp, xf1 r fs]
  exact q
 ·obtain ⟨its, r, pl, hz⟩ := I.tuple hq
  refine SeqAt.notIn_tupleAt (eqU x) pl (fun w hw => xdf rx fx r fs w (by simpa using hw)) ⟨.bl _, H, I, rfl, ?_⟩
  rw [show its.toArray.any (eqU x) = its.any (eqU x) by simp, xf1 r fs]
  exact q
theorem xad : xdl X (.builtin "len") (fun xs H Q => ∃ p ys, xs = [.ref p] /\ (SqL X.K H p ys \/ SqT X.K H p ys) /\ Q (.int ys.length) H) := by
 intro pins s σ H xs us Q I r h
 obtain ⟨p, ys, rfl, hq, q⟩ := h
 obtain ⟨u, rfl, rx⟩ := xd9 r
 cases rx
 have hn := xjc
 rcases hq with hq | hq
 ·obtain ⟨its, r', pl, hz⟩ := I.list hq
  have hlen := r'.length
  exact Calls.call_len_list pl.isList (by simp only [List.size_toArray] <;> omega) ⟨.int ys.length, H, I.tok _, ⟨s.toks + 1, by rw [List.size_toArray, hlen]⟩, q⟩
 ·obtain ⟨its, r', pl, hz⟩ := I.tuple hq
  have hlen := r'.length
  exact len_tuple pl (by simp only [List.size_toArray] <;> omega) ⟨.int ys.length, H, I.tok _, ⟨s.toks + 1, by rw [List.size_toArray, hlen]⟩, q⟩
theorem xau : xdl X (.type "tuple") (fun xs H Q => ∃ p ys, xs = [.ref p] /\ ((SqL X.K H p ys /\ ∀ l, H l = none -> Q (.ref l) (upd H l (.tup ys))) \/ (SqT X.K H p ys /\ Q (.ref p) H))) := by
 intro pins s σ H xs us Q I r h
 obtain ⟨p, ys, rfl, h⟩ := h
 obtain ⟨u, rfl, rx⟩ := xd9 r
 cases rx
 rcases h with ⟨hq, q⟩ | ⟨hq, q⟩
 ·obtain ⟨its, r', pl, hz⟩ := I.list hq
  have hlen := r'.length
  refine call_tuple_list pl.isList (fun h' kp => ?_) (by simp only [List.size_toArray] <;> omega)
  have I1 : Inv X pins σ H { s with heap := h' } := I.kept (t' := s.toks) kp
  have I2 : Inv X pins σ (upd H h'.objs.size (.tup ys)) { s with heap := h'.push { cls := .type "tuple", data := .seq its.toArray } } :=
   I1.laid (t' := s.toks) (fun b o e => Heap.get?_push_of_some _ e) (Nat.le_refl _) (show ObjOk X.prog X.w _ _ _ (.tup ys) from ⟨hz, its, r', _, Heap.get?_push_size _ rfl, rfl, _, rfl, rfl⟩)
  exact ⟨.ref h'.objs.size, _, I2, rfl, q _ (I1.hok.fresh (Nat.le_refl _))⟩
 ·obtain ⟨its, r', pl, hz⟩ := I.tuple hq
  exact call_tuple_same pl ⟨.ref p, H, I, rfl, q⟩
def tyV (K : PySem.W.Frag) (T : String) (x : V) (H : Hp) : Prop := match x with
 | .str _ => T = "str"
 | .int _ => T = "int"
 | .ref p => (T = "list" /\ ∃ xs, SqL K H p xs) \/ (T = "tuple" /\ ∃ o, K.lookup p = some o /\ o.cls = .type "tuple" /\ o.dict = none) ∨
   (T = "dict" /\ ((∃ kvs, H p = some (.dK kvs)) \/ ∃ kvs, H p = some (.dT kvs))) \/ (T = "set" /\ ∃ S n, H p = some (.set S n))
 | _ => False
theorem xqo {pins : List (Addr × Obj)} {σ : St} {H : Hp} {s : Shared} {T : String} {x : V} {v : Value} (I : Inv X pins σ H s) (r : RelV x v) (ty : tyV X.K T x H) :
  s.TypeIs v T /\ ∀ a, v = .ref a -> ∃ ob, s.heap.get? a = some ob /\ ob.dict = none := by
 cases x with
 | str z =>
  obtain ⟨t, rfl⟩ := r
  cases (show T = "str" from ty)
  exact ⟨typeIs_str s z t, fun _ e => nomatch e⟩
 | int i =>
  obtain ⟨t, rfl⟩ := r
  cases (show T = "int" from ty)
  exact ⟨typeIs_int s i t, fun _ e => nomatch e⟩
 | ref p =>
  cases r
  rcases ty with ⟨rfl, xs, hq⟩ | ⟨rfl, o, hk, hc, hd⟩ | ⟨rfl, hk⟩ | ⟨rfl, S, n, hk⟩
  ·obtain ⟨its, _, pl, _⟩ := I.list hq
   refine ⟨pl.isList.typeIs, fun a e => ?_⟩
   cases e
   obtain ⟨o, n, e, c, hd, _⟩ := pl
   exact ⟨o, e, hd⟩
  ·refine ⟨⟨o, I.kIn p o hk, hc⟩, fun a e => ?_⟩
   cases e
   exact ⟨o, I.kIn _ o hk, hd⟩
  ·have z : ∃ o, s.heap.get? p = some o /\ o.ExactDict := by
    rcases hk with ⟨kvs, hk⟩ | ⟨kvs, hk⟩
    ·obtain ⟨_, _, _, _, o, _, _, e, ex, _⟩ := I.hok p _ hk
     exact ⟨o, e, ex⟩
    ·obtain ⟨_, _, _, _, o, _, _, e, ex, _⟩ := I.hok p _ hk
     exact ⟨o, e, ex⟩
   obtain ⟨o, e, ex⟩ := z
   refine ⟨⟨o, e, ex.1⟩, fun a e2 => ?_⟩
   cases e2
   exact ⟨o, e, ex.2.1⟩
  ·obtain ⟨o, _, _, _, e, ex, _⟩ := I.hok p _ hk
   refine ⟨⟨o, e, ex.1⟩, fun a e2 => ?_⟩
   cases e2
   exact ⟨o, e, ex.2.1⟩
 | _ => exact False.elim ty
def tBM0 (K : PySem.W.Frag) (T : String) (r : V -> List V -> Hp -> VK -> Prop) (to : TE) : TE := fun σ H Q => to σ H fun x H1 => tyV K T x H1 /\ r x [] H1 Q
def tBM (K : PySem.W.Frag) (T : String) (r : V -> List V -> Hp -> VK -> Prop) (to : TE) (t : TA) : TE := fun σ H Q => to σ H fun x H1 => tyV K T x H1 /\ t σ H1 fun xs H2 => r x xs H2 Q
variable {o e : Expr} {es : List Expr} {to : TE} {t : TA} {name : Str} {apos cpos : Pos} {T id : String} {r : V -> List V -> Hp -> VK -> Prop}
theorem xqw (pa : PlainAttrs T) (slot : Slot T name id) (hty : typeOf (.builtin id) = pure (.type "method_descriptor")) (hm : MtR X id r) (ho : PE X o to)
  (hbase : attributeBase o name X.env (eval o X.env) = eval o X.env := by rfl) (hline : (apos.endLine == cpos.line) = true := by rfl) : PE X (.Call (.Attribute o name apos) [] [] cpos) (tBM0 X.K T r to) := by
 intro pins s σ H Q I h
 refine wpAny_Call_method0_late hbase hline (thn (ho pins s σ H _ I h) fun v s1 ⟨x, H1, I1, r1, ty, q1⟩ => ?_)
 obtain ⟨h1, h2⟩ := xqo I1 r1 ty
 exact ⟨T, id, pa, slot, hty, h1, h2, Calls.callWith_builtin rfl (PySem.evalArgs_none (hm pins s1 σ H1 x [] v [] Q I1 r1 .nil q1))⟩
theorem xev (pa : PlainAttrs T) (slot : Slot T name id) (hty : typeOf (.builtin id) = pure (.type "method_descriptor")) (hm : MtR X id r) (ho : PE X o to) (ha : PA X (e :: es) t)
  (hbase : attributeBase o name X.env (eval o X.env) = eval o X.env := by rfl)
  (hfew : ((backTo cpos (starEach (e :: es) X.env)).all (fun x => !x.1) && (backToKw cpos (keywordEach [] X.env)).all (fun x => x.1.isSome)
   && decide ((e :: es).length + ([] : List Keyword).length + (if ([] : List Keyword).isEmpty then 0 else 1) < 30)) = true := by rfl)
  (hline : (apos.endLine == cpos.line) = true := by rfl) (hs : starEach (e :: es) X.env = (false, eval e X.env) :: starEach es X.env := by rfl) (hplain : (backTo cpos (starEach es X.env)).any (·.1) = false := by rfl) :
  PE X (.Call (.Attribute o name apos) (e :: es) [] cpos) (tBM X.K T r to t) := by
 intro pins s σ H Q I h
 refine wpAny_Call_method_late hbase hfew hline rfl (thn (ho pins s σ H _ I h) fun v s1 ⟨x, H1, I1, r1, ty, q1⟩ => ?_)
 obtain ⟨h1, h2⟩ := xqo I1 r1 ty
 refine ⟨T, id, pa, slot, hty, h1, h2, ?_⟩
 have hA := ha cpos pins s1 σ H1 _ I1 q1
 rw [hs] at hA ⊢
 refine Calls.callWith_builtin (by show (false || (backTo cpos (starEach es X.env)).any (·.1)) = false; rw [hplain] <;> rfl) (Calls.evalArgs_plain ?_)
 exact thn hA fun us s2 ⟨vs, H2, I2, r2, q2⟩ => hm pins s2 σ H2 x vs v us Q I2 r1 r2 q2
end
end L2
namespace L2
open PySem PySem.Spec PyProof.Rows
def MtM (X : Cx) (id : String) (r : V -> List V -> Hp -> VK -> Prop) : Prop :=
 ∀ (pins : List (Addr × Obj)) (s : Shared) (σ : St) (H : Hp) (x : V) (xs : List V) (v : Value) (us : List Value) (Q : VK), Inv X pins σ H s -> RelV x v -> Vals xs us -> r x xs H Q ->
  wpAny (model X.prog X.w) X.A (call (.builtin id) (v :: us)) (EP X pins σ Q) X.xe s
theorem Vals.one : ∀ {x : V} {us : List Value}, Vals [x] us -> ∃ u, us = [u] /\ RelV x u
 | _, _, .cons r .nil => ⟨_, rfl, r⟩
theorem Vals.two : ∀ {x y : V} {us : List Value}, Vals [x, y] us -> ∃ u v, us = [u, v] /\ RelV x u /\ RelV y v
 | _, _, _, .cons r (.cons q .nil) => ⟨_, _, rfl, r, q⟩
theorem Vals.zero : ∀ {us : List Value}, Vals [] us -> us = []
 | _, .nil => rfl
theorem Vals.eraseIdx : ∀ {xs : List V} {us : List Value} (i : Nat), Vals xs us -> Vals (xs.eraseIdx i) (us.eraseIdx i)
 | _, _, _, .nil => .nil
 | _, _, 0, .cons _ t => t
 | _, _, i + 1, .cons r t => .cons r (Vals.eraseIdx i t)
theorem Vals.reverse {xs : List V} {us : List Value} (h : Vals xs us) : Vals xs.reverse us.reverse := by
 induction h with
 | nil => exact .nil
 | cons r t ih => rw [List.reverse_cons, List.reverse_cons]; exact Vals.append ih (.cons r .nil)
theorem xje {α : Type} : ∀ (l : List α) (i : Nat), (l.eraseIdx i).length <= l.length
 | [], _ => Nat.le_refl _
 | _ :: _, 0 => Nat.le_succ _
 | _ :: r, i + 1 => Nat.succ_le_succ (xje r i)
section
variable {X : Cx} {pins : List (Addr × Obj)} {σ : St} {H : Hp} {s : Shared} {l b : Addr} {xs ys zs : List V}
theorem Inv.lset {its its' : List Value} {n : Nat} {f : Array Value -> Array Value} {t' : Nat} (I : Inv X pins σ H s) (hH : H l = some (.lst xs))
  (e : s.heap.get? l = some { cls := .type "list", data := .seq its.toArray n }) (hf : f its.toArray = its'.toArray) (hv : Vals ys its') (hz : ys.length <= sizeLine) :
  Inv X pins σ (upd H l (.lst ys)) { s with heap := s.heap.update l (Obj.mapSeq f), toks := t' } := by
 have q := PySem.IsL.update e f
 rw [hf] at q
 refine I.write (x := l) (e := l) (by rw [hH]; exact trivial) (.inl rfl) (fun b' u hb hu => (Heap.get?_update_other s.heap (Obj.mapSeq f) (Ne.symm hb)).trans hu) ⟨_, q⟩ ?_
 exact ⟨hz, its', _, hv, q⟩
theorem Inv.lnew {its : List Value} {t' : Nat} (I : Inv X pins σ H s) (hv : Vals ys its) (hz : ys.length <= sizeLine) :
  Inv X pins σ (upd H s.heap.objs.size (.lst ys)) { s with heap := s.heap.push { cls := .type "list", data := .seq its.toArray }, toks := t' } :=
 I.laid (fun _ _ q => Heap.get?_push_of_some _ q) (Nat.le_refl _) ⟨hz, its, 0, hv, Heap.get?_push_size _ rfl⟩
theorem Inv.fresh (I : Inv X pins σ H s) : H s.heap.objs.size = none := I.hok.fresh (Nat.le_refl _)
theorem Inv.lstM (I : Inv X pins σ H s) (hH : H l = some (.lst xs)) : xs.length <= sizeLine /\ ∃ (its : List Value) (n : Nat), Vals xs its /\ xs.length = its.length /\ s.heap.get? l = some { cls := .type "list", data := .seq its.toArray n } := by
 obtain ⟨z, its, n, r, e⟩ := I.hok l _ hH
 exact ⟨z, its, n, r, r.length, e⟩
end
section
variable {X : Cx}
def xrs : V -> List V -> Hp -> VK -> Prop := fun x vs H Q => ∃ l xs y, x = .ref l /\ vs = [y] /\ H l = some (.lst xs) /\ xs.length < sizeLine /\ Q .non (upd H l (.lst (xs ++ [y])))
theorem xb1 : MtM X "list.append" xrs := by
 intro pins s σ H x vs v us Q I rx rv h
 obtain ⟨l, xs, y, rfl, rfl, hH, hz, q⟩ := h
 cases rx
 obtain ⟨u, rfl, ru⟩ := rv.one
 obtain ⟨z, its, n, r, hl, e⟩ := I.lstM hH
 refine call_meets F.slot_list_append ⟨_, e, rfl⟩ F.entry_list_append (F.args_list_append_2 _ _) (PySem.list_append l its.toArray n u (by rw [List.size_toArray]; omega)) ⟨e, ?_⟩
 refine ⟨.non, _, I.lset (its' := its ++ [u]) hH e (by simp) (r.append (.cons ru .nil)) ?_, rfl, q⟩
 rw [List.length_append, List.length_singleton]
 omega
def xth : V -> List V -> Hp -> VK -> Prop := fun x vs H Q => ∃ l xs i k y, x = .ref l /\ vs = [.int i] /\ H l = some (.lst xs) /\ -(2 ^ 63) <= i /\ i < 2 ^ 63 /\ seqIndex? i xs.length = some k /\ xs[k]? = some y /\ Q y (upd H l (.lst (xs.eraseIdx k)))
theorem xp5 : MtM X "list.pop" xth := by
 intro pins s σ H x vs v us Q I rx rv h
 obtain ⟨l, xs, i, k, y, rfl, rfl, hH, h1, h2, hk, hy, q⟩ := h
 cases rx
 obtain ⟨u, rfl, ru⟩ := rv.one
 obtain ⟨t, rfl⟩ := ru
 obtain ⟨z, its, n, r, hl, e⟩ := I.lstM hH
 obtain ⟨w, hw, rw'⟩ := r.get hy
 refine call_meets F.slot_list_pop ⟨_, e, rfl⟩ F.entry_list_pop (F.args_list_pop_2 _ _)
  (MeetsSeq.list_pop_at l its.toArray n i t k w (fitsIndex_both h1 h2) (by rw [List.size_toArray, <- hl]; exact hk) (by rw [<- Array.getElem?_toList]; exact hw) (by rw [List.size_toArray]; omega)) ⟨e, ?_⟩
 refine ⟨y, _, I.lset (its' := its.eraseIdx k) hH e ?_ (r.eraseIdx k) ?_, rw', q⟩
 ·show its.toArray.eraseIdxIfInBounds k = (its.eraseIdx k).toArray
  rw [List.eraseIdxIfInBounds_toArray]
 ·have := xje xs k
  omega
def xpp : V -> List V -> Hp -> VK -> Prop := fun x vs H Q => ∃ l xs, x = .ref l /\ vs = [] /\ H l = some (.lst xs) /\ Q .non (upd H l (.lst xs.reverse))
theorem xgf : MtM X "list.reverse" xpp := by
 intro pins s σ H x vs v us Q I rx rv h
 obtain ⟨l, xs, rfl, rfl, hH, q⟩ := h
 cases rx
 have hus := rv.zero
 subst hus
 obtain ⟨z, its, n, r, hl, e⟩ := I.lstM hH
 refine call_meets F.slot_list_reverse ⟨_, e, rfl⟩ F.entry_list_reverse (F.args_list_reverse_1 _) (AutoSeq1.list_reverse_list_0 l its.toArray n (by rw [List.size_toArray]; omega)) ⟨e, ?_⟩
 refine ⟨.non, _, I.lset (its' := its.reverse) hH e (by simp) r.reverse ?_, rfl, q⟩
 rw [List.length_reverse]
 omega
def rCat : R2 := fun x y H Q => ∃ l b xs zs, x = .ref l /\ y = .ref b /\ H l = some (.lst xs) /\ H b = some (.lst zs) /\ xs.length + zs.length <= sizeLine /\ ∀ p, H p = none -> Q (.ref p) (upd H p (.lst (xs ++ zs)))
theorem xfn : OpR X (binaryOp .Add) rCat := by
 intro pins s σ H x y v u Q I rx ry h
 obtain ⟨l, b, xs, zs, rfl, rfl, hH, hB, hz, q⟩ := h
 cases rx
 cases ry
 obtain ⟨z, its, n, r, hl, e⟩ := I.lstM hH
 obtain ⟨z2, its2, n2, r2, hl2, e2⟩ := I.lstM hB
 refine PySem.P.add_list e e2 ?_ (by rw [List.size_toArray, List.size_toArray]; omega)
 have ea : its.toArray ++ its2.toArray = (its ++ its2).toArray := by simp
 rw [ea]
 exact ⟨.ref _, _, I.lnew (t' := s.toks) (r.append r2) (by rw [List.length_append]; omega), rfl, q _ I.fresh⟩
end
end L2
namespace Att
open PySem PySem.W PySem.Calls PyProof.Rows
theorem xfu {P : Params} {h : Heap} : ∀ (ns : List Int) (vs : List Value), WellAll P h vs (ns.map WData.int) -> IntsAre vs ns := by
 intro ns
 induction ns with
 | nil =>
  intro vs w
  rw [List.map_nil] at w
  cases w
  exact .nil
 | cons n ns ih =>
  intro vs w
  rw [List.map_cons] at w
  cases w with
  | cons a b =>
   cases a
   exact .cons _ _ (ih _ b)
theorem xnk {l : OpenLaw} {n : Nat} (hn : l.most = some n) {P : Params} {h : Heap} {args : List WData} {vals : List Value}
  (hpre : l.row.toRowW.claim.pre args = true) (hwl : WellAll P h vals args) :
  ∃ a vs ns, vals = [Value.ref a] /\ args = [WData.list (ns.map WData.int)] /\ h.get? a = some { cls := .type "list", data := .seq vs.toArray } /\ IntsAre vs ns /\ ns.length <= n := by
 have hsh : WShape.hasAll [] args [.list .int] = true := (pre_splitW hpre).1
 have hc : l.pre.holds [] { args := args } = true := (pre_splitW hpre).2
 obtain ⟨d, r, rfl, h1, h2⟩ := hasAllW_cons hsh
 obtain rfl := hasAllW_nil h2
 obtain ⟨xs, rfl, h3⟩ := hasW_list h1
 obtain ⟨ns, rfl⟩ := items_int h3
 have hlen : ns.length <= n := by
  unfold OpenLaw.pre at hc
  have h4 : (WTm.not (.lt (.lit (.int (n : Int))) (.len (.arg 0)))).holds [] { args := [.list (ns.map .int)] } = true := by
   have h4 := (holds_andW hc).1
   rw [hn] at h4
   exact h4
  have h5 := condW_of h4 (w_not (w_lt w_lit (w_len_list (w_arg rfl))))
  rw [zLM] at h5
  refine Nat.le_of_not_lt fun q => ?_
  have q' : (n : Int) < ((ns.length : Nat) : Int) := by omega
  first
   | (rw [zDT q'] at h5; exact absurd h5 (by decide))
   | (simp at h5; omega)
 cases hwl with
 | cons w1 w2 =>
  cases w2
  cases w1 with
  | list ho hall => exact ⟨_, _, ns, rfl, rfl, ho, xfu ns _ hall, hlen⟩
theorem xnq (l : OpenLaw) (args : List WData) : l.row.toRowW.claim.post args (.bool true) args = true :=
 postW_of (r := l.row.toRowW) (X := (true == true))
  (show WShape.has [] (.bool true) .bool = true by first | rfl | decide | simp [WShape.has, WShape.arms, WShape.armsAll])
  (show (WTm.eq .res (.lit (.bool true))).value [] { args := args, res := some (.bool true), after := args } = some (.bool (true == true)) from w_eq_bool (w_res rfl) w_lit) rfl
theorem attach_call {l : OpenLaw} {n : Nat} {q : Program} {loose : List Str} {XP : (Str -> Option Value) -> Heap -> Prop} {YP : World -> Heap -> Prop} {d : DefRec}
  (hn : l.most = some n) (hdf : d.params.defaults = [])
  (call : ∀ (w : World) (s₀ s₁ : Shared) (mg mb : Str -> Option Value) (fa : Addr) (o : Obj) (pm cd doc : Value) (a : Addr) (vs : List Value) (ns : List Int),
   Ground q loose [] XP w s₀ mg mb s₁.heap -> YP w s₁.heap ->
   s₁.heap.get? fa = some o -> o.data = .func (docDef d.name d.params d.body d.scope pm cd doc) -> s₁.heap.CodeRec cd d.name -> mg d.name = some (.ref fa) ->
   s₁.heap.get? a = some { cls := .type "list", data := .seq vs.toArray } -> IntsAre vs ns -> ns.length <= n -> s₁.gens = #[] ->
   codeAny (model l.prog w) callerA (.call (.ref fa) ⟨[.ref a], []⟩) (fun r s' => r = .ok (.ret (.bool true)) /\ OldK s₁.heap s'.heap /\ s'.os = s₁.os /\ AllBare s'.gens) s₁) :
  WalkO q loose XP YP l.row.toRowW d [] (fun f vs => PySem.call f vs) := by
 intro w s₀ s₁ mg mb G Y fa o pm cd doc dV kV ho hd hcd hD hmg hg args vals as hpre hlay hrd hwl hlo
 obtain rfl : dV = .none := Dflts.none hD hdf
 obtain rfl : kV = .none := Dflts.noKw hD
 obtain ⟨a, vs, ns, rfl, rfl, hobj, hints, hlen⟩ := xnk hn hpre hwl
 refine enter_call (codeAny_mono (call w s₀ s₁ mg mb fa o pm cd doc a vs ns G Y ho (fd_plain hd) hcd hmg hobj hints hlen hg) fun r s' hq => ?_)
 obtain ⟨rfl, h2, h3, h4⟩ := hq
 exact ⟨.inl ⟨.bool true, .bool true, [], rfl, fun _ => rfl, .bool true, xnq l _, fun _ => ⟨List.Pairwise.nil, fun _ hm => (nomatch hm)⟩⟩, h2, h3, h4⟩
end Att
namespace L2
open PySem PySem.Spec PyProof.Rows
theorem xhr : ∀ {vs : List Value} {ns : List Int}, IntsAre vs ns -> Vals (ns.map V.int) vs
 | _, _, .nil => .nil
 | _, _, .cons n t h => .cons ⟨t, rfl⟩ (xhr h)
def Only (H : Hp) : Prop := ∀ b, H b = none \/ ∃ o xs, H b = some (.frz o (.lst xs))
theorem xp7 {P : Program} {w : World} {K : PySem.W.Frag} {mg mb : Str -> Option Value} {CX : CXT} {k : Nat} {fa a : Addr} {fd : FuncData} {x : Str} {sp : Sp} {s₁ : Shared} {vs : List Value} {ns : List Int}
  (KX : K.In s₁.heap) (hns : s₁.heap.Ns mainGlobals mg) (hb : s₁.heap.Ns builtinsNs mb) (hbb : ∀ x : Str, x ≠ "__name__" -> mb x = bootBuiltins x) (hlim : s₁.heap.NoLimit) (hg : s₁.gens = #[])
  (ha : s₁.heap.get? a = some { cls := .type "list", data := .seq vs.toArray }) (hi : IntsAre vs ns) (hl : ns.length <= sizeLine) (hr : Room k callerA)
  (F : ∀ base : Heap, K.In base -> base.Ns mainGlobals mg -> FnOk P w K mg base CX k fa fd [x] sp) (hbind : ∀ (s : Shared) (u : Value), BindsTo s fd ⟨[u], []⟩ [(x, u)])
  (hsp : ∀ H : Hp, Only H -> SqL K H a (ns.map V.int) -> sp [.ref a] H (fun v _ => v = .bl true) fun _ _ _ => False)
  (hCX : ∀ H e s', CX [] H s₁ (fun _ _ _ => False) e s' -> False) :
  codeAny (model P w) callerA (.call (.ref fa) ⟨[.ref a], []⟩) (fun r s' => r = .ok (.ret (.bool true)) /\ OldK s₁.heap s'.heap /\ s'.os = s₁.os /\ AllBare s'.gens) s₁ := by
 have rv := xhr hi
 have lenV := hi.length
 have core : ∀ H : Hp, Only H -> SqL K H a (ns.map V.int) -> HOk P w H s₁.heap -> (∀ b, H b ≠ none -> b = a) -> (H a ≠ none -> K.lookup a = none) ->
   codeAny (model P w) callerA (.call (.ref fa) ⟨[.ref a], []⟩) (fun r s' => r = .ok (.ret (.bool true)) /\ OldK s₁.heap s'.heap /\ s'.os = s₁.os /\ AllBare s'.gens) s₁ := by
  intro H hO hS hok hA hK
  have base_of : ∀ {b : Addr} {o : Obj}, s₁.heap.get? b = some o -> H b = none -> (hidT s₁.heap H).get? b = some o := fun e n => xqc e n
  have noA : ∀ {b : Addr} {o : Obj} {es : Array DictEntry} {ep : Nat}, s₁.heap.get? b = some o -> o.data = .dict es ep -> H b = none := fun {b o es ep} e d => by
   cases q : H b with
   | none => rfl
   | some u =>
    have e' : b = a := hA b (by rw [q]; simp)
    subst e'
    rw [ha] at e; cases e
    have d' : Data.seq vs.toArray _ = Data.dict es ep := d
    cases d'
  have nsK : ∀ {b : Addr} {m : Str -> Option Value}, s₁.heap.Ns b m -> (hidT s₁.heap H).Ns b m := fun {b m} ⟨o, es, ep, e, d, r⟩ => ⟨o, es, ep, base_of e (noA e d), d, r⟩
  have hKb : K.In (hidT s₁.heap H) := fun b o e => base_of (KX b o e) (by
   cases q : H b with
   | none => rfl
   | some u =>
    have e' : b = a := hA b (by rw [q]; simp)
    subst e'
    rw [hK (by rw [q]; simp)] at e; cases e)
  have hM : Mod K mg (hidT s₁.heap H) := ⟨hKb, nsK hns, ⟨mb, nsK hb, hbb⟩, let ⟨mc, h1, h2⟩ := hlim; ⟨mc, nsK h1, h2⟩⟩
  have e0 : Env0 P w K mg (hidT s₁.heap H) callerA [] s₁ H := ⟨rfl, hM, fun b o e => xr4 e, Nat.le_of_eq (xor _ _), trivial, fun b hb => absurd (show b ∈ ([] : List Addr) from hb) (by simp), hok, .of_eq hg⟩
  refine codeAny_mono ((F _ hKb (nsK hns)).run callerA [] s₁ H ⟨[.ref a], []⟩ [.ref a] [.ref a] _ _ hr e0 (hbind s₁ (.ref a)) (.cons rfl .nil) (hsp H hO hS)) fun r s' h => ?_
  cases r with
  | error e => exact (hCX H e s' h).elim
  | ok fl =>
   cases fl with
   | next => exact False.elim h
   | brk => exact False.elim h
   | cont => exact False.elim h
   | ret u =>
    obtain ⟨v, H', os, bare, un, hok', r', q⟩ := h
    have q' : v = .bl true := q
    subst q'
    obtain rfl : u = Value.bool true := r'
    refine ⟨rfl, OldK.of_keep fun b o e => ?_, os, bare⟩
    cases q : H b with
    | none => exact un.keep b o e q (by intro z; exact absurd (show b ∈ ([] : List Addr) from z) (by simp)) (by simp)
    | some u =>
     rcases hO b with z | ⟨ob, xs, z⟩
     ·rw [q] at z; cases z
     ·have z2 := un.frzs b ob _ z
      obtain ⟨e1, _⟩ := hok b _ z
      obtain ⟨e2, _⟩ := hok' b _ z2
      rw [e] at e1; cases e1
      exact e2
 cases hk : K.lookup a with
 | some o =>
  have e := KX a o hk
  rw [ha] at e
  cases e
  refine core (fun _ => none) (fun _ => .inl rfl) (.inr ⟨_, vs.toArray, _, hk, rfl, rfl, rfl, by rw [List.size_toArray, lenV]; exact hl, by simpa using rv⟩) (fun b u z => by have z' : (none : Option HO) = some u := z; cases z') (fun b z => absurd rfl z) fun z => absurd rfl z
 | none =>
  refine core (fun b => if b = a then some (.frz { cls := .type "list", data := .seq vs.toArray } (.lst (ns.map V.int))) else none) (fun b => ?_) (.inl (.inr ⟨{ cls := .type "list", data := .seq vs.toArray }, if_pos rfl⟩)) (fun b u z => ?_) (fun b z => ?_) fun _ => hk
  ·by_cases hb : b = a
   ·exact .inr ⟨_, _, if_pos hb⟩
   ·exact .inl (if_neg hb)
  ·by_cases hb : b = a
   ·have z' := (if_pos hb).symm.trans z
    cases z'
    subst hb
    exact ⟨ha, by rw [zLM]; exact hl, vs, _, rv, ha⟩
   ·have z' := (if_neg hb).symm.trans z
    cases z'
  ·by_cases hb : b = a
   ·exact hb
   ·exact absurd (if_neg hb) z
end L2
namespace L2
open PySem PySem.Spec PyProof.Rows
abbrev KOf {K : PySem.W.Frag} {h : Heap} (_ : K.In h) : PySem.W.Frag := K
theorem walk_of {l : PySem.W.OpenLaw} {n k : Nat} {q : Program} {loose : List Str} {XP : (Str -> Option Value) -> Heap -> Prop} {YP : World -> Heap -> Prop} {d : DefRec} {K : Params -> PySem.W.Frag} {CX : World -> CXT} {sp : World -> Sp} {x : Str}
  (hn : l.most = some n) (hn2 : n <= sizeLine) (hdf : d.params.defaults = []) (hr : Room k callerA)
  (hY : ∀ (w : World) (h : Heap), YP w h -> (K w.params).In h)
  (F : ∀ (w : World) (mg : Str -> Option Value) (fa : Addr) (h : Heap), (K w.params).In h -> h.Ns mainGlobals mg -> mg d.name = some (.ref fa) ->
   ∃ fd : FuncData, (∀ (s : Shared) (u : Value), BindsTo s fd ⟨[u], []⟩ [(x, u)]) ∧
    ∀ base : Heap, (K w.params).In base -> base.Ns mainGlobals mg -> FnOk l.prog w (K w.params) mg base (CX w) k fa fd [x] (sp w))
  (hsp : ∀ (w : World) (H : Hp) (a : Addr) (ns : List Int), ns.length <= n -> Only H -> SqL (K w.params) H a (ns.map V.int) -> sp w [.ref a] H (fun v _ => v = .bl true) fun _ _ _ => False)
  (hCX : ∀ (w : World) (H : Hp) (s : Shared) (e : Value) (s' : Shared), CX w [] H s (fun _ _ _ => False) e s' -> False) :
  PySem.W.WalkO q loose XP YP l.row.toRowW d [] (fun f vs => PySem.call f vs) := by
 refine Att.attach_call hn hdf fun w s₀ s₁ mg mb fa o pm cd doc a vs ns G Y ho hd hcd hmg hobj hints hlen hg => ?_
 have KX := hY w _ Y
 obtain ⟨fd, hb, hF⟩ := F w mg fa _ KX G.T.g hmg
 exact xp7 KX G.T.g G.T.b G.T.builtins G.T.nolimit hg hobj hints (Nat.le_trans hlen hn2) hr hF hb (fun H hO hS => hsp w H a ns hlen hO hS) fun H e s' => hCX w H s₁ e s'
end L2
namespace L2
open PySem PySem.Spec PyProof.Rows
def xfx (s : Stmt) : Arguments := match s with
 | .FunctionDef _ a _ _ _ _ _ _ _ _ => a
 | _ => { posonlyargs := [], args := [], vararg := none, kwonlyargs := [], kw_defaults := [], kwarg := none, defaults := [] }
def xdt (s : Stmt) : List Stmt := match s with
 | .FunctionDef _ _ b _ _ _ _ _ _ _ => b
 | _ => []
def xac (s : Stmt) : Scope := match s with
 | .FunctionDef _ _ _ _ _ _ sc _ _ _ => sc
 | _ => { kind := .function, names := [], isGenerator := false, isCoroutine := false }
abbrev CX0 : CXT := fun _ _ _ _ _ _ => False
abbrev E0 : XK := fun _ _ _ => False
theorem pass0 {X : Cx} : xpe CX0 X E0 := fun _ _ _ _ _ _ _ h => h.elim
structure Fun (K : PySem.W.Frag) (x qual : Str) (st : Stmt) (f : Addr) (fd : FuncData) : Prop where
 ex : ∃ (oc : Value) (od : Option Addr) (kV doc pm : Value) (an : Option Addr) (cdv ct : Value) (osl : Array (Option Value)),
  fd = PySem.W.fnOf x qual (xfx st) (xdt st) (xac st) .none kV doc pm an cdv ct /\ K.lookup f = some ⟨oc, od, .func fd, osl⟩ /\ PySem.W.codeIn K cdv qual = true
 kp : PySem.W.keepIn K (.ref f) = true
section
variable {P : Program} {w : World} {K : PySem.W.Frag} {mg : Str -> Option Value} {base : Heap}
theorem Fun.ok {x qual : Str} {st : Stmt} {f : Addr} {fd : FuncData} {N ps : List Str} {k : Nat} {sp : Sp} (F : Fun K x qual st f fd) (S : FnScope N ps (xac st)) (len : ∀ vs H Q E, sp vs H Q E -> vs.length = ps.length)
  (hbody : ∀ (cdv : Value) (A : Around) (outer : List Env) (s : Shared) (H : Hp) (vs : List V) (Q : VK) (E : XK), Room k (A.deeper (envOfC qual (xac st) s.heap.objs.size f cdv)) -> sp vs H Q E ->
   ∃ t, PSs (cxOf CX0 P w K mg base N qual (xac st) f cdv A outer s H E).nox (xdt st) t /\ t { nx := fun _ H' => Q .non H', rt := Q } (xfb N vs) H) : FnOk P w K mg base CX0 (k + 1) f fd ps sp := by
 obtain ⟨oc, od, kV, doc, pm, an, cdv, ct, osl, rfl, lk, hcd⟩ := F.ex
 refine fn_of lk hcd S len fun A outer s H vs Q E hr hsp => ?_
 obtain ⟨t, h, q⟩ := hbody cdv A outer s H vs Q E hr hsp
 exact ⟨t, h.nox, q⟩
theorem fun_mk {x qual : Str} {st : Stmt} {f : Addr} {oc : Value} {od an : Option Addr} {osl : Array (Option Value)} {kV doc pm cdv ct : Value} (l : K.lookup f = some ⟨oc, od, .func (PySem.W.fnOf x qual (xfx st) (xdt st) (xac st) .none kV doc pm an cdv ct), osl⟩)
  (c : PySem.W.codeIn K cdv qual = true) (k : PySem.W.keepIn K (.ref f) = true) : Fun K x qual st f (PySem.W.fnOf x qual (xfx st) (xdt st) (xac st) .none kV doc pm an cdv ct) := ⟨⟨oc, od, kV, doc, pm, an, cdv, ct, osl, rfl, l, c⟩, k⟩
end
theorem xc2 {A : Around} {k : Nat} (hr : Room k A) : A.units + 1 < cLine := Nat.lt_of_le_of_lt (Nat.add_le_add_left (by decide : 1 <= 64) _) hr.units
section
variable {X : Cx}
theorem pv (i : Nat) {x : Str} {pos : Pos} (hN : X.N[i]? = some x := by rfl) (hv : Vis X.env.scope x := by first | exact Or.inl rfl | exact Or.inr (Or.inl rfl) | exact Or.inr (Or.inr rfl)) (hd : (x == ("__debug__" : Str)) = false := by decide)
  (hcd : (x == ("__classdict__" : Str)) = false := by decide) : PE X (.Name x pos) (tVar i) := xtm hN hv hd hcd
end
theorem iteF {A B : Prop} (h : B) : if false = true then A else B := by
 rw [if_neg Bool.false_ne_true]
 exact h
theorem iteT {A B : Prop} (h : A) : if true = true then A else B := by
 rw [if_pos rfl]
 exact h
theorem ite2 {c A B : Prop} [Decidable c] (h1 : c -> A) (h2 : ¬ c -> B) : if c then A else B := by
 by_cases h : c
 ·rw [if_pos h]
  exact h1 h
 ·rw [if_neg h]
  exact h2 h
theorem xkn {c A B : Prop} [Decidable c] (hc : c) (h : B) : if (!decide c) = true then A else B := by
 rw [zDT hc]
 exact iteF h
def Same (H H' : Hp) : Prop := ∀ b o, H b = some o -> H' b = some o
theorem Same.refl (H : Hp) : Same H H := fun _ _ h => h
theorem Same.trans {H H1 H2 : Hp} (a : Same H H1) (b : Same H1 H2) : Same H H2 := fun c o h => b c o (a c o h)
theorem Same.seq {K : PySem.W.Frag} {H H' : Hp} {a : Addr} {xs : List V} (e : Same H H') (h : SqL K H a xs) : SqL K H' a xs := by
 rcases h with (h | ⟨o, h⟩) | h
 ·exact .inl (.inl (e _ _ h))
 ·exact .inl (.inr ⟨o, e _ _ h⟩)
 ·exact .inr h
end L2
section
namespace L2
open PySem PySem.Spec PyProof.Rows
def clOf (env : Env) : List (Str × NameKind) -> List (Str × Addr) -> List (Str × Addr)
 | [], cs => cs
 | (n, k) :: r, cs => clOf env r (if k == .free then match env.cells.lookup n with | some a => (n, a) :: cs | none => cs else cs)
theorem xjq {env : Env} {x : Str} {c : Addr} : ∀ {ns : List (Str × NameKind)} {cs : List (Str × Addr)}, (∀ p ∈ cs, env.cells.lookup p.1 = some p.2) -> (clOf env ns cs).lookup x = some c -> env.cells.lookup x = some c
 | [], cs, h, e => by
  unfold clOf at e
  exact h (x, c) (PySem.mem_of_lookup e)
 | (n, k) :: r, cs, h, e => by
  unfold clOf at e
  refine xjq (ns := r) ?_ e
  intro p hp
  split at hp
  ·split at hp
   ·rename_i a ea
    rcases List.mem_cons.mp hp with rfl | hp
    ·exact ea
    ·exact h p hp
   ·exact h p hp
  ·exact h p hp
theorem xdn {x : Str} : ∀ {cs : List (Str × Addr)}, (∃ c, (x, c) ∈ cs) -> ∃ c, cs.lookup x = some c
 | [], ⟨_, h⟩ => nomatch h
 | (n, a) :: r, ⟨c, h⟩ => by
  rw [List.lookup_cons]
  cases e : x == n with
  | true => exact ⟨a, rfl⟩
  | false =>
   rcases List.mem_cons.mp h with h | h
   ·cases h
    rw [beq_self_eq_true] at e; cases e
   ·exact xdn ⟨c, h⟩
theorem xlv {env : Env} {x : Str} : ∀ {ns : List (Str × NameKind)} {cs : List (Str × Addr)}, ((∃ c, (x, c) ∈ cs) \/ ((x, NameKind.free) ∈ ns /\ ∃ c, env.cells.lookup x = some c)) -> ∃ c, (x, c) ∈ clOf env ns cs
 | [], cs, h => by
  unfold clOf
  rcases h with h | ⟨h, _⟩
  ·exact h
  ·cases h
 | (n, k) :: r, cs, h => by
  unfold clOf
  refine xlv (ns := r) ?_
  rcases h with ⟨c, h⟩ | ⟨h, c, hc⟩
  ·refine .inl ⟨c, ?_⟩
   split
   ·split
    ·exact List.mem_cons_of_mem _ h
    ·exact h
   ·exact h
  ·rcases List.mem_cons.mp h with h | h
   ·cases h
    refine .inl ⟨c, ?_⟩
    rw [if_pos (by decide), hc]
    exact List.mem_cons_self
   ·exact .inr ⟨h, c, hc⟩
theorem xd5 {sc : Scope} {env : Env} (h : ∀ p ∈ sc.names, p.2 = NameKind.free -> ∃ c, env.cells.lookup p.1 = some c) : closureFor sc env = pure (clOf env sc.names []) := by
 have go : ∀ (ns : List (Str × NameKind)) (cs : List (Str × Addr)), (∀ p ∈ ns, p.2 = NameKind.free -> ∃ c, env.cells.lookup p.1 = some c) ->
   (forIn ns cs fun (x : Str × NameKind) (r : List (Str × Addr)) => (if (x.2 == NameKind.free) = true then do
     let y <- cellOf env x.1
     pure (ForInStep.yield ((x.1, y) :: r)) else pure (ForInStep.yield r) : Sem (ForInStep (List (Str × Addr))))) = (pure (clOf env ns cs) : Sem (List (Str × Addr))) := by
  intro ns
  induction ns with
  | nil => intro cs _; rfl
  | cons p r ih =>
   intro cs hp
   obtain ⟨n, k⟩ := p
   rw [List.forIn_cons]
   unfold clOf
   by_cases hk : k = NameKind.free
   ·subst hk
    obtain ⟨c, hc⟩ := hp (n, .free) List.mem_cons_self rfl
    have e1 : cellOf env n = pure c := by unfold cellOf; rw [hc]
    simp only [beq_self_eq_true, if_true, e1, hc, pure_bind]
    exact ih _ fun q hq => hp q (List.mem_cons_of_mem _ hq)
   ·have hb : (k == NameKind.free) = false := by simpa using hk
    simp only [hb, Bool.false_eq_true, if_false, pure_bind]
    exact ih _ fun q hq => hp q (List.mem_cons_of_mem _ hq)
 unfold closureFor
 have := go sc.names [] h
 simp only [bind_pure_comp, id_map'] at this ⊢
 rw [this]
 rfl
end L2
end
section
namespace L2
open PySem PySem.Spec PyProof.Rows
theorem xb6 {env : Env} {x : Str} {k' : NameKind} : ∀ {ns : List (Str × NameKind)},
  (ns.map fun (n, k) => if (k == NameKind.free && env.scope.kind == .function && env.kindOf n == some .cell) then (n, NameKind.cell) else (n, k)).lookup x = some k' ->
  ∃ k, ns.lookup x = some k /\ (k' = k \/ (k = .free /\ k' = .cell))
 | [], h => by simp at h
 | (n, k) :: r, h => by
  have h' : List.lookup x ((if (k == NameKind.free && env.scope.kind == .function && env.kindOf n == some .cell) = true then (n, NameKind.cell) else (n, k)) :: (r.map fun (n, k) => if (k == NameKind.free && env.scope.kind == .function && env.kindOf n == some .cell) then (n, NameKind.cell) else (n, k))) = some k' := h
  rw [List.lookup_cons]
  by_cases hc : (k == NameKind.free && env.scope.kind == .function && env.kindOf n == some .cell) = true
  ·rw [if_pos hc, List.lookup_cons] at h'
   cases e : x == n with
   | true =>
    rw [e] at h'
    cases h'
    refine ⟨k, rfl, .inr ⟨?_, rfl⟩⟩
    rw [Bool.and_eq_true, Bool.and_eq_true] at hc
    exact eq_of_beq hc.1.1
   | false =>
    rw [e] at h'
    exact xb6 h'
  ·rw [if_neg hc, List.lookup_cons] at h'
   cases e : x == n with
   | true =>
    rw [e] at h'
    cases h'
    exact ⟨_, rfl, .inl rfl⟩
   | false =>
    rw [e] at h'
    exact xb6 h'
theorem xdp {env : Env} {x : Str} {k : NameKind} : ∀ {ns : List (Str × NameKind)}, ns.lookup x = some k ->
  ∃ k', (ns.map fun (n, k) => if (k == NameKind.free && env.scope.kind == .function && env.kindOf n == some .cell) then (n, NameKind.cell) else (n, k)).lookup x = some k' /\ (k' = k \/ (k = .free /\ k' = .cell))
 | [], h => by simp at h
 | (n, k0) :: r, h => by
  show ∃ k', List.lookup x ((if (k0 == NameKind.free && env.scope.kind == .function && env.kindOf n == some .cell) = true then (n, NameKind.cell) else (n, k0)) :: (r.map fun (n, k) => if (k == NameKind.free && env.scope.kind == .function && env.kindOf n == some .cell) then (n, NameKind.cell) else (n, k))) = some k' /\ _
  rw [List.lookup_cons] at h
  by_cases hc : (k0 == NameKind.free && env.scope.kind == .function && env.kindOf n == some .cell) = true
  ·rw [if_pos hc, List.lookup_cons]
   cases e : x == n with
   | true =>
    rw [e] at h
    cases h
    refine ⟨_, rfl, .inr ⟨?_, rfl⟩⟩
    rw [Bool.and_eq_true, Bool.and_eq_true] at hc
    exact eq_of_beq hc.1.1
   | false =>
    rw [e] at h
    exact xdp h
  ·rw [if_neg hc, List.lookup_cons]
   cases e : x == n with
   | true =>
    rw [e] at h
    cases h
    exact ⟨_, rfl, .inl rfl⟩
   | false =>
    rw [e] at h
    exact xdp h
abbrev Cap := List (Option Nat)
def capt (ix : Cap) (σ : St) : St := ix.map fun o => (o.bind fun j => σ[j]?).join
def xqk (N N' : List Str) (sc sc' : Scope) (ix : Cap) : Bool :=
 (ix.length == N'.length) && (sc'.kind == .function) &&
 (sc'.names.all fun p => p.2 != .cell && (p.2 != .local || sc'.names.lookup p.1 == some .local) && (p.2 != .free || (sc.names.lookup p.1 == some .cell || sc.names.lookup p.1 == some .free))) &&
 (List.range ix.length).all fun k => match ix[k]? with
  | some (some j) => match N'[k]? with
   | some x => N[j]? == some x && sc'.names.lookup x == some .free
   | none => false
  | _ => true
structure CapOk (N N' : List Str) (sc sc' : Scope) (ix : Cap) : Prop where
 len : ix.length = N'.length
 kind : sc'.kind = .function
 nocell : ∀ p ∈ sc'.names, p.2 ≠ .cell
 loc : ∀ p ∈ sc'.names, p.2 = .local -> sc'.names.lookup p.1 = some .local
 fre : ∀ p ∈ sc'.names, p.2 = .free -> sc.names.lookup p.1 = some .cell \/ sc.names.lookup p.1 = some .free
 cap : ∀ (k j : Nat), ix[k]? = some (some j) -> ∃ x, N'[k]? = some x /\ N[j]? = some x /\ sc'.names.lookup x = some .free
theorem xlx {N N' : List Str} {sc sc' : Scope} {ix : Cap} (h : xqk N N' sc sc' ix = true) : CapOk N N' sc sc' ix := by
 unfold xqk at h
 simp only [Bool.and_eq_true, List.all_eq_true, beq_iff_eq] at h
 obtain ⟨⟨⟨h1, h2⟩, h3⟩, h4⟩ := h
 refine ⟨h1, h2, fun p hp => ?_, fun p hp hl => ?_, fun p hp hf => ?_, fun k j hk => ?_⟩
 ·have := (h3 p hp).1.1
  simpa using this
 ·have := (h3 p hp).1.2
  rw [hl] at this
  simpa using this
 ·have := (h3 p hp).2
  rw [hf] at this
  simpa using this
 ·have hlt : k < ix.length := (zES hk).1
  have := h4 k (List.mem_range.mpr hlt)
  rw [hk] at this
  simp only at this
  cases e : N'[k]? with
  | none => rw [e] at this; simp at this
  | some x =>
   rw [e] at this
   simp only [Bool.and_eq_true, beq_iff_eq] at this
   exact ⟨x, rfl, this.1, this.2⟩
abbrev Cx.comp (X : Cx) (sc : Scope) (N' : List Str) (C : Addr) (s₀ : Shared) (H₀ : Hp) (ex : List Addr) : Cx :=
 { X with N := N', s₀ := s₀, H₀ := H₀, env := compEnvC sc (clOf X.env sc.names []) C X.env, outer := X.stack, stack := X.stack, ex := ex, fn := fun _ => false, pn := [], xe := fun _ _ => False }
def Ext (σ σ' : St) : Prop := σ.length = σ'.length /\ ∀ (i : Nat) v, σ[i]? = some (some v) -> σ'[i]? = some (some v)
theorem xds {σ : St} {i : Nat} {v : Option V} (h : σ[i]? = some none) : Ext σ (σ.set i v) := by
 refine ⟨by simp, fun j w e => ?_⟩
 by_cases hj : i = j
 ·subst hj; rw [h] at e; cases e
 ·rw [List.getElem?_set_ne hj]; exact e
def PTs (X : Cx) (ifs : List Expr) (t : TT) : Prop :=
 ∀ (pins : List (Addr × Obj)) (s : Shared) (σ : St) (H : Hp) (Q : Bool -> Hp -> Prop), Inv X pins σ H s -> t σ H Q ->
  wpAny (model X.prog X.w) X.A (forIn ifs true fun c r => if r = true then do let ok <- isTrue c X.env (eval c X.env); pure (ForInStep.yield ok) else pure (ForInStep.yield r)) (TP X pins σ Q) X.xe s
def tYes : TT := fun _ H Q => Q true H
theorem xa8 {X : Cx} : PTs X [] tYes := fun _ _ _ H _ I h => wpAny_tests_nil ⟨H, I, h⟩
theorem xcd {X : Cx} {c : Expr} {t : TT} (h : PT X c t) : PTs X [c] t := fun pins s σ H Q I hw => wpAny_tests_one (h pins s σ H Q I hw)
def xet (J : It) (ix : Cap) (g : TG) (tt : TT) (te : TE) (σ : St) (H1 : Hp) (Q : VK) : Prop := ∃ W : Nat -> Nat -> List V -> Hp -> Prop, (∃ m, W 0 m [] H1) /\ ∀ i m ys H, W i m ys H ->
 (J.stop i H /\ ∀ D, H D = none -> Q (.ref D) (upd H D (.lst ys))) ∨
 (J.go i H /\ ys.length < sizeLine /\ ∀ x H', J.yld i H x H' -> g x (capt ix σ) H' fun σ2 H2 => Ext (capt ix σ) σ2 /\ tt σ2 H2 fun b H3 =>
  if b = true then te σ2 H3 fun y H4 => ∃ m', m' < m /\ W (i + 1) m' (ys ++ [y]) H4 else ∃ m', m' < m /\ W (i + 1) m' ys H3)
def xs3 (ix : Cap) (wi : TI) (g : TG) (tt : TT) (te : TE) : TE := fun σ H Q => wi σ H fun J H1 => xet J ix g tt te σ H1 Q
theorem HOk.track {P : Program} {w : World} {H : Hp} {h : Heap} {a : Addr} {o : HO} (x : HOk P w H h) (hn : H a = none) (new : ObjOk P w (upd H a o) h a o) : HOk P w (upd H a o) h := fun b u e => by
 by_cases hb : b = a
 ·subst hb; rw [ups] at e; cases e; exact new
 ·rw [xaw hb] at e
  exact (x b u e).stay (fun c v _ q => q) (fun c q => by rw [xaw (neN q hn)]; exact q) fun c xs q => by rw [xaw (neN q hn)]; exact q
theorem xdk {prog : Program} {w : World} {A : Around} {R : Result -> Shared -> Prop} {s : Shared} {elt target iter : Expr} {ifs : List Expr} {scope : Scope} {pos : Pos} {it acc : Value} {env : Env} (I : Nat -> Shared -> Prop)
  (turn : ∀ n s, I n s -> wpAny (model prog w) A (pyNext it) (fun r s₁ => match r with
   | none => R (.ok .next) s₁
   | some v => wpAny (model prog w) A (letOwnedTupleGo target it v) (fun _ s₁' => wpAny (model prog w) A (assign target env v) (fun _ s₂ =>
     wpAny (model prog w) A (forIn ifs true fun c r => if r = true then do let ok <- isTrue c env (eval c env); pure (ForInStep.yield ok) else pure (ForInStep.yield r)) (fun ok s₃ =>
      if ok = true then wpAny (model prog w) A (eval elt env) (fun x s₄ =>
       wpAny (model prog w) A (call (.builtin "list.append") [acc, x]) (fun _ s₅ => ∃ m, m < n /\ I m s₅) (notedBy (model prog w) A env fun e s' => R (.error e) s') s₄) (notedBy (model prog w) A env fun e s' => R (.error e) s') s₃
      else ∃ m, m < n /\ I m s₃) (notedBy (model prog w) A env fun e s' => R (.error e) s') s₂) (notedBy (model prog w) A env fun e s' => R (.error e) s') s₁') (notedBy (model prog w) A env fun e s' => R (.error e) s') s₁) (notedBy (model prog w) A env fun e s' => R (.error e) s') s)
  (n : Nat) (h : I n s) :
  codeAny (model prog w) A (.compLoop (.ListComp elt [⟨target, iter, ifs, 0⟩] scope pos) 0 it acc env) R s := by
 refine codeAny_loop rfl I (fun n s hI => ?_) n h
 show wpAny _ A ((compTurn (.ListComp elt [⟨target, iter, ifs, 0⟩] scope pos) 0 it acc env).onRaise (fun x => do noteFrame x env; theTreesLotGoes x)) _ _ s
 refine wpAny_noted ?_
 rw [compTurn_list]
 refine wpAny_bind (wpAny_standAt (wpAny_bind (wpAny_mono (turn n s hI) (fun r s₁ h₁ => ?_) fun _ _ h' => h')))
 cases r with
 | none => exact wpAny_pure h₁
 | some v =>
  refine wpAny_bind (wpAny_mono h₁ (fun _ s₁' h₁' => ?_) fun _ _ h' => h')
  refine wpAny_bind (wpAny_mono h₁' (fun _ s₂ h₂ => wpAny_bind (wpAny_mono h₂ (fun ok s₃ h₃ => ?_) fun _ _ h' => h')) fun _ _ h' => h')
  cases ok with
  | false => exact wpAny_pure ⟨rfl, h₃⟩
  | true =>
   exact wpAny_bind (wpAny_bind (wpAny_mono h₃ (fun x s₄ h₄ => wpAny_bind (wpAny_mono h₄ (fun _ s₅ h₅ => wpAny_pure (wpAny_pure ⟨rfl, h₅⟩)) fun _ _ h' => h')) fun _ _ h' => h'))
section
variable {X : Cx}
theorem xge {M : Model} {A : Around} {α : Type} {t : Sem α} {Q : α -> Shared -> Prop} {E : Value -> Shared -> Prop} {s : Shared} (h : wpAny M A t Q (fun _ _ => False) s) : wpAny M A t Q E s := wpAny_mono h (fun _ _ q => q) fun _ _ z => z.elim
theorem xgk {elt tg iter : Expr} {ifs : List Expr} {sc : Scope} {pos : Pos} {N' : List Str} {ix : Cap} {g : TG} {tt : TT} {te : TE} {pins : List (Addr × Obj)} {σ : St} {s : Shared} {Q : VK} {RR : Value -> Addr -> Result -> Shared -> Prop} {E : Value -> Shared -> Prop}
  {itv : Value} (hc : X.calm = true) (ok : CapOk X.N N' X.env.scope sc ix)
  (hg : ∀ C s₀ H₀ ex, PG (X.comp sc N' C s₀ H₀ ex) tg g) (ht : ∀ C s₀ H₀ ex, PTs (X.comp sc N' C s₀ H₀ ex) ifs tt) (he : ∀ C s₀ H₀ ex, PE (X.comp sc N' C s₀ H₀ ex) elt te)
  (hi : PIE X pins σ tg (fun J H1 => xet J ix g tt te σ H1 Q) itv s)
  (fin : ∀ (D C : Addr) (s' : Shared) (H' : Hp) (m : Str -> Option Value), Inv X pins σ H' s' -> Q (.ref D) H' -> s'.heap.Ns C m -> H' C = none -> C ≠ X.env.locals -> X.s₀.heap.objs.size <= C -> (∀ x c, X.env.cells.lookup x = some c -> c ≠ C) -> (∀ p ∈ X.pn ++ pins, p.1 ≠ C) ->
   RR (.ref D) C (.ok .next) s') :
  wpAny (model X.prog X.w) X.A (newList []) (fun acc s₃ => wpAny (model X.prog X.w) X.A (newFunctionEnv sc X.env.globals (clOf X.env sc.names []) [] X.env.qual none .none (some X.env)) (fun cenv s₄ =>
   codeAny (model X.prog X.w) X.A (.compStart (.ListComp elt [⟨tg, iter, ifs, 0⟩] sc pos) 0 itv acc { cenv with scope := relabel sc X.env }) (RR acc cenv.locals) s₄) E s₃) E s := by
 obtain ⟨it, fp, tn, J, H2, rfl, I2, T, st2, f2, W, ⟨m0, w0⟩, turn⟩ := hi
 refine wpAny_newObj_type (wpAny_newFunctionEnv ok.nocell (by intro y hy; simp at hy) (fun h₁ hns₁ hsb₁ => ?_) ok.kind)
 dsimp only at hns₁ hsb₁ ⊢
 generalize hHD : s.heap.push { cls := .type "list", dict := none, data := .seq ([] : List Value).toArray } = hD at hns₁ hsb₁ ⊢
 have hCs : hD.objs.size = s.heap.objs.size + 1 := by rw [<- hHD, Heap.size_push]
 have upC : s.heap.objs.size < hD.objs.size := by rw [hCs]; exact Nat.lt_succ_self _
 have hDC : s.heap.objs.size ≠ hD.objs.size := by rw [hCs]; exact Nat.ne_of_lt (Nat.lt_succ_self _)
 have below : ∀ b o, s.heap.get? b = some o -> b ≠ hD.objs.size /\ b ≠ s.heap.objs.size := fun b o e => by
  have := Heap.lt_size e
  exact ⟨Nat.ne_of_lt (by rw [hCs]; exact Nat.lt_succ_of_lt this), Nat.ne_of_lt this⟩
 have old : ∀ b o, s.heap.get? b = some o -> h₁.get? b = some o := fun b o e => hsb₁.extBut b o (below b o e).1 (Heap.get?_push_of_some _ (hHD ▸ Heap.get?_push_of_some _ e))
 have hacc : h₁.get? s.heap.objs.size = some { cls := .type "list", data := .seq ([] : List Value).toArray 0 } := hsb₁.extBut _ _ hDC (Heap.get?_push_of_some _ (hHD ▸ Heap.get?_push_size _ rfl))
 have fpo : ∀ b ∈ fp, b < s.heap.objs.size := fun b hb => let ⟨o, e, _⟩ := T.obj _ _ st2 b hb; Heap.lt_size e
 have cellX : ∀ x c, (clOf X.env sc.names []).lookup x = some c -> X.env.cells.lookup x = some c := fun x c e => xjq (fun p hp => absurd hp (by simp)) e
 have cellLt : ∀ x c, X.env.cells.lookup x = some c -> c < s.heap.objs.size := fun x c e => let ⟨v, z⟩ := I2.cell x c e; z.lt
 have hasC : ∀ x, (x, NameKind.free) ∈ sc.names -> ∃ c, (clOf X.env sc.names []).lookup x = some c := fun x hx => by
  have h1 := I2.ok.has x (ok.fre (x, .free) hx rfl)
  exact xdn (xlv (.inr ⟨hx, h1⟩))
 have okX : (X.comp sc N' hD.objs.size s H2 fp).Ok := by
  refine ⟨I2.ok.mod, ok.kind, I2.ok.glob, I2.ok.blt, ?_, ?_, ?_, ?_, I2.ok.hd, I2.ok.frames, .inl rfl, ?_, I2.bs, Nat.le_trans I2.ok.bsz I2.sz, ?_, ?_, I2.stack, I2.stkFree⟩
  ·exact Nat.le_of_lt upC
  ·intro x y c h1 h2
   exact I2.ok.inj x y c (cellX x c h1) (cellX y c h2)
  ·intro x hx
   have hx' : (relabel sc X.env).names.lookup x = some .cell \/ (relabel sc X.env).names.lookup x = some .free := hx
   have : ∃ k, sc.names.lookup x = some k /\ (k = .free \/ k = .cell) := by
    rcases hx' with h | h
    ·obtain ⟨k, e, z⟩ := xb6 h
     rcases z with z | ⟨z, _⟩
     ·exact ⟨k, e, .inr z.symm⟩
     ·exact ⟨k, e, .inl z⟩
    ·obtain ⟨k, e, z⟩ := xb6 h
     rcases z with z | ⟨_, z⟩
     ·exact ⟨k, e, .inl z.symm⟩
     ·cases z
   obtain ⟨k, e, z⟩ := this
   rcases z with rfl | rfl
   ·exact hasC x (PySem.mem_of_lookup e)
   ·exact absurd rfl (ok.nocell _ (PySem.mem_of_lookup e))
  ·intro x c h _
   cases h
  ·intro b hb
   refine ⟨?_, fun x c e => (f2 b hb).2.2.2.2.1 x c (cellX x c e)⟩
   exact Nat.ne_of_lt (by rw [hCs]; exact Nat.lt_succ_of_lt (fpo b hb))
  ·intro b o e hb
   rcases (f2 b hb).2.2.2.1 with z | z
   ·exact I2.ok.noex b o e z
   ·exact absurd (Nat.lt_of_lt_of_le (Heap.lt_size (I2.ok.bs b o e).1) z) (Nat.lt_irrefl _)
  ·intro b hb z
   rcases List.mem_cons.mp (I2.stkSub b z) with z | z
   ·exact (f2 b hb).2.1 z
   ·exact (f2 b hb).2.2.1 z
 have hnD : H2 s.heap.objs.size = none := I2.hok.fresh (Nat.le_refl _)
 have hnC : H2 hD.objs.size = none := I2.hok.fresh (Nat.le_of_lt upC)
 have nofsD : ∀ a, s.heap.objs.size <= a -> a ∉ frs X.stack := fun a ha z => by
  rcases List.mem_cons.mp (I2.stkSub a z) with z | z
  ·exact absurd (Nat.lt_of_lt_of_le I2.lt ha) (by rw [z]; exact Nat.lt_irrefl _)
  ·exact I2.nofs ha z
 have xfb : Inv (X.comp sc N' hD.objs.size s H2 fp) [(s.heap.objs.size, { cls := .type "list", data := .seq ([] : List Value).toArray 0 })] (capt ix σ) H2 { s with heap := h₁, toks := s.toks + ([] : List (Str × Value)).length } := by
  refine ⟨okX, rfl, I2.bare, Un.kept old, ⟨_, hns₁, ?_⟩, fun x c e => ?_, hnC, fun x c e => I2.freeC x c (cellX x c e), fun p hp => ?_, I2.hok.kept old, ?_⟩
  ·intro i x v hN hv hvis
   have hl : i < ix.length := by rw [ok.len]; exact (zES hN).1
   have hv' : (ix.map fun o => (o.bind fun j => σ[j]?).join)[i]? = some (some v) := hv
   rw [zGM, zGA hl] at hv'
   have hv'' : ((ix[i].bind fun j => σ[j]?).join) = some v := Option.some.inj hv'
   cases ej : ix[i] with
   | none => rw [ej] at hv''; cases hv''
   | some j =>
    rw [ej] at hv''
    have hσ : σ[j]? = some (some v) := by
     have z : (σ[j]?).join = some v := hv''
     cases q : σ[j]? with
     | none => rw [q] at z; cases z
     | some o => rw [q] at z; exact congrArg some z
    obtain ⟨x', e1, e2, e3⟩ := ok.cap i j (by rw [zGA hl, ej])
    rw [show N'[i]? = some x from hN] at e1
    cases e1
    have hk := ok.fre (x, .free) (PySem.mem_of_lookup e3) rfl
    obtain ⟨m, hm, hl'⟩ := I2.loc
    obtain ⟨u, ru, lk⟩ := hl' j x v e2 hσ (hk.elim (fun z => .inr (.inl z)) fun z => .inr (.inr z))
    refine ⟨u, ru, .inr ⟨?_, ?_⟩⟩
    ·show (relabel sc X.env).names.lookup x = some .cell \/ (relabel sc X.env).names.lookup x = some .free
     obtain ⟨k', q1, q2⟩ := xdp (env := X.env) e3
     rcases q2 with q2 | ⟨_, q2⟩
     ·exact .inr (q1.trans (congrArg some q2))
     ·exact .inl (q1.trans (congrArg some q2))
    ·obtain ⟨c, hc'⟩ := hasC x (PySem.mem_of_lookup e3)
     refine ⟨c, hc', ?_⟩
     rcases lk with ⟨z, _⟩ | ⟨_, c', ec, ⟨o, ho, hd⟩⟩
     ·have z' : X.env.scope.names.lookup x = some .local := z
      rcases hk with hk | hk
      ·rw [z'] at hk; cases hk
      ·rw [z'] at hk; cases hk
     ·rw [cellX x c hc'] at ec
      cases ec
      exact ⟨o, old _ _ ho, hd⟩
  ·obtain ⟨v, o, ho, hd⟩ := I2.cell x c (cellX x c e)
   exact ⟨v, o, old _ _ ho, hd⟩
  ·have e : p = (s.heap.objs.size, { cls := .type "list", data := .seq ([] : List Value).toArray 0 }) := by simpa using hp
   subst e
   exact ⟨hacc, hnD, hDC, nofsD _ (Nat.le_refl _), fun v z => by cases z⟩
  ·show (ix.map _).length = N'.length
   rw [zLM]
   exact ok.len
 have st1 : tn 0 h₁ := T.keep _ _ _ st2 fun b hb o e => old b o e
 have loop : ∀ s₃ : Shared, s₃ = { s with heap := h₁, toks := s.toks + ([] : List (Str × Value)).length } ->
   codeAny (model X.prog X.w) X.A (.compLoop (.ListComp elt [⟨tg, iter, ifs, 0⟩] sc pos) 0 (.ref it) (.ref s.heap.objs.size) (compEnvC sc (clOf X.env sc.names []) hD.objs.size X.env))
    (RR (.ref s.heap.objs.size) hD.objs.size) s₃ := by
  rintro s₃ rfl
  have fpI : ∀ {H' : Hp} {o : Obj}, (∀ b ∈ fp, H' b = none) -> ∀ b ∈ fp, FpOk (X.comp sc N' hD.objs.size s H2 fp) [(s.heap.objs.size, o)] H' b := fun {H' o} hn b hb => by
   have hlt := fpo b hb
   refine ⟨hn b hb, (okX.exf b hb).1, okX.exfs b hb, .inl hb, (okX.exf b hb).2, fun p hp => ?_⟩
   have e : p = (s.heap.objs.size, o) := by simpa using hp
   subst e
   exact Nat.ne_of_gt hlt
  refine xdk (fun n s' => ∃ i ys its k H', Inv (X.comp sc N' hD.objs.size s H2 fp) [(s.heap.objs.size, { cls := .type "list", data := .seq its.toArray k })] (capt ix σ) H' s' /\ Vals ys its /\ ys.length <= sizeLine /\ tn i s'.heap /\ (∀ b ∈ fp, H' b = none) /\ W i n ys H')
   ?_ m0 ⟨0, [], [], 0, H2, xfb, .nil, Nat.zero_le _, st1, fun b hb => (f2 b hb).1, w0⟩
  rintro n s4 ⟨i, ys, its, k, H4, I4, r4, z4, st4, fr4, w4⟩
  rcases turn i n ys H4 w4 with ⟨stop, q⟩ | ⟨go, hz, step⟩
  ·refine xge (thn (T.done (X.comp sc N' hD.objs.size s H2 fp) rfl rfl rfl hc i _ s4 _ H4 (fun _ _ => False) I4 (fpI fr4) st4 stop) fun r s5 ⟨hr, I5⟩ => ?_)
   subst hr
   show RR (.ref s.heap.objs.size) hD.objs.size (.ok .next) s5
   obtain ⟨pD, nD, _, _, _⟩ := I5.pin (s.heap.objs.size, { cls := .type "list", data := .seq its.toArray k }) (by simp)
   obtain ⟨m5, hm5, _⟩ := I5.loc
   have okD : HOk X.prog X.w (upd H4 s.heap.objs.size (.lst ys)) s5.heap := I5.hok.track nD ⟨z4, its, k, r4, pD⟩
   have un : Un (frs X.stack) fp H2 (upd H4 s.heap.objs.size (.lst ys)) s.heap s5.heap := by
    have B : Un (frs X.stack) fp H2 H4 s.heap s5.heap := I5.base
    have ne : ∀ b u, H2 b = some u -> b ≠ s.heap.objs.size := fun b u e => neN e hnD
    refine ⟨B.keep, B.slot, fun b o e n hb => ?_, B.there, fun b xs e => ?_, fun b o u e => ?_, fun b ps e => ?_⟩
    ·rw [xaw (below b o e).2]; exact B.free b o e n hb
    ·rw [xaw (ne b _ e)]; exact B.tups b xs e
    ·rw [xaw (ne b _ e)]; exact B.frzs b o u e
    ·rw [xaw (ne b _ e)]; exact B.tbls b ps e
   have IX : Inv X pins σ (upd H4 s.heap.objs.size (.lst ys)) s5 := I2.call' (ch := fp) I5.os un okD I5.bare fun b hb => ⟨(f2 b hb).2.2.2.1, (f2 b hb).2.1, (f2 b hb).2.2.2.2.1, (f2 b hb).2.2.2.2.2⟩
   refine fin _ _ s5 _ m5 IX (q _ nD) hm5 ?_ (Nat.ne_of_gt (Nat.lt_trans I2.lt upC)) (Nat.le_of_lt (Nat.lt_of_le_of_lt I2.sz upC)) (fun x c e => Nat.ne_of_lt (Nat.lt_trans (cellLt x c e) upC)) (fun p hp => Nat.ne_of_lt (Nat.lt_trans (Heap.lt_size (I2.pin p hp).1) upC))
   rw [xaw (Ne.symm hDC)]; exact I5.free
  ·refine xge (thn (T.item (X.comp sc N' hD.objs.size s H2 fp) rfl rfl rfl hc i _ s4 _ H4 (fun _ _ => False) I4 (fpI fr4) st4 go) fun r s5 ⟨u, hr, h5⟩ => ?_)
   subst hr
   refine xge (thn h5 fun _ s6 ⟨x, H6, I6, r6, y6, st6, fr6⟩ => ?_)
   have I6' := I6.pinned (fpI fr6) (T.obj _ _ st6)
   refine xge (thn (hg _ _ _ _ _ s6 _ H6 x u _ I6' r6 (step x H6 y6)) fun _ s7 ⟨σ7, H7, I7, x7, q7⟩ => ?_)
   refine xge (thn (ht _ _ _ _ _ s7 σ7 H7 _ I7 q7) fun b s8 ⟨H8, I8, q8⟩ => ?_)
   have back : ∀ {s9 : Shared} {H9 : Hp}, Inv (X.comp sc N' hD.objs.size s H2 fp) ([(s.heap.objs.size, { cls := .type "list", data := .seq its.toArray k })] ++ xii fp s6.heap) σ7 H9 s9 ->
     Inv (X.comp sc N' hD.objs.size s H2 fp) [(s.heap.objs.size, { cls := .type "list", data := .seq its.toArray k })] (capt ix σ) H9 s9 /\ tn (i + 1) s9.heap /\ (∀ b ∈ fp, H9 b = none) := fun {s9 H9} J9 => by
    refine ⟨(J9.unpinned).weak x7.1 x7.2, T.keep _ _ _ st6 fun b hb o e => (J9.pin (b, o) (List.mem_append_right _ (List.mem_append_right _ (xde hb e)))).1, fun b hb => ?_⟩
    obtain ⟨o, e, d⟩ := T.obj _ _ st6 b hb
    exact (J9.pin (b, o) (List.mem_append_right _ (List.mem_append_right _ (xde hb e)))).2.1
   cases b with
   | false =>
    rw [if_neg Bool.false_ne_true] at q8 ⊢
    obtain ⟨m', hm, w8⟩ := q8
    obtain ⟨J8, st8, fr8⟩ := back I8
    exact ⟨m', hm, i + 1, ys, its, k, H8, J8, r4, z4, st8, fr8, w8⟩
   | true =>
    rw [if_pos rfl] at q8 ⊢
    refine xge (thn (he _ _ _ _ _ s8 σ7 H8 _ I8 q8) fun y s9 ⟨v9, H9, I9, r9, q9⟩ => ?_)
    obtain ⟨m', hm, w9⟩ := q9
    obtain ⟨J9, st9, fr9⟩ := back I9
    obtain ⟨pD, nD, neC, nf, _⟩ := J9.pin (s.heap.objs.size, { cls := .type "list", data := .seq its.toArray k }) (by simp)
    have hlen := r4.length
    refine call_meets F.slot_list_append ⟨_, pD, rfl⟩ F.entry_list_append (F.args_list_append_2 _ _) (PySem.list_append s.heap.objs.size its.toArray k y (by rw [List.size_toArray]; omega)) ⟨pD, ?_⟩
    have q := PySem.IsL.update pD (·.push y)
    have ep : its.toArray.push y = (its ++ [y]).toArray := by simp
    dsimp only at q
    rw [ep] at q
    obtain ⟨k', q⟩ : ∃ k', (s9.heap.update s.heap.objs.size (Obj.mapSeq (·.push y))).get? s.heap.objs.size = some { cls := .type "list", data := .seq (its ++ [y]).toArray k' } := ⟨_, q⟩
    have J0 : Inv (X.comp sc N' hD.objs.size s H2 fp) [] (capt ix σ) H9 s9 := J9.pins_of fun p hp => absurd hp (by simp)
    have J1 : Inv (X.comp sc N' hD.objs.size s H2 fp) [] (capt ix σ) H9 { s9 with heap := s9.heap.update s.heap.objs.size (Obj.mapSeq (·.push y)) } :=
     J0.turned (it := s.heap.objs.size) (t' := s9.toks) (fun b o hb e => (Heap.get?_update_other _ _ (Ne.symm hb)).trans e) nD neC (.inr (Nat.le_refl _)) (fun x c e => Nat.ne_of_lt (cellLt x c (cellX x c e))) fun p hp => absurd hp (by simp)
    refine ⟨m', hm, i + 1, ys ++ [v9], its ++ [y], k', H9, J1.pins_of fun p hp => ?_, r4.append (.cons r9 .nil), ?_, T.keep _ _ _ st9 fun b hb o e => (Heap.get?_update_other _ _ ?_).trans e, fr9, w9⟩
    ·have e : p = _ := zMO hp
     subst e
     exact ⟨q, nD, neC, nf, fun v z => by cases z⟩
    ·rw [List.length_append, List.length_singleton]; omega
    ·exact Nat.ne_of_gt (fpo b hb)
 exact codeAny_compStart_list (loop _ rfl) (T.self _ 0 _ _ _ st1 (loop _ rfl))
theorem Inv.letGo {pins : List (Addr × Obj)} {σ : St} {H : Hp} {s : Shared} {C : Addr} {h' : Heap} (I : Inv X pins σ H s) (hs : Heap.SameBut C s.heap h') (h0 : H C = none) (h1 : C ≠ X.env.locals) (h2 : X.s₀.heap.objs.size <= C) (h3 : ∀ x c, X.env.cells.lookup x = some c -> c ≠ C)
  (h4 : ∀ p ∈ X.pn ++ pins, p.1 ≠ C) : Inv X pins σ H { s with heap := h' } := I.turned (t' := s.toks) (fun b o hb e => (hs.2 b hb).trans e) h0 h1 (.inr h2) h3 h4
theorem xba {elt tg iter : Expr} {ifs : List Expr} {sc : Scope} {pos : Pos} (N' : List Str) (ix : Cap) {wi : TI} {g : TG} {tt : TT} {te : TE} (hc : X.calm = true) (hok : xqk X.N N' X.env.scope sc ix = true)
  (hi : PI X tg iter wi) (hg : ∀ C s₀ H₀ ex, PG (X.comp sc N' C s₀ H₀ ex) tg g) (ht : ∀ C s₀ H₀ ex, PTs (X.comp sc N' C s₀ H₀ ex) ifs tt) (he : ∀ C s₀ H₀ ex, PE (X.comp sc N' C s₀ H₀ ex) elt te)
  (hs : ∀ x, foldedSetIterable iter X.env x = pure x := by intro _; rfl) : PE X (.ListComp elt [⟨tg, iter, ifs, 0⟩] sc pos) (xs3 ix wi g tt te) := by
 intro pins s σ H Q I h
 have ok := xlx hok
 rw [eval_ListComp]
 refine wpAny_comprehension_free (use := none) rfl hs (xd5 fun p hp hk => I.ok.has p.1 (ok.fre p hp hk)) ok.kind ok.loc (thn (hi pins s σ H _ I h) fun v s1 h1 => thn h1 fun itv s2 h2 => ?_)
 refine xgk (RR := fun acc C => compPost (model X.prog X.w) X.A X.xe none (EP X pins σ Q) acc C) hc ok hg ht he h2 ?_
 intro D C s' H' m I' q hm h0 h1 h2 h3 h4
 exact ⟨m, hm, fun h' hsb => ⟨.ref D, H', I'.letGo hsb h0 h1 h2 h3 h4, rfl, q⟩⟩
theorem xa9 {elt tg iter : Expr} {ifs : List Expr} {sc : Scope} {pos spos py : Pos} {i : Nat} {y : Str} (N' : List Str) (ix : Cap) {wi : TI} {g : TG} {tt : TT} {te : TE} (hc : X.calm = true) (hok : xqk X.N N' X.env.scope sc ix = true)
  (hN : X.N.Nodup) (hy : X.N[i]? = some y) (hx : Loc X.env.scope y)
  (hi : PI X tg iter wi) (hg : ∀ C s₀ H₀ ex, PG (X.comp sc N' C s₀ H₀ ex) tg g) (ht : ∀ C s₀ H₀ ex, PTs (X.comp sc N' C s₀ H₀ ex) ifs tt) (he : ∀ C s₀ H₀ ex, PE (X.comp sc N' C s₀ H₀ ex) elt te)
  (hs : ∀ x, foldedSetIterable iter X.env x = pure x := by intro _; rfl) (hsw : swapsWith (.ListComp elt [⟨tg, iter, ifs, 0⟩] sc pos) (some (.Name y py)) spos.line X.env = pure true := by rfl)
  (hf : X.fn y = true \/ X.env.scope.names.lookup y = some .local := by first | exact .inl rfl | exact .inr rfl | assumption) :
  PS X (.Assign [.Name y py] (.ListComp elt [⟨tg, iter, ifs, 0⟩] sc pos) spos) (tAsg (xs3 ix wi g tt te) (xjn i)) := by
 intro pins s σ H D I h
 have ok := xlx hok
 rw [exec_Assign_Name_used _ _ _ _ hsw]
 refine wpAny_bind (wpAny_standAt (wpAny_bind ?_))
 show wpAny _ X.A (do let _ <- comprehension (.ListComp elt [⟨tg, iter, ifs, 0⟩] sc pos) sc X.env _ (newList []) false (eval iter X.env) (some (assign (.Name y py) X.env))) _ _ s
 refine wpAny_bind (wpAny_mono (wpAny_comprehension_free (use := some (assign (.Name y py) X.env)) (Q := fun _ s' => SP X pins D .next s') rfl hs (xd5 fun p hp hk => I.ok.has p.1 (ok.fre p hp hk)) ok.kind ok.loc
  (thn (hi pins s σ H _ I h) fun v s1 h1 => thn h1 fun itv s2 h2 => ?_)) (fun _ s' hq => wpAny_pure (wpAny_pure hq)) fun _ _ e => e)
 refine xgk (Q := fun x H1 => xjn i x σ H1 D.nx) (RR := fun acc C => compPost (model X.prog X.w) X.A X.xe (some (assign (.Name y py) X.env)) (fun _ s' => SP X pins D .next s') acc C) hc ok hg ht he h2 ?_
 intro Dl C s' H' m I' q hm h0 h1 h2 h3 h4
 refine wpAny_assign_Name (xh0 I' hN hy hx (v := .ref Dl) rfl (fun s3 I3 sb => ?_) hf)
 obtain ⟨a, hsb, ha⟩ := sb
 have hne : C ≠ a := by
  rcases ha with e | e
  ·rw [e]; exact h1
  ·exact Ne.symm (h3 y a e)
 exact ⟨m, hm.sameBut hsb hne, fun h' hs' => ⟨_, H', I3.letGo hs' h0 h1 h2 h3 h4, q⟩⟩
end
section
variable {ix : Cap} {tt : TT} {te : TE} {g : TG} {σ : St} {H : Hp} {Q : VK}
def Nxt (Pv : Nat -> List V -> Hp -> Prop) (n i : Nat) (ys : List V) : VK := fun y H2 => ∃ m', m' < n - i /\ m' = n - (i + 1) /\ i + 1 <= n /\ (ys ++ [y]).length = i + 1 /\ Pv (i + 1) (ys ++ [y]) H2
theorem nxt {Pv : Nat -> List V -> Hp -> Prop} {n i : Nat} {ys : List V} {y : V} {H2 : Hp} (hi : i < n) (hl : ys.length = i) (h : Pv (i + 1) (ys ++ [y]) H2) : Nxt Pv n i ys y H2 :=
 ⟨n - (i + 1), by omega, rfl, hi, by rw [List.length_append, List.length_singleton, hl], h⟩
theorem xem {lo : Int} {n j : Nat} (Pv : Nat -> List V -> Hp -> Prop) (hj : (capt ix σ)[j]? = some none) (h0 : Pv 0 [] H) (hn : n < sizeLine)
  (hs : ∀ i ys H, i < n -> ys.length = i -> Pv i ys H -> te ((capt ix σ).set j (some (.int (lo + i)))) H (Nxt Pv n i ys))
  (hd : ∀ ys H, ys.length = n -> Pv n ys H -> ∀ D, H D = none -> Q (.ref D) (upd H D (.lst ys))) : xet (Itr lo n) ix (xjn j) tYes te σ H Q := by
 refine ⟨fun i m ys H => m = n - i /\ i <= n /\ ys.length = i /\ Pv i ys H, ⟨n, by simp, Nat.zero_le _, rfl, h0⟩, ?_⟩
 rintro i m ys H ⟨rfl, hi, hl, p⟩
 by_cases hlt : i < n
 ·refine .inr ⟨hlt, by omega, fun x H' y => ?_⟩
  obtain ⟨e, y⟩ := y
  subst e y
  refine ⟨xds hj, ?_⟩
  unfold tYes
  dsimp only
  rw [if_pos rfl]
  exact hs i ys _ hlt hl p
 ·have e : i = n := by omega
  subst e
  exact .inl ⟨Nat.le_refl _, hd ys H hl p⟩
theorem xf0 {K : PySem.W.Frag} {a : Addr} {xs : List V} {j : Nat} (Pv : Nat -> List V -> Hp -> Prop) (hj : (capt ix σ)[j]? = some none) (h0 : Pv 0 [] H) (hn : xs.length < sizeLine) (hl' : ∀ i ys H, i <= xs.length -> Pv i ys H -> SqL K H a xs)
  (hs : ∀ i x ys H, xs[i]? = some x -> ys.length = i -> Pv i ys H -> te ((capt ix σ).set j (some x)) H (Nxt Pv xs.length i ys))
  (hd : ∀ ys H, ys.length = xs.length -> Pv xs.length ys H -> ∀ D, H D = none -> Q (.ref D) (upd H D (.lst ys))) : xet (Itl K a) ix (xjn j) tYes te σ H Q := by
 refine ⟨fun i m ys H => m = xs.length - i /\ i <= xs.length /\ ys.length = i /\ Pv i ys H, ⟨xs.length, by simp, Nat.zero_le _, rfl, h0⟩, ?_⟩
 rintro i m ys H ⟨rfl, hi, hl, p⟩
 have q := hl' i ys H hi p
 by_cases hlt : i < xs.length
 ·refine .inr ⟨⟨xs, xs[i], q, by simp [hlt]⟩, by omega, fun v H' y => ?_⟩
  obtain ⟨e, y⟩ := y
  subst e
  refine ⟨xds hj, ?_⟩
  unfold tYes
  dsimp only
  rw [if_pos rfl]
  exact hs i v ys _ (y xs q) hl p
 ·have e : i = xs.length := by omega
  subst e
  exact .inl ⟨⟨xs, q, Nat.le_refl _⟩, hd ys H hl p⟩
theorem xcp {K : PySem.W.Frag} {a : Addr} {xs : List V} {j : Nat} (Pv : Nat -> List V -> Hp -> Prop) (hj : (capt ix σ)[j]? = some none) (h0 : Pv 0 [] H) (hn : xs.length < sizeLine) (hl' : ∀ i ys H, i <= xs.length -> Pv i ys H -> SqT K H a xs)
  (hs : ∀ i x ys H, xs[i]? = some x -> ys.length = i -> Pv i ys H -> te ((capt ix σ).set j (some x)) H (Nxt Pv xs.length i ys))
  (hd : ∀ ys H, ys.length = xs.length -> Pv xs.length ys H -> ∀ D, H D = none -> Q (.ref D) (upd H D (.lst ys))) : xet (Itt K a) ix (xjn j) tYes te σ H Q := by
 refine ⟨fun i m ys H => m = xs.length - i /\ i <= xs.length /\ ys.length = i /\ Pv i ys H, ⟨xs.length, by simp, Nat.zero_le _, rfl, h0⟩, ?_⟩
 rintro i m ys H ⟨rfl, hi, hl, p⟩
 have q := hl' i ys H hi p
 by_cases hlt : i < xs.length
 ·refine .inr ⟨⟨xs, xs[i], q, by simp [hlt]⟩, by omega, fun v H' y => ?_⟩
  obtain ⟨e, y⟩ := y
  subst e
  refine ⟨xds hj, ?_⟩
  unfold tYes
  dsimp only
  rw [if_pos rfl]
  exact hs i v ys _ (y xs q) hl p
 ·have e : i = xs.length := by omega
  subst e
  exact .inl ⟨⟨xs, q, Nat.le_refl _⟩, hd ys H hl p⟩
end
end L2
end
section
namespace L2
open PySem PySem.Spec PyProof.Rows
section
variable {X : Cx}
def CDivB (i j : Int) : Prop := 0 < j /\ j < 2 ^ 64
theorem xbv : OpR X (binaryOp .FloorDiv) (rI CDivB fun i j => .int (i / j)) := opI fun i j _ _ _ _ _ hc q => by
 have h1 : (0 : Int) < j := hc.1
 have h2 : j < 2 ^ 64 := hc.2
 refine floordiv_int (by omega) (by rw [Int.fdiv_eq_ediv_of_nonneg i (by omega)]; exact q) (.inl (PyProof.noPylong_of_log2 ?_))
 have h3 : j.natAbs < 2 ^ 64 := by omega
 have h0 : j.natAbs ≠ 0 := by omega
 have h4 : j.natAbs.log2 < 64 := (Nat.log2_lt h0).mpr h3
 omega
theorem xl5 {ys : List Str} : ∀ {us : List Value}, Vals (ys.map V.str) us -> StrsAre us ys := by
 induction ys with
 | nil => intro us r; rw [List.map_nil] at r; cases r; exact .nil
 | cons n ns ih =>
  intro us r
  rw [List.map_cons] at r
  cases r with
  | cons r1 r2 =>
   obtain ⟨t, e⟩ := r1
   subst e
   exact .cons n t (ih r2)
def rJoin (K : PySem.W.Frag) : V -> List V -> Hp -> VK -> Prop := fun x vs H Q => ∃ (sep : Str) (p : Addr) (ys : List Str), x = .str sep /\ vs = [.ref p] /\ SqL K H p (ys.map V.str) /\ (ys.map (·.length)).sum + ys.length * sep.length <= 16777216 /\ Q (.str (Txt.join sep ys)) H
theorem xsa : MtR X "str.join" (rJoin X.K) := by
 intro pins s σ H x vs v us Q I rx rv h
 obtain ⟨sep, p, ys, rfl, rfl, hq, hz, q⟩ := h
 obtain ⟨t, rfl⟩ := rx
 obtain ⟨u, rfl, ru⟩ := rv.one
 cases ru
 obtain ⟨its, r, pl, _⟩ := I.list hq
 exact join_list pl.isList (by simpa using xl5 r) hz fun t' k => ⟨.str _, H, I.tok k, ⟨t', rfl⟩, q⟩
def rSlS : V -> Option Int -> Option Int -> Hp -> VK -> Prop := fun x lo hi H Q => ∃ z : Str, x = .str z /\ z.length <= sizeLine /\ Q (.str (Txt.slice z lo hi)) H
theorem xqu : SlR X rSlS := by
 intro pins s σ H x v vl vu lo hi sl Q I rx hs pl pu h
 obtain ⟨z, rfl, hz, q⟩ := h
 obtain ⟨t, rfl⟩ := rx
 refine ⟨"str", _, F.slot_str_getitem.lookup, typeIs_str _ _ _, ?_⟩
 have hq : ∀ (o : Str), o = Txt.slice z lo hi -> o.length <= sizeLine /\ ∀ t' k, EP X pins σ Q (.str o t') { s with toks := k } := fun o e => by
  subst e
  exact ⟨Nat.le_trans (Txt.slice_le z _ _) hz, fun t' k => ⟨.str _, H, I.tok k, ⟨t', rfl⟩, q⟩⟩
 obtain ⟨os, hos, hcs, hds⟩ := hs
 cases pl with
 | none =>
  cases pu with
  | none => exact wpAny_getItem_str_slice (l := none) (u := none) (st := none) ⟨os, hos, hcs, hds⟩ rfl (post_val_or_str (hq _ rfl))
  | int j uj => exact wpAny_getItem_str_slice (l := none) (u := some (j, uj)) (st := none) ⟨os, hos, hcs, hds⟩ rfl (post_val_or_str (hq _ rfl))
 | int i ui =>
  cases pu with
  | none => exact wpAny_getItem_str_slice (l := some (i, ui)) (u := none) (st := none) ⟨os, hos, hcs, hds⟩ rfl (post_val_or_str (hq _ rfl))
  | int j uj => exact wpAny_getItem_str_slice (l := some (i, ui)) (u := some (j, uj)) (st := none) ⟨os, hos, hcs, hds⟩ rfl (post_val_or_str (hq _ rfl))
theorem xly (hc : X.calm = true) : xdl X (.builtin "all") (fun xs H Q => ∃ (p : Addr) (bs : List Bool), xs = [.ref p] /\ SqL X.K H p (bs.map V.bl) /\ Q (.bl (bs.all id)) H) := by
 intro pins s σ H xs us Q I r h
 obtain ⟨p, bs, rfl, hq, q⟩ := h
 obtain ⟨u, rfl, ru⟩ := xd9 r
 cases ru
 obtain ⟨its, rv, pl, hz⟩ := I.list hq
 have hlen := rv.length
 rw [zLM] at hlen
 have hlt : p < s.heap.objs.size := by obtain ⟨_, e, _⟩ := pl.isList; exact Heap.lt_size e
 refine call_all_walk (wpAny_pyIter_list pl.isList ?_)
 refine ⟨s.heap.objs.size, _, _, _, _, _, fun i => bs.getD i true, rfl, Walks.list (A := X.A.in1) (I.ok.hd hc) s.heap.objs.size p (Nat.ne_of_lt hlt) its.toArray, ⟨⟨_, Heap.get?_push_size _ rfl, rfl, rfl⟩, pl.isList.push _⟩, ?_, ?_⟩
 ·intro i v s' Q' E' hv hQ
  have hv' : its[i]? = some v := by simpa using hv
  have hi : i < bs.length := by
   have := (zES hv').1
   omega
  obtain ⟨u', e, ru⟩ := rv.get (i := i) (x := V.bl bs[i]) (by rw [zGM, zGA hi] <;> rfl)
  rw [hv'] at e
  cases e
  cases ru
  dsimp only at hQ
  rw [List.getD_eq_getElem?_getD, zGA hi] at hQ
  exact wpAny_truthy_bool hQ
 ·intro h' tk kk
  have I1 : Inv X pins σ H { s with heap := s.heap.push { cls := .type "list_iterator", data := .fields #[.ref p, .int 0 0] } } := I.kept (t' := s.toks) fun b o e => Heap.get?_push_of_some _ e
  obtain ⟨f0, f1, f2, f3, f4, f5⟩ := I.fpOk (b := s.heap.objs.size) (Nat.le_refl _) (I.hok.fresh (Nat.le_refl _))
  have I2 : Inv X pins σ H { s with heap := h', toks := tk } := I1.turned (fun b o hb e => kk b o (by simpa using hb) e) f0 f1 f3 f4 f5
  refine ⟨.bl _, H, I2, rfl, ?_⟩
  have e : (List.range its.toArray.size).all (fun i => bs.getD i true) = bs.all id := by
   rw [List.size_toArray, <- hlen]
   rw [Bool.eq_iff_iff]
   simp only [List.all_eq_true, List.mem_range, id]
   constructor
   ·intro h b hb
    obtain ⟨i, hi, e⟩ := List.mem_iff_getElem.mp hb
    have := h i hi
    rw [List.getD_eq_getElem?_getD, zGA hi] at this
    rw [<- e]
    exact this
   ·intro h i hi
    rw [List.getD_eq_getElem?_getD, zGA hi]
    exact h _ (List.getElem_mem hi)
  rw [e]
  exact q
theorem xch : xdl X (.builtin "isinstance") (fun xs H Q => ∃ x y c t b, xs = [x, y] /\ (∀ u, RelV y u -> u = c) /\ TyOf X.K H x t /\ PySem.W.kitOne X.K t c = some b /\ Q (.bl b) H) := by
 intro pins s σ H xs us Q I r h
 obtain ⟨x, y, c, t, b, rfl, hy, ty, e, q⟩ := h
 obtain ⟨u, v, rfl, ru, rv⟩ := r.two
 obtain rfl := hy v rv
 exact xoo I ru ty e fun tk => ⟨.bl b, H, I.tok tk, rfl, q⟩
def eqVs : List V -> List V -> Bool
 | [], [] => true
 | x :: xs, y :: ys => eqV x y && eqVs xs ys
 | _, _ => false
theorem xlq : ∀ {xs ys : List V}, xs.length ≠ ys.length -> eqVs xs ys = false
 | [], [], h => absurd rfl h
 | [], _ :: _, _ => rfl
 | _ :: _, [], _ => rfl
 | x :: xs, y :: ys, h => by
  show (eqV x y && eqVs xs ys) = false
  rw [xlq (xs := xs) (ys := ys) (by simpa using h), Bool.and_false]
theorem xgj : ∀ {xs ys : List V}, xs.length = ys.length -> (List.range xs.length).all (fun i => eqV (xs.getD i .non) (ys.getD i .non)) = eqVs xs ys
 | [], [], _ => rfl
 | [], _ :: _, h => by cases h
 | _ :: _, [], h => by cases h
 | x :: xs, y :: ys, h => by
  rw [List.length_cons, List.range_succ_eq_map, List.all_cons, List.all_map]
  show (eqV x y && (List.range xs.length).all (fun i => eqV (xs.getD i .non) (ys.getD i .non))) = (eqV x y && eqVs xs ys)
  rw [xgj (xs := xs) (ys := ys) (by simpa using h)]
def rEqL (K : PySem.W.Frag) : R2 := fun x y H Q => ∃ a b xs ys, x = .ref a /\ y = .ref b /\ SqL K H a xs /\ SqL K H b ys /\ xs.all xd4 = true /\ ys.all xd4 = true /\ Q (.bl (eqVs xs ys)) H
theorem op_eqL (hu : X.A.units < cLine) : OpR X (compareOp .Eq) (rEqL X.K) := by
 intro pins s σ H x y v u Q I rx ry h
 obtain ⟨a, b, xs, ys, rfl, rfl, ha, hb, fa, fb, q⟩ := h
 cases rx
 cases ry
 obtain ⟨its, r1, p1, _⟩ := I.list ha
 obtain ⟨its2, r2, p2, _⟩ := I.list hb
 have l1 := r1.length
 have l2 := r2.length
 by_cases hl : xs.length = ys.length
 ·refine SeqAt.eq_listAt (e := fun i => eqV (xs.getD i .non) (ys.getD i .non)) p1.isList p2.isList (by simp only [List.size_toArray]; omega) hu (fun j h1 h2 => ?_) ⟨.bl _, H, I, rfl, ?_⟩
  ·have j1 : j < xs.length := by simp only [List.size_toArray] at h1; omega
   have j2 : j < ys.length := by simp only [List.size_toArray] at h2; omega
   obtain ⟨u1, e1, q1⟩ := r1.get (i := j) (x := xs[j]) (zGA j1)
   obtain ⟨u2, e2, q2⟩ := r2.get (i := j) (x := ys[j]) (zGA j2)
   have g1 : its.toArray[j] = u1 := by
    have : its[j]? = some its[j] := zGA (by omega)
    rw [e1] at this
    simpa using (Option.some.inj this).symm
   have g2 : its2.toArray[j] = u2 := by
    have : its2[j]? = some its2[j] := zGA (by omega)
    rw [e2] at this
    simpa using (Option.some.inj this).symm
   rw [g1, g2, List.getD_eq_getElem?_getD, List.getD_eq_getElem?_getD, zGA j1, zGA j2]
   exact xq7 q1 q2 (List.all_eq_true.mp fa _ (List.getElem_mem j1)) (List.all_eq_true.mp fb _ (List.getElem_mem j2))
  ·rw [List.size_toArray, <- l1, xgj hl]
   exact q
 ·refine SeqAt.eq_list_lengthsAt p1.isList p2.isList (by simp only [List.size_toArray]; simp; omega) hu ⟨.bl _, H, I, rfl, ?_⟩
  rw [xlq hl] at q
  exact q
end
def SameBut (a : Addr) (H H' : Hp) : Prop := ∀ b o, H b = some o -> b ≠ a -> H' b = some o
theorem SameBut.refl (a : Addr) (H : Hp) : SameBut a H H := fun _ _ h _ => h
theorem SameBut.trans {a : Addr} {H H1 H2 : Hp} (h : SameBut a H H1) (k : SameBut a H1 H2) : SameBut a H H2 := fun b o e n => k b o (h b o e n) n
theorem SameBut.upd (a : Addr) (H : Hp) (o : HO) : SameBut a H (upd H a o) := fun b u e n => by rw [xaw n]; exact e
theorem Same.but {a : Addr} {H H' : Hp} (h : Same H H') : SameBut a H H' := fun b o e _ => h b o e
theorem Same.new {H : Hp} {p : Addr} (h : H p = none) (o : HO) : Same H (upd H p o) := fun b u q => by rw [xaw (neN q h)]; exact q
theorem xco {H H' : Hp} {p : Addr} (h : Same H H') (n : H' p = none) : H p = none := by
 cases e : H p with
 | none => rfl
 | some o => rw [h p o e] at n; cases n
end L2
end
section
namespace L2
open PySem PySem.Spec PyProof.Rows
structure DefTx (K : PySem.W.Frag) (mg : Str -> Option Value) (x : Str) (st : Stmt) (ps : List Str) : Prop where
 ex : ∃ (f : Addr) (fd : FuncData), Fun K x x st f fd /\ mg x = some (.ref f) /\ ∀ us : List Value, us.length = ps.length -> bindArgs fd ⟨us, []⟩ = pure (ps.zip us)
structure DefIs (P : Program) (w : World) (K : PySem.W.Frag) (mg : Str -> Option Value) (base : Heap) (n : Nat) (x : Str) (ps : List Str) (sp : Sp) : Prop where
 ex : ∃ (f : Addr) (fd : FuncData), FnOk P w K mg base CX0 n f fd ps sp /\ Binds K fd ps [] /\ PySem.W.keepIn K (.ref f) = true /\ mg x = some (.ref f) /\ ∃ oc od osl, K.lookup f = some ⟨oc, od, .func fd, osl⟩
theorem xot {K : PySem.W.Frag} {x : Str} {st : Stmt} {f : Addr} {fd : FuncData} (F : Fun K x x st f fd) : ∃ oc od osl, K.lookup f = some ⟨oc, od, .func fd, osl⟩ := by
 obtain ⟨oc, od, kV, doc, pm, an, cdv, ct, osl, _, l, _⟩ := F.ex
 exact ⟨oc, od, osl, l⟩
section
variable {P : Program} {w : World} {K : PySem.W.Frag} {mg : Str -> Option Value} {base : Heap} {n m : Nat} {x : Str} {ps N : List Str} {sp : Sp} {st : Stmt}
theorem DefIs.mono (D : DefIs P w K mg base n x ps sp) (h : n <= m) : DefIs P w K mg base m x ps sp := by
 obtain ⟨f, fd, F, r⟩ := D.ex
 exact ⟨f, fd, F.mono h, r⟩
theorem DefIs.imp {sp' : Sp} (D : DefIs P w K mg base n x ps sp) (h : ∀ vs H Q E, sp' vs H Q E -> sp vs H Q E) : DefIs P w K mg base n x ps sp' := by
 obtain ⟨f, fd, F, r⟩ := D.ex
 exact ⟨f, fd, F.imp h, r⟩
theorem DefIs.of (T : DefTx K mg x st ps) (S : FnScope N ps (xac st)) (len : ∀ vs H Q E, sp vs H Q E -> vs.length = ps.length)
  (hbody : ∀ (f : Addr) (cdv : Value) (A : Around) (outer : List Env) (s : Shared) (H : Hp) (vs : List V) (Q : VK) (E : XK), Room n (A.deeper (envOfC x (xac st) s.heap.objs.size f cdv)) -> sp vs H Q E ->
   ∃ t, PSs (cxOf CX0 P w K mg base N x (xac st) f cdv A outer s H E).nox (xdt st) t /\ t { nx := fun _ H' => Q .non H', rt := Q } (xfb N vs) H) : DefIs P w K mg base (n + 1) x ps sp := by
 obtain ⟨f, fd, F, m, b⟩ := T.ex
 exact ⟨f, fd, F.ok S len (fun cdv A outer s H vs Q E hr h => hbody f cdv A outer s H vs Q E hr h), Binds.all b, F.kp, m, xot F⟩
theorem DefIs.none (T : DefTx K mg x st ps) (no : ∀ vs H Q E, ¬ sp vs H Q E) : DefIs P w K mg base n x ps sp := by
 obtain ⟨f, fd, F, m, b⟩ := T.ex
 exact ⟨f, fd, ⟨fun vs H Q E h => absurd h (no vs H Q E), fun A outer s H args us vs Q E _ _ _ _ h => absurd h (no vs H Q E)⟩, Binds.all b, F.kp, m, xot F⟩
end
section
variable {X : Cx} {n : Nat} {x : Str} {ps : List Str} {sp : Sp} {e : Expr} {es : List Expr} {p pos : Pos} {t : TA}
theorem pd (D : DefIs X.prog X.w X.K X.mg X.base n x ps sp) (hr : Room n X.A) (ha : PA X (e :: es) t) (hg : Gl X x := by rfl) (hdb : (x == ("__debug__" : Str)) = false := by decide)
  (he : starEach (e :: es) X.env = (false, eval e X.env) :: starEach es X.env := by rfl) (hpl : (backTo pos (starEach es X.env)).any (·.1) = false := by rfl) : PE X (.Call (.Name x p) (e :: es) [] pos) (xs4 sp [] E0 t) := by
 obtain ⟨f, fd, F, b, k, m, _⟩ := D.ex
 exact xry F hr hg m k b .nil pass0 ha hdb he hpl
theorem xg1 {i : Int} (hm : ∃ t, X.mg x = some (.int i t)) (hg : Gl X x := by rfl) (hd : (x == ("__debug__" : Str)) = false := by decide) : PE X (.Name x pos) (tC (.int i)) := by
 obtain ⟨t, h⟩ := hm
 exact xrv hg h ⟨t, rfl⟩ hd
theorem xik {T : String} (hm : X.mg x = none) (hv : bootBuiltins x = some (.type T)) (hg : Gl X x := by rfl) (hn : x ≠ "__name__" := by decide) (hd : (x == ("__debug__" : Str)) = false := by decide) : PE X (.Name x pos) (tC (.ty T)) := xrz hg hm hv rfl hn hd
end
def Fed (a : Addr) (H H' : Hp) : Prop := SameBut a H H' /\ ∃ p q : Int, H' a = some (.lst [.int p, .int q])
theorem Fed.trans {a : Addr} {H H1 H2 : Hp} (h : Fed a H H1) (k : Fed a H1 H2) : Fed a H H2 := ⟨h.1.trans k.1, k.2⟩
theorem Fed.of {a : Addr} {H : Hp} {p q : Int} : Fed a H (upd H a (.lst [.int p, .int q])) := ⟨SameBut.upd a H _, p, q, ups⟩
theorem Fed.refl {a : Addr} {H : Hp} {p q : Int} (h : H a = some (.lst [.int p, .int q])) : Fed a H H := ⟨SameBut.refl a H, p, q, h⟩
theorem Fed.same {a : Addr} {H H' H'' : Hp} (h : Fed a H H') (s : Same H' H'') : Fed a H H'' := by
 obtain ⟨k, p, q, e⟩ := h
 exact ⟨k.trans s.but, p, q, s _ _ e⟩
theorem Fed.back {a : Addr} {H H0 H' : Hp} (n : H a = none) (s : Same H H0) (h : Fed a H0 H') : Same H H' := fun b o e => h.1 b o (s b o e) (neN e n)
end L2
namespace L2
open PySem PySem.Spec PyProof.Rows
theorem deftx_mk {K : PySem.W.Frag} {h : Heap} {mg : Str -> Option Value} (X : K.In h) (G : h.Ns mainGlobals mg) {x : Str} {st : Stmt} {ps : List Str} {f : Addr} {oc : Value} {od an : Option Addr} {osl : Array (Option Value)} {kV doc pm cdv ct : Value}
  (a : PySem.W.nsIn K mainGlobals x = some (some (.ref f))) (l : K.lookup f = some ⟨oc, od, .func (PySem.W.fnOf x x (xfx st) (xdt st) (xac st) .none kV doc pm an cdv ct), osl⟩)
  (c : PySem.W.codeIn K cdv x = true) (k : PySem.W.keepIn K (.ref f) = true)
  (b : ∀ (kV doc pm : Value) (an : Option Addr) (cdv ct : Value) (us : List Value), us.length = ps.length -> bindArgs (PySem.W.fnOf x x (xfx st) (xdt st) (xac st) .none kV doc pm an cdv ct) ⟨us, []⟩ = pure (ps.zip us)) : DefTx K mg x st ps := by
 have F := fun_mk (st := st) l c k
 exact ⟨f, _, F, PySem.W.mg_of X G a, b kV doc pm an cdv ct⟩
theorem law_top {P : Program} {w : World} {K : PySem.W.Frag} {mg : Str -> Option Value} {n : Nat} {x y : Str} {st : Stmt} {sp : Sp} {fa : Addr} (T : DefTx K mg x st [y]) (hmg : mg x = some (.ref fa)) (D : ∀ base, DefIs P w K mg base n x [y] sp) :
  ∃ fd : FuncData, (∀ (s : Shared) (u : Value), BindsTo s fd ⟨[u], []⟩ [(y, u)]) /\ ∀ base : Heap, K.In base -> base.Ns mainGlobals mg -> FnOk P w K mg base CX0 n fa fd [y] sp := by
 obtain ⟨f, fd, F, m, b⟩ := T.ex
 rw [hmg] at m
 cases m
 refine ⟨fd, fun s u => .of_eq (b [u] rfl), fun base _ _ => ?_⟩
 obtain ⟨f', fd', G, _, _, m', oc, od, osl, l⟩ := (D base).ex
 rw [hmg] at m'
 cases m'
 obtain ⟨oc2, od2, osl2, l2⟩ := xot F
 rw [l] at l2
 cases l2
 exact G
theorem gint_mk {K : PySem.W.Frag} {h : Heap} {mg : Str -> Option Value} (X : K.In h) (G : h.Ns mainGlobals mg) {x : Str} {i : Int} {t : Tok} (a : PySem.W.nsIn K mainGlobals x = some (some (.int i t))) : ∃ t, mg x = some (.int i t) := ⟨t, PySem.W.mg_of X G a⟩
end L2
end
section
namespace Zt
open PySem
section
variable {prog : Program} {w : World} {A : Around} {E : Value -> Shared -> Prop} {s : Shared}
theorem xi9 {it l : Addr} {i : Nat} {items} {x : Value} {Q : Value -> Shared -> Prop} (hit : s.heap.IsTupleIter it l i)
  (hl : s.heap.IsTuple l items) (hx : items[i]? = some x)
  (hQ : ∀ h', h'.IsTupleIter it l (i + 1) -> Heap.SameBut it s.heap h' -> Q x { s with heap := h' }) :
  wpAny (model prog w) A (Builtin.SmallTypes.nextOf (.ref it)) Q E s := by
 obtain ⟨o, ho, hc, hd⟩ := id hit
 obtain ⟨ol, hol, _, nl, hdl⟩ := hl
 unfold Builtin.SmallTypes.nextOf
 refine wpAny_bind (wpAny_callSpecial?_slot (name := Str.ofString "__next__") hit.typeIs F.slot_tuple_iterator_next
  (wpAny_call_entry F.slot_tuple_iterator_next hit.typeIs F.entry_tuple_iterator_next ?_ (F.args_tuple_iterator_next_1 _)))
 show wpAny _ _ (field (.ref it) 0 >>= _) _ _ s
 refine wpAny_bind (wpAny_field ho hd (x := .ref l) rfl ?_)
 show wpAny _ _ (if (Value.ref l == Value.none) = true then _ else _) _ _ s
 rw [if_neg (show ¬ ((Value.ref l == Value.none) = true) from Bool.false_ne_true)]
 show wpAny _ _ (field (.ref it) 1 >>= _) _ _ s
 refine wpAny_bind (wpAny_field ho hd (x := .int i 0) rfl ?_)
 show wpAny _ _ (seqItems? (.ref l) >>= _) _ _ s
 refine wpAny_bind (wpAny_seqItems hol hdl ?_)
 simp only [Int.toNat_natCast, hx]
 refine wpAny_bind (wpAny_setField ho hd (by simp) (wpAny_pure ⟨x, rfl, wpAny_pure (hQ _ ?_ (Heap.SameBut.update ..))⟩))
 exact ⟨_, Heap.get?_update_self _ ho (Obj.isFreed_of_fields (Obj.data_mapFields hd _)), (Obj.cls_mapFields ..).trans hc, by
  rw [Obj.data_mapFields hd]; simp [rawInt]⟩
theorem xha {it l : Addr} {i : Nat} {items} {Q : Value -> Shared -> Prop} (hh : A.handled = none)
  (hit : s.heap.IsTupleIter it l i) (hl : s.heap.IsTuple l items) (hx : items[i]? = none)
  (hE : ∀ h' e, Heap.ExtBut it s.heap h' -> (∃ o, h'.get? e = some o /\ o.cls = .type "StopIteration") -> E (.ref e) { s with heap := h' }) :
  wpAny (model prog w) A (Builtin.SmallTypes.nextOf (.ref it)) Q E s := by
 obtain ⟨o, ho, hc, hd⟩ := id hit
 obtain ⟨ol, hol, _, nl, hdl⟩ := hl
 unfold Builtin.SmallTypes.nextOf
 refine wpAny_bind (wpAny_callSpecial?_slot (name := Str.ofString "__next__") hit.typeIs F.slot_tuple_iterator_next
  (wpAny_call_entry F.slot_tuple_iterator_next hit.typeIs F.entry_tuple_iterator_next ?_ (F.args_tuple_iterator_next_1 _)))
 show wpAny _ _ (field (.ref it) 0 >>= _) _ _ s
 refine wpAny_bind (wpAny_field ho hd (x := .ref l) rfl ?_)
 show wpAny _ _ (if (Value.ref l == Value.none) = true then _ else _) _ _ s
 rw [if_neg (show ¬ ((Value.ref l == Value.none) = true) from Bool.false_ne_true)]
 show wpAny _ _ (field (.ref it) 1 >>= _) _ _ s
 refine wpAny_bind (wpAny_field ho hd (x := .int i 0) rfl ?_)
 show wpAny _ _ (seqItems? (.ref l) >>= _) _ _ s
 refine wpAny_bind (wpAny_seqItems hol hdl ?_)
 simp only [Int.toNat_natCast, hx]
 refine wpAny_bind (wpAny_rule (wpAny_bind (wpAny_setField ho hd (by simp) ?_)))
 show wpAny _ _ (newExc (.type "StopIteration") [] >>= _) _ _ _
 refine wpAny_bind ?_
 simp only [newExc, newTuple]
 refine wpAny_bind (wpAny_newObj_type ?_ (by size_fits))
 refine wpAny_bind (m := firstArgMember _ _) (wpAny_of_eq (a := Value.none) (by first | rfl | (simp only [firstArgMember]; rfl)) ?_)
 refine wpAny_newObj_type ?_ (by size_fits)
 simp only [raiseNew]
 refine wpAny_bind (wpAny_handled ?_)
 first | rw [show A.in1.handled = none from hh] | rw [hh]
 refine wpAny_bind (wpAny_pure (wpAny_throw ?_))
 exact hE _ _ (((Heap.SameBut.update ..).extBut.push _).push _) ⟨_, Heap.get?_push_size _ rfl, rfl⟩
abbrev xrb (h : Heap) (z TI TO : Addr) (f0 f1 : Value) : Prop :=
 h.get? z = some { cls := .type "zip", dict := none, data := .fields #[f0, f1, .bool false, .ref TI, .ref TO], slots := #[] }
def Free (h : Heap) (z TI TO : Addr) : Prop := xrb h z TI TO .none (.bool false) \/ ∃ (T : Addr) (b : Bool) (o : Obj), xrb h z TI TO (rawInt T) (.bool b) /\ h.get? T = some o /\ T ≠ z
structure Zs (h : Heap) (z TI TO i1 i2 l1 l2 : Addr) (xs ys : Array Value) (k : Nat) : Prop where
 zip : Free h z TI TO
 ti : IsPair h TI (.ref i1) (.ref i2)
 to : ∃ a b, IsPair h TO a b
 it1 : h.IsTupleIter i1 l1 k
 it2 : h.IsTupleIter i2 l2 k
 t1 : h.IsTuple l1 xs
 t2 : h.IsTuple l2 ys
theorem item_first {z TI TO i1 i2 l1 l2 : Addr} {k1 k2 : Nat} {xs ys : Array Value} {x y a b : Value} {Q : Value -> Shared -> Prop} (D : ZipApart z TI TO i1 i2 l1 l2)
  (hz : IsZip s.heap z TI TO .none) (hTI : IsPair s.heap TI (.ref i1) (.ref i2)) (hTO : IsPair s.heap TO a b)
  (h1 : s.heap.IsTupleIter i1 l1 k1) (h2 : s.heap.IsTupleIter i2 l2 k2) (hl1 : s.heap.IsTuple l1 xs) (hl2 : s.heap.IsTuple l2 ys) (hx : xs[k1]? = some x) (hy : ys[k2]? = some y)
  (hQ : ∀ h', IsZip h' z TI TO (rawInt s.heap.objs.size) -> IsPair h' TO x y -> h'.IsTupleIter i1 l1 (k1 + 1) -> h'.IsTupleIter i2 l2 (k2 + 1) -> IsPair h' s.heap.objs.size x y -> h'.objs.size = s.heap.objs.size + 1 ->
   (∀ c o, c ≠ z -> c ≠ TO -> c ≠ i1 -> c ≠ i2 -> s.heap.get? c = some o -> h'.get? c = some o) -> Q (.ref s.heap.objs.size) { s with heap := h' }) :
  wpAny (model prog w) A (Builtin.«zip.__next__» ⟨[.ref z], []⟩) (fun fin s' => ∃ v, fin = .done (.ret v) /\ Q v s') E s := by
 show wpAny _ _ (field (.ref z) 2 >>= _) _ _ _
 refine wpAny_bind (wpAny_field hz rfl (x := .bool false) rfl ?_)
 show wpAny _ _ (field (.ref z) 3 >>= _) _ _ _
 refine wpAny_bind (wpAny_field hz rfl (x := .ref TI) rfl ?_)
 refine wpAny_bind (wpAny_seqItems hTI rfl ?_)
 show wpAny _ _ (Builtin.SmallTypes.ownedTupleIsFree (.ref z) >>= _) _ _ _
 refine wpAny_bind ?_
 unfold Builtin.SmallTypes.ownedTupleIsFree
 refine wpAny_bind (wpAny_field hz rfl (x := .none) rfl (wpAny_pure ?_))
 simp only [if_true]
 refine wpAny_bind (wpAny_rule ?_)
 refine wpAny_bind (wpAny_field hz rfl (x := .ref TO) rfl ?_)
 refine wpAny_bind (wpAny_setField_rec hz (by simp) fun h₁ hz₁ hs₁ => ?_)
 replace hz₁ : IsZip h₁ z TI TO .ellipsis := hz₁
 refine wpAny_bind ?_
 simp only [List.zipIdx_cons, List.zipIdx_nil, List.forIn_cons, List.forIn_nil]
 refine wpAny_bind (wpAny_bind (wpAny_onRaise ?_))
 show wpAny _ _ (Builtin.SmallTypes.nextOf (.ref i1) >>= _) _ _ _
 refine wpAny_bind (xi9 (h1.extBut hs₁.extBut D.i1z) (hl1.extBut hs₁.extBut D.l1z) hx fun h₂ h1₂ hs₂ => wpAny_pure ?_)
 have hTO₂ : IsPair h₂ TO a b := hs₂.extBut _ _ D.TOi1 (hs₁.extBut _ _ D.TOz hTO)
 refine wpAny_bind (wpAny_seqItems hTO₂ rfl ?_)
 refine wpAny_bind (wpAny_updateSeq_pair hTO₂ fun h₃ hTO₃ hs₃ => ?_)
 replace hTO₃ : IsPair h₃ TO x b := hTO₃
 refine wpAny_bind (wpAny_letGo (wpAny_pure ?_))
 refine wpAny_bind (wpAny_bind (wpAny_onRaise ?_))
 show wpAny _ _ (Builtin.SmallTypes.nextOf (.ref i2) >>= _) _ _ _
 refine wpAny_bind (xi9 (((h2.extBut hs₁.extBut D.i2z).extBut hs₂.extBut D.i12.symm).extBut hs₃.extBut D.TOi2.symm)
  (((hl2.extBut hs₁.extBut D.l2z).extBut hs₂.extBut D.l2i1).extBut hs₃.extBut D.l2TO) hy fun h₄ h2₄ hs₄ => wpAny_pure ?_)
 have hTO₄ : IsPair h₄ TO x b := hs₄.extBut _ _ D.TOi2 hTO₃
 refine wpAny_bind (wpAny_seqItems hTO₄ rfl ?_)
 refine wpAny_bind (wpAny_updateSeq_pair hTO₄ fun h₅ hTO₅ hs₅ => ?_)
 replace hTO₅ : IsPair h₅ TO x y := hTO₅
 refine wpAny_bind (wpAny_letGo (wpAny_pure (wpAny_pure ?_)))
 refine wpAny_bind (wpAny_seqItems hTO₅ rfl ?_)
 refine wpAny_bind (wpAny_newTuple ?_)
 have hsz : h₅.objs.size = s.heap.objs.size := by rw [hs₅.1, hs₄.1, hs₃.1, hs₂.1, hs₁.1]
 have hz₅ : IsZip h₅ z TI TO .ellipsis := hs₅.extBut _ _ D.TOz.symm (hs₄.extBut _ _ D.i2z.symm (hs₃.extBut _ _ D.TOz.symm (hs₂.extBut _ _ D.i1z.symm hz₁)))
 have hk₅ : ∀ c o, c ≠ z -> c ≠ TO -> c ≠ i1 -> c ≠ i2 -> s.heap.get? c = some o -> h₅.get? c = some o := fun c o c1 c2 c3 c4 e =>
  hs₅.extBut _ _ c2 (hs₄.extBut _ _ c4 (hs₃.extBut _ _ c2 (hs₂.extBut _ _ c3 (hs₁.extBut _ _ c1 e))))
 have h1₅ : h₅.IsTupleIter i1 l1 (k1 + 1) := ((h1₂.extBut hs₃.extBut D.TOi1.symm).extBut hs₄.extBut D.i12).extBut hs₅.extBut D.TOi1.symm
 have h2₅ : h₅.IsTupleIter i2 l2 (k2 + 1) := h2₄.extBut hs₅.extBut D.TOi2.symm
 have hzlt : z < h₅.objs.size := Heap.lt_size hz₅
 show wpAny _ _ (Builtin.SmallTypes.ownedTupleHandOut (.ref z) (.ref h₅.objs.size) >>= _) _ _ _
 refine wpAny_bind ?_
 unfold Builtin.SmallTypes.ownedTupleHandOut
 have hz₆ : IsZip (h₅.push { cls := .type "tuple", data := .seq #[x, y] }) z TI TO .ellipsis := Heap.get?_push_of_some _ hz₅
 refine wpAny_bind (wpAny_setField_rec hz₆ (by simp) fun h₇ hz₇ hs₇ => ?_)
 replace hz₇ : IsZip h₇ z TI TO (rawInt h₅.objs.size) := hz₇
 refine wpAny_setField_rec hz₇ (by simp) fun h₈ hz₈ hs₈ => ?_
 replace hz₈ : IsZip h₈ z TI TO (rawInt h₅.objs.size) := hz₈
 have up : ∀ c o, c ≠ z -> h₅.get? c = some o -> h₈.get? c = some o := fun c o c1 e => hs₈.extBut _ _ c1 (hs₇.extBut _ _ c1 (Heap.get?_push_of_some _ e))
 have hT₈ : IsPair h₈ h₅.objs.size x y := hs₈.extBut _ _ (Nat.ne_of_gt hzlt) (hs₇.extBut _ _ (Nat.ne_of_gt hzlt) (Heap.get?_push_size _ rfl))
 have hz8 : h₈.objs.size = h₅.objs.size + 1 := by rw [hs₈.1, hs₇.1, Heap.size_push]
 rw [hsz] at hz₈ hT₈ hz8
 refine wpAny_pure ⟨_, rfl, ?_⟩
 show Q (.ref h₅.objs.size) _
 rw [hsz]
 exact hQ h₈ hz₈ (up _ _ D.TOz hTO₅) (h1₅.at fun o e => up _ o D.i1z e) (h2₅.at fun o e => up _ o D.i2z e) hT₈ hz8 fun c o c1 c2 c3 c4 e => up c o c1 (hk₅ c o c1 c2 c3 c4 e)
theorem alive {a : Addr} {o : Obj} {Q : Option Obj -> Shared -> Prop} (ho : s.heap.get? a = some o) (h : Q (some o) s) : wpAny (model prog w) A (loadIfAlive a) Q E s := by
 intro Γ p hΓ
 unfold loadIfAlive
 first
  | (rw [Sem.wp_loadIfAlive, ho]; exact h)
  | (simp only [Sem.wp_loadIfAlive, ho]; exact h)
theorem ends {z TI TO i1 i2 l1 l2 : Addr} {k : Nat} {xs ys : Array Value} {Q : Fin -> Shared -> Prop} (hh : A.handled = none) (D : ZipApart z TI TO i1 i2 l1 l2) (S : Zs s.heap z TI TO i1 i2 l1 l2 xs ys k) (hx : xs[k]? = none)
  (hE : ∀ h' e, (∀ c o, c ≠ z -> c ≠ i1 -> s.heap.get? c = some o -> h'.get? c = some o) -> (∃ o, h'.get? e = some o /\ o.cls = .type "StopIteration") -> E (.ref e) { s with heap := h' }) :
  wpAny (model prog w) A (Builtin.«zip.__next__» ⟨[.ref z], []⟩) Q E s := by
 obtain ⟨hz, hTI, ⟨a, b, hTO⟩, h1, h2, hl1, hl2⟩ := S
 rcases hz with hz | ⟨T, bb, oT, hz, hT, hTz⟩
 ·show wpAny _ _ (field (.ref z) 2 >>= _) _ _ _
  refine wpAny_bind (wpAny_field hz rfl (x := .bool false) rfl ?_)
  show wpAny _ _ (field (.ref z) 3 >>= _) _ _ _
  refine wpAny_bind (wpAny_field hz rfl (x := .ref TI) rfl ?_)
  refine wpAny_bind (wpAny_seqItems hTI rfl ?_)
  show wpAny _ _ (Builtin.SmallTypes.ownedTupleIsFree (.ref z) >>= _) _ _ _
  refine wpAny_bind ?_
  unfold Builtin.SmallTypes.ownedTupleIsFree
  refine wpAny_bind (wpAny_field hz rfl (x := .none) rfl (wpAny_pure ?_))
  simp only [if_true]
  refine wpAny_bind (wpAny_rule ?_)
  refine wpAny_bind (wpAny_field hz rfl (x := .ref TO) rfl ?_)
  refine wpAny_bind (wpAny_setField_rec hz (by simp) fun h₁ hz₁ hs₁ => ?_)
  replace hz₁ : IsZip h₁ z TI TO .ellipsis := hz₁
  refine wpAny_bind ?_
  simp only [List.zipIdx_cons, List.zipIdx_nil, List.forIn_cons, List.forIn_nil]
  refine wpAny_bind (wpAny_bind (wpAny_onRaise ?_))
  show wpAny _ _ (Builtin.SmallTypes.nextOf (.ref i1) >>= _) _ _ _
  refine wpAny_bind (xha hh (h1.extBut hs₁.extBut D.i1z) (hl1.extBut hs₁.extBut D.l1z) hx fun h₂ e hs₂ he => ?_)
  obtain ⟨oe, hoe, hce⟩ := he
  have hz₂ : IsZip h₂ z TI TO .ellipsis := hs₂ _ _ D.i1z.symm hz₁
  have hez : e ≠ z := fun x => by subst x; rw [hz₂] at hoe; cases hoe; simp at hce
  refine wpAny_setField_rec hz₂ (by simp) fun h₃ _ hs₃ => hE h₃ e (fun c o c1 c3 x => hs₃.extBut _ _ c1 (hs₂ _ _ c3 (hs₁.extBut _ _ c1 x))) ⟨oe, hs₃.extBut _ _ hez hoe, hce⟩
 ·show wpAny _ _ (field (.ref z) 2 >>= _) _ _ _
  refine wpAny_bind (wpAny_field hz rfl (x := .bool false) rfl ?_)
  show wpAny _ _ (field (.ref z) 3 >>= _) _ _ _
  refine wpAny_bind (wpAny_field hz rfl (x := .ref TI) rfl ?_)
  refine wpAny_bind (wpAny_seqItems hTI rfl ?_)
  show wpAny _ _ (Builtin.SmallTypes.ownedTupleIsFree (.ref z) >>= _) _ _ _
  refine wpAny_bind ?_
  unfold Builtin.SmallTypes.ownedTupleIsFree
  refine wpAny_bind (wpAny_field hz rfl (x := rawInt T) rfl ?_)
  show wpAny _ _ (loadIfAlive ((T : Int).toNat) >>= _) _ _ _
  rw [Int.toNat_natCast]
  refine wpAny_bind (alive hT ?_)
  simp only [Option.isNone_some, Bool.false_eq_true, if_false]
  refine wpAny_bind (wpAny_field hz rfl (x := .bool bb) rfl ?_)
  cases bb with
  | true =>
   simp only [bne_self_eq_false, Bool.false_eq_true, if_false]
   refine wpAny_pure ?_
   simp only [Bool.false_eq_true, if_false, List.forIn_toArray, List.forIn_cons, List.forIn_nil]
   refine wpAny_bind (wpAny_bind (wpAny_bind (wpAny_holding ?_)))
   show wpAny _ _ (Builtin.SmallTypes.nextOf (.ref i1) >>= _) _ _ _
   exact wpAny_bind (xha hh h1 hl1 hx fun h₂ e hs₂ he => hE h₂ e (fun c o c1 c3 x => hs₂ _ _ c3 x) he)
  | false =>
   rw [if_pos (by rfl)]
   refine wpAny_bind (wpAny_setField_rec hz (by simp) fun h₁ hz₁ hs₁ => ?_)
   refine wpAny_pure ?_
   simp only [Bool.false_eq_true, if_false, List.forIn_toArray, List.forIn_cons, List.forIn_nil]
   refine wpAny_bind (wpAny_bind (wpAny_bind (wpAny_holding ?_)))
   show wpAny _ _ (Builtin.SmallTypes.nextOf (.ref i1) >>= _) _ _ _
   exact wpAny_bind (xha hh (h1.extBut hs₁.extBut D.i1z) (hl1.extBut hs₁.extBut D.l1z) hx fun h₂ e hs₂ he => hE h₂ e (fun c o c1 c3 x => hs₂ _ _ c3 (hs₁.extBut _ _ c1 x)) he)
theorem pyNext_end {z TI TO i1 i2 l1 l2 : Addr} {k : Nat} {xs ys : Array Value} {Q : Option Value -> Shared -> Prop} (hh : A.handled = none) (D : ZipApart z TI TO i1 i2 l1 l2) (S : Zs s.heap z TI TO i1 i2 l1 l2 xs ys k) (hx : xs[k]? = none)
  (hQ : ∀ h', (∀ c o, c ≠ z -> c ≠ i1 -> s.heap.get? c = some o -> h'.get? c = some o) -> Q none { s with heap := h' }) : wpAny (model prog w) A (pyNext (.ref z)) Q E s := by
 have hT : s.TypeIs (.ref z) "zip" := by
  rcases S.zip with hz | ⟨T, bb, oT, hz, _⟩ <;> exact ⟨_, hz, rfl⟩
 unfold pyNext
 refine wpAny_bind (wpAny_attempt (wpAny_callSpecial?_slot (name := Str.ofString "__next__") hT F.slot_zip_next
  (wpAny_call_entry F.slot_zip_next hT F.entry_zip_next (ends hh D S hx fun h' e hk he => ?_) (F.args_zip_next_1 _))))
 obtain ⟨o, ho, hc⟩ := he
 refine wpAny_bind (wpAny_isInstance (T := "StopIteration") (b := true) ⟨o, ho, hc⟩ isSubtype_stop ?_)
 exact wpAny_pure (hQ _ hk)
end
abbrev zH1 (h : Heap) (l1 : Addr) : Heap := h.push { cls := .type "tuple_iterator", data := .fields #[.ref l1, .int 0 0] }
abbrev zH2 (h : Heap) (l1 l2 : Addr) : Heap := (zH1 h l1).push { cls := .type "tuple_iterator", data := .fields #[.ref l2, .int 0 0] }
abbrev zH3 (h : Heap) (l1 l2 : Addr) : Heap := (zH2 h l1 l2).push { cls := .type "tuple", data := .seq #[.ref h.objs.size, .ref (zH1 h l1).objs.size] }
abbrev zH4 (h : Heap) (l1 l2 : Addr) : Heap := (zH3 h l1 l2).push { cls := .type "tuple", data := .seq #[.none, .none] }
abbrev zH5 (h : Heap) (l1 l2 : Addr) : Heap := (zH4 h l1 l2).push { cls := .type "zip", data := .fields #[.none, .bool false, .bool false, .ref (zH2 h l1 l2).objs.size, .ref (zH3 h l1 l2).objs.size] }
theorem xob (l1 l2 : Addr) (xs ys : Array Value) :
  Meets (Builtin.«zip.__new__» ⟨[.type "zip", .ref l1, .ref l2], []⟩) (fun _ R s => s.heap.IsTuple l1 xs /\ s.heap.IsTuple l2 ys ∧
   R (.ok (.ret (.ref (zH4 s.heap l1 l2).objs.size))) { s with heap := zH5 s.heap l1 l2 }) :=
 .of_wp fun prog w A R s h => by
  obtain ⟨hp, g, d, tk, os⟩ := s; obtain ⟨hl1, hl2, h⟩ := h
  have hsub := sub_zip
  have hL1 : Heap.IsTuple (Shared.heap ⟨hp, g, d, tk, os⟩) l1 xs := hl1
  have hL2 : Heap.IsTuple (Shared.heap ⟨hp.push { cls := .type "tuple_iterator", data := .fields #[.ref l1, .int 0 0] }, g, d, tk, os⟩) l2 ys := Heap.IsTuple.push hl2 _
  wp_walk using wpAny_pyIter_tuple hL1, wpAny_pyIter_tuple hL2
  exact ⟨_, rfl, h⟩
end Zt
end
section
namespace L2
open PySem PySem.Spec PyProof.Rows
abbrev TJ := St -> Hp -> Str -> VK -> Prop
def PJ (X : Cx) (es : List Expr) (t : TJ) : Prop :=
 ∀ (pins : List (Addr × Obj)) (s : Shared) (σ : St) (H : Hp) (out : Str) (Q : VK), Inv X pins σ H s -> t σ H out Q -> wpAny (model X.prog X.w) X.A (joinParts out (evalEach es X.env)) (EP X pins σ Q) X.xe s
def jNil : TJ := fun _ H out Q => out.length <= sizeLine /\ Q (.str out) H
def jLit (x : Str) (t : TJ) : TJ := fun σ H out Q => (out ++ x).length <= sizeLine /\ t σ H (out ++ x) Q
def jStr (te : TE) (t : TJ) : TJ := fun σ H out Q => te σ H fun v H1 => ∃ x, v = .str x /\ x.length <= sizeLine /\ (out ++ x).length <= sizeLine /\ t σ H1 (out ++ x) Q
section
variable {X : Cx} {e e1 e2 : Expr} {es : List Expr} {te : TE} {t : TJ} {pos : Pos}
theorem xtk : PJ X [] jNil := fun _ _ _ H out _ I h => joinParts_nilE (joinParts_nil ⟨.str out, H, I.tok _, ⟨_, rfl⟩, h.2⟩ h.1)
theorem xtl {x : Str} {j} (h : PJ X es t) : PJ X (.Constant (.str x) j pos :: es) (jLit x t) := by
 intro pins s σ H out Q I hw
 refine joinParts_consE (joinParts_cons (thn (pS (X := X) pins s σ H (fun v H' => v = .str x /\ H' = H) I ⟨rfl, rfl⟩) fun v s1 ⟨z, H1, I1, r, e1, e2⟩ => ?_))
 subst e1 e2
 obtain ⟨t', rfl⟩ := r
 exact ⟨hw.1, h pins s1 σ _ _ Q I1 hw.2⟩
theorem xtj (he : PE X e te) (h : PJ X es t) : PJ X (.FormattedValue e (-1) none pos :: es) (jStr te t) := by
 intro pins s σ H out Q I hw
 refine joinParts_consE (joinParts_cons (FormattedValue_plain (thn (he pins s σ H _ I hw) fun v s1 ⟨z, H1, I1, r, x, e, hz, hl, q⟩ => ?_)))
 subst e
 obtain ⟨t', rfl⟩ := r
 exact formatField_str (fun t'' tk => ⟨hl, h pins _ σ H1 _ Q (I1.tok tk) q⟩) hz
theorem xrw (h : PJ X (e1 :: e2 :: es) t) : PE X (.JoinedStr (e1 :: e2 :: es) pos) (fun σ H Q => t σ H Str.empty Q) := fun pins s σ H Q I hw => JoinedStr_many (h pins s σ H _ Q I hw)
end
end L2
end
section
namespace L2
open PySem PySem.Spec PyProof.Rows
section
variable {es : List Expr} {env : Env}
theorem zso {c k p} : starEach (.Constant c k p :: es) env = (false, eval (.Constant c k p) env) :: starEach es env := rfl
theorem zsn {x p} : starEach (.Name x p :: es) env = (false, eval (.Name x p) env) :: starEach es env := rfl
theorem zsc {a b c d} : starEach (.Call a b c d :: es) env = (false, eval (.Call a b c d) env) :: starEach es env := rfl
theorem xax {a b c d} : starEach (.BinOp a b c d :: es) env = (false, eval (.BinOp a b c d) env) :: starEach es env := rfl
theorem ss {a b c} : starEach (.Subscript a b c :: es) env = (false, eval (.Subscript a b c) env) :: starEach es env := rfl
theorem sT {a b c} : starEach (.Tuple a b c :: es) env = (false, eval (.Tuple a b c) env) :: starEach es env := rfl
theorem xpk {a b} : starEach (.List a b :: es) env = (false, eval (.List a b) env) :: starEach es env := rfl
theorem xgu {a b c d} : starEach (.Compare a b c d :: es) env = (false, eval (.Compare a b c d) env) :: starEach es env := rfl
theorem xm4 {a b c} : starEach (.BoolOp a b c :: es) env = (false, eval (.BoolOp a b c) env) :: starEach es env := rfl
theorem xm2 {a b} : starEach (.JoinedStr a b :: es) env = (false, eval (.JoinedStr a b) env) :: starEach es env := rfl
theorem xbj {a b c d} : starEach (.ListComp a b c d :: es) env = (false, eval (.ListComp a b c d) env) :: starEach es env := rfl
end
end L2
namespace L2
open PySem PySem.Spec PyProof.Rows
end L2
end
section
namespace M
open PySem
end M
end
section
namespace M
open PySem
inductive D where
 | int (i : Int)
 | str (x : Str)
 | tup (ds : List D)
inductive All2 {α β : Type} (R : α -> β -> Prop) : List α -> List β -> Prop where
 | nil : All2 R [] []
 | cons {a b as bs} (h : R a b) (t : All2 R as bs) : All2 R (a :: as) (b :: bs)
theorem All2.length {α β : Type} {R : α -> β -> Prop} {as : List α} {bs : List β} (h : All2 R as bs) : as.length = bs.length := by
 induction h with
 | nil => rfl
 | cons _ _ ih => simp [ih]
theorem All2.imp {α β : Type} {R S : α -> β -> Prop} {as : List α} {bs : List β} (h : All2 R as bs) (f : ∀ a b, R a b -> S a b) : All2 S as bs := by
 induction h with
 | nil => exact .nil
 | cons h _ ih => exact .cons (f _ _ h) ih
theorem All2.get {α β : Type} {R : α -> β -> Prop} {as : List α} {bs : List β} (h : All2 R as bs) : ∀ {i : Nat} {a : α}, as[i]? = some a -> ∃ b, bs[i]? = some b /\ R a b := by
 induction h with
 | nil => intro i a e; simp at e
 | cons h _ ih =>
  intro i a e
  cases i with
  | zero => simp at e; subst e; exact ⟨_, by simp, h⟩
  | succ i => simpa using ih (i := i) (a := a) (by simpa using e)
def S (s : String) : Str := Str.ofString s
def xd1 (c : Nat) : Bool := 97 <= c && c <= 122
def xn9 (x : List Nat) : Bool := 1 <= x.length && x.length <= 6 && x.all xd1 && x != [110, 117, 109] && x != [105, 116]
def Name (x : Str) : Prop := xn9 x.cps.toList = true
theorem Name.le {x : Str} (h : Name x) : x.cps.toList.length <= 6 := by
 unfold Name xn9 at h
 simp only [Bool.and_eq_true, decide_eq_true_eq] at h
 exact h.1.1.1.2
end M
end
section
namespace M
open PySem
end M
end
section
namespace M
open PySem
def L (x : Str) : List Nat := x.cps.toList
def ofL (l : List Nat) : Str := ⟨l.toArray⟩
theorem xc3 (l : List Nat) : L (ofL l) = l := rfl
theorem ofL_L (x : Str) : ofL (L x) = x := by
 cases x
 rfl
theorem xpf {x y : Str} (h : L x = L y) : x = y := by
 rw [<- ofL_L x, <- ofL_L y, h]
theorem xdi (x y : Str) : L (x ++ y) = L x ++ L y := by
 show (x.cps ++ y.cps).toList = _
 simp [L]
theorem xd7 (x : Str) : (L x).length = x.length := by
 simp [L, Str.length]
end M
end
section
namespace M
open PySem
end M
end
section
namespace M
open PySem
end M
end
section
namespace M
open PySem L2
mutual
def RelD (H : Hp) : V -> D -> Prop
 | v, .int i => v = .int i
 | v, .str x => v = .str x
 | v, .tup ds => ∃ a vs, v = .ref a /\ H a = some (.tup vs) /\ RelDs H vs ds
def RelDs (H : Hp) : List V -> List D -> Prop
 | vs, [] => vs = []
 | vs, d :: ds => ∃ v r, vs = v :: r /\ RelD H v d /\ RelDs H r ds
end
mutual
theorem RelD.same {H H' : Hp} (s : Same H H') : ∀ {v : V} (d : D), RelD H v d -> RelD H' v d
 | v, .int i, h => h
 | v, .str x, h => h
 | v, .tup ds, ⟨a, vs, e, ha, h⟩ => ⟨a, vs, e, s _ _ ha, RelDs.same s ds h⟩
theorem RelDs.same {H H' : Hp} (s : Same H H') : ∀ {vs : List V} (ds : List D), RelDs H vs ds -> RelDs H' vs ds
 | vs, [], h => h
 | vs, d :: ds, ⟨v, r, e, h1, h2⟩ => ⟨v, r, e, RelD.same s d h1, RelDs.same s ds h2⟩
end
theorem RelDs.length {H : Hp} : ∀ {vs : List V} {ds : List D}, RelDs H vs ds -> vs.length = ds.length
 | vs, [], h => by rw [show vs = [] from h]; rfl
 | vs, d :: ds, ⟨v, r, e, _, h2⟩ => by rw [e, List.length_cons, List.length_cons, RelDs.length h2]
theorem RelDs.append {H : Hp} : ∀ {vs us : List V} {ds es : List D}, RelDs H vs ds -> RelDs H us es -> RelDs H (vs ++ us) (ds ++ es)
 | vs, us, [], es, h, k => by rw [show vs = [] from h]; exact k
 | vs, us, d :: ds, es, ⟨v, r, e, h1, h2⟩, k => by subst e; exact ⟨v, r ++ us, rfl, h1, RelDs.append h2 k⟩
theorem RelDs.get {H : Hp} : ∀ {vs : List V} {ds : List D} {i : Nat} {v : V}, RelDs H vs ds -> vs[i]? = some v -> ∃ d, ds[i]? = some d /\ RelD H v d
 | vs, [], i, v, h, e => by rw [show vs = [] from h] at e; simp at e
 | vs, d :: ds, 0, v, ⟨u, r, e0, h1, _⟩, e => by
  subst e0
  simp at e
  subst e
  exact ⟨d, rfl, h1⟩
 | vs, d :: ds, i + 1, v, ⟨u, r, e0, _, h2⟩, e => by
  subst e0
  obtain ⟨x, hx, hr⟩ := RelDs.get (i := i) (v := v) h2 (by simpa using e)
  exact ⟨x, by simpa using hx, hr⟩
end M
namespace M
open PySem L2
theorem iteKF {c A B : Prop} [Decidable c] (h : decide c = false) (b : B) : if decide c = true then A else B := by
 rw [h]
 exact b
theorem iteKT {c A B : Prop} [Decidable c] (h : decide c = true) (a : A) : if decide c = true then A else B := by
 rw [h]
 exact a
theorem xmk {c : Bool} {A B : Prop} (h : c = false) (b : B) : if c = true then A else B := by
 rw [h]
 exact b
end M
end
section
namespace M
open PySem L2
end M
end
section
namespace M
open PySem L2
mutual
theorem RelD.tups {H H' : Hp} (s : ∀ b vs, H b = some (.tup vs) -> H' b = some (.tup vs)) : ∀ {v : V} (d : D), RelD H v d -> RelD H' v d
 | v, .int i, h => h
 | v, .str x, h => h
 | v, .tup ds, ⟨a, vs, e, ha, h⟩ => ⟨a, vs, e, s _ _ ha, RelDs.tups s ds h⟩
theorem RelDs.tups {H H' : Hp} (s : ∀ b vs, H b = some (.tup vs) -> H' b = some (.tup vs)) : ∀ {vs : List V} (ds : List D), RelDs H vs ds -> RelDs H' vs ds
 | vs, [], h => h
 | vs, d :: ds, ⟨v, r, e, h1, h2⟩ => ⟨v, r, e, RelD.tups s d h1, RelDs.tups s ds h2⟩
end
theorem xai {a : Addr} {H H' : Hp} (hf : ∃ p q : Int, H a = some (.lst [.int p, .int q])) (f : Fed a H H') : ∀ b vs, H b = some (.tup vs) -> H' b = some (.tup vs) := fun b vs e => f.1 b _ e fun z => by
 obtain ⟨p, q, h⟩ := hf
 rw [z, h] at e
 cases e
def xck (c : Nat) : Str := ⟨#[c]⟩
theorem xji : ∀ cs : List Nat, Txt.join (S "") (cs.map xck) = ofL cs := by
 have h : ∀ cs : List Nat, L (Str.join (S "") (cs.map xck)) = cs := by
  intro cs
  induction cs with
  | nil => rfl
  | cons c r ih =>
   cases r with
   | nil => rfl
   | cons d r =>
    show L (xck c ++ S "" ++ Str.join (S "") ((d :: r).map xck)) = _
    rw [xdi, xdi, ih]
    have e : L (S "") = [] := by walk_at "k"
    rw [e]
    rfl
 intro cs
 apply xpf
 show L (Builtin.Str.glued (S "") (cs.map xck)) = cs
 rw [StrLaws.glued_eq_join, h]
theorem xj0 (cs : List Nat) : ((cs.map xck).map (·.length)).sum = cs.length := by
 induction cs with
 | nil => rfl
 | cons c r ih =>
  show (xck c).length + ((r.map xck).map (·.length)).sum = r.length + 1
  rw [ih, show (xck c).length = 1 from rfl]
  omega
theorem xlz {α : Type} {cs : List α} {r : Int} (h0 : 0 <= r) (h : r < (cs.length : Int)) : ∃ c ∈ cs, atI cs r = some c := by
 have hk : r.toNat < cs.length := by omega
 have ek : r = ((r.toNat : Nat) : Int) := by omega
 refine ⟨cs[r.toNat], List.getElem_mem hk, ?_⟩
 have q : atI cs ((r.toNat : Nat) : Int) = some cs[r.toNat] := xap (zGA hk)
 rw [<- ek] at q
 exact q
end M
end
section
namespace L2
open PySem PySem.Spec PyProof.Rows
section
variable {κ : Type} [DecidableEq κ]
def valV (kvs : List (κ × V)) (k : κ) : Option V := (kvs.find? fun kv => decide (kv.1 = k)).map (·.2)
def putK (kvs : List (κ × V)) (k : κ) (v : V) : List (κ × V) :=
 if (kvs.any fun kv => decide (kv.1 = k)) = true then kvs.map (fun kv => if kv.1 = k then (kv.1, v) else kv) else kvs ++ [(k, v)]
theorem xbx {p : κ × V} {r : List (κ × V)} {k : κ} (e : p.1 = k) : valV (p :: r) k = some p.2 := by simp [valV, List.find?_cons, e]
theorem xby {p : κ × V} {r : List (κ × V)} {k : κ} (e : ¬ p.1 = k) : valV (p :: r) k = valV r k := by simp [valV, List.find?_cons, e]
theorem xez (k : κ) : ∀ kvs : List (κ × V), (kvs.any fun kv => decide (kv.1 = k)) = (valV kvs k).isSome
 | [] => rfl
 | p :: r => by
  rw [List.any_cons]
  by_cases e : p.1 = k
  ·simp only [xbx e, zDT e, Bool.true_or, Option.isSome_some]
  ·rw [xby e, zDF e, Bool.false_or]; exact xez k r
theorem xk3 (k j : κ) (y : V) : ∀ kvs : List (κ × V), valV (kvs.map fun kv => if kv.1 = k then (kv.1, y) else kv) j = (valV kvs j).map fun x => if j = k then y else x
 | [] => rfl
 | p :: r => by
  have ih := xk3 k j y r
  rw [List.map_cons]
  by_cases h : p.1 = k
  ·rw [if_pos h]
   by_cases e : p.1 = j
   ·rw [xbx (p := (p.1, y)) e, xbx e, Option.map_some, if_pos (e.symm.trans h)]
   ·rw [xby (p := (p.1, y)) e, xby e, ih]
  ·rw [if_neg h]
   by_cases e : p.1 = j
   ·rw [xbx (p := p) e, xbx e, Option.map_some, if_neg (fun z => h (e.trans z))]
   ·rw [xby (p := p) e, xby e, ih]
theorem xhs (k j : κ) (y : V) : ∀ kvs : List (κ × V), valV kvs k = none -> valV (kvs ++ [(k, y)]) j = if j = k then some y else valV kvs j
 | [], _ => by
  by_cases e : k = j
  ·rw [if_pos e.symm]; exact xbx (p := (k, y)) e
  ·rw [if_neg (fun z => e z.symm)]; exact xby (p := (k, y)) e
 | p :: r, hn => by
  rw [List.cons_append]
  have hk : ¬ p.1 = k := fun z => by rw [xbx z] at hn; cases hn
  rw [xby hk] at hn
  have ih := xhs k j y r hn
  by_cases e : p.1 = j
  ·rw [xbx e, xbx e, if_neg (fun z => hk (e.trans z))]
  ·rw [xby e, xby e, ih]
theorem xdv (kvs : List (κ × V)) (k j : κ) (y : V) : valV (putK kvs k y) j = if j = k then some y else valV kvs j := by
 unfold putK
 by_cases a : (kvs.any fun kv => decide (kv.1 = k)) = true
 ·rw [if_pos a, xk3]
  rw [xez] at a
  by_cases e : j = k
  ·obtain ⟨x, hx⟩ := Option.isSome_iff_exists.mp a
   rw [if_pos e, e, hx, Option.map_some, if_pos rfl]
  ·rw [if_neg e]
   cases valV kvs j with
   | none => rfl
   | some x => rw [Option.map_some, if_neg e]
 ·rw [if_neg a]
  refine xhs k j y kvs ?_
  rw [xez] at a
  cases q : valV kvs k with
  | none => rfl
  | some x => rw [q] at a; exact (a rfl).elim
theorem xc0 (kvs : List (κ × V)) (k : κ) (v : V) : (putK kvs k v).length <= kvs.length + 1 := by
 unfold putK
 split
 ·rw [zLM]; omega
 ·rw [List.length_append, List.length_cons, List.length_nil]; omega
theorem RelO.isSome_eq {o : Option V} {u : Option Value} (r : RelO o u) : o.isSome = u.isSome := by
 cases o with
 | none => cases u with
  | none => rfl
  | some _ => exact (show False from r).elim
 | some _ => cases u with
  | none => exact (show False from r).elim
  | some _ => rfl
theorem KV.val {kvs : List (κ × V)} {vs : List (κ × Value)} (r : KV kvs vs) (k : κ) : RelO (valV kvs k) (valueAt vs k) := by
 unfold KV at r
 induction r with
 | nil => exact True.intro
 | @cons p q ps qs h t ih =>
  obtain ⟨h1, h2⟩ := h
  by_cases e : p.1 = k
  ·have e' : q.1 = k := h1.symm.trans e
   have b : valueAt (q :: qs) k = some q.2 := by simp [valueAt, List.find?_cons, e']
   rw [xbx e, b]; exact h2
  ·have e' : ¬ q.1 = k := fun z => e (h1.trans z)
   have b : valueAt (q :: qs) k = valueAt qs k := by simp [valueAt, List.find?_cons, e']
   rw [xby e, b]; exact ih
theorem KV.any {kvs : List (κ × V)} {vs : List (κ × Value)} (r : KV kvs vs) (k : κ) : (kvs.any fun kv => decide (kv.1 = k)) = vs.any fun kv => decide (kv.1 = k) := by
 unfold KV at r
 induction r with
 | nil => rfl
 | cons h t ih => rw [List.any_cons, List.any_cons, ih, h.1]
theorem KV.repl {kvs : List (κ × V)} {vs : List (κ × Value)} (r : KV kvs vs) (k : κ) {y : V} {u : Value} (ry : RelV y u) :
  KV (kvs.map fun kv => if kv.1 = k then (kv.1, y) else kv) (vs.map fun kv => if kv.1 = k then (kv.1, u) else kv) := by
 unfold KV at r ⊢
 induction r with
 | nil => exact .nil
 | @cons p q ps qs h t ih =>
  rw [List.map_cons, List.map_cons]
  refine .cons ?_ ih
  obtain ⟨h1, h2⟩ := h
  by_cases e : p.1 = k
  ·rw [if_pos e, if_pos (h1.symm.trans e)]; exact ⟨h1, ry⟩
  ·rw [if_neg e, if_neg (fun z => e (h1.trans z))]; exact ⟨h1, h2⟩
theorem KV.put {kvs : List (κ × V)} {vs : List (κ × Value)} (r : KV kvs vs) (k : κ) {y : V} {u : Value} (ry : RelV y u) : KV (putK kvs k y) (stored vs k u) := by
 unfold putK stored
 rw [r.any k]
 by_cases e : (vs.any fun kv => decide (kv.1 = k)) = true
 ·rw [if_pos e, if_pos e]; exact r.repl k ry
 ·rw [if_neg e, if_neg e]; exact Paired.snoc r ⟨rfl, ry⟩
theorem KV.length {kvs : List (κ × V)} {vs : List (κ × Value)} (r : KV kvs vs) : kvs.length = vs.length := Paired.length r
end
theorem xkm {P : Program} {w : World} {k : Key} {u : Value} (r : RelV (kV k) u) : (xbd P w).is k u = true := by
 cases k with
 | inl i => obtain ⟨t, e⟩ := (show ∃ t, u = Value.int i t from r); subst e; exact xkj P w i t
 | inr x => obtain ⟨t, e⟩ := (show ∃ t, u = Value.str x t from r); subst e; exact xki P w x t
theorem xjj {P : Program} {w : World} : ∀ {ks : List Key} {us : List Value}, Vals (ks.map kV) us -> ItemsAre (xbd P w) ks us
 | [], _, r => by rw [List.map_nil] at r; cases r; exact .nil
 | k :: ks, _, r => by
  rw [List.map_cons] at r
  cases r with
  | cons h t => exact .cons (xkm h) (xjj t)
abbrev KT (H : Hp) : List (List Key × V) -> List (List Key × Addr × Value) -> Prop := Paired fun p q => p.1 = q.1 /\ H q.2.1 = some (.tup (p.1.map kV)) /\ RelV p.2 q.2.2
theorem KT.val {H : Hp} {kvs : List (List Key × V)} {xs : List (List Key × Addr × Value)} (r : KT H kvs xs) (k : List Key) : RelO (valV kvs k) ((atKey xs k).map (·.2)) := by
 induction r with
 | nil => exact True.intro
 | @cons p q ps qs h t ih =>
  obtain ⟨h1, _, h2⟩ := h
  by_cases e : p.1 = k
  ·have e' : q.1 = k := h1.symm.trans e
   have b : atKey (q :: qs) k = some q.2 := by simp [atKey, List.find?_cons, e']
   rw [xbx e, b]; exact h2
  ·have e' : ¬ q.1 = k := fun z => e (h1.trans z)
   have b : atKey (q :: qs) k = atKey qs k := by simp [atKey, List.find?_cons, e']
   rw [xby e, b]; exact ih
theorem KT.repl {H : Hp} {kvs : List (List Key × V)} {xs : List (List Key × Addr × Value)} (r : KT H kvs xs) (k : List Key) {y : V} {u : Value} (ry : RelV y u) :
  KT H (kvs.map fun kv => if kv.1 = k then (kv.1, y) else kv) (xs.map (putAt k u)) := by
 induction r with
 | nil => exact .nil
 | @cons p q ps qs h t ih =>
  rw [List.map_cons, List.map_cons]
  refine .cons ?_ ih
  obtain ⟨h1, h2, h3⟩ := h
  unfold putAt
  by_cases e : p.1 = k
  ·rw [if_pos e, if_pos (h1.symm.trans e)]; exact ⟨h1, h2, ry⟩
  ·rw [if_neg e, if_neg (fun z => e (h1.trans z))]; exact ⟨h1, h2, h3⟩
theorem KT.put {H : Hp} {kvs : List (List Key × V)} {xs : List (List Key × Addr × Value)} (r : KT H kvs xs) (k : List Key) {b : Addr} {y : V} {u : Value} (hb : H b = some (.tup (k.map kV))) (ry : RelV y u) :
  KT H (putK kvs k y) (storedH xs k b u) := by
 have e : (kvs.any fun kv => decide (kv.1 = k)) = (atKey xs k).isSome := by
  rw [xez, (r.val k).isSome_eq, Option.isSome_map]
 unfold putK storedH
 rw [e]
 by_cases q : (atKey xs k).isSome = true
 ·rw [if_pos q, if_pos q]; exact r.repl k ry
 ·rw [if_neg q, if_neg q]; exact Paired.snoc r ⟨rfl, hb, ry⟩
theorem KT.keeps {H H' : Hp} {kvs : List (List Key × V)} {xs : List (List Key × Addr × Value)} (r : KT H kvs xs) (ht : ∀ b ys, H b = some (.tup ys) -> H' b = some (.tup ys)) : KT H' kvs xs :=
 Paired.mapP r fun _ _ z => ⟨z.1, ht _ _ z.2.1, z.2.2⟩
section
variable {P : Program} {w : World} {H : Hp} {h : Heap} {a : Addr}
theorem xtf {u : HO} (ok : HOk P w H h) (e : Rd H a u) : ObjOk P w H h a u := e.ok ok
theorem xmm {kvs : List (Key × V)} (ok : HOk P w H h) (e : Rd H a (.dK kvs)) : kvs.length <= sizeLine /\ (a == sysModules) = false /\ ∃ vs, KV kvs vs /\ h.DictOf (xbd P w) a vs :=
 show ObjOk P w H h a (.dK kvs) from xtf ok e
theorem xqh {kvs : List (Key × V)} (ok : HOk P w H h) (e : H a = some (.dK kvs)) : kvs.length <= sizeLine /\ (a == sysModules) = false /\ ∃ vs, KV kvs vs /\ h.DictOf (xbd P w) a vs := xmm ok (.inl e)
theorem xjg {ks : List Key} (ok : HOk P w H h) (e : H a = some (.tup (ks.map kV))) : (tupleKind (xbd P w)).is h ks a := by
 obtain ⟨_, its, r, o, h1, h2, n, h3, _⟩ := (show ObjOk P w H h a (.tup (ks.map kV)) from ok a _ e)
 exact ⟨o, its.toArray, n, h1, h2, h3, by simpa using xjj r⟩
theorem xo0 {kvs : List (List Key × V)} (ok : HOk P w H h) (e : Rd H a (.dT kvs)) : kvs.length <= sizeLine /\ (a == sysModules) = false ∧
  ∃ xs, KT H kvs xs /\ h.DictOfH (tupleKind (xbd P w)) a xs := by
 obtain ⟨z, y, xs, r, o, es, ep, h1, h2, h3, h4, h5⟩ := (show ObjOk P w H h a (.dT kvs) from xtf ok e)
 refine ⟨z, y, xs, r, o, es, ep, h1, h2, h3, h4, fun x hx => ?_, h5⟩
 have all : ∀ {l : List (List Key × V)} {m : List (List Key × Addr × Value)}, KT H l m -> ∀ x ∈ m, (tupleKind (xbd P w)).is h x.1 x.2.1 := by
  intro l m q
  induction q with
  | nil => intro x hx; exact nomatch hx
  | @cons p q ps qs hq t ih =>
   intro x hx
   rcases List.mem_cons.mp hx with e | hx
   ·subst e
    exact xjg ok (by rw [<- hq.1]; exact hq.2.1)
   ·exact ih x hx
 exact all r x hx
theorem dt_of {kvs : List (List Key × V)} (ok : HOk P w H h) (e : H a = some (.dT kvs)) : kvs.length <= sizeLine /\ (a == sysModules) = false ∧
  ∃ xs, KT H kvs xs /\ h.DictOfH (tupleKind (xbd P w)) a xs := xo0 ok (.inl e)
end
def DGet (H : Hp) (a : Addr) (y : V) (r : Option V) : Prop :=
 (∃ kvs k, Rd H a (.dK kvs) /\ y = kV k /\ r = valV kvs k) \/ ∃ kvs k b, Rd H a (.dT kvs) /\ y = .ref b /\ H b = some (.tup (k.map kV)) /\ r = valV kvs k
def DPut (H : Hp) (a : Addr) (y v : V) (H' : Hp) : Prop :=
 (∃ kvs k, H a = some (.dK kvs) /\ y = kV k /\ kvs.length < sizeLine /\ H' = upd H a (.dK (putK kvs k v))) ∨
 ∃ kvs k b, H a = some (.dT kvs) /\ y = .ref b /\ H b = some (.tup (k.map kV)) /\ kvs.length < sizeLine /\ H' = upd H a (.dT (putK kvs k v))
theorem DGet.k {H : Hp} {a : Addr} {kvs : List (Key × V)} {k : Key} (e : H a = some (.dK kvs)) : DGet H a (kV k) (valV kvs k) := .inl ⟨kvs, k, .inl e, rfl, rfl⟩
theorem DPut.k {H : Hp} {a : Addr} {kvs : List (Key × V)} {k : Key} {v : V} (e : H a = some (.dK kvs)) (hl : kvs.length < sizeLine) : DPut H a (kV k) v (upd H a (.dK (putK kvs k v))) := .inl ⟨kvs, k, e, rfl, hl, rfl⟩
section
variable {X : Cx} {pins : List (Addr × Obj)} {σ : St} {H : Hp} {s : Shared} {a : Addr} {y v : V} {u r : Value} {o : Option V} {A : Around} {E : Value -> Shared -> Prop}
theorem Inv.big (I : Inv X pins σ H s) : sysModules < s.heap.objs.size := by
 have h : mainGlobals < s.heap.objs.size := (I.mod.glob.keeps I.bk).lt
 exact Nat.lt_trans (by decide) h
theorem xo5 {Q : Value -> Shared -> Prop} (hu : A.units + 1 < cLine) (I : Inv X pins σ H s) (g : DGet H a y (some v)) (ry : RelV y u) (h : ∀ w' s', Inv X pins σ H s' -> RelV v w' -> Q w' s') :
  wpAny (model X.prog X.w) A (getItem (.ref a) u) Q E s := by
 rcases g with ⟨kvs, k, e, ey, l⟩ | ⟨kvs, k, b, e, ey, eb, l⟩
 ·subst ey
  obtain ⟨z, hd, vs, rel, dd⟩ := xmm I.hok e
  obtain ⟨w', hw, rw'⟩ := RelO.some_of (v := v) (o := valueAt vs k) (by rw [l]; exact rel.val k)
  exact wpAny_getItem_of (xkm ry) dd.mapOf hw (h w' _ (I.tok _) rw')
 ·subst ey
  cases (show u = Value.ref b from ry)
  obtain ⟨z, hd, xs, rel, dd⟩ := xo0 I.hok e
  obtain ⟨w', hw, rw'⟩ := RelO.some_of (v := v) (o := (atKey xs k).map (·.2)) (by rw [l]; exact rel.val k)
  obtain ⟨p, hp, hp2⟩ := zMS hw
  refine wpAny_getItem_heap (tupleKind_room_in1 hu) (xjg I.hok eb) dd hp ?_
  rw [hp2]
  exact h w' _ (I.tok _) rw'
theorem d_in {Q : Value -> Shared -> Prop} (hu : A.units + 1 < cLine) (I : Inv X pins σ H s) (g : DGet H a y o) (ry : RelV y u) (h : ∀ s', Inv X pins σ H s' -> Q (.bool o.isSome) s') :
  wpAny (model X.prog X.w) A (compareOp .In u (.ref a)) Q E s := by
 rcases g with ⟨kvs, k, e, ey, l⟩ | ⟨kvs, k, b, e, ey, eb, l⟩
 ·subst ey
  obtain ⟨z, hd, vs, rel, dd⟩ := xmm I.hok e
  refine wpAny_in_of (xkm ry) hd dd.mapOf ?_
  rw [<- (rel.val k).isSome_eq, <- l]
  exact h _ (I.tok _)
 ·subst ey
  cases (show u = Value.ref b from ry)
  obtain ⟨z, hd, xs, rel, dd⟩ := xo0 I.hok e
  refine wpAny_in_heap (tupleKind_room_in1 hu) (xjg I.hok eb) hd dd ?_
  have q := (rel.val k).isSome_eq
  rw [Option.isSome_map] at q
  rw [<- q, <- l]
  exact h _ (I.tok _)
theorem xsm {Q : Value -> Shared -> Prop} (hu : A.units + 1 < cLine) (I : Inv X pins σ H s) (g : DGet H a y o) (ry : RelV y u) (h : ∀ s', Inv X pins σ H s' -> Q (.bool (!o.isSome)) s') :
  wpAny (model X.prog X.w) A (compareOp .NotIn u (.ref a)) Q E s := by
 rcases g with ⟨kvs, k, e, ey, l⟩ | ⟨kvs, k, b, e, ey, eb, l⟩
 ·subst ey
  obtain ⟨z, hd, vs, rel, dd⟩ := xmm I.hok e
  refine wpAny_notIn_of (xkm ry) hd dd.mapOf ?_
  rw [<- (rel.val k).isSome_eq, <- l]
  exact h _ (I.tok _)
 ·subst ey
  cases (show u = Value.ref b from ry)
  obtain ⟨z, hd, xs, rel, dd⟩ := xo0 I.hok e
  refine wpAny_notIn_heap (tupleKind_room_in1 hu) (xjg I.hok eb) hd dd ?_
  have q := (rel.val k).isSome_eq
  rw [Option.isSome_map] at q
  rw [<- q, <- l]
  exact h _ (I.tok _)
theorem xku {h' : Heap} {t' : Nat} {ob : HO} (I : Inv X pins σ H s) (mu : Mut (H a)) (hs : Heap.SameBut a s.heap h') (he : ∃ q, h'.get? a = some q) (new : ObjOk X.prog X.w (upd H a ob) h' a ob) :
  Inv X pins σ (upd H a ob) { s with heap := h', toks := t' } :=
 I.write (x := a) (e := a) mu (.inl rfl) (fun b q hb z => (hs.2 b hb).trans z) he new
theorem xjo {P : Program} {w : World} {H' : Hp} {h' : Heap} {kvs : List (Key × V)} {vs : List (Key × Value)} (z : kvs.length <= sizeLine) (hd : (a == sysModules) = false) (rel : KV kvs vs) (dd : h'.DictOf (xbd P w) a vs) :
  ObjOk P w H' h' a (.dK kvs) := ⟨z, hd, vs, rel, dd⟩
theorem xo4 {H' : Hp} {Q : Unit -> Shared -> Prop} (hu : A.units + 1 < cLine) (I : Inv X pins σ H s) (g : DPut H a y v H') (ry : RelV y u) (rv : RelV v r) (h : ∀ s', Inv X pins σ H' s' -> Q () s') :
  wpAny (model X.prog X.w) A (setItem (.ref a) u r) Q E s := by
 rcases g with ⟨kvs, k, e, ey, l, eH⟩ | ⟨kvs, k, b, e, ey, eb, l, eH⟩
 ·subst ey eH
  obtain ⟨z, hd, vs, rel, dd⟩ := xqh I.hok e
  have hz : vs.length <= sizeLine := by rw [<- rel.length]; exact z
  have hl : (putK kvs k v).length <= sizeLine := by have := xc0 kvs k v; omega
  refine wpAny_setItem_pairs (hsz := hz) (xkm ry) dd fun h' dd' hs => h _ ?_
  have he : ∃ q, h'.get? a = some q := let ⟨q, _, _, hq, _⟩ := dd'; ⟨q, hq⟩
  exact xku I (by rw [e]; exact True.intro) hs he (xjo hl hd (rel.put k rv) dd')
 ·subst ey eH
  cases (show u = Value.ref b from ry)
  obtain ⟨z, hd, xs, rel, dd⟩ := dt_of I.hok e
  have hz : xs.length <= sizeLine := by rw [<- Paired.length rel]; exact z
  have hl : (putK kvs k v).length <= sizeLine := by have := xc0 kvs k v; omega
  refine wpAny_setItem_heap (hsz := hz) (tupleKind_room_in1 hu) (xjg I.hok eb) dd fun h' dd' hs => h _ ?_
  obtain ⟨q, es, ep, hq, h2, h3, h4, _, h5⟩ := dd'
  refine xku I (by rw [e]; exact True.intro) hs ⟨q, hq⟩ ⟨hl, hd, _, (rel.put k eb rv).keeps fun c ys ec => ?_, q, es, ep, hq, h2, h3, h4, h5⟩
  rw [xaw (ne_of ec e (fun z => nomatch z))]
  exact ec
end
def NoSl (i : Expr) : Prop := ∀ ov iv, subscripted i false ov iv = operate [ov, iv] (getItem ov iv)
theorem xrm {prog : Program} {w : World} {A : Around} {E : Value -> Shared -> Prop} {s : Shared} {env : Env} {value slice : Expr} {pos : Pos} {T id : String} {Q : Value -> Shared -> Prop}
  (hl : typeLookup (.type T) "__getitem__" = pure (some (.builtin id))) (hs : NoSl slice)
  (h : wpAny (model prog w) A (eval value env) (fun o s₁ => wpAny (model prog w) A (eval slice env) (fun i s₂ => s₂.TypeIs o T /\ wpAny (model prog w) A (getItem o i) Q E s₂) E s₁) E s) :
  wpAny (model prog w) A (eval (.Subscript value slice pos) env) Q E s := by
 refine Subscript_ (wpAny_mono h (fun o s₁ h₁ => wpAny_mono h₁ (fun i s₂ h₂ => ?_) fun _ _ x => x) fun _ _ x => x)
 obtain ⟨hT, h₂⟩ := h₂
 unfold subscriptTail
 refine wpAny_bind ?_
 rw [getitemInPython_of_ne hT.not_modules]
 refine wpAny_bind (wpAny_specialOf hT hl ?_)
 have fin : wpAny (model prog w) A (subscripted slice false o i) (fun r s₃ => wpAny (model prog w) A (letTemporaryGo value o r >>= fun _ => pure r) Q E s₃) E s₂ := by
  rw [hs o i]
  exact wpAny_operating (wpAny_mono h₂ (fun r s₃ h₃ => wpAny_bind (wpAny_letTemporaryGo (wpAny_pure h₃))) fun _ _ x => x)
 first
  | exact wpAny_pure (wpAny_bind fin)
  | exact wpAny_bind (wpAny_pure (wpAny_bind fin))
  | exact wpAny_bind fin
theorem xks {X : Cx} {pins : List (Addr × Obj)} {σ : St} {H : Hp} {s : Shared} {a : Addr} {y : V} {o : Option V} (I : Inv X pins σ H s) (g : DGet H a y o) : s.TypeIs (.ref a) "dict" := by
 rcases g with ⟨kvs, k, e, _, _⟩ | ⟨kvs, k, b, e, _, _, _⟩
 ·obtain ⟨_, _, vs, _, dd⟩ := xmm I.hok e
  exact dd.typeIs
 ·obtain ⟨_, _, xs, _, dd⟩ := xo0 I.hok e
  exact dd.typeIs
def tDGet (td ty : TE) : TE := fun σ H Q => td σ H fun x H1 => ty σ H1 fun y H2 => ∃ a v, x = .ref a /\ DGet H2 a y (some v) /\ Q v H2
def tDIn (ty td : TE) : TE := fun σ H Q => ty σ H fun y H1 => td σ H1 fun x H2 => ∃ a o, x = .ref a /\ DGet H2 a y o /\ Q (.bl o.isSome) H2
def xrl (ty td : TE) : TE := fun σ H Q => ty σ H fun y H1 => td σ H1 fun x H2 => ∃ a o, x = .ref a /\ DGet H2 a y o /\ Q (.bl (!o.isSome)) H2
def sDPut (td ty tv : TE) : TS := fun D σ H => tv σ H fun v H1 => td σ H1 fun x H2 => ty σ H2 fun y H3 => ∃ a H4, x = .ref a /\ DPut H3 a y v H4 /\ D.nx σ H4
section
variable {X : Cx} {o i e value : Expr} {pos pos' tpos : Pos} {td ty tv : TE}
theorem xb4 (hu : X.A.units + 1 < cLine) (ho : PE X o td) (hi : PE X i ty) (hs : NoSl i) : PE X (.Subscript o i pos) (tDGet td ty) := by
 intro pins s σ H Q I h
 refine xrm PySem.F.slot_dict_getitem.lookup hs (thn (ho pins s σ H _ I h) fun u s1 ⟨x, H1, I1, rx, q1⟩ => thn (hi pins s1 σ H1 _ I1 q1) fun iv s2 ⟨y, H2, I2, ry, a, v, ex, g, q2⟩ => ?_)
 subst ex
 obtain rfl : u = Value.ref a := rx
 exact ⟨xks I2 g, xo5 hu I2 g ry fun w' s3 I3 rw' => ⟨v, H2, I3, rw', q2⟩⟩
theorem xnu (hu : X.A.units + 1 < cLine) (hi : PE X i ty) (ho : PE X o td) : PC X .In i o (tDIn ty td) := by
 intro pins s σ H Q I h
 refine thn (hi pins s σ H _ I h) fun iv s1 ⟨y, H1, I1, ry, q1⟩ => thn (ho pins s1 σ H1 _ I1 q1) fun u s2 ⟨x, H2, I2, rx, a, ov, ex, g, q2⟩ => ?_
 subst ex
 obtain rfl : u = Value.ref a := rx
 exact d_in hu I2 g ry fun s3 I3 => ⟨.bl ov.isSome, H2, I3, rfl, q2⟩
theorem xdx (hu : X.A.units + 1 < cLine) (hi : PE X i ty) (ho : PE X o td) : PC X .NotIn i o (xrl ty td) := by
 intro pins s σ H Q I h
 refine thn (hi pins s σ H _ I h) fun iv s1 ⟨y, H1, I1, ry, q1⟩ => thn (ho pins s1 σ H1 _ I1 q1) fun u s2 ⟨x, H2, I2, rx, a, ov, ex, g, q2⟩ => ?_
 subst ex
 obtain rfl : u = Value.ref a := rx
 exact xsm hu I2 g ry fun s3 I3 => ⟨.bl (!ov.isSome), H2, I3, rfl, q2⟩
theorem xj7 (hu : X.A.units + 1 < cLine) (ho : PE X o td) (hi : PE X i ty) (hv : PE X value tv) (hs : swapsWith value (some (.Subscript o i pos')) pos.line X.env = pure false) :
  PS X (.Assign [.Subscript o i pos'] value pos) (sDPut td ty tv) := by
 intro pins s σ H D I h
 refine wpAny_Assign_Subscript (thn (hv pins s σ H _ I h) fun r s1 ⟨v, H1, I1, rv, q1⟩ => thn (ho pins s1 σ H1 _ I1 q1) fun u s2 ⟨x, H2, I2, rx, q2⟩ => thn (hi pins s2 σ H2 _ I2 q2) fun iv s3 ⟨y, H3, I3, ry, a, H4, ex, g, q3⟩ => ?_) hs
 subst ex
 obtain rfl : u = Value.ref a := rx
 exact xo4 hu I3 g ry rv fun s4 I4 => ⟨σ, H4, I4, q3⟩
end
theorem xls {P : Program} {w : World} {H : Hp} (h : Heap) (hb : sysModules < h.objs.size) : ObjOk P w H (h.push { cls := .type "dict", data := .dict #[] }) h.objs.size (.dK []) :=
 ⟨Nat.zero_le _, beq_eq_false_iff_ne.mpr (Ne.symm (Nat.ne_of_lt hb)), [], .nil, Heap.DictOf.new h⟩
def xs2 : TE := fun _ H Q => ∀ p, H p = none -> Q (.ref p) (upd H p (.dK []))
section
variable {X : Cx} {pos : Pos}
theorem xpu : PE X (.Dict [] [] pos) xs2 := fun pins s σ H Q I h =>
 wpAny_Dict_empty ⟨.ref s.heap.objs.size, _, I.laid (a := s.heap.objs.size) (o := .dK []) (t' := s.toks) (fun _ _ q => Heap.get?_push_of_some _ q) (Nat.le_refl _) (xls s.heap I.big), rfl, h _ (I.hok.fresh (Nat.le_refl _))⟩
end
def xm0 : List (TE × TE) -> St -> Hp -> (List (V × V) -> Hp -> Prop) -> Prop
 | [], _, H, Q => Q [] H
 | (tk, tv) :: r, σ, H, Q => tk σ H fun x H1 => tv σ H1 fun y H2 => xm0 r σ H2 fun ps H3 => Q ((x, y) :: ps) H3
abbrev VV : List (V × V) -> List (Value × Value) -> Prop := Paired fun p q => RelV p.1 q.1 /\ RelV p.2 q.2
def PPs (X : Cx) (pos : Pos) (keys : List (Option Expr)) (values : List Expr) (trs : List (TE × TE)) : Prop :=
 ∀ (pins : List (Addr × Obj)) (s : Shared) (σ : St) (H : Hp) (Q : List (V × V) -> Hp -> Prop), Inv X pins σ H s -> xm0 trs σ H Q ->
  wpAny (model X.prog X.w) X.A (evalPairs (pairTrees keys values X.env pos)) (fun vs s' => ∃ ps H', Inv X pins σ H' s' /\ VV ps vs /\ Q ps H') X.xe s
theorem xrt {X : Cx} {pos : Pos} : PPs X pos [] [] [] := fun pins s σ H Q I h => pairTrees_nil_walk ⟨[], H, I, .nil, h⟩
theorem xpr {X : Cx} {pos : Pos} {k v : Expr} {ks : List (Option Expr)} {vs : List Expr} {tk tv : TE} {trs : List (TE × TE)} (hk : PE X k tk) (hv : PE X v tv) (hr : PPs X pos ks vs trs) :
  PPs X pos (some k :: ks) (v :: vs) ((tk, tv) :: trs) := fun pins s σ H Q I h =>
 pairTrees_cons_walk (thn (hk pins s σ H _ I h) fun u s1 ⟨x, H1, I1, rx, q1⟩ => thn (hv pins s1 σ H1 _ I1 q1) fun w2 s2 ⟨y, H2, I2, ry, q2⟩ =>
  thn (hr pins s2 σ H2 _ I2 q2) fun ws s3 ⟨ps, H3, I3, rel, q3⟩ => ⟨(x, y) :: ps, H3, I3, .cons ⟨rx, ry⟩ rel, q3⟩)
def xav (kvs more : List (Key × V)) : List (Key × V) := more.foldl (fun acc kv => putK acc kv.1 kv.2) kvs
theorem KV.merge : ∀ {more : List (Key × V)} {rs : List (Key × Value)} {kvs : List (Key × V)} {vs : List (Key × Value)}, KV more rs -> KV kvs vs -> KV (xav kvs more) (merged vs rs) := by
 intro more rs kvs vs r
 unfold KV at r
 induction r generalizing kvs vs with
 | nil => intro q; exact q
 | @cons p q ps qs h t ih =>
  intro r0
  have e : KV (putK kvs p.1 p.2) (stored vs q.1 q.2) := by
   have := r0.put p.1 h.2
   rw [<- h.1]; exact this
  exact ih e
theorem xbq : ∀ (more kvs : List (Key × V)), (xav kvs more).length <= kvs.length + more.length
 | [], kvs => by show kvs.length <= kvs.length + 0; omega
 | p :: r, kvs => by
  have h1 := xbq r (putK kvs p.1 p.2)
  have h2 := xc0 kvs p.1 p.2
  show (xav (putK kvs p.1 p.2) r).length <= _
  rw [List.length_cons]; omega
theorem xgl {P : Program} {w : World} : ∀ {kvs : List (Key × V)} {ws : List (Value × Value)}, VV (kvs.map fun kv => (kV kv.1, kv.2)) ws -> ∃ rs, Carries (xbd P w) ws rs /\ KV kvs rs
 | [], _, r => by rw [List.map_nil] at r; cases r; exact ⟨[], True.intro, .nil⟩
 | p :: kvs, _, r => by
  rw [List.map_cons] at r
  cases r with
  | @cons a b as bs h t =>
   obtain ⟨rs, c, q⟩ := xgl (P := P) (w := w) t
   obtain ⟨b1, b2⟩ := b
   exact ⟨(p.1, b2) :: rs, ⟨xkm h.1, rfl, c⟩, .cons ⟨rfl, h.2⟩ q⟩
def tDisp (trs : List (TE × TE)) : TE := fun σ H Q => ∀ p, H p = none -> xm0 trs σ (upd H p (.dK [])) fun ps H2 => H2 p = some (.dK []) /\ ∃ kvs : List (Key × V), ps = kvs.map (fun kv => (kV kv.1, kv.2)) /\ kvs.length <= 15 /\ Q (.ref p) (upd H2 p (.dK (xav [] kvs)))
theorem xrx {X : Cx} {pos : Pos} {keys : List (Option Expr)} {values : List Expr} {trs : List (TE × TE)} (h : PPs X pos keys values trs) (hall : keys.all (·.isSome) = true) (hl : keys.length = values.length) (h0 : keys ≠ [])
  (h15 : keys.length <= 15) : PE X (.Dict keys values pos) (tDisp trs) := by
 intro pins s σ H Q I q
 have hn := I.hok.fresh (Nat.le_refl s.heap.objs.size)
 have I1 := I.laid (a := s.heap.objs.size) (o := .dK []) (h' := s.heap.push { cls := .type "dict", data := .dict #[] }) (t' := s.toks) (fun _ _ q => Heap.get?_push_of_some _ q) (Nat.le_refl _) (xls s.heap I.big)
 refine wpAny_Dict_walk (knd := xbd X.prog X.w) hall hl h0 h15 (thn (h pins _ σ _ _ I1 (q _ hn)) fun ws s2 ⟨ps, H2, I2, rel, e, kvs, ep, lk, q2⟩ => ?_)
 subst ep
 obtain ⟨rs, c, rk⟩ := xgl (P := X.prog) (w := X.w) rel
 obtain ⟨z, hd, vs0, r0, dd⟩ := xqh I2.hok e
 cases r0
 refine ⟨rs, c, dd, fun h' dd' hs => ⟨.ref s.heap.objs.size, _, ?_, rfl, q2⟩⟩
 have hz : (xav [] kvs).length <= sizeLine := by
  have h1 := xbq kvs []
  rw [List.length_nil] at h1
  rw [sizeLine_eq]; omega
 have he : ∃ q, h'.get? s.heap.objs.size = some q := let ⟨q, _, _, hq, _⟩ := dd'; ⟨q, hq⟩
 exact xku I2 (by rw [e]; exact True.intro) hs he (xjo hz hd (rk.merge .nil) dd')
section
variable {X : Cx} {pins : List (Addr × Obj)} {σ : St} {H : Hp} {s : Shared} {a : Addr} {kvs : List (Key × V)} {A : Around} {E : Value -> Shared -> Prop}
theorem xqi {Q : Value -> Shared -> Prop} (I : Inv X pins σ H s) (e : Rd H a (.dK kvs)) (h : ∀ p s', H p = none -> Inv X pins σ (upd H p (.dK kvs)) s' -> Q (.ref p) s') : wpAny (model X.prog X.w) A (call (.type "dict") [.ref a]) Q E s := by
 obtain ⟨z, hd, vs, rel, dd⟩ := xmm I.hok e
 refine kt_call_dict hd dd (by rw [<- rel.length]; exact z) fun h' dd' hs => ?_
 refine h _ _ (I.hok.fresh (Nat.le_refl _)) (I.laid (a := s.heap.objs.size) (o := .dK kvs) (t' := s.toks) (fun b q hq => ?_) (Nat.le_refl _) (xjo z (beq_eq_false_iff_ne.mpr (Ne.symm (Nat.ne_of_lt I.big))) rel dd'))
 exact (hs.2 b (Nat.ne_of_lt (Heap.lt_size hq))).trans (Heap.get?_push_of_some _ hq)
end
end L2
namespace L2
open PySem PySem.Spec PyProof.Rows
section
variable {κ : Type} [DecidableEq κ]
theorem xkh : ∀ {l : List κ} {k : κ}, l.Nodup -> ¬ k ∈ l -> (l ++ [k]).Nodup
 | [], k, _, _ => by simp
 | a :: r, k, h, hk => by
  obtain ⟨h1, h2⟩ := List.nodup_cons.mp h
  show (a :: (r ++ [k])).Nodup
  refine List.nodup_cons.mpr ⟨fun m => ?_, xkh h2 fun m => hk (List.mem_cons.mpr (Or.inr m))⟩
  rcases zMA m with q | q
  ·exact h1 q
  ·exact hk (List.mem_cons.mpr (Or.inl (zMO q).symm))
end
end L2
end
section
namespace L2
open PySem PySem.Spec PyProof.Rows
section
variable {es : List Expr} {env : Env}
theorem xm3 {a b c} : starEach (.Dict a b c :: es) env = (false, eval (.Dict a b c) env) :: starEach es env := rfl
end
section
variable {X : Cx}
theorem xgm : xdl X (.type "dict") (fun xs H Q => ∃ a kvs, xs = [V.ref a] /\ H a = some (.dK kvs) /\ ∀ p, H p = none -> Q (.ref p) (upd H p (.dK kvs))) := by
 intro pins s σ H xs us Q I r h
 obtain ⟨a, kvs, rfl, ha, q⟩ := h
 obtain ⟨u, rfl, ru⟩ := xd9 r
 cases ru
 exact xqi I (.inl ha) fun p s' hp I' => ⟨.ref p, _, I', rfl, q p hp⟩
end
section
variable {ix : Cap} {tt : TT} {te : TE} {g : TG} {σ : St} {H : Hp} {Q : VK}
def NxtG (Pv : Nat -> List V -> Hp -> Prop) (n i : Nat) (ys : List V) : VK := fun y H2 => ∃ m', m' < n - i /\ m' = n - (i + 1) /\ i + 1 <= n /\ (ys ++ [y]).length <= i + 1 /\ Pv (i + 1) (ys ++ [y]) H2
def NxtN (Pv : Nat -> List V -> Hp -> Prop) (n i : Nat) (ys : List V) : Hp -> Prop := fun H2 => ∃ m', m' < n - i /\ m' = n - (i + 1) /\ i + 1 <= n /\ ys.length <= i + 1 /\ Pv (i + 1) ys H2
theorem nxtG {Pv : Nat -> List V -> Hp -> Prop} {n i : Nat} {ys : List V} {y : V} {H2 : Hp} (hi : i < n) (hl : ys.length <= i) (h : Pv (i + 1) (ys ++ [y]) H2) : NxtG Pv n i ys y H2 :=
 ⟨n - (i + 1), by omega, rfl, hi, by rw [List.length_append, List.length_singleton]; omega, h⟩
theorem nxtN {Pv : Nat -> List V -> Hp -> Prop} {n i : Nat} {ys : List V} {H2 : Hp} (hi : i < n) (hl : ys.length <= i) (h : Pv (i + 1) ys H2) : NxtN Pv n i ys H2 :=
 ⟨n - (i + 1), by omega, rfl, hi, by omega, h⟩
theorem xa7 {K : PySem.W.Frag} {a : Addr} {xs : List V} (Pv : Nat -> List V -> Hp -> Prop) (h0 : Pv 0 [] H) (hn : xs.length < sizeLine) (hl' : ∀ i ys H, i <= xs.length -> Pv i ys H -> SqT K H a xs)
  (hs : ∀ i x ys H, xs[i]? = some x -> i < xs.length -> ys.length <= i -> Pv i ys H -> g x (capt ix σ) H fun σ2 H2 => Ext (capt ix σ) σ2 /\ tt σ2 H2 fun b H3 => if b = true then te σ2 H3 (NxtG Pv xs.length i ys) else NxtN Pv xs.length i ys H3)
  (hd : ∀ ys H, ys.length <= xs.length -> Pv xs.length ys H -> ∀ D, H D = none -> Q (.ref D) (upd H D (.lst ys))) : xet (Itt K a) ix g tt te σ H Q := by
 refine ⟨fun i m ys H => m = xs.length - i /\ i <= xs.length /\ ys.length <= i /\ Pv i ys H, ⟨xs.length, by simp, Nat.zero_le _, Nat.le_refl _, h0⟩, ?_⟩
 rintro i m ys H ⟨rfl, hi, hl, p⟩
 have q := hl' i ys H hi p
 by_cases hlt : i < xs.length
 ·refine .inr ⟨⟨xs, xs[i], q, by simp [hlt]⟩, by omega, fun v H' y => ?_⟩
  obtain ⟨e, y⟩ := y
  subst e
  exact hs i v ys _ (y xs q) hlt hl p
 ·have e : i = xs.length := by omega
  subst e
  exact .inl ⟨⟨xs, q, Nat.le_refl _⟩, hd ys H hl p⟩
theorem xcu {K : PySem.W.Frag} {a : Addr} {xs : List V} (Pv : Nat -> List V -> Hp -> Prop) (h0 : Pv 0 [] H) (hn : xs.length < sizeLine) (hl' : ∀ i ys H, i <= xs.length -> Pv i ys H -> SqL K H a xs)
  (hs : ∀ i x ys H, xs[i]? = some x -> i < xs.length -> ys.length <= i -> Pv i ys H -> g x (capt ix σ) H fun σ2 H2 => Ext (capt ix σ) σ2 /\ tt σ2 H2 fun b H3 => if b = true then te σ2 H3 (NxtG Pv xs.length i ys) else NxtN Pv xs.length i ys H3)
  (hd : ∀ ys H, ys.length <= xs.length -> Pv xs.length ys H -> ∀ D, H D = none -> Q (.ref D) (upd H D (.lst ys))) : xet (Itl K a) ix g tt te σ H Q := by
 refine ⟨fun i m ys H => m = xs.length - i /\ i <= xs.length /\ ys.length <= i /\ Pv i ys H, ⟨xs.length, by simp, Nat.zero_le _, Nat.le_refl _, h0⟩, ?_⟩
 rintro i m ys H ⟨rfl, hi, hl, p⟩
 have q := hl' i ys H hi p
 by_cases hlt : i < xs.length
 ·refine .inr ⟨⟨xs, xs[i], q, by simp [hlt]⟩, by omega, fun v H' y => ?_⟩
  obtain ⟨e, y⟩ := y
  subst e
  exact hs i v ys _ (y xs q) hlt hl p
 ·have e : i = xs.length := by omega
  subst e
  exact .inl ⟨⟨xs, q, Nat.le_refl _⟩, hd ys H hl p⟩
theorem ext2 {σ : St} {i j : Nat} {v w : Option V} (h : σ[i]? = some none) (k : σ[j]? = some none) : Ext σ ((σ.set i v).set j w) := by
 refine ⟨by simp, fun n w' e => ?_⟩
 have h1 : i ≠ n := fun z => by subst z; rw [h] at e; cases e
 have h2 : j ≠ n := fun z => by subst z; rw [k] at e; cases e
 rw [List.getElem?_set_ne h2, List.getElem?_set_ne h1]
 exact e
theorem ext3 {σ : St} {i j k : Nat} {u v w : Option V} (h : σ[i]? = some none) (h2 : σ[j]? = some none) (h3 : σ[k]? = some none) : Ext σ (((σ.set i u).set j v).set k w) := by
 refine ⟨by simp, fun n w' e => ?_⟩
 have n1 : i ≠ n := fun z => by subst z; rw [h] at e; cases e
 have n2 : j ≠ n := fun z => by subst z; rw [h2] at e; cases e
 have n3 : k ≠ n := fun z => by subst z; rw [h3] at e; cases e
 rw [List.getElem?_set_ne n3, List.getElem?_set_ne n2, List.getElem?_set_ne n1]
 exact e
end
section
variable {X : Cx}
def xti : V -> List V -> Hp -> VK -> Prop := fun x vs H Q => ∃ l, ∃ ys : List Str, ∃ z j, x = .ref l /\ vs = [.str z] /\ H l = some (.lst (ys.map V.str)) /\ ys.findIdx? (fun y => decide (y = z)) = some j /\ Q (.int (j : Nat)) H
theorem xp6 : MtM X "list.index" xti := by
 intro pins s σ H x vs v us Q I rx rv h
 obtain ⟨l, ys, z, j, rfl, rfl, hH, hj, q⟩ := h
 cases rx
 obtain ⟨u, rfl, ru⟩ := rv.one
 obtain ⟨z0, its, n, r, hl, e⟩ := I.lstM hH
 have fs : (ys.map V.str).all xd4 = true := by
  rw [List.all_eq_true]
  intro y hy
  obtain ⟨y', _, rfl⟩ := List.mem_map.mp hy
  rfl
 obtain ⟨h1, h2, h3⟩ := List.findIdx?_eq_some_iff_getElem.mp hj
 rw [zLM] at hl z0
 have at' : ∀ i (hi : i < ys.length) (hi2 : i < its.toArray.size), eqU (.str z) its.toArray[i] = decide (ys[i] = z) := fun i hi hi2 => by
  obtain ⟨u', e', r'⟩ := r.get (i := i) (x := .str ys[i]) (by rw [zGM, zGA hi]; rfl)
  have g : its.toArray[i] = u' := by
   have : its[i]? = some its[i] := zGA (by omega)
   rw [e'] at this
   simpa using (Option.some.inj this).symm
  rw [g, xox r' rfl]
  show (ys[i] == z) = _
  rw [Bool.eq_iff_iff]
  simp
 refine call_meets F.slot_list_index ⟨_, e, rfl⟩ F.entry_list_index (F.args_list_index_2 _ _) (SeqAt.list_indexAt l its.toArray n none #[] u (eqU (.str z)) j (by simp; omega) ?_ ?_ ?_) ⟨e, fun y hy => xdf ru rfl r fs y (by simpa using hy), ⟨.int j, H, I.tok _, ⟨_, rfl⟩, q⟩⟩
 ·rw [sizeLine_eq] at z0
  omega
 ·rw [at' j h1 (by simp; omega)]
  exact h2
 ·intro m hm hlt
  rw [at' m (by omega) hm]
  have := h3 m hlt
  simpa using this
end
end L2
namespace L2
open PySem PySem.Spec PyProof.Rows
theorem xhz : ∀ {ns : List Int}, (∀ n ∈ ns, 0 <= n /\ n <= 1000000) -> 0 <= ns.sum /\ ns.sum <= 1000000 * (ns.length : Int)
 | [], _ => by simp
 | n :: ns, h => by
  have h1 := h n (by simp)
  have h2 := xhz (ns := ns) fun m hm => h m (List.mem_cons_of_mem _ hm)
  rw [List.sum_cons, List.length_cons]
  push_cast
  omega
section
variable {X : Cx}
theorem xjr (hc : X.calm = true) : xdl X (.builtin "sum") (fun xs H Q => ∃ p, ∃ ns : List Int, xs = [.ref p] /\ SqL X.K H p (ns.map V.int) /\ (∀ n ∈ ns, 0 <= n /\ n <= 1000000) /\ ns.length <= 1000 /\ Q (.int ns.sum) H) := by
 intro pins s σ H xs us Q I r h
 obtain ⟨p, ns, rfl, hq, hb, hlen, q⟩ := h
 obtain ⟨u, rfl, ru⟩ := xd9 r
 cases ru
 obtain ⟨its, rv, pl, hz⟩ := I.list hq
 have hi := xej rv
 obtain ⟨xs, e⟩ := hi.allInts.items
 have hns : ns = xs.toList.map (·.1) := by rw [<- hi.numsOf, <- nums_intItems, <- e]
 have hl := pl.isList
 rw [e] at hl
 have hsz : xs.size = ns.length := by rw [hns, zLM, Array.length_toList]
 refine sum_intList (I.ok.hd hc) hl (fun j hj => ?_) fun h' tk t' k => ⟨.int ns.sum, H, I.kept k, ?_, q⟩
 ·have hm : numAt xs j ∈ ns := by
   rw [hns, numAt_eq]
   exact getD_mem (by rw [zLM, Array.length_toList]; exact hj)
  have h1 := hb _ hm
  have h2 := xhz (ns := ns.take (j + 1)) fun n hn => hb n (List.mem_of_mem_take hn)
  have h3 : (ns.take (j + 1)).length <= 1000 := Nat.le_trans (List.length_take_le _ _) (by omega)
  rw [preSum_eq, <- hns]
  unfold InLong
  omega
 ·refine ⟨t', ?_⟩
  rw [preSum_eq, <- hns, zTL (by omega)]
theorem xpc (hc : X.calm = true) : xdl X (.builtin "max") (fun xs H Q => ∃ p, ∃ ns : List Int, xs = [.ref p] /\ SqL X.K H p (ns.map V.int) /\ ns ≠ [] /\ ∀ m, m ∈ ns -> (∀ n ∈ ns, n <= m) -> Q (.int m) H) := by
 intro pins s σ H xs us Q I r h
 obtain ⟨p, ns, rfl, hq, hne, q⟩ := h
 obtain ⟨u, rfl, ru⟩ := xd9 r
 cases ru
 obtain ⟨its, rv, pl, hz⟩ := I.list hq
 have hi := xej rv
 obtain ⟨xs, e⟩ := hi.allInts.items
 have hns : ns = xs.toList.map (·.1) := by rw [<- hi.numsOf, <- nums_intItems, <- e]
 have hl := pl.isList
 rw [e] at hl
 have hsz : xs.size = ns.length := by rw [hns, zLM, Array.length_toList]
 have hp : 0 < ns.length := List.length_pos_iff.mpr hne
 refine max_intList (I.ok.hd hc) hl (by omega) fun v h' tk hv k => ?_
 obtain ⟨t, rfl⟩ := intItems_at hv
 obtain ⟨h1, h2⟩ := argBest_gt (numAt xs) (xs.size - 1)
 refine ⟨.int _, H, I.kept k, ⟨t, rfl⟩, q _ ?_ fun a ha => ?_⟩
 ·rw [hns, numAt_eq]
  exact getD_mem (by rw [zLM, Array.length_toList]; omega)
 ·rw [hns] at ha
  obtain ⟨j, hj, rfl⟩ := mem_getD ha
  rw [zLM, Array.length_toList] at hj
  rw [<- numAt_eq]
  exact h2 j (by omega)
end
end L2
namespace L2
open PySem PySem.Spec PyProof.Rows
section
variable {X : Cx} {K : PySem.W.Frag}
theorem xbt (h : X.K = K) : IxR X (rIxT K) := by subst h; exact xaf
theorem xp8 (h : X.K = K) : IxR X (rIxL K) := by subst h; exact iL
theorem xbp {es : List Expr} {k : Nat} {t : TGs} {n : Nat} {pos : Pos} (hK : X.K = K) (hc : X.calm = true) (h : PGs X es t)
  (hn : (assignEach es X.env).length = n := by rfl) (hst : (assignEach es X.env).findIdx? (·.1) = none := by rfl) : PG X (.Tuple es k pos) (gTup K n t) := by subst hK; exact xbb hc h hn hst
end
end L2
end
section
namespace Zt
open PySem PySem.Spec PyProof.Rows
section
variable {prog : Program} {w : World} {A : Around} {E : Value -> Shared -> Prop} {s : Shared}
theorem call_zipN {l1 l2 : Addr} {xs ys : Array Value} {Q : Value -> Shared -> Prop} (hl1 : s.heap.IsTuple l1 xs) (hl2 : s.heap.IsTuple l2 ys)
  (h : ∀ h', IsZip h' (s.heap.objs.size + 4) (s.heap.objs.size + 2) (s.heap.objs.size + 3) .none -> IsPair h' (s.heap.objs.size + 2) (.ref s.heap.objs.size) (.ref (s.heap.objs.size + 1)) -> (∃ a b, IsPair h' (s.heap.objs.size + 3) a b) ->
   h'.IsTupleIter s.heap.objs.size l1 0 -> h'.IsTupleIter (s.heap.objs.size + 1) l2 0 -> (∀ c o, s.heap.get? c = some o -> h'.get? c = some o) -> Q (.ref (s.heap.objs.size + 4)) { s with heap := h' }) :
  wpAny (model prog w) A (call (.type "zip") [.ref l1, .ref l2]) Q E s := by
 refine callType_new F.called_zip (by decide) (F.typeCall_zip_2 _ _) (F.newCall_zip_2 _ _) (fun obj => F.args_object_init_3 obj _ _) F.entry_zip_new
  (xob l1 l2 xs ys) ⟨hl1, hl2, ?_⟩
 have z1 : (zH1 s.heap l1).objs.size = s.heap.objs.size + 1 := Heap.size_push ..
 have z2 : (zH2 s.heap l1 l2).objs.size = s.heap.objs.size + 2 := by rw [Heap.size_push, z1]
 have z3 : (zH3 s.heap l1 l2).objs.size = s.heap.objs.size + 3 := by rw [Heap.size_push, z2]
 have z4 : (zH4 s.heap l1 l2).objs.size = s.heap.objs.size + 4 := by rw [Heap.size_push, z3]
 have g5 : (zH5 s.heap l1 l2).get? (zH4 s.heap l1 l2).objs.size = some _ := Heap.get?_push_size _ rfl
 have g4 : (zH5 s.heap l1 l2).get? (zH3 s.heap l1 l2).objs.size = some _ := Heap.get?_push_of_some _ (Heap.get?_push_size _ rfl)
 have g3 : (zH5 s.heap l1 l2).get? (zH2 s.heap l1 l2).objs.size = some _ := Heap.get?_push_of_some _ (Heap.get?_push_of_some _ (Heap.get?_push_size _ rfl))
 have g2 : (zH5 s.heap l1 l2).get? (zH1 s.heap l1).objs.size = some _ := Heap.get?_push_of_some _ (Heap.get?_push_of_some _ (Heap.get?_push_of_some _ (Heap.get?_push_size _ rfl)))
 have g1 : (zH5 s.heap l1 l2).get? s.heap.objs.size = some _ := Heap.get?_push_of_some _ (Heap.get?_push_of_some _ (Heap.get?_push_of_some _ (Heap.get?_push_of_some _ (Heap.get?_push_size _ rfl))))
 have kp : ∀ c o, s.heap.get? c = some o -> (zH5 s.heap l1 l2).get? c = some o := fun c o e => Heap.get?_push_of_some _ (Heap.get?_push_of_some _ (Heap.get?_push_of_some _ (Heap.get?_push_of_some _ (Heap.get?_push_of_some _ e))))
 show _ /\ _
 rw [z2, z3, z4] at g5
 rw [z1, z2] at g3
 rw [z3] at g4
 rw [z1] at g2
 rw [z4]
 exact ⟨⟨_, g5, rfl⟩, h _ g5 g3 ⟨_, _, g4⟩ ⟨_, g1, rfl, rfl⟩ ⟨_, g2, rfl, rfl⟩ kp⟩
end
end Zt
namespace L2
open PySem PySem.Spec PyProof.Rows
section
variable {X : Cx} {pins : List (Addr × Obj)} {σ : St} {H : Hp} {s : Shared} {h' : Heap}
theorem Inv.turnedM {t' : Nat} {fp : List Addr} (I : Inv X pins σ H s) (k : ∀ b o, b ∉ fp -> s.heap.get? b = some o -> h'.get? b = some o) (hf : ∀ b ∈ fp, FpOk X pins H b) : Inv X pins σ H { s with heap := h', toks := t' } := by
 have nit : ∀ b u, H b = some u -> b ∉ fp := fun b u e z => by rw [(hf b z).1] at e; cases e
 refine I.step (g' := s.gens) (d' := s.drawn) (ch := fp) (fun b hb => ?_) (fun b o _ _ hc e _ => k b o hc e) (fun b o _ _ hc e _ => ⟨o.slots, k b o hc e⟩) (fun _ _ _ _ n => n)
  (fun b o hc e => ⟨o, k b o hc e⟩) (fun _ _ e => e) (fun _ _ _ e => e) (fun b ps e => ⟨#[], by rw [e]; simp⟩) (fun m hm => ?_) (fun b u e => ?_) I.bare
 ·obtain ⟨f0, f1, f2, f3, f4, f5⟩ := hf b hb
  exact ⟨f3, f1, f4, f5⟩
 ·obtain ⟨o, es, ep, ho, r⟩ := hm
  exact ⟨o, es, ep, k _ o (fun z => (hf _ z).2.1 rfl) ho, r⟩
 ·refine (I.hok b u e).stay (fun c v hc q => k c v ?_ q) (fun _ q => q) fun _ _ q => q
  rcases hc with z | z
  ·rw [z]; exact nit b u e
  ·exact nit c _ z
end
theorem xko {h : Heap} {o u : Obj} {b : Addr} (e : (h.push o).get? b = some u) (q : b ≠ h.objs.size) : h.get? b = some u := by
 rwa [Heap.get?_push_ne h b o q] at e
section
variable {X : Cx}
def Itz (K : PySem.W.Frag) (a b : Addr) : It :=
  ⟨fun i H => ∃ xs ys x y, SqT K H a xs /\ SqT K H b ys /\ xs[i]? = some x /\ ys[i]? = some y, fun i H x H' => ∃ p u v, x = .ref p /\ H p = none /\ H' = upd H p (.tup [u, v]) /\ (∀ xs, SqT K H a xs -> xs[i]? = some u) /\ ∀ ys, SqT K H b ys -> ys[i]? = some v,
   fun i H => ∃ xs ys, SqT K H a xs /\ SqT K H b ys /\ xs.length <= i⟩
theorem xph {P : Program} {w : World} {K : PySem.W.Frag} {elts : List Expr} {x1} {pos : Pos} {a b z TI TO i1 i2 : Addr} (D : ZipApart z TI TO i1 i2 a b) :
  Turn P w K (.Tuple elts x1 pos) (Itz K a b) [z, TI, TO, i1, i2] z (fun i h => IsZip h z TI TO .none /\ IsPair h TI (.ref i1) (.ref i2) /\ (∃ u v, IsPair h TO u v) /\ h.IsTupleIter i1 a i /\ h.IsTupleIter i2 b i) where
 mem := by simp
 obj := fun i h st c hc => by
  obtain ⟨s1, s2, ⟨u, v, s3⟩, s4, s5⟩ := st
  simp only [List.mem_cons, List.not_mem_nil, or_false] at hc
  rcases hc with rfl | rfl | rfl | rfl | rfl
  ·exact ⟨_, s1, fun v z => by cases z⟩
  ·exact ⟨_, s2, fun v z => by cases z⟩
  ·exact ⟨_, s3, fun v z => by cases z⟩
  ·obtain ⟨o, e, c, d⟩ := s4
   exact ⟨o, e, fun v z => by rw [d] at z; cases z⟩
  ·obtain ⟨o, e, c, d⟩ := s5
   exact ⟨o, e, fun v z => by rw [d] at z; cases z⟩
 keep := fun i h h' st k => by
  obtain ⟨s1, s2, ⟨u, v, s3⟩, s4, s5⟩ := st
  exact ⟨k z (by simp) _ s1, k TI (by simp) _ s2, ⟨u, v, k TO (by simp) _ s3⟩, s4.at fun o q => k i1 (by simp) o q, s5.at fun o q => k i2 (by simp) o q⟩
 item := by
  intro X hP hw hK hc i pins s σ H E I hf st hg
  subst hP hw hK
  obtain ⟨xs, ys, x, y, hq, hq', hx, hy⟩ := hg
  obtain ⟨its, rv, p, hz⟩ := I.tuple hq
  obtain ⟨its', rv', p', hz'⟩ := I.tuple hq'
  obtain ⟨u, hu, ru⟩ := rv.get hx
  obtain ⟨u', hu', ru'⟩ := rv'.get hy
  obtain ⟨s1, s2, ⟨_, _, s3⟩, s4, s5⟩ := st
  have hT : s.TypeIs (.ref z) "zip" := ⟨_, s1, rfl⟩
  unfold pyNext
  refine wpAny_bind (wpAny_attempt (wpAny_callSpecial?_slot (name := Str.ofString "__next__") hT F.slot_zip_next
   (wpAny_call_entry F.slot_zip_next hT F.entry_zip_next
    (Zt.item_first D s1 s2 s3 s4 s5 p p' (x := u) (y := u') (by simpa using hu) (by simpa using hu') fun h1 a1 a2 a3 a4 a5 a6 a7 => wpAny_pure ⟨_, rfl, wpAny_letOwnedTupleGo_zip a1 fun h2 b1 b2 => ?_⟩) (F.args_zip_next_1 _))))
  have hp0 : H s.heap.objs.size = none := I.hok.fresh (Nat.le_refl _)
  have g1 : (s.heap.push { cls := .type "tuple", data := .seq #[u, u'] }).get? s.heap.objs.size = some { cls := .type "tuple", data := .seq #[u, u'] } := Heap.get?_push_size _ rfl
  have I1 : Inv X pins σ (upd H s.heap.objs.size (.tup [x, y])) { s with heap := s.heap.push { cls := .type "tuple", data := .seq #[u, u'] }, toks := s.toks } :=
   I.laid (fun b o q => Heap.get?_push_of_some _ q) (Nat.le_refl _) ⟨by show 2 <= sizeLine; decide, [u, u'], .cons ru (.cons ru' .nil), ⟨_, g1, rfl, _, rfl, rfl⟩⟩
  have lt : ∀ c ∈ [z, TI, TO, i1, i2], c ≠ s.heap.objs.size := fun c hc => by
   simp only [List.mem_cons, List.not_mem_nil, or_false] at hc
   rcases hc with rfl | rfl | rfl | rfl | rfl
   ·exact Nat.ne_of_lt (Heap.lt_size s1)
   ·exact Nat.ne_of_lt (Heap.lt_size s2)
   ·exact Nat.ne_of_lt (Heap.lt_size s3)
   ·obtain ⟨o, q, _⟩ := s4
    exact Nat.ne_of_lt (Heap.lt_size q)
   ·obtain ⟨o, q, _⟩ := s5
    exact Nat.ne_of_lt (Heap.lt_size q)
  have hf1 : ∀ c ∈ [z, TI, TO, i1, i2], FpOk X pins (upd H s.heap.objs.size (.tup [x, y])) c := fun c hc => by
   refine ⟨?_, (hf c hc).2⟩
   rw [xaw (lt c hc)]
   exact (hf c hc).1
  have I2 : Inv X pins σ (upd H s.heap.objs.size (.tup [x, y])) { s with heap := h2, toks := s.toks } :=
   I1.turnedM (t' := s.toks) (fun c o hb q => by
    have nb : c ≠ z /\ c ≠ TI /\ c ≠ TO /\ c ≠ i1 /\ c ≠ i2 := by simpa using hb
    have q1 : h1.get? c = some o := by
     by_cases e : c = s.heap.objs.size
     ·subst e
      have q' : (s.heap.push { cls := .type "tuple", data := .seq #[u, u'] }).get? s.heap.objs.size = some o := q
      rw [g1] at q'
      cases q'
      exact a5
     ·exact a7 c o nb.1 nb.2.2.1 nb.2.2.2.1 nb.2.2.2.2 (xko q e)
    exact (b2.2 c nb.1).trans q1) hf1
  refine ⟨.ref s.heap.objs.size, _, I2, rfl, ⟨_, x, y, rfl, hp0, rfl, fun zs hy' => by rw [I.tuple_inj hy' hq]; exact hx, fun zs hy' => by rw [I.tuple_inj hy' hq']; exact hy⟩, ⟨b1, ?_, ⟨_, _, (b2.2 _ D.TOz).trans a2⟩, a3.at fun o q => (b2.2 _ D.i1z).trans q, a4.at fun o q => (b2.2 _ D.i2z).trans q⟩, fun c hc => (hf1 c hc).1⟩
  exact (b2.2 _ D.TIz).trans (a7 _ _ D.TIz D.TITO D.TIi1 D.TIi2 s2)
 done := by
  intro X hP hw hK hc i pins s σ H E I hf st hg
  subst hP hw hK
  obtain ⟨xs, ys, hq, hq', hx⟩ := hg
  obtain ⟨its, rv, p, hz⟩ := I.tuple hq
  obtain ⟨its', rv', p', hz'⟩ := I.tuple hq'
  obtain ⟨s1, s2, s3, s4, s5⟩ := st
  have hl := rv.length
  exact Zt.pyNext_end (I.ok.hd hc) D ⟨.inl s1, s2, s3, s4, s5, p, p'⟩ (by simp; omega) fun h' kk => ⟨rfl, I.turnedM (t' := s.toks) (fun c o hb q => by
   have nb : c ≠ z /\ c ≠ TI /\ c ≠ TO /\ c ≠ i1 /\ c ≠ i2 := by simpa using hb
   exact kk c o nb.1 nb.2.2.2.1 q) hf⟩
 self := fun _ _ _ _ _ st h => wpAny_pyIter_zip st.1 h
def iZip (K : PySem.W.Frag) (ta : TA) : TI := fun σ H R => ta σ H fun vs H1 => ∃ a b, vs = [.ref a, .ref b] /\ (∃ xs, SqT K H1 a xs) /\ (∃ ys, SqT K H1 b ys) /\ R (Itz K a b) H1
theorem xle {a b : Expr} {ta : TA} {p pos : Pos} {elts : List Expr} {x1} {tp : Pos} (hg : Gl X "zip") (hm : X.mg "zip" = none) (ha : PA X [a, b] ta) (hs : starEach [a, b] X.env = [(false, eval a X.env), (false, eval b X.env)] := by rfl) (hs2 : starEach [b] X.env = [(false, eval b X.env)] := by rfl) :
  PI X (.Tuple elts x1 tp) (.Call (.Name "zip" p) [a, b] [] pos) (iZip X.K ta) := by
 intro pins s σ H R I h
 refine Call_ (xer I hg hm PyProof.Rows.boot_zip (PyProof.Rows.callWith_type1 (thn (ha pos pins s σ H _ I h) fun us s1 ⟨vs, H1, I1, r1, q1⟩ => ?_) (by rw [hs, hs2]) (by rw [hs2]; rfl)))
 obtain ⟨l1, l2, e, ⟨xs, hx⟩, ⟨ys, hy⟩, q⟩ := q1
 subst e
 obtain ⟨u1, u2, rfl, e1, e2⟩ := r1.two
 cases e1
 cases e2
 obtain ⟨its, rx, tx, hzx⟩ := I1.tuple hx
 obtain ⟨jts, ry, ty, hzy⟩ := I1.tuple hy
 have a1 : l1 < s1.heap.objs.size := by obtain ⟨_, e, _⟩ := tx; exact Heap.lt_size e
 have a2 : l2 < s1.heap.objs.size := by obtain ⟨_, e, _⟩ := ty; exact Heap.lt_size e
 have D := PyProof.Rows.zipApart_new a1 a2
 refine Zt.call_zipN tx ty fun h1 z1 z2 z3 z4 z5 kp => wpAny_pyIter_zip z1 ?_
 refine ⟨s1.heap.objs.size + 4, [s1.heap.objs.size + 4, s1.heap.objs.size + 2, s1.heap.objs.size + 3, s1.heap.objs.size, s1.heap.objs.size + 1], _, _, H1, rfl, I1.kept (t' := s1.toks) kp, xph D, ⟨z1, z2, z3, z4, z5⟩, fun c hc => ?_, q⟩
 have hc' : s1.heap.objs.size <= c := by
  simp only [List.mem_cons, List.not_mem_nil, or_false] at hc
  rcases hc with z | z | z | z | z <;> subst z <;> first | exact Nat.le_add_right _ _ | exact Nat.le_refl _
 exact I1.fpOk hc' (I1.hok.fresh hc')
theorem xou {K : PySem.W.Frag} {a b : Addr} {xs ys : List V} {g : TG} {tb : TS} {D : Ends} {σ : St} {H : Hp} (hxy : xs.length = ys.length) (Pv : Nat -> St -> Hp -> Prop) (h0 : Pv 0 σ H) (hl : ∀ i σ H, i <= xs.length -> Pv i σ H -> SqT K H a xs /\ SqT K H b ys)
  (hs : ∀ i x y σ H p, xs[i]? = some x -> ys[i]? = some y -> Pv i σ H -> H p = none -> g (.ref p) σ (upd H p (.tup [x, y])) fun σ2 H2 => tb { D with nx := Pv (i + 1), ct := Pv (i + 1), bk := D.nx } σ2 H2) (hd : ∀ σ H, Pv xs.length σ H -> D.nx σ H) :
  ∃ W : Nat -> Nat -> St -> Hp -> Prop, (∃ m, W 0 m σ H) /\ ∀ i m σ H, W i m σ H ->
   ((Itz K a b).stop i H /\ D.nx σ H) \/ ((Itz K a b).go i H /\ ∃ N : St -> Hp -> Prop, (∀ σ' H', N σ' H' -> ∃ m', m' < m /\ W (i + 1) m' σ' H') /\ ∀ x H', (Itz K a b).yld i H x H' -> g x σ H' fun σ2 H2 => tb { D with nx := N, ct := N, bk := D.nx } σ2 H2) := by
 refine ⟨fun i m σ H => m = xs.length - i /\ i <= xs.length /\ Pv i σ H, ⟨xs.length, by simp, Nat.zero_le _, h0⟩, ?_⟩
 rintro i m σ H ⟨rfl, hi, p⟩
 have q := hl i σ H hi p
 by_cases hlt : i < xs.length
 ·refine .inr ⟨⟨xs, ys, xs[i], ys[i]'(by omega), q.1, q.2, by simp [hlt], by simp [<- hxy, hlt]⟩, Pv (i + 1), fun σ' H' p' => ⟨xs.length - (i + 1), by omega, rfl, hlt, p'⟩, fun x H' y => ?_⟩
  obtain ⟨pp, u, v, rfl, hp, rfl, hu, hv⟩ := y
  exact hs i u v σ H pp (hu xs q.1) (hv ys q.2) p hp
 ·have e : i = xs.length := by omega
  subst e
  exact .inl ⟨⟨xs, ys, q.1, q.2, Nat.le_refl _⟩, hd σ H p⟩
end
section
variable {ix : Cap} {tt : TT} {te : TE} {g : TG} {σ : St} {H : Hp} {Q : VK}
theorem xlu {K : PySem.W.Frag} {a b : Addr} {xs zs : List V} (hxz : xs.length = zs.length) (Pv : Nat -> List V -> Hp -> Prop) (h0 : Pv 0 [] H) (hn : xs.length < sizeLine) (hl' : ∀ i ys H, i <= xs.length -> Pv i ys H -> SqT K H a xs /\ SqT K H b zs)
  (hs : ∀ i x z ys H p, xs[i]? = some x -> zs[i]? = some z -> i < xs.length -> ys.length <= i -> Pv i ys H -> H p = none -> g (.ref p) (capt ix σ) (upd H p (.tup [x, z])) fun σ2 H2 => Ext (capt ix σ) σ2 /\ tt σ2 H2 fun b H3 => if b = true then te σ2 H3 (NxtG Pv xs.length i ys) else NxtN Pv xs.length i ys H3)
  (hd : ∀ ys H, ys.length <= xs.length -> Pv xs.length ys H -> ∀ D, H D = none -> Q (.ref D) (upd H D (.lst ys))) : xet (Itz K a b) ix g tt te σ H Q := by
 refine ⟨fun i m ys H => m = xs.length - i /\ i <= xs.length /\ ys.length <= i /\ Pv i ys H, ⟨xs.length, by simp, Nat.zero_le _, Nat.le_refl _, h0⟩, ?_⟩
 rintro i m ys H ⟨rfl, hi, hl, p⟩
 have q := hl' i ys H hi p
 by_cases hlt : i < xs.length
 ·refine .inr ⟨⟨xs, zs, xs[i], zs[i]'(by omega), q.1, q.2, by simp [hlt], by simp [<- hxz, hlt]⟩, by omega, fun v H' y => ?_⟩
  obtain ⟨pp, u, v, rfl, hp, rfl, hu, hv⟩ := y
  exact hs i u v ys _ pp (hu xs q.1) (hv zs q.2) hlt hl p hp
 ·have e : i = xs.length := by omega
  subst e
  exact .inl ⟨⟨xs, zs, q.1, q.2, Nat.le_refl _⟩, hd ys H hl p⟩
end
end L2
end
section
namespace M
open PySem L2
structure Kn where
 name : Str
 rc : Bool
 parts : List (Str × Str)
def Kn.sort (k : Kn) : Str := if k.rc = true then S "rec" else S "alt"
def xbu (p : Str × Str) : D := .tup [.str p.1, .str p.2]
def xbf (ps : List (Str × Str)) : D := .tup (ps.map xbu)
def Kn.d (k : Kn) : D := .tup [.str k.name, .str k.sort, xbf k.parts]
def xbg (ks : List Kn) : D := .tup (ks.map Kn.d)
def kAt (ks : List Kn) (x : Str) : Option Kn := ks.find? fun k => decide (k.name = x)
def sortV : Option Kn -> V
 | some k => .str k.sort
 | none => .non
def xim : Option Kn -> D
 | some k => xbf k.parts
 | none => .tup []
def KsAt (H : Hp) (v : V) (ks : List Kn) : Prop := RelD H v (xbg ks) /\ ks.length <= 100 /\ ∀ k ∈ ks, k.parts.length <= 100
theorem KsAt.same {H H' : Hp} {v : V} {ks : List Kn} (h : KsAt H v ks) (s : Same H H') : KsAt H' v ks := ⟨h.1.same s _, h.2⟩
abbrev En := Str -> Option D
def En.put (e : En) (x : Str) (d : D) : En := fun y => if y = x then some d else e y
def EnAt (H : Hp) (p : Addr) (m : Nat) (e : En) : Prop :=
 ∃ kvs, H p = some (.dK kvs) /\ kvs.length <= m /\ ∀ x, (e x = none -> valV kvs (Sum.inr x) = none) /\ ∀ d, e x = some d -> ∃ v, valV kvs (Sum.inr x) = some v /\ RelD H v d
theorem EnAt.same {H H' : Hp} {p : Addr} {m : Nat} {e : En} (h : EnAt H p m e) (s : Same H H') : EnAt H' p m e := by
 obtain ⟨kvs, h1, h2, h3⟩ := h
 refine ⟨kvs, s _ _ h1, h2, fun x => ⟨(h3 x).1, fun d hd => ?_⟩⟩
 obtain ⟨v, hv, r⟩ := (h3 x).2 d hd
 exact ⟨v, hv, r.same s _⟩
theorem EnAt.mono {H : Hp} {p : Addr} {m m' : Nat} {e : En} (h : EnAt H p m e) (l : m <= m') : EnAt H p m' e := by
 obtain ⟨kvs, h1, h2, h3⟩ := h
 exact ⟨kvs, h1, by omega, h3⟩
theorem EnAt.put {H H' : Hp} {p q : Addr} {m : Nat} {e : En} {kvs : List (Key × V)} (hp : H p = some (.dK kvs)) (hl : kvs.length <= m) (h : ∀ x, (e x = none -> valV kvs (Sum.inr x) = none) /\ ∀ d, e x = some d -> ∃ v, valV kvs (Sum.inr x) = some v /\ RelD H v d)
  (s : Same H H') {x : Str} {v : V} {d : D} (hv : RelD H' v d) (hq : H' q = some (.dK (putK kvs (Sum.inr x) v))) : EnAt H' q (m + 1) (e.put x d) := by
 refine ⟨_, hq, by have := xc0 kvs (Sum.inr x) v; omega, fun y => ?_⟩
 rw [xdv]
 unfold En.put
 by_cases hy : y = x
 ·subst hy
  rw [if_pos rfl, if_pos rfl]
  refine ⟨fun z => (by cases z), fun d' e' => ?_⟩
  cases e'
  exact ⟨v, rfl, hv⟩
 ·have hy' : ¬ (Sum.inr y : Key) = Sum.inr x := fun z => hy (Sum.inr.inj z)
  rw [if_neg hy, if_neg hy']
  refine ⟨(h y).1, fun d' e' => ?_⟩
  obtain ⟨u, hu, r⟩ := (h y).2 d' e'
  exact ⟨u, hu, r.same s _⟩
def opV (s : Str) (x y : Int) : Int :=
 if s = S "+" then (x + y) % 4294967296 else if s = S "-" then (x - y) % 4294967296 else if s = S "*" then x * y % 4294967296 else if s = S "<" then (if x < y then 1 else 0) else (if x = y then 1 else 0)
def Nm (x : Int) : Prop := 0 <= x /\ x < 4294967296
theorem opV_nm (s : Str) (x y : Int) : Nm (opV s x y) := by
 have h : ∀ z : Int, Nm (z % 4294967296) := fun z => ⟨Int.emod_nonneg _ (by decide), Int.emod_lt_of_pos _ (by decide)⟩
 unfold opV
 split
 ·exact h _
 split
 ·exact h _
 split
 ·exact h _
 split
 ·split <;> exact ⟨by decide, by decide⟩
 ·split <;> exact ⟨by decide, by decide⟩
abbrev tNum (n : Int) : D := .tup [.str (S "num"), .int n]
abbrev tBox (x : Str) : D := .tup [.str (S "box"), .str x]
abbrev tOpD (s : Str) (a b : D) : D := .tup [.str (S "op"), .str s, a, b]
abbrev tRec (k : Str) (es : List D) : D := .tup [.str (S "rec"), .str k, .tup es]
abbrev tGet (a : D) (f : Str) : D := .tup [.str (S "get"), a, .str f]
abbrev tTag (k t : Str) (a : D) : D := .tup [.str (S "tag"), .str k, .str t, a]
abbrev dArm (r : Str × Str × D) : D := .tup [.str r.1, .str r.2.1, r.2.2]
abbrev xhx (a : D) (rs : List (Str × Str × D)) : D := .tup [.str (S "case"), a, .tup (rs.map dArm)]
abbrev tIfD (a b c : D) : D := .tup [.str (S "if"), a, b, c]
def xf4 (env : En) (d v : D) : Prop := (∃ n, d = tNum n /\ v = .int n) \/ ∃ x, env x = some v /\ d = tBox x
def NodeEv (ks : List Kn) (R : En -> D -> D -> Prop) (env : En) (d v : D) : Prop :=
 (∃ s a b x y, R env a (.int x) /\ R env b (.int y) /\ Nm x /\ Nm y /\ d = tOpD s a b /\ v = .int (opV s x y)) ∨
 (∃ k es vs, es.length <= 1000 /\ All2 (R env) es vs /\ d = tRec k es /\ v = .tup [.str k, .tup vs]) ∨
 (∃ a k vs f kn i, R env a (.tup [.str k, .tup vs]) /\ kAt ks k = some kn /\ (kn.parts.map (·.1)).findIdx? (fun z => decide (z = f)) = some i /\ vs[i]? = some v /\ d = tGet a f) ∨
 (∃ k t a x, R env a x /\ d = tTag k t a /\ v = .tup [.str k, .str t, x]) ∨
 (∃ a rs k t x y e, rs.length <= 1000 /\ R env a (.tup [.str k, .str t, x]) /\ rs.find? (fun r => decide (r.1 = t)) = some (t, y, e) /\ R (env.put y x) e v /\ d = xhx a rs) ∨
 (∃ a b c x, R env a (.int x) /\ R env (if x = 0 then c else b) v /\ d = tIfD a b c)
def Ev (ks : List Kn) : Nat -> En -> D -> D -> Prop
 | 0 => xf4
 | n + 1 => fun env d v => xf4 env d v \/ NodeEv ks (Ev ks n) env d v
def xgp (env : En) (d : D) (k : Str) : Prop := (∃ n, Nm n /\ d = tNum n /\ k = S "num") \/ ∃ x, env x = some (.str k) /\ d = tBox x
def xc6 (kn : Kn) (f : Str) : Option Str := (kn.parts.find? fun p => decide (p.1 = f)).map (·.2)
abbrev RKn := En -> D -> Str -> Prop
def OpKd (R : RKn) : RKn := fun env d k => ∃ s a b, R env a (S "num") /\ R env b (S "num") /\ d = tOpD s a b /\ k = S "num"
def xsp (ks : List Kn) (R : RKn) : RKn := fun env d k => ∃ es kn, kAt ks k = some kn /\ kn.rc = true /\ All2 (fun e (p : Str × Str) => R env e p.2) es kn.parts /\ d = tRec k es
def xsr (ks : List Kn) (R : RKn) : RKn := fun env d k => ∃ a k1 f kn, R env a k1 /\ kAt ks k1 = some kn /\ kn.rc = true /\ xc6 kn f = some k /\ d = tGet a f
def xso (ks : List Kn) (R : RKn) : RKn := fun env d k => ∃ t a kn k1, kAt ks k = some kn /\ kn.rc = false /\ xc6 kn t = some k1 /\ R env a k1 /\ d = tTag k t a
def xl1 (cs : Prop) (ks : List Kn) (R : RKn) : RKn := fun env d k => cs /\ ∃ a, ∃ rs : List (Str × Str × D), ∃ k1 kn, R env a k1 /\ kAt ks k1 = some kn /\ kn.rc = false /\ rs ≠ [] /\ rs.length = kn.parts.length /\ (rs.map (·.1)).Nodup ∧
  (∀ r ∈ rs, env r.2.1 = none /\ ∃ k2, xc6 kn r.1 = some k2 /\ R (env.put r.2.1 (.str k2)) r.2.2 k) /\ d = xhx a rs
def IfKd (R : RKn) : RKn := fun env d k => ∃ a b c, R env a (S "num") /\ R env b k /\ R env c k /\ d = tIfD a b c
def NodeKd (cs : Prop) (ks : List Kn) (R : RKn) : RKn := fun env d k => OpKd R env d k \/ xsp ks R env d k \/ xsr ks R env d k \/ xso ks R env d k \/ xl1 cs ks R env d k \/ IfKd R env d k
def Kd (cs : Prop) (ks : List Kn) : Nat -> En -> D -> Str -> Prop
 | 0 => xgp
 | n + 1 => fun env d k => xgp env d k \/ NodeKd cs ks (Kd cs ks n) env d k
theorem xca {α : Type} {p : α -> Bool} {xs : List α} {i : Nat} {a : α} (h : (xs.take i).find? p = none) (ha : xs[i]? = some a) : (p a = true -> xs.find? p = some a) /\ (p a = false -> (xs.take (i + 1)).find? p = none) := by
 have hi : i < xs.length := (zES ha).1
 have e : xs[i] = a := (zES ha).2
 refine ⟨fun hp => ?_, fun hp => ?_⟩
 ·have e2 : xs = xs.take i ++ a :: xs.drop (i + 1) := by
   rw [<- e, <- List.drop_eq_getElem_cons hi, List.take_append_drop]
  rw [e2, List.find?_append, h]
  simp [hp]
 ·rw [List.take_add_one, ha, List.find?_append, h]
  simp [hp]
theorem Same.new2 {H : Hp} {p : Addr} (h : H p = none) (o o' : HO) : Same H (upd (upd H p o) p o') := fun b u q => by
 have hb := neN q h
 rw [xaw hb, xaw hb]
 exact q
end M
end
section
namespace K44
open PySem L2 M
seal L2.PE L2.PA L2.PS L2.PSs L2.PT L2.PW L2.PI L2.PG L2.PJ L2.PTs
def top (i : Nat) : Stmt := PySem.Challenge.pw_swapstride_k44_whole_turned_is_of_its_ki.main.body.getD i (.Pass ⟨0, 0, 0, 0⟩)
abbrev s_need_once : Stmt := top 8
theorem xic : FnScope ["names", "things"] ["names", "things"] (xac s_need_once) := by walk_at "q"
abbrev s_sort_of : Stmt := top 9
theorem sc_sort_of : FnScope ["kinds", "K", "name", "sort", "parts"] ["kinds", "K"] (xac s_sort_of) := by walk_at "q"
abbrev s_parts_of : Stmt := top 10
theorem sc_parts_of : FnScope ["kinds", "K", "name", "sort", "parts"] ["kinds", "K"] (xac s_parts_of) := by walk_at "q"
abbrev s_need_there : Stmt := top 11
theorem sc_need_there : FnScope ["kinds", "kind"] ["kinds", "kind"] (xac s_need_there) := by walk_at "q"
abbrev s_kind_of : Stmt := top 14
theorem sc_kind_of : FnScope ["kinds", "term", "boxes", "head"] ["kinds", "term", "boxes"] (xac s_kind_of) := by walk_at "q"
abbrev s_num_kind : Stmt := top 15
theorem xj4 : FnScope ["n"] ["n"] (xac s_num_kind) := by walk_at "q"
abbrev s_box_kind : Stmt := top 16
theorem xj5 : FnScope ["x", "boxes"] ["x", "boxes"] (xac s_box_kind) := by walk_at "q"
abbrev s_op_kind : Stmt := top 17
theorem xl7 : FnScope ["kinds", "term", "boxes"] ["kinds", "term", "boxes"] (xac s_op_kind) := by walk_at "q"
abbrev s_rec_kind : Stmt := top 18
theorem sc_rec_kind : FnScope ["kinds", "term", "boxes", "name", "parts", "part", "inner"] ["kinds", "term", "boxes"] (xac s_rec_kind) := by walk_at "q"
abbrev s_get_kind : Stmt := top 19
theorem sc_get_kind : FnScope ["kinds", "term", "boxes", "kind"] ["kinds", "term", "boxes"] (xac s_get_kind) := by walk_at "q"
abbrev s_tag_kind : Stmt := top 20
theorem sc_tag_kind : FnScope ["kinds", "term", "boxes", "name"] ["kinds", "term", "boxes"] (xac s_tag_kind) := by walk_at "q"
abbrev s_case_kind : Stmt := top 21
theorem sc_case_kind : FnScope ["kinds", "term", "boxes", "kind", "arms", "inner", "arm"] ["kinds", "term", "boxes"] (xac s_case_kind) := by walk_at "q"
abbrev s_arm_kind : Stmt := top 22
theorem sc_arm_kind : FnScope ["kinds", "kind", "arm", "boxes", "x"] ["kinds", "kind", "arm", "boxes"] (xac s_arm_kind) := by walk_at "q"
abbrev s_if_kind : Stmt := top 23
theorem sc_if_kind : FnScope ["kinds", "term", "boxes", "kind"] ["kinds", "term", "boxes"] (xac s_if_kind) := by walk_at "q"
abbrev s_need_kind : Stmt := top 24
theorem xid : FnScope ["kinds", "term", "boxes", "kind"] ["kinds", "term", "boxes", "kind"] (xac s_need_kind) := by walk_at "q"
abbrev s_need_same : Stmt := top 25
theorem xib : FnScope ["found", "kind"] ["found", "kind"] (xac s_need_same) := by walk_at "q"
abbrev s_need_sort : Stmt := top 26
theorem sc_need_sort : FnScope ["kinds", "name", "sort", "found"] ["kinds", "name", "sort"] (xac s_need_sort) := by walk_at "q"
abbrev s_kind_of_sort : Stmt := top 27
theorem sc_kind_of_sort : FnScope ["kinds", "term", "boxes", "sort", "kind"] ["kinds", "term", "boxes", "sort"] (xac s_kind_of_sort) := by walk_at "q"
abbrev s_part_kind : Stmt := top 28
theorem sc_part_kind : FnScope ["kinds", "kind", "name", "part"] ["kinds", "kind", "name"] (xac s_part_kind) := by walk_at "q"
abbrev s_need_tags : Stmt := top 29
theorem sc_need_tags : FnScope ["kinds", "kind", "arms", "own", "tags", "tag"] ["kinds", "kind", "arms"] (xac s_need_tags) := by walk_at "q"
abbrev s_with_box : Stmt := top 30
theorem sc_with_box : FnScope ["boxes", "x", "thing", "more"] ["boxes", "x", "thing"] (xac s_with_box) := by walk_at "q"
abbrev s_nought_term : Stmt := top 31
theorem sc_nought_term : FnScope ["kinds", "kind", "parts"] ["kinds", "kind"] (xac s_nought_term) := by walk_at "q"
abbrev s_goes_to : Stmt := top 33
theorem sc_goes_to : FnScope ["ways", "kind"] ["ways", "kind"] (xac s_goes_to) := by walk_at "q"
abbrev s_boxes_over : Stmt := top 34
theorem sc_boxes_over : FnScope ["ways", "parts"] ["ways", "parts"] (xac s_boxes_over) := by walk_at "q"
abbrev s_look_ways : Stmt := top 35
theorem sc_look_ways : FnScope ["first", "second", "ways", "K"] ["first", "second", "ways"] (xac s_look_ways) := by walk_at "q"
abbrev s_look_ends : Stmt := top 36
theorem sc_look_ends : FnScope ["first", "second", "K", "K2"] ["first", "second", "K", "K2"] (xac s_look_ends) := by walk_at "q"
abbrev s_look_form : Stmt := top 37
theorem sc_look_form : FnScope ["first", "K", "how", "right"] ["first", "K", "how"] (xac s_look_form) := by walk_at "q"
abbrev s_is_term : Stmt := top 38
theorem xl8 : FnScope ["how"] ["how"] (xac s_is_term) := by walk_at "q"
abbrev s_look_terms : Stmt := top 39
theorem sc_look_terms : FnScope ["first", "second", "ways", "K", "K2", "how", "parts", "part", "tagged"] ["first", "second", "ways", "K"] (xac s_look_terms) := by walk_at "q"
abbrev s_made_ways : Stmt := top 40
theorem sc_made_ways : FnScope ["first", "second", "told", "ways", "lacking", "kind", "K", "how"] ["first", "second", "told"] (xac s_made_ways) := by walk_at "q"
abbrev s_how_by_rules : Stmt := top 41
theorem sc_how_by_rules : FnScope ["kinds", "ways", "kind", "K", "terms"] ["kinds", "ways", "kind"] (xac s_how_by_rules) := by walk_at "q"
abbrev s_terms_by_rules : Stmt := top 42
theorem sc_terms_by_rules : FnScope ["kinds", "ways", "olds", "news", "own", "terms", "x", "kind"] ["kinds", "ways", "olds", "news"] (xac s_terms_by_rules) := by walk_at "q"
abbrev s_tags_by_rules : Stmt := top 43
theorem sc_tags_by_rules : FnScope ["kinds", "ways", "kind", "K", "theirs", "tag", "inner"] ["kinds", "ways", "kind"] (xac s_tags_by_rules) := by walk_at "q"
abbrev s_field : Stmt := top 45
theorem sc_field : FnScope ["kinds", "value", "f", "names"] ["kinds", "value", "f"] (xac s_field) := by walk_at "q"
abbrev s_worth : Stmt := top 47
theorem sc_worth : FnScope ["kinds", "term", "boxes", "head", "taken"] ["kinds", "term", "boxes"] (xac s_worth) := by walk_at "q"
abbrev s_op_worth : Stmt := top 48
theorem xj3 : FnScope ["sign", "a", "b"] ["sign", "a", "b"] (xac s_op_worth) := by walk_at "q"
abbrev s_case_worth : Stmt := top 49
theorem sc_case_worth : FnScope ["kinds", "term", "boxes", "value", "arm"] ["kinds", "term", "boxes"] (xac s_case_worth) := by walk_at "q"
abbrev s_turned : Stmt := top 51
theorem sc_turned : FnScope ["first", "second", "ways", "kind", "value", "how", "parts", "values", "tag", "it"] ["first", "second", "ways", "kind", "value"] (xac s_turned) := by walk_at "q"
abbrev s_turned_boxes : Stmt := top 52
theorem sc_turned_boxes : FnScope ["first", "second", "ways", "parts", "values", "over"] ["first", "second", "ways", "parts", "values"] (xac s_turned_boxes) := by walk_at "q"
abbrev sl_feed : Stmt := top 54
theorem scl_feed : FnScope ["_law_script", "_law_k", "_law_cell"] ["_law_script", "_law_k"] (xac sl_feed) := by walk_at "q"
abbrev sl_take : Stmt := top 55
theorem scl_take : FnScope ["_law_feed_here", "_law_many", "_law_digit", "_law_one"] ["_law_feed_here", "_law_many"] (xac sl_take) := by walk_at "q"
abbrev sl_names : Stmt := top 56
theorem scl_names : FnScope ["_law_cell", "_law_many", "_law_letters", "_law_size_here", "_law_at", "_law_common", "_law_found"] ["_law_cell", "_law_many"] (xac sl_names) := by walk_at "q"
abbrev sl_number : Stmt := top 57
theorem scl_number : FnScope ["_law_feed_here", "_law_form"] ["_law_feed_here"] (xac sl_number) := by walk_at "q"
abbrev sl_sort_of : Stmt := top 58
theorem scl_sort_of : FnScope ["_law_kinds_here", "_law_kind", "_law_name", "_law_sort", "_law_parts_here"] ["_law_kinds_here", "_law_kind"] (xac sl_sort_of) := by walk_at "q"
abbrev sl_size : Stmt := top 59
theorem scl_size : FnScope ["_law_kinds_here", "_law_kind", "_law_sort", "_law_parts_here", "_law_sizes"] ["_law_kinds_here", "_law_kind"] (xac sl_size) := by walk_at "q"
abbrev sl_small : Stmt := top 60
theorem scl_small : FnScope ["_law_kinds_here", "_law_kind", "_law_sort", "_law_parts_here"] ["_law_kinds_here", "_law_kind"] (xac sl_small) := by walk_at "q"
abbrev sl_parts : Stmt := top 61
theorem scl_parts : FnScope ["_law_feed_here", "_law_kinds_here", "_law_sort", "_law_names_here", "_law_parts_here", "_law_left", "_law_j", "_law_kind"] ["_law_feed_here", "_law_kinds_here", "_law_sort", "_law_names_here"] (xac sl_parts) := by walk_at "q"
abbrev sl_kinds : Stmt := top 62
theorem scl_kinds : FnScope ["_law_feed_here", "_law_names_here", "_law_kinds_here", "_law_k", "_law_sort"] ["_law_feed_here", "_law_names_here"] (xac sl_kinds) := by walk_at "q"
abbrev sl_boxed : Stmt := top 63
theorem xnl : FnScope ["_law_feed_here", "_law_some"] ["_law_feed_here", "_law_some"] (xac sl_boxed) := by walk_at "q"
abbrev sl_arms : Stmt := top 64
theorem scl_arms : FnScope ["_law_feed_here", "_law_kinds_here", "_law_boxes", "_law_parts_here", "_law_kind", "_law_room", "_law_deep", "_law_arms_here", "_law_each", "_law_t", "_law_part", "_law_x"] ["_law_feed_here", "_law_kinds_here", "_law_boxes", "_law_parts_here", "_law_kind", "_law_room", "_law_deep"] (xac sl_arms) := by walk_at "q"
abbrev sl_whole_term : Stmt := top 65
theorem scl_whole_term : FnScope ["_law_feed_here", "_law_kinds_here", "_law_boxes", "_law_kind", "_law_room", "_law_deep", "_law_sort", "_law_parts_here", "_law_one", "_law_other", "_law_some", "_law_t", "_law_part", "_law_more", "_law_terms", "_law_f"] ["_law_feed_here", "_law_kinds_here", "_law_boxes", "_law_kind", "_law_room", "_law_deep"] (xac sl_whole_term) := by walk_at "q"
abbrev sl_term : Stmt := top 66
theorem scl_term : FnScope ["_law_feed_here", "_law_kinds_here", "_law_boxes", "_law_kind", "_law_room", "_law_deep", "_law_some", "_law_form", "_law_small_here", "_law_more", "_law_one", "_law_first", "_law_held", "_law_x", "_law_told_here", "_law_sort", "_law_parts_here", "_law_f", "_law_tags"] ["_law_feed_here", "_law_kinds_here", "_law_boxes", "_law_kind", "_law_room", "_law_deep"] (xac sl_term) := by walk_at "q"
abbrev sl_new_term : Stmt := top 67
theorem xia : FnScope ["_law_feed_here", "_law_kinds_here", "_law_boxes", "_law_kind"] ["_law_feed_here", "_law_kinds_here", "_law_boxes", "_law_kind"] (xac sl_new_term) := by walk_at "q"
abbrev sl_any_kind : Stmt := top 68
theorem scl_any_kind : FnScope ["_law_feed_here", "_law_kinds_here"] ["_law_feed_here", "_law_kinds_here"] (xac sl_any_kind) := by walk_at "q"
abbrev sl_beside_parts : Stmt := top 69
theorem scl_beside_parts : FnScope ["_law_feed_here", "_law_kinds_here", "_law_sort", "_law_parts_here", "_law_names_here", "_law_form", "_law_k"] ["_law_feed_here", "_law_kinds_here", "_law_sort", "_law_parts_here", "_law_names_here"] (xac sl_beside_parts) := by walk_at "q"
abbrev sl_beside : Stmt := top 70
theorem scl_beside : FnScope ["_law_feed_here", "_law_kinds_here", "_law_names_here", "_law_found", "_law_name", "_law_sort", "_law_parts_here", "_law_form", "_law_more"] ["_law_feed_here", "_law_kinds_here", "_law_names_here"] (xac sl_beside) := by walk_at "q"
abbrev sl_way : Stmt := top 71
theorem scl_way : FnScope ["_law_feed_here", "_law_first", "_law_kinds_here", "_law_ways", "_law_name", "_law_sort", "_law_parts_here", "_law_goal", "_law_boxes", "_law_arms_here", "_law_t", "_law_part"] ["_law_feed_here", "_law_first", "_law_kinds_here", "_law_ways", "_law_name"] (xac sl_way) := by walk_at "q"
abbrev sl_told : Stmt := top 72
theorem scl_told : FnScope ["_law_feed_here", "_law_first", "_law_kinds_here", "_law_told_here", "_law_name", "_law_sort", "_law_parts_here", "_law_ways", "_law_lacking"] ["_law_feed_here", "_law_first", "_law_kinds_here"] (xac sl_told) := by walk_at "q"
abbrev sl_value : Stmt := top 73
theorem scl_value : FnScope ["_law_feed_here", "_law_kinds_here", "_law_kind", "_law_sort", "_law_parts_here", "_law_t", "_law_part"] ["_law_feed_here", "_law_kinds_here", "_law_kind"] (xac sl_value) := by walk_at "q"
abbrev sl_is_of : Stmt := top 74
theorem scl_is_of : FnScope ["_law_kinds_here", "_law_kind", "_law_value_here", "_law_sort", "_law_parts_here", "_law_some"] ["_law_kinds_here", "_law_kind", "_law_value_here"] (xac sl_is_of) := by walk_at "q"
abbrev sl_same : Stmt := top 75
theorem scl_same : FnScope ["_law_kinds_here", "_law_more", "_law_told_here", "_law_kind", "_law_sort", "_law_parts_here"] ["_law_kinds_here", "_law_more", "_law_told_here", "_law_kind"] (xac sl_same) := by walk_at "q"
abbrev s_law : Stmt := top 76
theorem sc_law : FnScope ["_law_script", "_law_names_here", "_law_kinds_here", "_law_first", "_law_feed_here", "_law_more", "_law_second", "_law_told_here", "_law_ways", "_law_goes", "_law_k", "_law_kind", "_law_value_here", "_law_found"] ["_law_script"] (xac s_law) := by walk_at "q"
structure Tx (K : PySem.W.Frag) (mg : Str -> Option Value) : Prop where
 d_need_once : DefTx K mg "need_once" s_need_once ["names", "things"]
 d_sort_of : DefTx K mg "sort_of" s_sort_of ["kinds", "K"]
 d_parts_of : DefTx K mg "parts_of" s_parts_of ["kinds", "K"]
 d_need_there : DefTx K mg "need_there" s_need_there ["kinds", "kind"]
 d_kind_of : DefTx K mg "kind_of" s_kind_of ["kinds", "term", "boxes"]
 d_num_kind : DefTx K mg "num_kind" s_num_kind ["n"]
 d_box_kind : DefTx K mg "box_kind" s_box_kind ["x", "boxes"]
 d_op_kind : DefTx K mg "op_kind" s_op_kind ["kinds", "term", "boxes"]
 d_rec_kind : DefTx K mg "rec_kind" s_rec_kind ["kinds", "term", "boxes"]
 d_get_kind : DefTx K mg "get_kind" s_get_kind ["kinds", "term", "boxes"]
 d_tag_kind : DefTx K mg "tag_kind" s_tag_kind ["kinds", "term", "boxes"]
 d_case_kind : DefTx K mg "case_kind" s_case_kind ["kinds", "term", "boxes"]
 d_arm_kind : DefTx K mg "arm_kind" s_arm_kind ["kinds", "kind", "arm", "boxes"]
 d_if_kind : DefTx K mg "if_kind" s_if_kind ["kinds", "term", "boxes"]
 d_need_kind : DefTx K mg "need_kind" s_need_kind ["kinds", "term", "boxes", "kind"]
 d_need_same : DefTx K mg "need_same" s_need_same ["found", "kind"]
 d_need_sort : DefTx K mg "need_sort" s_need_sort ["kinds", "name", "sort"]
 d_kind_of_sort : DefTx K mg "kind_of_sort" s_kind_of_sort ["kinds", "term", "boxes", "sort"]
 d_part_kind : DefTx K mg "part_kind" s_part_kind ["kinds", "kind", "name"]
 d_need_tags : DefTx K mg "need_tags" s_need_tags ["kinds", "kind", "arms"]
 d_with_box : DefTx K mg "with_box" s_with_box ["boxes", "x", "thing"]
 d_nought_term : DefTx K mg "nought_term" s_nought_term ["kinds", "kind"]
 d_goes_to : DefTx K mg "goes_to" s_goes_to ["ways", "kind"]
 d_boxes_over : DefTx K mg "boxes_over" s_boxes_over ["ways", "parts"]
 d_look_ways : DefTx K mg "look_ways" s_look_ways ["first", "second", "ways"]
 d_look_ends : DefTx K mg "look_ends" s_look_ends ["first", "second", "K", "K2"]
 d_look_form : DefTx K mg "look_form" s_look_form ["first", "K", "how"]
 d_is_term : DefTx K mg "is_term" s_is_term ["how"]
 d_look_terms : DefTx K mg "look_terms" s_look_terms ["first", "second", "ways", "K"]
 d_made_ways : DefTx K mg "made_ways" s_made_ways ["first", "second", "told"]
 d_how_by_rules : DefTx K mg "how_by_rules" s_how_by_rules ["kinds", "ways", "kind"]
 d_terms_by_rules : DefTx K mg "terms_by_rules" s_terms_by_rules ["kinds", "ways", "olds", "news"]
 d_tags_by_rules : DefTx K mg "tags_by_rules" s_tags_by_rules ["kinds", "ways", "kind"]
 d_field : DefTx K mg "field" s_field ["kinds", "value", "f"]
 d_worth : DefTx K mg "worth" s_worth ["kinds", "term", "boxes"]
 d_op_worth : DefTx K mg "op_worth" s_op_worth ["sign", "a", "b"]
 d_case_worth : DefTx K mg "case_worth" s_case_worth ["kinds", "term", "boxes"]
 d_turned : DefTx K mg "turned" s_turned ["first", "second", "ways", "kind", "value"]
 d_turned_boxes : DefTx K mg "turned_boxes" s_turned_boxes ["first", "second", "ways", "parts", "values"]
 dl_feed : DefTx K mg "_law_feed" sl_feed ["_law_script", "_law_k"]
 dl_take : DefTx K mg "_law_take" sl_take ["_law_feed_here", "_law_many"]
 dl_names : DefTx K mg "_law_names" sl_names ["_law_cell", "_law_many"]
 dl_number : DefTx K mg "_law_number" sl_number ["_law_feed_here"]
 dl_sort_of : DefTx K mg "_law_sort_of" sl_sort_of ["_law_kinds_here", "_law_kind"]
 dl_size : DefTx K mg "_law_size" sl_size ["_law_kinds_here", "_law_kind"]
 dl_small : DefTx K mg "_law_small" sl_small ["_law_kinds_here", "_law_kind"]
 dl_parts : DefTx K mg "_law_parts" sl_parts ["_law_feed_here", "_law_kinds_here", "_law_sort", "_law_names_here"]
 dl_kinds : DefTx K mg "_law_kinds" sl_kinds ["_law_feed_here", "_law_names_here"]
 dl_boxed : DefTx K mg "_law_boxed" sl_boxed ["_law_feed_here", "_law_some"]
 dl_arms : DefTx K mg "_law_arms" sl_arms ["_law_feed_here", "_law_kinds_here", "_law_boxes", "_law_parts_here", "_law_kind", "_law_room", "_law_deep"]
 dl_whole_term : DefTx K mg "_law_whole_term" sl_whole_term ["_law_feed_here", "_law_kinds_here", "_law_boxes", "_law_kind", "_law_room", "_law_deep"]
 dl_term : DefTx K mg "_law_term" sl_term ["_law_feed_here", "_law_kinds_here", "_law_boxes", "_law_kind", "_law_room", "_law_deep"]
 dl_new_term : DefTx K mg "_law_new_term" sl_new_term ["_law_feed_here", "_law_kinds_here", "_law_boxes", "_law_kind"]
 dl_any_kind : DefTx K mg "_law_any_kind" sl_any_kind ["_law_feed_here", "_law_kinds_here"]
 dl_beside_parts : DefTx K mg "_law_beside_parts" sl_beside_parts ["_law_feed_here", "_law_kinds_here", "_law_sort", "_law_parts_here", "_law_names_here"]
 dl_beside : DefTx K mg "_law_beside" sl_beside ["_law_feed_here", "_law_kinds_here", "_law_names_here"]
 dl_way : DefTx K mg "_law_way" sl_way ["_law_feed_here", "_law_first", "_law_kinds_here", "_law_ways", "_law_name"]
 dl_told : DefTx K mg "_law_told" sl_told ["_law_feed_here", "_law_first", "_law_kinds_here"]
 dl_value : DefTx K mg "_law_value" sl_value ["_law_feed_here", "_law_kinds_here", "_law_kind"]
 dl_is_of : DefTx K mg "_law_is_of" sl_is_of ["_law_kinds_here", "_law_kind", "_law_value_here"]
 dl_same : DefTx K mg "_law_same" sl_same ["_law_kinds_here", "_law_more", "_law_told_here", "_law_kind"]
 d_law : DefTx K mg "law" s_law ["_law_script"]
 g_WIDE : ∃ t, mg "WIDE" = some (.int 4294967296 t)
 z_all : mg "all" = none
 z_bool : mg "bool" = none
 z_dict : mg "dict" = none
 z_int : mg "int" = none
 z_isinstance : mg "isinstance" = none
 z_len : mg "len" = none
 z_list : mg "list" = none
 z_max : mg "max" = none
 z_min : mg "min" = none
 z_range : mg "range" = none
 z_set : mg "set" = none
 z_str : mg "str" = none
 z_sum : mg "sum" = none
 z_tuple : mg "tuple" = none
 z_zip : mg "zip" = none
theorem fits {n : Nat} (h : n <= 4000000) : n <= sizeLine := Nat.le_trans h (by decide)
theorem xat {n : Nat} (h : n <= 4000000) : n < sizeLine := Nat.lt_of_le_of_lt h (by decide)
end K44
end
section
local macro_rules | `(tactic| walk_at "rd1") => `(tactic| first
 | refine ⟨_, rfl, ?_⟩
 | refine ⟨_, _, rfl, rfl, ?_⟩
 | refine ⟨_, _, _, _, rfl, rfl, (by assumption), (by first | rfl | assumption), ?_⟩
 | refine ⟨_, _, rfl, .inl (by assumption), ?_⟩
 | refine ⟨(by first | exact .inr ⟨by decide, by decide⟩ | exact .inl ⟨by decide, by decide⟩ | exact ⟨by decide, by decide, by decide⟩ | exact ⟨by decide, by decide⟩ | exact ⟨by assumption, by assumption⟩ | (show (0 : Int) < _; first | decide | assumption)), ?_⟩
 | refine ⟨rfl, ?_⟩)
local macro_rules | `(tactic| walk_at "rd") => `(tactic| repeat walk_at "rd1")
namespace K44
open PySem L2 M
seal L2.PE L2.PA L2.PS L2.PSs L2.PT L2.PW L2.PI L2.PG L2.PJ L2.PTs
def xqs (K : PySem.W.Frag) : Sp := fun vs H Q _ => ∃ (a : Addr) (ns : List Int) (k : Int), vs = [.ref a, .int k] /\ SqL K H a (ns.map V.int) /\ ns.length <= 63 /\ 0 <= k /\ ∀ (r : Addr) (p q : Int), H r = none -> Q (.ref r) (upd H r (.lst [.int p, .int q]))
def xb9 : Sp := fun vs H Q _ => ∃ (a : Addr) (p q m : Int), vs = [.ref a, .int m] /\ H a = some (.lst [.int p, .int q]) /\ 0 < m /\ m < 2 ^ 64 /\ ∀ (r : Int) (H' : Hp), 0 <= r -> r < m -> Fed a H H' -> Q (.int r) H'
section
variable {P : Program} {w : World} {K : PySem.W.Frag} {mg : Str -> Option Value} {base : Heap} {n : Nat}
theorem xkv {ns : List Int} {k : Int} (h0 : 0 <= k) (h : k < (ns.length : Int)) : ∃ v : Int, atI (ns.map V.int) k = some (.int v) := by
 have hk : k.toNat < ns.length := by omega
 have ek : k = ((k.toNat : Nat) : Int) := by omega
 refine ⟨ns[k.toNat], ?_⟩
 have q : atI (ns.map V.int) ((k.toNat : Nat) : Int) = some (.int ns[k.toNat]) := xap (by rw [zGM, zGA hk] <;> rfl)
 rw [<- ek] at q
 exact q
theorem xcj : 2 <= sizeLine := by decide
theorem xpz (T : Tx K mg) : DefIs P w K mg base (n + 1) "_law_feed" ["_law_script", "_law_k"] (xqs K) := by
 refine DefIs.of T.dl_feed scl_feed ?_ ?_ <;> walk_at "i"
 ·obtain ⟨a, ns, k, rfl, _⟩ := h
  rfl
 obtain ⟨a, ns, k, rfl, hS, h63, hk, q⟩ := h
 have nd := scl_feed.nd
 have hl : (ns.map V.int).length = ns.length := zLM _
 refine ⟨_, (zpn (xah (i := 2) nd rfl (by walk_at "o") pI)
   (zpn (xao (pR xfm (pv 1) (xak xad rfl T.z_len PySem.boot_len (pc (pv 0) pN zsn)) (nM _)) (zpo (xah (i := 2) nd rfl (by walk_at "o") (xag iL (pv 0) (pv 1) (fun _ _ => rfl)))) pQ)
   (zpn (xao (PW.pt (xcl (pR xdr (xak xad rfl T.z_len PySem.boot_len (pc (pv 0) pN zsn)) pI (nM _)) (xb3 (pR xas (xam xbw (xag iL (pv 0) pI (fun _ _ => rfl)) pI) pI (nM _))))) (zpo (xae (xbs (pc (pv 2) (pc (xam xbe (xam xbw (xam xbe (xam xcs (xam xbw (pv 2) pI) pI) (xam xcs pI (pv 1))) pI) pI) pN xax) zsn)))) pQ)
   (zpn (xao (PW.pt (xcl (pR op_ge (pv 1) (xak xad rfl T.z_len PySem.boot_len (pc (pv 0) pN zsn)) (nM _)) (xb3 (pR xdr (xak xad rfl T.z_len PySem.boot_len (pc (pv 0) pN zsn)) pI (nM _))))) (zpo (xah (i := 2) nd rfl (by walk_at "o") (xam xbe (xag iL (pv 0) (xam xbw (pv 1) (xak xad rfl T.z_len PySem.boot_len (pc (pv 0) pN zsn))) (fun _ _ => rfl)) (xam xcs pI (pv 1))))) pQ)
   (zpo (xae (xbs (pc pI (pc (xam xbe (xam xbw (xam xbe (xam xcs (xam xbw (pv 2) pI) pI) (xam xcs pI (pv 1))) pI) pI) pN xax) zso)))))))), ?_⟩
 have h0 : 0 < ns.length -> ∃ v : Int, atI (ns.map V.int) 0 = some (.int v) := fun h => xkv (Int.le_refl 0) (by omega)
 walk_at "rd"
 refine ite2 (fun c => ?_) (fun c => ?_)
 ·have c' := of_decide_eq_true c
  rw [hl] at c'
  obtain ⟨v, hv⟩ := xkv (ns := ns) hk c'
  obtain ⟨v0, hv0⟩ := h0 (by omega)
  walk_at "rd"
  refine ite2 (fun c2 => ?_) (fun c2 => ?_)
  ·walk_at "rd"
   refine ite2 (fun c3 => ?_) (fun c3 => ?_)
   ·walk_at "rd"
    exact ⟨xcj, fun l hl' => q l _ _ hl'⟩
   ·walk_at "rd"
    refine ite2 (fun c4 => ?_) (fun c4 => ?_)
    ·have c4' := of_decide_eq_true c4
     rw [hl] at c4'
     omega
    ·refine iteF ?_
     walk_at "rd"
     exact ⟨xcj, fun l hl' => q l _ _ hl'⟩
  ·have c2' := of_decide_eq_false (Bool.eq_false_iff.mpr c2)
   rw [hl] at c2'
   omega
 ·have c' := of_decide_eq_false (Bool.eq_false_iff.mpr c)
  rw [hl] at c'
  walk_at "rd"
  refine ite2 (fun c2 => ?_) (fun c2 => ?_)
  ·have c2' := of_decide_eq_true c2
   rw [hl] at c2'
   obtain ⟨v0, hv0⟩ := h0 (by omega)
   walk_at "rd"
   refine ite2 (fun c3 => ?_) (fun c3 => ?_)
   ·walk_at "rd"
    exact ⟨xcj, fun l hl' => q l _ _ hl'⟩
   ·walk_at "rd"
    refine ite2 (fun c4 => ?_) (fun c4 => ?_)
    ·walk_at "rd"
     refine ite2 (fun c5 => ?_) (fun c5 => ?_)
     ·obtain ⟨v, hv⟩ := xkv (ns := ns) (k := k % (ns.length : Int)) (Int.emod_nonneg _ (by omega)) (Int.emod_lt_of_pos _ (by omega))
      rw [<- hl] at hv
      have hp : (0 : Int) < ((ns.map V.int).length : Nat) := by rw [hl]; omega
      walk_at "rd"
      exact ⟨xcj, fun l hl' => q l _ _ hl'⟩
     ·walk_at "rd"
      exact ⟨xcj, fun l hl' => q l _ _ hl'⟩
    ·refine iteF ?_
     walk_at "rd"
     exact ⟨xcj, fun l hl' => q l _ _ hl'⟩
  ·refine iteF ?_
   walk_at "rd"
   refine ite2 (fun c4 => ?_) (fun c4 => ?_)
   ·walk_at "rd"
    refine ite2 (fun c5 => ?_) (fun c5 => ?_)
    ·have c2' := of_decide_eq_false (Bool.eq_false_iff.mpr c2)
     exact absurd (of_decide_eq_true c5) c2'
    ·walk_at "rd"
     exact ⟨xcj, fun l hl' => q l _ _ hl'⟩
   ·refine iteF ?_
    walk_at "rd"
    exact ⟨xcj, fun l hl' => q l _ _ hl'⟩
theorem xcx (T : Tx K mg) : DefIs P w K mg base (n + 1) "_law_take" ["_law_feed_here", "_law_many"] xb9 := by
 refine DefIs.of T.dl_take scl_take ?_ ?_ <;> walk_at "i"
 ·obtain ⟨a, p, q, m, rfl, _⟩ := h
  rfl
 obtain ⟨a, p, q, m, rfl, ha, m0, m1, k⟩ := h
 have nd := scl_take.nd
 have hS : SqL K H a [.int p, .int q] := SqL.of ha
 refine ⟨_, (zpn (xao (pR xdr (xag iL (pv 0) pI (fun _ _ => rfl)) pI (nM _)) (zpn (xah (i := 2) nd rfl (by walk_at "o") (xam xbw (xag iL (pv 0) pI (fun _ _ => rfl)) (pv 1)))
   (zpn (xcb (xam xbv (xag iL (pv 0) pI (fun _ _ => rfl)) (pv 1)) (xns (pv 0) pI xgy))
   (zpo (xae (pv 2))))) pQ)
   (zpn (xah (i := 3) nd rfl (by walk_at "o") (xam xbw (xam xcs (xag iL (pv 0) pI (fun _ _ => rfl)) pI) pI))
   (zpn (xcb (xam xbe (xam xbw (xam xbe (xam xcs (pv 3) pI) pI) pI) pI) (xns (pv 0) pI xgy))
   (zpo (xae (xam xbw (xam xbv (xam xbe (xam xcs (pv 3) pI) (xag iL (pv 0) pI (fun _ _ => rfl))) pI) (pv 1))))))), ?_⟩
 walk_at "rd"
 refine ite2 (fun c => ?_) (fun c => ?_)
 ·walk_at "rd"
  refine k _ _ (Int.emod_nonneg _ (by omega)) (Int.emod_lt_of_pos _ m0) Fed.of
 ·walk_at "rd"
  refine ⟨_, _, _, _, rfl, rfl, SqL.of ups, rfl, ?_⟩
  walk_at "rd"
  refine k _ _ (Int.emod_nonneg _ (by omega)) (Int.emod_lt_of_pos _ m0) Fed.of
end
end K44
end
section
namespace M
open PySem L2
mutual
def D.deep : D -> Nat
 | .int _ => 0
 | .str _ => 0
 | .tup ds => xf7 ds + 1
def xf7 : List D -> Nat
 | [] => 0
 | d :: ds => max d.deep (xf7 ds)
end
theorem xfy : ∀ {ds : List D} {d : D}, d ∈ ds -> d.deep <= xf7 ds
 | e :: ds, d, h => by
  show d.deep <= max e.deep (xf7 ds)
  rcases List.mem_cons.mp h with rfl | h
  ·omega
  ·have := xfy h
   omega
theorem xlt {n : Nat} : ∀ {ds : List D}, (∀ d ∈ ds, d.deep <= n) -> xf7 ds <= n
 | [], _ => Nat.zero_le _
 | e :: ds, h => by
  show max e.deep (xf7 ds) <= n
  have h1 := h e (by simp)
  have h2 := xlt (ds := ds) fun d hd => h d (List.mem_cons_of_mem _ hd)
  omega
section
variable {X : Cx} {pins : List (Addr × Obj)} {σ : St} {H : Hp} {s : Shared}
theorem xes {vs : List V} {its : List Value} (r : Vals vs its) {j : Nat} (h1 : j < its.toArray.size) : ∃ x, vs[j]? = some x /\ RelV x its.toArray[j] := by
 have hl := r.length
 have h : j < its.length := by simpa using h1
 obtain ⟨u, e, q⟩ := r.get (i := j) (x := vs[j]'(by omega)) (zGA _)
 have g : its.toArray[j] = u := by
  have : its[j]? = some its[j] := zGA h
  rw [e] at this
  simpa using (Option.some.inj this).symm
 exact ⟨vs[j]'(by omega), zGA _, by rw [g]; exact q⟩
theorem eq_at (I : Inv X pins σ H s) : ∀ (n : Nat) (d : D) {x y : V} {u v : Value} {A : Around}, d.deep <= n -> RelD H x d -> RelD H y d -> RelV x u -> RelV y v -> A.units + n < cLine -> SeqAt.EqAt A s u v true
 | n, .int i, x, y, u, v, A, _, hx, hy, ru, rv, _ => by
  cases hx
  cases hy
  obtain ⟨t, rfl⟩ := ru
  obtain ⟨t', rfl⟩ := rv
  have := SeqAt.EqAt.int_int (A := A) (s := s) i t i t'
  rw [beq_self_eq_true] at this
  exact this
 | n, .str z, x, y, u, v, A, _, hx, hy, ru, rv, _ => by
  cases hx
  cases hy
  obtain ⟨t, rfl⟩ := ru
  obtain ⟨t', rfl⟩ := rv
  have := SeqAt.EqAt.str_str (A := A) (s := s) z t z t'
  rw [beq_self_eq_true] at this
  exact this
 | 0, .tup ds, x, y, u, v, A, h, _, _, _, _, _ => absurd h (Nat.not_succ_le_zero _)
 | n + 1, .tup ds, x, y, u, v, A, h, hx, hy, ru, rv, hA => by
  obtain ⟨a, vs, rfl, ha, rvs⟩ := hx
  obtain ⟨b, ws, rfl, hb, rws⟩ := hy
  obtain rfl : u = .ref a := ru
  obtain rfl : v = .ref b := rv
  by_cases hab : a = b
  ·subst hab
   exact SeqAt.EqAt.same _
  ·obtain ⟨its, r1, p1, _⟩ := I.tuple (SqT.of (K := X.K) ha)
   obtain ⟨its2, r2, p2, _⟩ := I.tuple (SqT.of (K := X.K) hb)
   have l1 := r1.length
   have l2 := r2.length
   have l3 := rvs.length
   have l4 := rws.length
   have := SeqAt.EqAt.of_refs hab (SeqAt.RcAt.tuples (A := A) (e := fun _ => true) p1 p2 (by omega) fun j h1 h2 => ?_)
   ·have e : ((List.range (min its.toArray.size its2.toArray.size)).all (fun _ => true) && its.toArray.size == its2.toArray.size) = true := by
     rw [show its.toArray.size = its2.toArray.size by simp only [List.size_toArray]; omega]
     simp
    rw [e] at this
    exact this
   ·obtain ⟨x1, e1, q1⟩ := xes r1 h1
    obtain ⟨x2, e2, q2⟩ := xes r2 h2
    obtain ⟨d1, f1, g1⟩ := rvs.get e1
    obtain ⟨d2, f2, g2⟩ := rws.get e2
    rw [f1] at f2
    cases f2
    refine eq_at I n d1 ?_ g1 g2 q1 q2 (by show A.units + 1 + n < cLine; omega)
    have := xfy (zMG f1)
    have h' : xf7 ds + 1 <= n + 1 := h
    omega
def rNeD : R2 := fun x y H Q => ∃ d : D, RelD H x d /\ RelD H y d /\ d.deep <= 190 /\ Q (.bl false) H
theorem xto (hu : X.A.units + 200 < cLine) : OpR X (compareOp .NotEq) rNeD := by
 intro pins s σ H x y v u Q I rx ry h
 obtain ⟨d, hx, hy, hd, q⟩ := h
 cases d with
 | int i =>
  cases hx
  cases hy
  exact xeg pins s σ H _ _ _ _ Q I rx ry ⟨rfl, by rw [zDT rfl]; exact q⟩
 | str z =>
  cases hx
  cases hy
  exact xeg pins s σ H _ _ _ _ Q I rx ry ⟨rfl, by rw [zDT rfl]; exact q⟩
 | tup ds =>
  obtain ⟨a, vs, rfl, ha, rvs⟩ := hx
  obtain ⟨b, ws, rfl, hb, rws⟩ := hy
  obtain rfl : v = .ref a := rx
  obtain rfl : u = .ref b := ry
  obtain ⟨its, r1, p1, _⟩ := I.tuple (SqT.of (K := X.K) ha)
  obtain ⟨its2, r2, p2, _⟩ := I.tuple (SqT.of (K := X.K) hb)
  have l1 := r1.length
  have l2 := r2.length
  have l3 := rvs.length
  have l4 := rws.length
  refine PySem.EqBoolInt.of_rcne (SeqAt.RcNeAt.tuples (e := fun _ => true) p1 p2 (by omega) fun j h1 h2 => ?_) ⟨.bl false, H, I, ?_, q⟩
  ·obtain ⟨x1, e1, q1⟩ := xes r1 h1
   obtain ⟨x2, e2, q2⟩ := xes r2 h2
   obtain ⟨d1, f1, g1⟩ := rvs.get e1
   obtain ⟨d2, f2, g2⟩ := rws.get e2
   rw [f1] at f2
   cases f2
   refine eq_at I 190 d1 ?_ g1 g2 q1 q2 (by show X.A.units + 1 + 190 < cLine; omega)
   have := xfy (zMG f1)
   have h' : xf7 ds + 1 <= 190 := hd
   omega
  ·have e : ((List.range (min its.toArray.size its2.toArray.size)).all (fun _ => true) && its.toArray.size == its2.toArray.size) = true := by
    rw [show its.toArray.size = its2.toArray.size by simp only [List.size_toArray]; omega]
    simp
   rw [e]
   rfl
end
end M
end
section
namespace M
open PySem L2
def five : List Nat := [113, 120, 122, 118, 119]
def nmA (cs : List Nat) (a : Nat) (b : Int) (k : Nat) : List Nat := cs.take a ++ (97 + ((b + 5 * (k : Int)) % 26).toNat) :: cs.drop a
def nmB (cs : List Nat) (a : Nat) (b : Int) (k : Nat) : List Nat := nmA cs a b (k - k % 2) ++ List.replicate (k % 2) 113
def xkx (nms : List Str) : Prop := nms.length = 26 /\ nms.Nodup /\ ∀ z ∈ nms, Name z
theorem xfs (cs : List Nat) (a : Nat) (b : Int) (k : Nat) : (nmA cs a b k).length = cs.length + 1 := by
 unfold nmA
 rw [List.length_append, List.length_cons, List.length_take, List.length_drop]
 omega
theorem xfr (cs : List Nat) (a : Nat) (b : Int) (k : Nat) : (nmB cs a b k).length = cs.length + 1 + k % 2 := by
 unfold nmB
 rw [List.length_append, xfs, List.length_replicate]
theorem xn5 {cs : List Nat} {a : Nat} {b : Int} {k j : Nat} (hk : k < 26) (hj : j < 26) (h : nmA cs a b k = nmA cs a b j) : k = j := by
 unfold nmA at h
 have h2 := List.append_cancel_left h
 have h3 := (List.cons.inj h2).1
 omega
theorem xr9 {cs : List Nat} {a : Nat} {b : Int} {k j : Nat} (hk : k < 26) (hj : j < 26) (h : nmB cs a b k = nmB cs a b j) : k = j := by
 have hl := congrArg List.length h
 rw [xfr, xfr] at hl
 have hm : k % 2 = j % 2 := by omega
 unfold nmB at h
 rw [hm] at h
 have h2 := List.append_cancel_right h
 have h3 := xn5 (by omega) (by omega) h2
 omega
theorem xi7 {f : Nat -> Str} (h : ∀ k j, k < 26 -> j < 26 -> f k = f j -> k = j) : ((List.range 26).map f).Nodup := by
 refine List.pairwise_map.mpr (List.Pairwise.imp_of_mem (fun hi hj hlt e => ?_) (List.pairwise_lt_range (n := 26)))
 have := h _ _ (List.mem_range.mp hi) (List.mem_range.mp hj) e
 omega
theorem xfw : ∀ c ∈ five, xd1 c = true := by decide
theorem xjd (i : Int) : xd1 (97 + (i % 26).toNat) = true := by
 unfold xd1
 have h1 : 0 <= i % 26 := Int.emod_nonneg _ (by decide)
 have h2 : i % 26 < 26 := Int.emod_lt_of_pos _ (by decide)
 rw [Bool.and_eq_true, decide_eq_true_eq, decide_eq_true_eq]
 omega
theorem xn7 {l : List Nat} (h1 : 1 <= l.length) (h6 : l.length <= 6) (hl : ∀ c ∈ l, xd1 c = true) (h5 : l.length = 1 \/ ∃ c ∈ l, c ∈ five) : Name (ofL l) := by
 show xn9 l = true
 unfold xn9
 have ne : ∀ z : List Nat, z.length ≠ 1 -> (∀ c ∈ z, c ∉ five) -> (l != z) = true := fun z hz hc => by
  rw [bne_iff_ne]
  intro e
  subst e
  rcases h5 with h5 | ⟨c, hm, h5⟩
  ·exact hz h5
  ·exact hc c hm h5
 rw [ne [110, 117, 109] (by decide) (by decide), ne [105, 116] (by decide) (by decide), zDT h1, zDT h6, List.all_eq_true.mpr hl]
 rfl
theorem mem_nmA {cs : List Nat} {a : Nat} {b : Int} {k c : Nat} : c ∈ nmA cs a b k ↔ c ∈ cs \/ c = 97 + ((b + 5 * (k : Int)) % 26).toNat := by
 unfold nmA
 rw [List.mem_append, List.mem_cons]
 have e : c ∈ cs ↔ c ∈ cs.take a \/ c ∈ cs.drop a := by
  rw [<- List.mem_append, List.take_append_drop]
 rw [e]
 constructor
 ·rintro (h | h | h)
  ·exact .inl (.inl h)
  ·exact .inr h
  ·exact .inl (.inr h)
 ·rintro ((h | h) | h)
  ·exact .inl h
  ·exact .inr (.inr h)
  ·exact .inr (.inl h)
theorem xp4 {cs : List Nat} {a : Nat} {b : Int} {k : Nat} (hc : cs.length <= 4) (h5 : ∀ c ∈ cs, c ∈ five) : Name (ofL (nmA cs a b k)) := by
 refine xn7 (by rw [xfs]; omega) (by rw [xfs]; omega) (fun c hm => ?_) ?_
 ·rcases mem_nmA.mp hm with h | h
  ·exact xfw c (h5 c h)
  ·rw [h]; exact xjd _
 ·cases cs with
  | nil => exact .inl (by rw [xfs]; rfl)
  | cons c r => exact .inr ⟨c, mem_nmA.mpr (.inl (by simp)), h5 c (by simp)⟩
theorem xp3 {cs : List Nat} {a : Nat} {b : Int} {k : Nat} (hc : cs.length <= 4) (h5 : ∀ c ∈ cs, c ∈ five) : Name (ofL (nmB cs a b k)) := by
 refine xn7 (by rw [xfr]; omega) (by rw [xfr]; omega) (fun c hm => ?_) ?_
 ·unfold nmB at hm
  rcases zMA hm with hm | hm
  ·rcases mem_nmA.mp hm with h | h
   ·exact xfw c (h5 c h)
   ·rw [h]; exact xjd _
  ·rw [(List.mem_replicate.mp hm).2]; decide
 ·by_cases hk : k % 2 = 0
  ·cases cs with
   | nil => exact .inl (by rw [xfr, hk]; rfl)
   | cons c r => exact .inr ⟨c, by unfold nmB; exact List.mem_append_left _ (mem_nmA.mpr (.inl (by simp))), h5 c (by simp)⟩
  ·refine .inr ⟨113, ?_, by decide⟩
   unfold nmB
   exact List.mem_append_right _ (List.mem_replicate.mpr ⟨by omega, rfl⟩)
theorem nmsA {cs : List Nat} {a : Nat} {b : Int} (hc : cs.length <= 4) (h5 : ∀ c ∈ cs, c ∈ five) : xkx ((List.range 26).map fun k => ofL (nmA cs a b k)) := by
 refine ⟨by simp, xi7 fun k j hk hj e => xn5 hk hj (congrArg L e), fun z hz => ?_⟩
 obtain ⟨k, _, rfl⟩ := List.mem_map.mp hz
 exact xp4 hc h5
theorem nmsB {cs : List Nat} {a : Nat} {b : Int} (hc : cs.length <= 4) (h5 : ∀ c ∈ cs, c ∈ five) : xkx ((List.range 26).map fun k => ofL (nmB cs a b k)) := by
 refine ⟨by simp, xi7 fun k j hk hj e => xr9 hk hj (congrArg L e), fun z hz => ?_⟩
 obtain ⟨k, _, rfl⟩ := List.mem_map.mp hz
 exact xp3 hc h5
theorem xpn (x : Str) {j : Int} (h0 : 0 <= j) (h1 : j <= x.length) : Txt.slice x none (some j) = ofL ((L x).take j.toNat) := by
 have e : Txt.slice x none (some j) = StrLaws.sliceText x none (some j) := rfl
 rw [e, StrLaws.sliceText_to ⟨h0, by rw [show x.cps.toList.length = x.length by simp [Str.length]]; exact h1⟩]
 show ofL ((((L x).drop 0).take (j - 0).toNat)) = _
 rw [List.drop_zero, Int.sub_zero]
theorem xl6 (x : Str) {j : Int} (h0 : 0 <= j) (h1 : j <= x.length) : Txt.slice x (some j) none = ofL ((L x).drop j.toNat) := by
 have e : Txt.slice x (some j) none = StrLaws.sliceText x (some j) none := rfl
 rw [e, StrLaws.sliceText_from ⟨h0, by rw [show x.cps.toList.length = x.length by simp [Str.length]]; exact h1⟩]
 apply xpf
 show ((L x).drop j.toNat).take _ = (L x).drop j.toNat
 refine zTL ?_
 rw [List.length_drop]
 show (L x).length - j.toNat <= (((L x).length : Int) - j).toNat
 omega
theorem xoh {i : Int} (h0 : 0 <= i) (h : i < 26) : atI (S "abcdefghijklmnopqrstuvwxyz").cps.toList i = some (97 + i.toNat) := by
 have all : ∀ k, k < 26 -> (S "abcdefghijklmnopqrstuvwxyz").cps.toList[k]? = some (97 + k) := by walk_at "k"
 have ek : i = ((i.toNat : Nat) : Int) := by omega
 have q := xap (all i.toNat (by omega))
 rw [<- ek] at q
 exact q
theorem xsi {i : Int} (h0 : 0 <= i) (h : i < 5) : ∃ c ∈ five, atI (S "qxzvw").cps.toList i = some c := by
 have e : (S "qxzvw").cps.toList = five := by walk_at "k"
 rw [e]
 exact xlz h0 h
theorem xn6 (cs : List Nat) (a ch : Nat) : ofL (cs.take a) ++ (⟨#[ch]⟩ : Str) ++ ofL (cs.drop a) = ofL (cs.take a ++ ch :: cs.drop a) := by
 apply xpf
 rw [xdi, xdi, xc3, xc3, xc3]
 show cs.take a ++ [ch] ++ cs.drop a = _
 simp
end M
namespace L2
open PySem PySem.Spec PyProof.Rows
theorem xr2 {X : Cx} : OpR X (binaryOp .Mult) (fun x y H Q => ∃ i n, x = .str i /\ y = .int n /\ (n = 0 \/ n = 1) /\ Q (.str (if n = 1 then i else Str.empty)) H) := by
 intro pins s σ H x y v u Q I rx ry h
 obtain ⟨i, n, rfl, rfl, hn, q⟩ := h
 obtain ⟨t, rfl⟩ := rx
 obtain ⟨t', rfl⟩ := ry
 refine SB.mul ?_ fun t' k => ⟨.str _, H, I.tok k, ⟨t', rfl⟩, ?_⟩
 ·rcases hn with rfl | rfl
  ·exact ⟨by decide, fun h => absurd (by decide) h, fun h => absurd (by decide) h⟩
  ·exact ⟨by decide, fun _ h => by simp at h, fun _ h => by simp at h⟩
 ·have e : Txt.mul i n = if n = 1 then i else Str.empty := by
   rcases hn with rfl | rfl
   ·rfl
   ·unfold Txt.mul
    rw [if_neg (by decide), if_pos (by simp), if_pos rfl]
  rw [e]
  exact q
end L2
end
section
namespace M
open PySem L2
structure KWf (ks : List Kn) : Prop where
 nd : (ks.map Kn.name).Nodup
 nm : ∀ k ∈ ks, Name k.name
 ref : ∀ (i : Nat) (k : Kn), ks[i]? = some k -> ∀ p ∈ k.parts, p.2 = S "num" \/ ∃ j, ∃ k' : Kn, j < i /\ ks[j]? = some k' /\ k'.name = p.2
 alt : ∀ k ∈ ks, k.rc = false -> k.parts ≠ []
 few : ks.length <= 6
 pts : ∀ k ∈ ks, k.parts.length <= 5
 pnd : ∀ k : Kn, k ∈ ks -> (k.parts.map (fun p : Str × Str => p.1)).Nodup
 pnm : ∀ k : Kn, k ∈ ks -> ∀ p ∈ k.parts, Name p.1
theorem xcy {x : Str} (h : Name x) : x ≠ S "num" := fun e => by
 rw [e] at h
 exact absurd (show xn9 (S "num").cps.toList = true from h) (by walk_at "k")
theorem KWf.nil : KWf [] := ⟨List.nodup_nil, (fun _ h => nomatch h), (fun i k h => by simp at h), (fun _ h => nomatch h), Nat.zero_le _, (fun _ h => nomatch h), (fun _ h => nomatch h), (fun _ h => nomatch h)⟩
theorem xbr {α : Type} {f : α -> Str} : ∀ {xs : List α} {i : Nat} {a : α}, (xs.map f).Nodup -> xs[i]? = some a -> xs.find? (fun z => decide (f z = f a)) = some a
 | x :: xs, 0, a, nd, h => by
  simp at h
  subst h
  rw [List.find?_cons, zDT rfl]
 | x :: xs, i + 1, a, nd, h => by
  have h' : xs[i]? = some a := by simpa using h
  rw [List.map_cons, List.nodup_cons] at nd
  have hne : f x ≠ f a := fun e => nd.1 (by rw [e]; exact List.mem_map_of_mem (zMG h'))
  rw [List.find?_cons, zDF hne]
  exact xbr nd.2 h'
theorem KWf.at {ks : List Kn} (w : KWf ks) {i : Nat} {k : Kn} (h : ks[i]? = some k) : kAt ks k.name = some k := xbr (f := Kn.name) w.nd h
theorem KWf.no {ks : List Kn} {x : Str} (h : ∀ k ∈ ks, k.name ≠ x) : kAt ks x = none := by
 unfold kAt
 rw [List.find?_eq_none]
 intro k hk
 simpa using h k hk
theorem KWf.num {ks : List Kn} (w : KWf ks) : kAt ks (S "num") = none := KWf.no fun k hk => xcy (w.nm k hk)
def KIn (ks : List Kn) (n : Nat) (x : Str) : Prop := x = S "num" \/ ∃ j k, j < n /\ ks[j]? = some k /\ k.name = x
theorem KIn.mono {ks : List Kn} {n m : Nat} {x : Str} (h : KIn ks n x) (l : n <= m) : KIn ks m x := by
 rcases h with h | ⟨j, k, hj, h⟩
 ·exact .inl h
 ·exact .inr ⟨j, k, by omega, h⟩
theorem KIn.ap {ks more : List Kn} {n : Nat} {x : Str} (h : KIn ks n x) : KIn (ks ++ more) n x := by
 rcases h with h | ⟨j, k, hj, h1, h2⟩
 ·exact .inl h
 ·exact .inr ⟨j, k, hj, by rw [List.getElem?_append_left (zES h1).1]; exact h1, h2⟩
theorem KIn.of {ks : List Kn} {x : Str} (h : x = S "num" \/ ∃ k ∈ ks, k.name = x) : KIn ks ks.length x := by
 rcases h with h | ⟨k, hk, h⟩
 ·exact .inl h
 ·obtain ⟨j, hj, e⟩ := List.mem_iff_getElem.mp hk
  exact .inr ⟨j, k, hj, by rw [<- e]; exact zGA hj, h⟩
theorem KWf.snoc {ks : List Kn} (w : KWf ks) {k : Kn} (h1 : k.name ∉ ks.map Kn.name) (h2 : Name k.name) (h3 : ∀ p ∈ k.parts, KIn ks ks.length p.2) (h4 : k.rc = false -> k.parts ≠ []) (h5 : ks.length < 6) (h6 : k.parts.length <= 5)
  (h7 : (k.parts.map (·.1)).Nodup) (h8 : ∀ p ∈ k.parts, Name p.1) : KWf (ks ++ [k]) := by
 have mem : ∀ {q : Kn -> Prop}, (∀ z ∈ ks, q z) -> q k -> ∀ z ∈ ks ++ [k], q z := fun a b z hz => by
  rcases zMA hz with hz | hz
  ·exact a z hz
  ·rw [zMO hz]; exact b
 refine ⟨?_, mem w.nm h2, ?_, mem w.alt h4, by rw [List.length_append, List.length_singleton]; omega, mem w.pts h6, mem w.pnd h7, mem w.pnm h8⟩
 ·rw [List.map_append]
  exact xkh w.nd h1
 ·intro i z hz p hp
  by_cases hi : i < ks.length
  ·rw [List.getElem?_append_left hi] at hz
   exact KIn.ap (w.ref i z hz p hp)
  ·rw [List.getElem?_append_right (by omega)] at hz
   have hi0 : i - ks.length = 0 := by
    have := (zES hz).1
    simp at this
    omega
   rw [hi0] at hz
   simp at hz
   subst hz
   exact (h3 p hp).ap.mono (by omega)
def maxD : List Int -> Int
 | [] => 0
 | n :: ns => max n (maxD ns)
theorem xoc : ∀ {ns : List Int} {n : Int}, n ∈ ns -> n <= maxD ns
 | m :: ns, n, h => by
  show n <= max m (maxD ns)
  rcases List.mem_cons.mp h with rfl | h
  ·omega
  ·have := xoc h
   omega
theorem xhc : ∀ {ns : List Int}, ns ≠ [] -> (∀ n ∈ ns, 0 <= n) -> maxD ns ∈ ns
 | [n], _, h => by
  have h0 := h n (by simp)
  show max n 0 ∈ [n]
  rw [Int.max_eq_left h0]
  simp
 | n :: m :: ns, _, h => by
  have ih := xhc (ns := m :: ns) (by simp) fun x hx => h x (List.mem_cons_of_mem _ hx)
  show max n (maxD (m :: ns)) ∈ n :: m :: ns
  rcases Int.le_total n (maxD (m :: ns)) with e | e
  ·rw [Int.max_eq_right e]; exact List.mem_cons_of_mem _ ih
  ·rw [Int.max_eq_left e]; simp
theorem xsb {ns : List Int} {m : Int} (hn : ns ≠ []) (h0 : ∀ n ∈ ns, 0 <= n) (hm : m ∈ ns) (h : ∀ n ∈ ns, n <= m) : m = maxD ns := by
 have h1 := xoc hm
 have h2 := h _ (xhc hn h0)
 omega
def szF : Nat -> List Kn -> Str -> Int
 | 0, _, _ => 1
 | n + 1, ks, x => match kAt ks x with
  | none => 1
  | some k => 1 + (if k.rc = true then (k.parts.map fun p => szF n ks p.2).sum else maxD (k.parts.map fun p => szF n ks p.2))
theorem xfa {ks : List Kn} (hp : ∀ k ∈ ks, k.parts.length <= 5) : ∀ (n : Nat) (x : Str), 1 <= szF n ks x /\ szF n ks x <= 6 ^ n
 | 0, x => by simp [szF]
 | n + 1, x => by
  unfold szF
  have p1 : (1 : Int) <= 6 ^ n := Int.pow_pos (by decide)
  have e6 : (6 : Int) ^ (n + 1) = 6 * 6 ^ n := by rw [Int.pow_succ, Int.mul_comm]
  cases hk : kAt ks x with
  | none => simp only; omega
  | some k =>
   simp only
   have hk5 := hp k (List.mem_of_find?_eq_some hk)
   have all : ∀ m ∈ k.parts.map (fun p => szF n ks p.2), 1 <= m /\ m <= 6 ^ n := fun m hm => by
    obtain ⟨p, _, rfl⟩ := List.mem_map.mp hm
    exact xfa hp n p.2
   have hl : (k.parts.map (fun p => szF n ks p.2)).length <= 5 := by rw [zLM]; exact hk5
   generalize k.parts.map (fun p => szF n ks p.2) = ns at all hl ⊢
   have hs : ∀ (l : List Int), (∀ m ∈ l, 1 <= m /\ m <= (6 : Int) ^ n) -> 0 <= l.sum /\ l.sum <= l.length * 6 ^ n := by
    intro l
    induction l with
    | nil => intro _; simp
    | cons a r ih =>
     intro h
     have h1 := h a (by simp)
     have h2 := ih fun m hm => h m (List.mem_cons_of_mem _ hm)
     rw [List.sum_cons, List.length_cons]
     push_cast
     rw [Int.add_mul]
     omega
   have hm : 0 <= maxD ns /\ maxD ns <= 6 ^ n := by
    by_cases he : ns = []
    ·subst he; simp [maxD]; omega
    ·have := all _ (xhc he fun m hm => by have := all m hm; omega)
     omega
   have h1 := hs ns all
   have h2 : (ns.length : Int) * 6 ^ n <= 5 * 6 ^ n := Int.mul_le_mul_of_nonneg_right (by omega) (by omega)
   split <;> omega
def KsSeq (H : Hp) (v : V) (ks : List Kn) : Prop := ∃ a vs, v = .ref a /\ (H a = some (.lst vs) \/ H a = some (.tup vs)) /\ RelDs H vs (ks.map Kn.d)
theorem KsSeq.same {H H' : Hp} {v : V} {ks : List Kn} (h : KsSeq H v ks) (s : Same H H') : KsSeq H' v ks := by
 obtain ⟨a, vs, e, h1, h2⟩ := h
 exact ⟨a, vs, e, h1.imp (s _ _) (s _ _), h2.same s _⟩
theorem KWf.ksAt {ks : List Kn} (w : KWf ks) {H : Hp} {v : V} (h : RelD H v (xbg ks)) : KsAt H v ks := ⟨h, by have := w.few; omega, fun k hk => by have := w.pts k hk; omega⟩
theorem KsAt.seq {H : Hp} {v : V} {ks : List Kn} (h : KsAt H v ks) : KsSeq H v ks := by
 obtain ⟨a, vs, e, h1, h2⟩ := h.1
 exact ⟨a, vs, e, .inr h1, h2⟩
def xci : Option Kn -> Str
 | some k => k.sort
 | none => S "num"
end M
namespace L2
open PySem PySem.Spec PyProof.Rows
theorem xru {X : Cx} {tg it : Expr} {w1 w2 : TI} (h1 : PI X tg it w1) (h2 : PI X tg it w2) : PI X tg it (fun σ H R => w1 σ H R \/ w2 σ H R) := fun pins s σ H R I h => by
 rcases h with h | h
 ·exact h1 pins s σ H R I h
 ·exact h2 pins s σ H R I h
end L2
namespace L2
theorem xdu {σ : St} {H : Hp} {A B : Hp -> Prop} (h : A H) : tYes σ H (fun b H3 => if b = true then A H3 else B H3) := by
 unfold tYes
 show if true = true then A H else B H
 rw [if_pos rfl]
 exact h
end L2
namespace M
open PySem L2
theorem Fed.put {f p : Addr} {H H' : Hp} (h : Fed f H H') (hp : H p = none) (hf : p ≠ f) (o : HO) : Fed f H (upd H' p o) := by
 obtain ⟨s, x, y, e⟩ := h
 refine ⟨fun b u hb nb => ?_, x, y, ?_⟩
 ·rw [xaw (neN hb hp)]
  exact s b u hb nb
 ·rw [xaw (Ne.symm hf)]
  exact e
theorem xa2 {H : Hp} {p : Addr} {us : List V} (h : H p = some (.lst us)) (o : HO) : ∀ b vs, H b = some (.tup vs) -> upd H p o b = some (.tup vs) := fun b vs hb => by
 rw [xaw fun e => by rw [e, h] at hb; cases hb]
 exact hb
theorem xhb {ks : List Kn} {r : Int} (h0 : 0 <= r) (h : r < 1 + (ks.length : Int)) : ∃ x, atI ([V.str (S "num")] ++ (ks.map Kn.name).map V.str) r = some (.str x) /\ KIn ks ks.length x := by
 have e : [V.str (S "num")] ++ (ks.map Kn.name).map V.str = (S "num" :: ks.map Kn.name).map V.str := rfl
 obtain ⟨z, hz, hv⟩ := xlz (cs := (S "num" :: ks.map Kn.name).map V.str) h0 (by rw [zLM, List.length_cons, zLM]; push_cast; omega)
 obtain ⟨y, hy, rfl⟩ := List.mem_map.mp hz
 refine ⟨y, by rw [e]; exact hv, ?_⟩
 rcases List.mem_cons.mp hy with rfl | hy
 ·exact .inl rfl
 ·obtain ⟨k, hk, rfl⟩ := List.mem_map.mp hy
  exact KIn.of (.inr ⟨k, hk, rfl⟩)
theorem xk4 {ys : List Str} {i : Nat} (h : i < ys.length) : atI (ys.map V.str) (0 + (i : Int)) = some (.str ys[i]) := by
 rw [Int.zero_add]
 exact xap (by rw [zGM, zGA h]; rfl)
end M
namespace M
open PySem L2
theorem xq9 {nms : List Str} (h : nms.length = 26) : cutV (nms.map V.str) (some 8) (some 12) = ((nms.drop 8).take 4).map V.str := by
 unfold cutV HT.sIx
 rw [zLM, h, List.map_take, List.map_drop]
 rfl
theorem xtn {nms : List Str} (h : xkx nms) (i : Nat) : (((nms.drop 8).take 4).take i).Nodup /\ ∀ z ∈ ((nms.drop 8).take 4).take i, Name z := by
 have hs : (((nms.drop 8).take 4).take i).Sublist nms := ((List.take_sublist _ _).trans (List.take_sublist _ _)).trans (List.drop_sublist _ _)
 exact ⟨h.2.1.sublist hs, fun z hz => h.2.2 z (hs.subset hz)⟩
theorem xn4 {nms : List Str} (h : nms.Nodup) {i : Nat} (hi : i < nms.length) : nms[i] ∉ nms.take i := fun hm => by
 obtain ⟨j, hj, e⟩ := List.mem_iff_getElem.mp hm
 rw [List.length_take] at hj
 rw [List.getElem_take] at e
 have := (List.getElem_inj h).mp e
 omega
def xqm (nms : List Str) (ks : List Kn) : Prop := KWf ks /\ ks.length <= 4 /\ ks.map Kn.name = nms.take ks.length /\ ∀ k ∈ ks, k.parts.length <= 4 /\ k.parts.map (·.1) = ((nms.drop 8).take 4).take k.parts.length
end M
end
section
namespace St
open PySem PySem.Spec PyProof.Rows
def met (val : Nat -> Str) (i : Nat) : List Str := ((List.range i).map val).foldl step_dedup []
theorem xe2 (val : Nat -> Str) (i : Nat) : met val (i + 1) = step_dedup (met val i) (val i) := by
 unfold met
 rw [List.range_succ, List.map_append, List.foldl_append]
 rfl
theorem xoa (val : Nat -> Str) : ∀ i, (met val i).length <= i
 | 0 => Nat.le_refl _
 | i + 1 => by
  have ih := xoa val i
  rw [xe2]
  unfold step_dedup
  split
  ·omega
  ·rw [List.length_append, List.length_singleton]
   omega
theorem dd_any (l : List Str) (v k : Str) : (step_dedup l v).any (· == k) = (l.any (· == k) || decide (k = v)) := by
 unfold step_dedup
 split
 ·rename_i h
  by_cases e : k = v
  ·subst e
   rw [h, Bool.true_or]
  ·rw [zDF e, Bool.or_false]
 ·rw [List.any_append]
  congr 1
  rw [Bool.eq_iff_iff]
  simp
  exact eq_comm
theorem dd_len (l : List Str) (v : Str) : (step_dedup l v).length = if l.any (· == v) then l.length else l.length + 1 := by
 unfold step_dedup
 split <;> simp
theorem xm1 : ∀ {vs : List Value} {ns : List Str}, StrsAre vs ns -> ∀ (i : Nat) (v : Value), vs[i]? = some v -> ∃ t, v = .str (ns.getD i Str.empty) t
 | _, _, .nil, i, v, h => by simp at h
 | _, _, .cons n t r, 0, v, h => by
  simp at h
  exact ⟨t, h.symm⟩
 | _, _, .cons n t r, i + 1, v, h => by
  obtain ⟨t', e⟩ := xm1 r i v (by simpa using h)
  exact ⟨t', by simpa using e⟩
section
variable {prog : Program} {w : World} {A : Around} {R : Result -> Shared -> Prop} {I : Addr} {fp wr : List Addr} {G : Array GenState -> Array GenState -> Prop} {n : Nat} {P : Nat -> Value -> Prop} {St : Nat -> Shared -> Prop}
theorem upd_loop (W : WalksS prog w A.in1 I fp wr G n P St) (S : Addr) (hSf : S ∉ fp)
  (val : Nat -> Str) (hval : ∀ i v, P i v -> ∃ t, v = .str (val i) t) (hb : n + 1 < scanBound) :
  ∀ (k i : Nat) (s : Shared), n - i = k -> i <= n -> St i s ->
   s.heap.SetOf (PySem.strKind prog w) S (fun k' => (met val i).any (· == k')) (met val i).length ->
   (∀ s', Moved (S :: wr) G s s' -> s'.heap.SetOf (PySem.strKind prog w) S (fun k' => (met val n).any (· == k')) (met val n).length -> R (.ok (.ret .none)) s') ->
   codeAny (model prog w) A (.builtin "set.update.loop" ⟨[.ref S, .ref I], []⟩) R s := by
 have hSw : S ∉ wr := fun h => hSf (W.sub _ h)
 have hsub : ∀ b ∈ wr, b ∈ S :: wr := fun b hb => List.mem_cons_of_mem _ hb
 intro k
 induction k with
 | zero =>
  intro i s hk hi hst hS hR
  have hin : i = n := by omega
  subst hin
  refine codeAny_builtin F.entry_set_update_loop ?_
  rw [Around.under_plainId F.plain_set_update_loop _]
  show wpAny _ A.in1 (pyNext (.ref I) >>= _) _ _ s
  refine wpAny_bind (W.done s _ _ hst fun s' hm => ?_)
  show wpAny _ A.in1 (ret Value.none) _ _ s'
  exact wpAny_pure (hR s' (hm.mono hsub) (by
   obtain ⟨o, es, ep, t, ho, rest⟩ := hS
   exact ⟨o, es, ep, t, hm.heap S _ hSw ho, rest⟩))
 | succ k ih =>
  intro i s hk hi hst hS hR
  have hlt : i < n := by omega
  refine codeAny_builtin F.entry_set_update_loop ?_
  rw [Around.under_plainId F.plain_set_update_loop _]
  show wpAny _ A.in1 (pyNext (.ref I) >>= _) _ _ s
  refine wpAny_bind (W.item i s _ _ hlt hst fun v s' hP hst' hm => ?_)
  obtain ⟨t, rfl⟩ := hval i v hP
  have hS' : s'.heap.SetOf (PySem.strKind prog w) S (fun k' => (met val i).any (· == k')) (met val i).length := by
   obtain ⟨o, es, ep, tb, ho, rest⟩ := hS
   exact ⟨o, es, ep, tb, hm.heap S _ hSw ho, rest⟩
  show wpAny _ A.in1 (holding [Value.str (val i) t] (setAdd S (.str (val i) t)) >>= _) _ _ s'
  refine wpAny_bind (wpAny_holding ?_)
  unfold setAdd
  refine wpAny_holding ?_
  refine wpAny_bind ((PySem.strKind prog w).pyHash (k := val i) (PySem.strKind_is _ _ _ _) ?_)
  have hroom : (met val i).length + 1 < scanBound := by have := xoa val i; omega
  refine wpAny_setAddHashed_of (knd := PySem.strKind prog w) (s := { s' with toks := s'.toks + 1 }) (PySem.strKind_is _ _ _ _) rfl hS' hroom fun h' hsb hS2 => ?_
  have hSi : h'.SetOf (PySem.strKind prog w) S (fun k' => (met val (i + 1)).any (· == k')) (met val (i + 1)).length :=
   SetOf_congr hS2 (fun k' => by rw [xe2, dd_any]) (by rw [xe2, dd_len])
  refine wpAny_pure ⟨plainId_quiet F.plain_set_update_loop _, ih (i + 1) _ (by omega) hlt (W.frame _ s' _ _ hst' (Nat.le_succ _) fun b hb o e => ?_) hSi fun s'' hm'' hS'' => ?_⟩
  ·rw [hsb.2 b (fun h : b = S => hSf (by rw [<- h]; exact hb))]; exact e
  ·refine hR s'' (Moved.trans W.gtrans ((hm.mono hsub).then_heap (Nat.le_succ _) fun b o hb e => ?_) hm'') hS''
   rw [hsb.2 b (fun h : b = S => hb (by rw [h]; exact List.mem_cons_self))]; exact e
end
section
variable {prog : Program} {w : World} {A : Around} {E : Value -> Shared -> Prop} {s : Shared}
set_option maxRecDepth 100000 in
set_option maxHeartbeats 3200000 in
theorem call_set_strs {l : Addr} {items : Array Value} {ns : List Str} {Q : Value -> Shared -> Prop}
  (hh : A.handled = none) (hl : s.heap.IsList l items) (hi : StrsAre items.toList ns) (hb : items.size + 1 < scanBound)
  (h : ∀ (h' : Heap) (tk : Nat), h'.SetOf (PySem.strKind prog w) s.heap.objs.size (fun k' => (met (fun i => ns.getD i Str.empty) items.size).any (· == k')) (met (fun i => ns.getD i Str.empty) items.size).length ->
   (∀ b o, b < s.heap.objs.size -> s.heap.get? b = some o -> h'.get? b = some o) -> Q (.ref s.heap.objs.size) { s with heap := h', toks := tk }) :
  wpAny (model prog w) A (call (.type "set") [.ref l]) Q E s := by
 obtain ⟨c, tl, hmro⟩ := F.called_set.mro
 have hmade := F.called_set.made
 have hsub := F.called_set.sub
 refine wpAny_call (codeAny_of_tree ?_)
 show wpAny _ _ (callAny (.type "set") _) _ _ _
 refine wpAny_pure ⟨Code.quiet_builtin _ (by walk_at "k"), codeAny_builtin F.entry_type_call ?_⟩
 rw [Around.under_plain (weight_type_call_type "set" [.ref l] []) rfl]
 have h1 := F.called_set.notType
 have h2 := F.called_set.canCreate
 have hct := F.typeCall_set_1 (.ref l)
 repeat (any_goals (first | assumption | wp_step))
 refine codeAny_mono (code_set_new_1 (.ref l) (E := E) (Q₁ := fun obj s₁ => ∃ led : Bool, obj = .ref s.heap.objs.size /\ s₁ = { s with heap := s.heap.push { cls := .type "set", dict := none, data := .set #[] 0 (.fresh 0 0 led) } }) fun led => ⟨led, rfl, rfl⟩) fun r s₁ hr => ?_
 cases r with
 | error e => exact hr
 | ok fl =>
  cases fl with
  | ret obj =>
   obtain ⟨led, rfl, rfl⟩ := hr
   have hS : (s.heap.push { cls := .type "set", dict := none, data := .set #[] 0 (.fresh 0 0 led) }).get? s.heap.objs.size = some { cls := .type "set", dict := none, data := .set #[] 0 (.fresh 0 0 led) } := Heap.get?_push_size _ rfl
   have hT : Shared.TypeIs { s with heap := s.heap.push { cls := .type "set", dict := none, data := .set #[] 0 (.fresh 0 0 led) } } (.ref s.heap.objs.size) "set" := ⟨_, hS, rfl⟩
   have hli := F.called_set.init.lookup
   have hbi := F.called_set.init.bind (.ref s.heap.objs.size)
   repeat (any_goals (first | assumption | wp_step))
   refine codeAny_mono (codeAny_call_builtin (R := wants (fun r s₂ => r = .none /\ ∃ h' tk, s₂ = { s with heap := h', toks := tk } ∧
     h'.SetOf (PySem.strKind prog w) s.heap.objs.size (fun k' => (met (fun i => ns.getD i Str.empty) items.size).any (· == k')) (met (fun i => ns.getD i Str.empty) items.size).length ∧
     (∀ b o, b < s.heap.objs.size -> s.heap.get? b = some o -> h'.get? b = some o)) E) F.called_set.init.plain F.entry_set_init (check_set_init_1 hT ?_)) fun r₂ s₂ hr₂ => ?_
   ·obtain ⟨ol, hol, hcl, nl, hdl⟩ := hl
    obtain ⟨ocls, odict, odata, oslots⟩ := ol
    simp only at hcl hdl
    subst hcl; subst hdl
    have hol' : (s.heap.push { cls := .type "set", dict := none, data := .set #[] 0 (.fresh 0 0 led) }).get? l = some { cls := .type "list", dict := odict, data := .seq items nl, slots := oslots } := Heap.get?_push_of_some _ hol
    have hsls := F.sub_list_set
    have hslf := F.sub_list_frozenset
    have hne : (Value.type "list" == Value.type "dict") = false := by decide
    have hl1 : (s.heap.push { cls := .type "set", dict := none, data := .set #[] 0 (.fresh 0 0 led) }).IsList l items := ⟨_, hol', rfl, nl, rfl⟩
    unfold Builtin.«set.__init__» noKeywords Builtin.Frozenset.updateFrom
    generalize hPI : pyIter = PI
    wp_walk
    subst hPI
    refine wpAny_pyIter_list hl1 ?_
    refine wpAny_bind (wpAny_runValue ?_)
    have hlS : l < s.heap.objs.size := Heap.lt_size hol
    have hh3 : A.in1.in1.in1.handled = none := by simp [hh]
    have hneI : l ≠ (s.heap.push { cls := .type "set", dict := none, data := .set #[] 0 (.fresh 0 0 led) }).objs.size := by
     rw [Heap.size_push]; exact Nat.ne_of_lt (Nat.lt_succ_of_lt hlS)
    have hSf : s.heap.objs.size ∉ [(s.heap.push { cls := .type "set", dict := none, data := .set #[] 0 (.fresh 0 0 led) }).objs.size, l] := by
     rw [Heap.size_push]; simp only [List.mem_cons, List.mem_singleton, List.not_mem_nil, or_false, not_or]
     exact ⟨Nat.ne_of_lt (Nat.lt_succ_self _), Nat.ne_of_gt hlS⟩
    have hval : ∀ (i : Nat) (v : Value), items[i]? = some v -> ∃ t, v = .str ((fun i => ns.getD i Str.empty) i) t := fun i v hv =>
     xm1 hi i v (by rw [Array.getElem?_toList]; exact hv)
    refine upd_loop ((Walks.list hh3 _ l hneI items).toS) s.heap.objs.size
     hSf (fun i => ns.getD i Str.empty) hval hb (items.size - 0) 0 _ (by omega) (Nat.zero_le _)
     ⟨⟨_, Heap.get?_push_size _ rfl, rfl, rfl⟩, (hl1.push _)⟩ ?hS0 ?hR
    case hS0 =>
     have hget : ((s.heap.push { cls := .type "set", dict := none, data := .set #[] 0 (.fresh 0 0 led) }).push { cls := .type "list_iterator", data := .fields #[.ref l, .int 0 0] }).get? s.heap.objs.size
       = some { cls := .type "set", dict := none, data := .set #[] 0 (.fresh 0 0 led) } := Heap.get?_push_of_some _ hS
     exact SetOf_congr ((setObjOf_fresh (knd := PySem.strKind prog w) led).setOf hget (by unfold scanBound; omega)) (fun _ => rfl) rfl
    case hR =>
     intro s' hm hS'
     obtain ⟨h', g', d', tk', os'⟩ := s'
     have eg : g' = s.gens := hm.gens
     have ed : d' = s.drawn := hm.drawn
     have eo : os' = s.os := hm.os
     subst eg; subst ed; subst eo
     show wpAny _ _ _ _ _ _
     refine wpAny_pure ?_
     show wpAny _ _ (ret Value.none) _ _ _
     refine wpAny_pure ⟨rfl, h', tk', rfl, hS', fun b o hb e => ?_⟩
     have hb1 : b ≠ s.heap.objs.size := Nat.ne_of_lt hb
     have hb2 : b ≠ (s.heap.push { cls := .type "set", dict := none, data := .set #[] 0 (.fresh 0 0 led) }).objs.size := by
      rw [Heap.size_push]; exact Nat.ne_of_lt (Nat.lt_succ_of_lt hb)
     exact hm.heap b o (by simp only [List.mem_cons, List.mem_singleton, List.not_mem_nil, or_false, not_or]; exact ⟨hb1, hb2⟩) (Heap.get?_push_of_some _ (Heap.get?_push_of_some _ e))
   ·cases r₂ with
    | error e => exact hr₂
    | ok fl₂ =>
     cases fl₂ with
     | ret r =>
      obtain ⟨rfl, h', tk, rfl, hS', hk'⟩ := hr₂
      repeat (any_goals (first | assumption | wp_step))
      exact h _ _ hS' hk'
     | _ => exact hr₂.elim
  | _ => exact hr.elim
end
end St
end
section
namespace St
open PySem PySem.Spec PyProof.Rows
end St
namespace L2
open PySem PySem.Spec PyProof.Rows
end L2
end
section
namespace M
open PySem L2
theorem xq3 {A : Around} {k : Nat} (hr : Room k A) : A.units + 200 < cLine := by
 have := hr.un
 omega
def nuT : Nat -> List Kn -> Str -> D
 | 0, _, _ => tNum 0
 | n + 1, ks, x => match kAt ks x with
  | none => tNum 0
  | some k => if k.rc = true then tRec x (k.parts.map fun p => nuT n ks p.2) else match k.parts with
   | [] => tNum 0
   | p :: _ => tTag x p.1 (nuT n ks p.2)
def nuV : Nat -> List Kn -> Str -> D
 | 0, _, _ => .int 0
 | n + 1, ks, x => match kAt ks x with
  | none => .int 0
  | some k => if k.rc = true then .tup [.str x, .tup (k.parts.map fun p => nuV n ks p.2)] else match k.parts with
   | [] => .int 0
   | p :: _ => .tup [.str x, .str p.1, nuV n ks p.2]
theorem KIn.look {ks : List Kn} (wf : KWf ks) {m : Nat} {x : Str} (h : KIn ks m x) : (x = S "num" /\ kAt ks x = none) \/ ∃ j k, m = j + 1 /\ kAt ks x = some k /\ k.name = x /\ k ∈ ks /\ ∀ p ∈ k.parts, KIn ks j p.2 := by
 rcases h with rfl | ⟨j, k, hj, hk, rfl⟩
 ·exact .inl ⟨rfl, wf.num⟩
 ·refine .inr ⟨m - 1, k, by omega, wf.at hk, rfl, zMG hk, fun p hp => ?_⟩
  rcases wf.ref j k hk p hp with z | ⟨i, k2, hi, z⟩
  ·exact .inl z
  ·exact .inr ⟨i, k2, by omega, z⟩
def NuAt (ks : List Kn) (m : Nat) (x : Str) : Prop :=
  (x = S "num" /\ kAt ks x = none /\ nuT (m + 1) ks x = tNum 0 /\ nuV (m + 1) ks x = .int 0) ∨
  ∃ j k, m = j + 1 /\ kAt ks x = some k /\ k.name = x /\ k ∈ ks /\ (∀ p ∈ k.parts, KIn ks j p.2) /\ x ≠ S "num" ∧
    ((k.rc = true /\ nuT (m + 1) ks x = tRec x (k.parts.map fun p => nuT m ks p.2) /\ nuV (m + 1) ks x = .tup [.str x, .tup (k.parts.map fun p => nuV m ks p.2)]) ∨
     (k.rc = false /\ ∃ p r, k.parts = p :: r /\ nuT (m + 1) ks x = tTag x p.1 (nuT m ks p.2) /\ nuV (m + 1) ks x = .tup [.str x, .str p.1, nuV m ks p.2]))
theorem KIn.nu {ks : List Kn} (wf : KWf ks) {m : Nat} {x : Str} (h : KIn ks m x) : NuAt ks m x := by
 rcases h.look wf with ⟨rfl, e⟩ | ⟨j, k, rfl, e, hn, hm, hp⟩
 ·refine .inl ⟨rfl, e, ?_, ?_⟩
  ·unfold nuT; rw [e]
  ·unfold nuV; rw [e]
 ·refine .inr ⟨j, k, rfl, e, hn, hm, hp, by rw [<- hn]; exact xcy (wf.nm k hm), ?_⟩
  cases hc : k.rc with
  | true =>
   refine .inl ⟨rfl, ?_, ?_⟩
   ·conv => lhs; unfold nuT
    rw [e]
    show (if k.rc = true then _ else _) = _
    rw [if_pos hc]
   ·conv => lhs; unfold nuV
    rw [e]
    show (if k.rc = true then _ else _) = _
    rw [if_pos hc]
  | false =>
   obtain ⟨p, r, er⟩ : ∃ p r, k.parts = p :: r := by
    cases hq : k.parts with
    | nil => exact absurd hq (wf.alt k hm hc)
    | cons p r => exact ⟨p, r, rfl⟩
   refine .inr ⟨rfl, p, r, er, ?_, ?_⟩
   ·conv => lhs; unfold nuT
    rw [e]
    show (if k.rc = true then _ else _) = _
    rw [if_neg (by rw [hc]; decide), er]
   ·conv => lhs; unfold nuV
    rw [e]
    show (if k.rc = true then _ else _) = _
    rw [if_neg (by rw [hc]; decide), er]
theorem xhm {α β γ : Type} {R : β -> γ -> Prop} {f : α -> β} {g : α -> γ} : ∀ {xs : List α}, (∀ x ∈ xs, R (f x) (g x)) -> All2 R (xs.map f) (xs.map g)
 | [], _ => .nil
 | x :: xs, h => .cons (h x (by simp)) (xhm fun y hy => h y (List.mem_cons_of_mem _ hy))
end M
end
section
namespace M
open PySem L2
end M
end
section
namespace M
open PySem L2
theorem xhy {ks : List Kn} {k : Kn} {x : Str} (h : kAt ks x = some k) (n : Nat) : szF (n + 1) ks x = 1 + (if k.rc = true then (k.parts.map fun p => szF n ks p.2).sum else maxD (k.parts.map fun p => szF n ks p.2)) := by
 conv => lhs; unfold szF
 rw [h]
theorem xdo {ks : List Kn} {x : Str} (h : kAt ks x = none) : ∀ n, szF n ks x = 1
  | 0 => rfl
  | n + 1 => by conv => lhs; unfold szF
                rw [h]
theorem xpi {ks : List Kn} (w : KWf ks) (j : Nat) : ∀ (x : Str), KIn ks j x -> ∀ n, j + 1 <= n -> szF n ks x = szF (j + 1) ks x := by
 induction j with
 | zero =>
  intro x h n hn
  rcases h.look w with ⟨rfl, e⟩ | ⟨i, k, e0, _⟩
  ·rw [xdo e, xdo e]
  ·cases e0
 | succ j ih =>
  intro x h n hn
  rcases h.look w with ⟨rfl, e⟩ | ⟨i, k, e0, e, _, _, hp⟩
  ·rw [xdo e, xdo e]
  ·cases e0
   obtain ⟨m, rfl⟩ : ∃ m, n = m + 1 := ⟨n - 1, by omega⟩
   have this : (k.parts.map fun p => szF m ks p.2) = k.parts.map fun p => szF (j + 1) ks p.2 := List.map_congr_left fun p hp' => ih p.2 (hp p hp') m (by omega)
   rw [xhy e, xhy e, this]
def sz (ks : List Kn) (x : Str) : Int := szF 7 ks x
theorem xs5 {ks : List Kn} (w : KWf ks) : sz ks (S "num") = 1 := xdo w.num _
theorem sz_ge {ks : List Kn} (w : KWf ks) (x : Str) : 1 <= sz ks x := (xfa w.pts 7 x).1
def inSz (k : Kn) (f : Str -> Int) : Int := if k.rc = true then (k.parts.map fun p => f p.2).sum else maxD (k.parts.map fun p => f p.2)
theorem xgh {k : Kn} {f g : Str -> Int} (h : ∀ p ∈ k.parts, f p.2 = g p.2) : inSz k f = inSz k g := by
 unfold inSz
 rw [List.map_congr_left (g := fun p => g p.2) h]
theorem sz_at {ks : List Kn} (w : KWf ks) {i : Nat} {k : Kn} (h : ks[i]? = some k) : sz ks k.name = 1 + inSz k (sz ks) := by
 have hf := w.few
 have hi : i < ks.length := (zES h).1
 show szF 7 ks k.name = _
 rw [xhy (w.at h)]
 show 1 + inSz k (szF 6 ks) = _
 rw [xgh (g := sz ks)]
 intro p hp
 have hin : KIn ks 5 p.2 := KIn.mono (n := i) (w.ref i k h p hp) (by omega)
 exact (xpi w 5 p.2 hin 7 (by omega)).symm
theorem kAt_ap {ks more : List Kn} {x : Str} {k : Kn} (h : kAt ks x = some k) : kAt (ks ++ more) x = some k := by
 unfold kAt at h ⊢
 rw [List.find?_append, h]
 rfl
theorem xqq {ks more : List Kn} (w : KWf ks) (w2 : KWf (ks ++ more)) : ∀ (n : Nat) (x : Str), KIn ks ks.length x -> szF n (ks ++ more) x = szF n ks x
 | 0, _, _ => rfl
 | n + 1, x, h => by
  rcases h.look w with ⟨rfl, e⟩ | ⟨i, k, e0, e, _, _, hp⟩
  ·rw [xdo e, xdo w2.num]
  ·rw [xhy e, xhy (kAt_ap e), List.map_congr_left (g := fun p => szF n ks p.2) fun p hp' => xqq w w2 n p.2 ((hp p hp').mono (by omega))]
theorem xs6 {ks more : List Kn} (w : KWf ks) (w2 : KWf (ks ++ more)) {x : Str} (h : KIn ks ks.length x) : sz (ks ++ more) x = sz ks x := xqq w w2 7 x h
def Fit (ks : List Kn) : Prop := ∀ k ∈ ks, sz ks k.name <= 30
theorem Fit.nil : Fit [] := fun _ h => nomatch h
theorem Fit.snoc {ks : List Kn} {k : Kn} (w : KWf ks) (w2 : KWf (ks ++ [k])) (f : Fit ks) (hp : ∀ p ∈ k.parts, KIn ks ks.length p.2) (hb : inSz k (sz ks) <= 29) : Fit (ks ++ [k]) := by
 intro z hz
 rcases zMA hz with hz | hz
 ·rw [xs6 w w2 (KIn.of (.inr ⟨z, hz, rfl⟩))]
  exact f z hz
 ·rw [zMO hz, sz_at w2 (i := ks.length) (by simp), xgh (g := sz ks) fun p hp' => xs6 w w2 (hp p hp')]
  omega
end M
end
section
namespace M
open PySem L2
end M
end
section
namespace M
open PySem L2
end M
end
section
namespace M
open PySem L2
end M
end
section
namespace Nt
open PySem
end Nt
end
section
namespace L2
open PySem PySem.Spec PyProof.Rows
end L2
end
section
set_option maxHeartbeats 1000000
namespace L2
open PySem PySem.Spec PySem.W PySem.Calls PyProof.Rows
open Builtin Builtin.ObjectAttr
end L2
end
section
set_option maxHeartbeats 1000000
namespace L2
open PySem PySem.Spec PySem.W PySem.Calls PyProof.Rows
open Builtin Builtin.ObjectAttr
end L2
end
section
set_option maxHeartbeats 1000000
namespace L2
open PySem PySem.Spec PyProof.Rows
end L2
end
section
set_option maxHeartbeats 1000000
namespace L2
open PySem PySem.Spec PyProof.Rows
end L2
end
section
set_option maxHeartbeats 1000000
namespace L2
open PySem PySem.Spec PyProof.Rows
end L2
end
section
namespace L2
open PySem PySem.Spec PyProof.Rows M
end L2
end
section
namespace L2
open PySem PySem.Spec PyProof.Rows
theorem is_kV {P : Program} {w : World} {k : Key} {v : Value} (h : (xbd P w).is k v = true) : RelV (kV k) v := by
 cases k with
 | inl i =>
  have h' : Value.isInt i v = true := h
  unfold Value.isInt at h'
  split at h' <;> simp_all [RelV, kV]
 | inr x =>
  have h' : Value.isStrOf x v = true := h
  unfold Value.isStrOf at h'
  split at h' <;> simp_all [RelV, kV]
theorem xmq : ∀ {xs : List V} {us : List Value}, xs.length = us.length -> (∀ (i : Nat) x u, xs[i]? = some x -> us[i]? = some u -> RelV x u) -> Vals xs us
 | [], [], _, _ => .nil
 | [], _ :: _, h, _ => by simp at h
 | _ :: _, [], h, _ => by simp at h
 | x :: xs, u :: us, h, k => .cons (k 0 x u rfl rfl) (xmq (by simpa using h) fun i y w hy hw => k (i + 1) y w (by simpa using hy) (by simpa using hw))
theorem KV.get {κ : Type} {kvs : List (κ × V)} {vs : List (κ × Value)} (r : KV kvs vs) {i : Nat} {p : κ × V} {q : κ × Value} (hp : kvs[i]? = some p) (hq : vs[i]? = some q) : p.1 = q.1 := by
 unfold KV at r
 induction r generalizing i with
 | nil => simp at hp
 | cons h t ih =>
  cases i with
  | zero =>
   simp at hp hq
   subst hp hq
   exact h.1
  | succ i => exact ih (by simpa using hp) (by simpa using hq)
section
variable {X : Cx}
theorem xmn (hc : X.calm = true) : xdl X (.type "list") (fun xs H Q => ∃ a, ∃ kvs : List (Key × V), xs = [V.ref a] /\ H a = some (.dK kvs) /\ ∀ l, H l = none -> Q (.ref l) (upd H l (.lst (kvs.map fun kv => kV kv.1)))) := by
 intro pins s σ H xs us Q I r h
 obtain ⟨a, kvs, rfl, ha, q⟩ := h
 obtain ⟨u, rfl, ru⟩ := xd9 r
 cases ru
 obtain ⟨z, hd, vs, rel, dd⟩ := xqh I.hok ha
 obtain ⟨ep, hat⟩ := dd.dictAt
 have hl := rel.length
 refine PySem.W.kdl_call (PySem.W.kdl_dict hd) (I.ok.hd hc) hat (by rw [<- hl]; exact z) fun h' tk acc' c' hk hD hacc => ?_
 refine ⟨.ref s.heap.objs.size, _, I.laid hk (Nat.le_refl _) (o := .lst (kvs.map fun kv => kV kv.1)) ⟨by rw [zLM]; exact z, acc'.toList, c', ?_, by simpa using hD⟩, rfl, q _ (I.hok.fresh (Nat.le_refl _))⟩
 refine xmq (by have := hacc.1; rw [zLM]; simp only [Array.length_toList]; omega) fun i x u hx hu => ?_
 rw [zGM] at hx
 obtain ⟨p, hp, rfl⟩ := zMS hx
 obtain ⟨k, y, hky, hk'⟩ := hacc.2 i u (by rw [<- Array.getElem?_toList]; exact hu)
 have e : p.1 = k := KV.get rel hp hky
 rw [e]
 exact is_kV hk'
end
end L2
end
section
namespace Rv
open PySem PySem.Spec PyProof.Rows PySem.W
end Rv
namespace L2
open PySem PySem.Spec PyProof.Rows
end L2
end
section
namespace St
open PySem PySem.Spec PyProof.Rows
theorem met_nodup {ns : List Str} (nd : ns.Nodup) : ∀ i, i <= ns.length -> met (fun i => ns.getD i Str.empty) i = ns.take i
 | 0, _ => rfl
 | i + 1, h => by
  rw [xe2, met_nodup nd i (by omega)]
  have e : ns.getD i Str.empty = ns[i] := by simp [List.getD, zGA (show i < ns.length by omega)]
  show step_dedup (ns.take i) (ns.getD i Str.empty) = _
  rw [e]
  unfold step_dedup
  rw [if_neg, List.take_add_one, zGA (show i < ns.length by omega)]
  ·rfl
  ·intro hc
   obtain ⟨x, hx, he⟩ := List.any_eq_true.mp hc
   have he' : x = ns[i] := by simpa using he
   subst he'
   obtain ⟨j, hj, hje⟩ := List.getElem_of_mem hx
   rw [List.length_take] at hj
   rw [List.getElem_take] at hje
   have := (List.getElem_inj nd).mp hje
   omega
end St
namespace L2
open PySem PySem.Spec PyProof.Rows
theorem xk5 : ∀ {ns : List Str} {us : List Value}, Vals (ns.map V.str) us -> StrsAre us ns
 | [], _, h => by cases h; exact .nil
 | x :: r, _, h => by
  cases h with
  | cons a b =>
   obtain ⟨t, rfl⟩ := a
   constructor; exact xk5 b
def xrk (te : TE) : TE := fun σ H Q => te σ H fun x H1 => ∃ p, ∃ ns : List Str, x = .ref p /\ H1 p = some (.lst (ns.map V.str)) /\ ns.Nodup /\ ns.length <= 1000 /\ Q (.int ns.length) H1
theorem xnt {X : Cx} {e : Expr} {te : TE} {p1 p2 q1 q2 : Pos} (hc : X.calm = true) (hg1 : Gl X "len") (hm1 : X.mg "len" = none) (hg2 : Gl X "set") (hm2 : X.mg "set" = none) (he : PE X e te)
  (hs2 : starEach [e] X.env = [(false, eval e X.env)] := by rfl)
  (hs1 : starEach [Expr.Call (.Name "set" p2) [e] [] q2] X.env = [(false, eval (.Call (.Name "set" p2) [e] [] q2) X.env)] := by rfl) :
  PE X (.Call (.Name "len" p1) [.Call (.Name "set" p2) [e] [] q2] [] q1) (xrk te) := by
 intro pins s σ H Q I h
 refine wpAny_Call_Name_kw (xer I hg1 hm1 PySem.boot_len ?_ (by decide) (by decide))
 refine PyProof.Rows.callWith_builtin1 ?_ hs1 rfl
 rw [hs1]
 refine Calls.spliced_cons ?_
 refine wpAny_Call_Name_kw (xer I hg2 hm2 PyProof.Rows.boot_set ?_ (by decide) (by decide))
 refine PyProof.Rows.callWith_type1 (thn ((pc he pN hs2) q2 pins s σ H (fun vs H1 => match vs with
  | [x] => ∃ p, ∃ ns : List Str, x = .ref p /\ H1 p = some (.lst (ns.map V.str)) /\ ns.Nodup /\ ns.length <= 1000 /\ Q (.int ns.length) H1
  | _ => False) I h) fun us s1 ⟨vs, H1, I1, r1, q⟩ => ?_) hs2 rfl
 match vs, r1, q with
 | [x], r1, q =>
  obtain ⟨p, ns, rfl, hp, hnd, hle, q⟩ := q
  obtain ⟨u, rfl, ru⟩ := xd9 r1
  cases ru
  obtain ⟨its, rv, pl, hz⟩ := I1.list (SqL.of (K := X.K) hp)
  have hlen : ns.length = its.length := by have := rv.length; rw [zLM] at this; exact this
  refine St.call_set_strs (ns := ns) (I.ok.hd hc) pl.isList (by simpa using xk5 rv) (by show its.toArray.size + 1 < 4096; rw [List.size_toArray]; omega) fun h2 tk hS hk => Calls.spliced_nil ?_
  obtain ⟨o, es, ep, t, ho, hex, hd, _, _, _, hf, hsz⟩ := hS
  have hsz' : es.size = ns.length := by
   rw [hsz]
   show (St.met _ _).length = _
   have : its.toArray.size = ns.length := by simp [hlen]
   rw [this, St.met_nodup hnd _ (Nat.le_refl _), List.take_length]
  refine call_len_set ho hex hd hf (by rw [hsz']; omega) ⟨.int ns.length, H1, ?_, ⟨_, by rw [hsz']⟩, q⟩
  exact I1.kept fun b u eb => hk b u (Heap.lt_size eb) eb
theorem xr0 {X : Cx} : OpR X (compareOp .IsNot) (fun x y H Q => y = .bl true /\ ∃ b, x = .bl b /\ Q (.bl (!b)) H) := by
 intro pins s σ H x y v u Q I rx ry h
 obtain ⟨rfl, b, rfl, q⟩ := h
 cases rx
 cases ry
 cases b <;> exact wpAny_pure (xa5 I q rfl)
end L2
end
section
namespace L2
open PySem PySem.Spec PyProof.Rows M
end L2
namespace HT
open PySem PySem.Spec PyProof.Rows L2
end HT
namespace L2
open PySem PySem.Spec PyProof.Rows M
end L2
end
section
namespace PySem
open Sem (wp)
section
variable {prog : Program} {w : World} {A : Around} {E : Value -> Shared -> Prop} {s : Shared}
theorem xd3 {a : Addr} {xs : Array Value} {k : Nat} {sl : Array (Option Value)} {name : Str} {Q : Option Value -> Shared -> Prop}
  (hx : s.heap.get? a = some { cls := .type "list", dict := none, data := .seq xs k, slots := sl }) (hmiss : typeLookup (.type "list") name = pure none) (hname : (["__module__", "__name__", "__qualname__", "__doc__", "__annotations__"] : List Str).contains name = false) (hA : A.handled = none)
  (h : ∀ h' tk, (∀ b o, s.heap.get? b = some o -> h'.get? b = some o) -> Q none { s with heap := h', toks := tk }) (hsz : name.length + 100 <= sizeLine) :
  wpAny (model prog w) A (getAttr? (.ref a) name) Q E s := by
 obtain ⟨hp, g, d, tk, os⟩ := s
 have hT : ∀ tk', (⟨hp, g, d, tk', os⟩ : Shared).TypeIs (.ref a) "list" := fun _ => ⟨_, hx, rfl⟩
 have f1 := sub_AttributeError
 have f3 := F.slot_list_getattribute.lookup
 have f4 := F.slot_list_getattribute.bind (.ref a)
 have f5 := am_list_getattr_none
 unfold getAttr? getAttrBy? getAttrBy
 repeat (any_goals (first | assumption | exact hT _ | ((with_reducible show wpAny _ _ (call (Value.builtin "list.__getattribute__") _ _) _ _ _); refine call_meets F.slot_list_getattribute (hT _) am_entry_list_getattribute (F.args_list_getattribute_2 _ _) (meets_getattribute_miss_list a xs k sl name _ hmiss hname hsz) ⟨hx, hA, fun h' tk' e hx' => ?_⟩) | wp_step))
 obtain ⟨t', u', he⟩ := hx'.there
 show wpAny _ _ (getattributeRaised _ _ _ _ _ _ _) _ _ _
 unfold getattributeRaised
 repeat (any_goals (first | assumption | wp_step))
 all_goals first | exact h _ _ hx'.keeps | skip
end
end PySem
namespace L2
open PySem PySem.Spec PyProof.Rows
theorem xa6 : plainId "dict.update.loop" = true := by walk_at "k"
theorem xb8 : entryFor table "dict.update.loop" = some Builtin.«dict.update.loop» := entryFor_of_fast (by kernel_rfl)
section
variable {prog : Program} {w : World} {A : Around} {K : Type} [DecidableEq K] {knd : KeyKind prog w K}
def PairsAt (knd : KeyKind prog w K) (h : Heap) : List Value -> List (K × Value) -> Prop
 | [], [] => True
 | it :: its, p :: ps => (∃ a key, it = .ref a /\ h.IsTuple a #[key, p.2] /\ knd.is p.1 key = true) /\ PairsAt knd h its ps
 | _, _ => False
theorem PairsAt.keep {h h' : Heap} : ∀ {its : List Value} {ps : List (K × Value)}, PairsAt knd h its ps -> (∀ a xs, h.IsTuple a xs -> h'.IsTuple a xs) -> PairsAt knd h' its ps
 | [], [], _, _ => trivial
 | it :: its, p :: ps, ⟨⟨a, key, e, ha, hk⟩, r⟩, k => ⟨⟨a, key, e, k _ _ ha, hk⟩, PairsAt.keep r k⟩
 | [], _ :: _, h, _ => h.elim
 | _ :: _, [], h, _ => h.elim
theorem xe8 {h : Heap} {a d : Addr} {xs : Array Value} {kvs : List (K × Value)} (ht : h.IsTuple a xs) (hd : h.DictOf knd d kvs) : a ≠ d := fun e => by
 subst e
 obtain ⟨o, ho, hc, _⟩ := ht
 obtain ⟨t, _, _, ht2, hx2, _⟩ := hd
 have hc2 := hx2.1
 have : o = t := Option.some.inj (ho.symm.trans ht2)
 subst this
 rw [hc] at hc2
 exact absurd (Value.type.inj hc2) (by decide)
theorem xe7 {h : Heap} {a I l : Addr} {i : Nat} {xs : Array Value} (ht : h.IsTuple a xs) (hd : h.IsListIter I l i) : a ≠ I := fun e => by
 subst e
 obtain ⟨o, ho, hc, _⟩ := ht
 obtain ⟨t, ht2, hc2, _⟩ := hd
 have : o = t := Option.some.inj (ho.symm.trans ht2)
 subst this
 rw [hc] at hc2
 exact absurd (Value.type.inj hc2) (by decide)
theorem upd_loop {R : Result -> Shared -> Prop} {I l d : Addr} {its : List Value} {ps : List (K × Value)} (hh : A.in1.handled = none) (hne : l ≠ I) (hdl : l ≠ d) (hdI : I ≠ d) :
    ∀ (k i : Nat) (s : Shared) (cur : List (K × Value)), its.length - i = k -> i <= its.length -> s.heap.IsListIter I l i -> s.heap.IsList l its.toArray -> s.heap.DictOf knd d cur -> PairsAt knd s.heap (its.drop i) (ps.drop i) -> cur.length + (its.length - i) <= sizeLine ->
    (∀ h' tk, h'.DictOf knd d (merged cur (ps.drop i)) -> (∀ b o, b ≠ d -> b ≠ I -> s.heap.get? b = some o -> h'.get? b = some o) -> R (.ok (.ret .none)) { s with heap := h', toks := tk }) ->
    codeAny (model prog w) A (.builtin "dict.update.loop" ⟨[.ref d, .ref I, rawInt i, .none], []⟩) R s := by
  intro k
  induction k with
  | zero =>
    intro i s cur hk hi hit hl hd hp hsz hR
    have hin : i = its.length := by omega
    have W := Walks.list (prog := prog) (w := w) (A := A.in1) hh I l hne its.toArray
    refine codeAny_builtin xb8 ?_
    rw [Around.under_plainId xa6 _]
    show wpAny _ A.in1 (pyNext (.ref I) >>= _) _ _ s
    refine wpAny_bind (W.done s _ _ (by have e : its.toArray.size = i := by simp [hin]
                                        rw [e]; exact ⟨hit, hl⟩) fun h' tk hk' => ?_)
    show wpAny _ _ (Builtin.Dict.addKeywords d [] >>= _) _ _ _
    refine wpAny_bind (wpAny_pure (wpAny_pure ?_))
    have hps : ps.drop i = [] := by
      rw [hin, List.drop_length] at hp
      rw [hin]
      cases hq : ps.drop its.length with
      | nil => rfl
      | cons p r => rw [hq] at hp; exact hp.elim
    refine hR h' tk ?_ fun b o hb hbI e => hk' b o (by simpa using hbI) e
    rw [hps]
    exact hd.at fun o e => hk' d o (by simpa using (Ne.symm hdI)) e
  | succ k ih =>
    intro i s cur hk hi hit hl hd hp hsz hR
    have hlt : i < its.length := by omega
    have W := Walks.list (prog := prog) (w := w) (A := A.in1) hh I l hne its.toArray
    have hdi : its.drop i = its[i] :: its.drop (i + 1) := List.drop_eq_getElem_cons hlt
    rw [hdi] at hp
    obtain ⟨p, r, hpe⟩ : ∃ p r, ps.drop i = p :: r := by
      cases hq : ps.drop i with
      | nil => rw [hq] at hp; exact hp.elim
      | cons p r => exact ⟨p, r, rfl⟩
    have hpr : ps.drop (i + 1) = r := by rw [<- List.tail_drop, hpe]; rfl
    rw [hpe] at hp
    obtain ⟨⟨a, key, ea, hta, hkey⟩, hrest⟩ := hp
    refine codeAny_builtin xb8 ?_
    rw [Around.under_plainId xa6 _]
    show wpAny _ A.in1 (pyNext (.ref I) >>= _) _ _ s
    refine wpAny_bind (W.item i s _ _ (by simpa using hlt) ⟨hit, hl⟩ fun v h' tk hP hst' hk' => ?_)
    have hv : v = .ref a := by
      have : its[i]? = some v := by simpa using hP
      rw [zGA hlt, ea] at this
      exact (Option.some.inj this).symm
    subst hv
    have hta' : h'.IsTuple a #[key, p.2] := hta.at fun o e => hk' a o (by simpa using xe7 hta hit) e
    have hd' : h'.DictOf knd d cur := hd.at fun o e => hk' d o (by simpa using (Ne.symm hdI)) e
    obtain ⟨oa, hoa, hca, na, hda⟩ := id hta'
    refine wpAny_bind (wpAny_holding (wpAny_bind (wpAny_tryCatch ?_)))
    unfold Builtin.Dict.pairItems
    refine wpAny_bind (wpAny_typeOf ⟨oa, hoa, hca⟩ ?_)
    rw [if_pos (by decide)]
    refine wpAny_bind (wpAny_seqItems hoa hda (wpAny_pure ?_))
    show wpAny _ _ (holding [key, p.2] (dictSet d key p.2)) _ _ _
    refine wpAny_holding (wpAny_dictSet_pairs hkey hd' (fun h2 hd2 hs2 => ?_) (by omega))
    have st2 : h2.IsListIter I l (i + 1) /\ h2.IsList l its.toArray := ⟨hst'.1.at fun o e => (hs2.2 I hdI).trans e, hst'.2.at fun o e => (hs2.2 l hdl).trans e⟩
    refine wpAny_pure ⟨plainId_quiet xa6 _, ih (i + 1) _ _ (by omega) hlt st2.1 st2.2 hd2 ?_ ?_ fun h3 tk3 hd3 hk3 => ?_⟩
    · rw [hpr]
      exact hrest.keep fun b xs hb => by
        have h1 : h'.IsTuple b xs := hb.at fun o e => hk' b o (by simpa using xe7 hb hit) e
        exact h1.at fun o e => (hs2.2 b (xe8 h1 hd')).trans e
    · have := stored_length_le cur p.1 p.2
      omega
    · refine hR h3 tk3 ?_ fun b o hb hbI e => hk3 b o hb hbI ((hs2.2 b hb).trans (hk' b o (by simpa using hbI) e))
      rw [hpe]
      rw [hpr] at hd3
      exact hd3
end
end L2
namespace L2
open PySem PySem.Spec PyProof.Rows
theorem xjb : typeLookup (.type "list") "keys" = pure none := am_miss_of_fast (by kernel_rfl)
section
variable {prog : Program} {w : World} {A : Around} {E : Value -> Shared -> Prop} {s : Shared} {K : Type} [DecidableEq K] {knd : KeyKind prog w K}
theorem xjp {l : Addr} {its : List Value} {n : Nat} {ps : List (K × Value)} {Q : Value -> Shared -> Prop} (hh : A.handled = none) (hl : s.heap.get? l = some { cls := .type "list", data := .seq its.toArray n }) (hp : PairsAt knd s.heap its ps) (hsz : its.length <= sizeLine)
  (h : ∀ h' tk, h'.DictOf knd s.heap.objs.size (merged [] ps) -> (∀ b o, s.heap.get? b = some o -> h'.get? b = some o) -> Q (.ref s.heap.objs.size) { s with heap := h', toks := tk }) :
  wpAny (model prog w) A (call (.type "dict") [.ref l]) Q E s := by
 refine callType_codes (Q₁ := fun obj s₁ => obj = .ref s.heap.objs.size /\ s₁ = { s with heap := s.heap.push { cls := .type "dict", data := .dict #[] } }) F.kt_called_dict (F.kt_typeCall_dict_1 _) F.entry_dict_init (kt_code_dict_new _ ⟨rfl, rfl⟩) ?_
 rintro obj s₁ ⟨rfl, rfl⟩
 have hnew : (s.heap.push { cls := .type "dict", data := .dict #[] }).DictOf knd s.heap.objs.size [] := Heap.DictOf.new s.heap
 have ext0 : ∀ b o, s.heap.get? b = some o -> (s.heap.push { cls := .type "dict", data := .dict #[] }).get? b = some o := fun b o e => Heap.get?_push_of_some _ e
 have hl0 := ext0 _ _ hl
 have hT : (⟨s.heap.push { cls := .type "dict", data := .dict #[] }, s.gens, s.drawn, s.toks, s.os⟩ : Shared).TypeIs (.ref l) "list" := ⟨_, hl0, rfl⟩
 have hdl : l ≠ s.heap.objs.size := fun e => absurd (Heap.lt_size hl) (by rw [e]; exact Nat.lt_irrefl _)
 refine ⟨hnew.typeIs, F.args_dict_init_2 _ _, ?_⟩
 unfold Builtin.«dict.__init__»
 refine wpAny_bind ?_
 unfold Builtin.Dict.selfAndRest
 refine wpAny_bind (wpAny_notOrdered_dict hnew.typeIs ?_)
 show wpAny _ _ (pure (s.heap.objs.size, [Value.ref l])) _ _ _
 refine wpAny_pure ?_
 show wpAny _ _ (Builtin.Dict.updateFrom "dict.__init__" s.heap.objs.size (.ref l) [] .none) _ _ _
 unfold Builtin.Dict.updateFrom
 refine wpAny_bind (wpAny_typeOf hT ?_)
 rw [if_pos (by decide)]
 refine wpAny_bind (xd3 (sl := #[]) hl0 xjb (by walk_at "k") hh (fun h1 tk1 k1 => ?_) (by walk_at "k"))
 rw [if_pos (show (none : Option Value).isNone = true from rfl)]
 refine wpAny_bind (wpAny_rule ?_)
 have hl1 := k1 _ _ hl0
 have hL1 : h1.IsList l its.toArray := ⟨_, hl1, rfl, _, rfl⟩
 refine wpAny_bind (wpAny_pyIter_list hL1 (wpAny_pure ⟨plainId_quiet xa6 _, ?_⟩))
 have hsz1 : s.heap.objs.size < h1.objs.size := Heap.lt_size (k1 _ _ (Heap.get?_push_size _ rfl))
 have hlI : l < h1.objs.size := Heap.lt_size hl1
 have ext2 : ∀ b o, h1.get? b = some o -> (h1.push { cls := .type "list_iterator", data := .fields #[.ref l, .int 0 0] }).get? b = some o := fun b o e => Heap.get?_push_of_some _ e
 refine upd_loop (knd := knd) (A := A.in1) (ps := ps) (l := l) (d := s.heap.objs.size) (its := its) hh (Nat.ne_of_lt hlI) hdl (Nat.ne_of_gt hsz1) its.length 0 _ [] (Nat.sub_zero _) (Nat.zero_le _) ⟨_, Heap.get?_push_size _ rfl, rfl, rfl⟩ (hL1.push _) (hnew.at fun o e => ext2 _ _ (k1 _ _ e)) (hp.keep fun a xs ha => ha.at fun o e => ext2 _ _ (k1 _ _ (ext0 _ _ e))) (by simpa using hsz) fun h3 tk3 hd3 hk3 => ?_
 refine ⟨rfl, h h3 tk3 hd3 fun b o e => hk3 b o ?_ ?_ (ext2 _ _ (k1 _ _ (ext0 _ _ e)))⟩
 ·exact fun z => absurd (Heap.lt_size e) (by rw [z]; exact Nat.lt_irrefl _)
 ·exact fun z => absurd (Heap.lt_size e) (by rw [z]; exact Nat.not_lt_of_gt hsz1)
end
end L2
namespace L2
open PySem PySem.Spec PyProof.Rows
def PairsV (H : Hp) : List V -> List (Key × V) -> Prop
 | [], [] => True
 | y :: ys, kv :: kvs => (∃ b, y = .ref b /\ H b = some (.tup [kV kv.1, kv.2])) /\ PairsV H ys kvs
 | _, _ => False
theorem PairsV.length {H : Hp} : ∀ {ys : List V} {kvs : List (Key × V)}, PairsV H ys kvs -> ys.length = kvs.length
 | [], [], _ => rfl
 | y :: ys, kv :: kvs, ⟨_, r⟩ => by rw [List.length_cons, List.length_cons, PairsV.length r]
 | [], _ :: _, h => h.elim
 | _ :: _, [], h => h.elim
section
variable {X : Cx}
theorem xg3 {pins : List (Addr × Obj)} {σ : St} {H : Hp} {s : Shared} (I : Inv X pins σ H s) : ∀ {ys : List V} {its : List Value} {kvs : List (Key × V)}, Vals ys its -> PairsV H ys kvs -> ∃ ps, KV kvs ps /\ PairsAt (xbd X.prog X.w) s.heap its ps
 | [], _, [], r, _ => by cases r; exact ⟨[], .nil, trivial⟩
 | y :: ys, _, kv :: kvs, r, ⟨⟨b, eb, hb⟩, rest⟩ => by
  subst eb
  cases r with
  | cons h t =>
   obtain ⟨ps, hk, hp⟩ := xg3 I t rest
   obtain ⟨its2, r2, p2, _⟩ := I.tuple (SqT.of (K := X.K) hb)
   obtain ⟨u1, u2, rfl, e1, e2⟩ := r2.two
   exact ⟨(kv.1, u2) :: ps, .cons ⟨rfl, e2⟩ hk, ⟨b, u1, h, p2, xkm e1⟩, hp⟩
 | [], _, _ :: _, _, h => h.elim
 | _ :: _, _, [], _, h => h.elim
theorem xdh (hc : X.calm = true) : xdl X (.type "dict") (fun xs H Q => ∃ a ys, ∃ kvs : List (Key × V), xs = [.ref a] /\ H a = some (.lst ys) /\ PairsV H ys kvs /\ ∀ p, H p = none -> Q (.ref p) (upd H p (.dK (xav [] kvs)))) := by
 intro pins s σ H xs us Q I r h
 obtain ⟨a, ys, kvs, rfl, ha, hp, q⟩ := h
 obtain ⟨u, rfl, ru⟩ := xd9 r
 obtain rfl : u = .ref a := ru
 obtain ⟨hz, its, n, rv, hl⟩ := (show ObjOk X.prog X.w H s.heap a (.lst ys) from I.hok a _ ha)
 obtain ⟨ps, hk, hpa⟩ := xg3 I rv hp
 have hyl := hp.length
 refine xjp (knd := xbd X.prog X.w) (I.ok.hd hc) hl hpa (by rw [<- rv.length]; exact hz) fun h' tk dd' k' => ?_
 have hz' : (xav [] kvs).length <= sizeLine := by
  have := xbq kvs []
  rw [List.length_nil] at this
  omega
 exact ⟨.ref s.heap.objs.size, _, I.laid (a := s.heap.objs.size) (o := .dK (xav [] kvs)) (t' := tk) k' (Nat.le_refl _) (xjo hz' (beq_eq_false_iff_ne.mpr (Ne.symm (Nat.ne_of_lt I.big))) (hk.merge .nil) dd'), rfl, q _ (I.hok.fresh (Nat.le_refl _))⟩
end
end L2
end
section
namespace L2
open PySem PySem.Spec PySem.W PyProof.Rows M
end L2
end
section
namespace M
open PySem L2
inductive Vk (ks : List Kn) : Str -> D -> Prop
 | num (i : Int) (h : Nm i) : Vk ks (S "num") (.int i)
 | rc {x : Str} {k : Kn} {ws : List D} (hk : kAt ks x = some k) (hr : k.rc = true) (hl : ws.length = k.parts.length) (h : ∀ (i : Nat) (w : D) (p : Str × Str), ws[i]? = some w -> k.parts[i]? = some p -> Vk ks p.2 w) : Vk ks x (.tup [.str x, .tup ws])
 | al {x : Str} {k : Kn} {p : Str × Str} {w : D} (hk : kAt ks x = some k) (hr : k.rc = false) (hp : p ∈ k.parts) (h : Vk ks p.2 w) : Vk ks x (.tup [.str x, .str p.1, w])
theorem xe6 {ks : List Kn} (wf : KWf ks) {x : Str} {v : D} (hx : x = S "num") (h : Vk ks x v) : ∃ i, Nm i /\ v = .int i := by
 cases h with
 | num i hi => exact ⟨i, hi, rfl⟩
 | rc hk => rw [hx, wf.num] at hk; cases hk
 | al hk => rw [hx, wf.num] at hk; cases hk
theorem xkz {ks : List Kn} (wf : KWf ks) {x : Str} {k : Kn} {v : D} (hx : kAt ks x = some k) (hr : k.rc = true) (h : Vk ks x v) : ∃ ws, ws.length = k.parts.length /\ (∀ (i : Nat) w p, ws[i]? = some w -> k.parts[i]? = some p -> Vk ks p.2 w) /\ v = .tup [.str x, .tup ws] := by
 cases h with
 | num i hi => rw [wf.num] at hx; cases hx
 | rc hk hr' hl h =>
  rw [hx] at hk
  cases hk
  exact ⟨_, hl, h, rfl⟩
 | al hk hr' =>
  rw [hx] at hk
  cases hk
  rw [hr] at hr'
  cases hr'
theorem xk0 {ks : List Kn} (wf : KWf ks) {x : Str} {k : Kn} {v : D} (hx : kAt ks x = some k) (hr : k.rc = false) (h : Vk ks x v) : ∃ p ∈ k.parts, ∃ w, Vk ks p.2 w /\ v = .tup [.str x, .str p.1, w] := by
 cases h with
 | num i hi => rw [wf.num] at hx; cases hx
 | rc hk hr' =>
  rw [hx] at hk
  cases hk
  rw [hr] at hr'
  cases hr'
 | @al _ _ p w hk hr' hp h =>
  rw [hx] at hk
  cases hk
  exact ⟨p, hp, w, h, rfl⟩
theorem xjx {ks : List Kn} (wf : KWf ks) : ∀ (m : Nat) (x : Str) (v : D), KIn ks m x -> Vk ks x v -> v.deep <= 2 * m
 | 0, x, v, hin, h => by
  rcases hin.look wf with ⟨e, _⟩ | ⟨j, k, e, _⟩
  ·obtain ⟨i, _, rfl⟩ := xe6 wf e h
   exact Nat.zero_le _
  ·cases e
 | m + 1, x, v, hin, h => by
  rcases hin.look wf with ⟨e, _⟩ | ⟨j, k, e, hkx, hn, hm, hp⟩
  ·obtain ⟨i, _, rfl⟩ := xe6 wf e h
   exact Nat.zero_le _
  ·cases e
   cases hc : k.rc with
   | true =>
    obtain ⟨ws, hl, hw, rfl⟩ := xkz wf hkx hc h
    have : xf7 ws <= 2 * m := xlt fun d hd => by
     obtain ⟨i, hi, e⟩ := List.mem_iff_getElem.mp hd
     have hi2 : i < k.parts.length := by omega
     exact xjx wf m _ d (hp _ (List.getElem_mem hi2)) (hw i d k.parts[i] (by rw [<- e]; exact zGA hi) (zGA hi2))
    show max 0 (max (xf7 ws + 1) 0) + 1 <= 2 * (m + 1)
    omega
   | false =>
    obtain ⟨p, hpp, w, hw, rfl⟩ := xk0 wf hkx hc h
    have := xjx wf m _ w (hp p hpp) hw
    show max 0 (max 0 (max w.deep 0)) + 1 <= 2 * (m + 1)
    omega
def FitB (ks : List Kn) (bs : List (Str × Str)) (env : En) : Prop := ∀ p ∈ bs, ∃ v, env p.1 = some v /\ Vk ks p.2 v
theorem FitB.put {ks : List Kn} {bs : List (Str × Str)} {env : En} {y k : Str} {v : D} (h : FitB ks bs env) (hy : ∀ p ∈ bs, p.1 ≠ y) (hv : Vk ks k v) : FitB ks (bs ++ [(y, k)]) (env.put y v) := fun p hp => by
 unfold En.put
 rcases zMA hp with hp | hp
 ·obtain ⟨v', h1, h2⟩ := h p hp
  exact ⟨v', by rw [if_neg (hy p hp)]; exact h1, h2⟩
 ·rw [zMO hp]
  exact ⟨v, by rw [if_pos rfl], hv⟩
def Sg (s : Str) : Prop := s = S "+" \/ s = S "-" \/ s = S "*" \/ s = S "<" \/ s = S "="
def SgD (d : D) : Prop := ∀ s a b, d = tOpD s a b -> Sg s
def Evs (ks : List Kn) : Nat -> En -> D -> D -> Prop
 | 0 => xf4
 | n + 1 => fun env d v => xf4 env d v \/ (NodeEv ks (Evs ks n) env d v /\ SgD d)
theorem All2.imp3 {α β : Type} {R R' : α -> β -> Prop} (k : ∀ a b, R a b -> R' a b) : ∀ {as : List α} {bs : List β}, All2 R as bs -> All2 R' as bs
 | _, _, .nil => .nil
 | _, _, .cons h t => .cons (k _ _ h) (All2.imp3 k t)
theorem NodeEv.mono {ks : List Kn} {R R' : En -> D -> D -> Prop} (k : ∀ env d v, R env d v -> R' env d v) {env : En} {d v : D} (h : NodeEv ks R env d v) : NodeEv ks R' env d v := by
 rcases h with ⟨s, a, b, x, y, h1, h2, r⟩ | ⟨kk, es, vs, hl, h1, r⟩ | ⟨a, kk, vs, f, kn, i, h1, r⟩ | ⟨kk, t, a, x, h1, r⟩ | ⟨a, rs, kk, t, x, y, e, hl, h1, hf, h2, r⟩ | ⟨a, b, c, x, h1, h2, r⟩
 ·exact .inl ⟨s, a, b, x, y, k _ _ _ h1, k _ _ _ h2, r⟩
 ·exact .inr (.inl ⟨kk, es, vs, hl, h1.imp3 (k env), r⟩)
 ·exact .inr (.inr (.inl ⟨a, kk, vs, f, kn, i, k _ _ _ h1, r⟩))
 ·exact .inr (.inr (.inr (.inl ⟨kk, t, a, x, k _ _ _ h1, r⟩)))
 ·exact .inr (.inr (.inr (.inr (.inl ⟨a, rs, kk, t, x, y, e, hl, k _ _ _ h1, hf, k _ _ _ h2, r⟩))))
 ·exact .inr (.inr (.inr (.inr (.inr ⟨a, b, c, x, k _ _ _ h1, k _ _ _ h2, r⟩))))
theorem xlp {ks : List Kn} : ∀ (n : Nat) (env : En) (d v : D), Evs ks n env d v -> Ev ks n env d v
 | 0, _, _, _, h => h
 | n + 1, env, d, v, h => by
  rcases h with h | ⟨h, _⟩
  ·exact .inl h
  ·exact .inr (h.mono (xlp n))
theorem xmg {h : Str} {r : List D} (hne : h ≠ S "op") : SgD (.tup (.str h :: r)) := fun s a b e => by
 have e1 := D.tup.inj e
 have e2 := (List.cons.inj e1).1
 exact absurd (D.str.inj e2) hne
theorem sg_op {s : Str} {a b : D} (h : Sg s) : SgD (tOpD s a b) := fun s' a' b' e => by
 have e1 := D.tup.inj e
 have e2 := (List.cons.inj (List.cons.inj e1).2).1
 rw [<- D.str.inj e2]
 exact h
def TmOk (ks : List Kn) (n : Nat) (bs : List (Str × Str)) (d : D) (x : Str) : Prop := ∀ env, FitB ks bs env -> ∃ v, Evs ks n env d v /\ Vk ks x v
theorem xkr {ks : List Kn} {n : Nat} {env : En} {d v : D} (h : xf4 env d v) : Evs ks n env d v := by
 cases n with
 | zero => exact h
 | succ n => exact .inl h
theorem xsw {ks : List Kn} {n : Nat} {bs : List (Str × Str)} {i : Int} (h : Nm i) : TmOk ks n bs (tNum i) (S "num") := fun env _ => ⟨.int i, xkr (.inl ⟨i, rfl, rfl⟩), .num i h⟩
theorem xsy {ks : List Kn} {n : Nat} {bs : List (Str × Str)} {y x : Str} (h : (y, x) ∈ bs) : TmOk ks n bs (tBox y) x := fun env hf => by
 obtain ⟨v, h1, h2⟩ := hf _ h
 exact ⟨v, xkr (.inr ⟨y, h1, rfl⟩), h2⟩
theorem tm_op {ks : List Kn} (wf : KWf ks) {n : Nat} {bs : List (Str × Str)} {s : Str} {a b : D} (hs : Sg s) (ha : TmOk ks n bs a (S "num")) (hb : TmOk ks n bs b (S "num")) : TmOk ks (n + 1) bs (tOpD s a b) (S "num") := fun env hf => by
 obtain ⟨u, e1, k1⟩ := ha env hf
 obtain ⟨v, e2, k2⟩ := hb env hf
 obtain ⟨i, hi, rfl⟩ := xe6 wf rfl k1
 obtain ⟨j, hj, rfl⟩ := xe6 wf rfl k2
 exact ⟨_, .inr ⟨.inl ⟨s, a, b, i, j, e1, e2, hi, hj, rfl, rfl⟩, sg_op hs⟩, .num _ (opV_nm s i j)⟩
theorem xmv {ks : List Kn} {n : Nat} {bs : List (Str × Str)} {env : En} (hf : FitB ks bs env) : ∀ {es : List D} {ps : List (Str × Str)}, All2 (fun e (p : Str × Str) => TmOk ks n bs e p.2) es ps -> ∃ vs, All2 (Evs ks n env) es vs /\ vs.length = ps.length /\ ∀ (i : Nat) w p, vs[i]? = some w -> ps[i]? = some p -> Vk ks p.2 w
 | _, _, .nil => ⟨[], .nil, rfl, fun i w p h => by simp at h⟩
 | _, _, .cons h t => by
  obtain ⟨v, h1, h2⟩ := h env hf
  obtain ⟨vs, k1, k2, k3⟩ := xmv hf t
  refine ⟨v :: vs, .cons h1 k1, by rw [List.length_cons, List.length_cons, k2], fun i w p hw hp => ?_⟩
  cases i with
  | zero =>
   simp at hw hp
   subst hw hp
   exact h2
  | succ i => exact k3 i w p (by simpa using hw) (by simpa using hp)
theorem xsv {ks : List Kn} {n : Nat} {bs : List (Str × Str)} {x : Str} {k : Kn} {es : List D} (hk : kAt ks x = some k) (hr : k.rc = true) (hl : k.parts.length <= 1000) (h : All2 (fun e (p : Str × Str) => TmOk ks n bs e p.2) es k.parts) : TmOk ks (n + 1) bs (tRec x es) x := fun env hf => by
 obtain ⟨vs, h1, h2, h3⟩ := xmv hf h
 exact ⟨_, .inr ⟨.inr (.inl ⟨x, es, vs, by rw [h.length]; exact hl, h1, rfl, rfl⟩), xmg (by walk_at "k")⟩, .rc hk hr h2 h3⟩
theorem xjk {f : Str} : ∀ {l : List Str} {i : Nat}, l.Nodup -> l[i]? = some f -> l.findIdx? (fun z => decide (z = f)) = some i
 | [], i, _, h => by simp at h
 | y :: l, 0, _, h => by
  simp at h
  subst h
  simp [List.findIdx?_cons]
 | y :: l, i + 1, nd, h => by
  have hm : f ∈ l := zMG (by simpa using h)
  have hne : ¬ y = f := fun e => by subst e; exact (List.nodup_cons.mp nd).1 hm
  rw [List.findIdx?_cons, zDF hne]
  have := xjk (l := l) (i := i) (List.nodup_cons.mp nd).2 (by simpa using h)
  simp [this]
theorem xsx {ks : List Kn} (wf : KWf ks) {n : Nat} {bs : List (Str × Str)} {y : Str} {k : Kn} {a : D} {p : Str × Str} (hk : kAt ks y = some k) (hr : k.rc = true) (hp : p ∈ k.parts) (h : TmOk ks n bs a y) : TmOk ks (n + 1) bs (tGet a p.1) p.2 := fun env hf => by
 obtain ⟨v, h1, h2⟩ := h env hf
 obtain ⟨ws, hl, hw, rfl⟩ := xkz wf hk hr h2
 obtain ⟨i, hi, e⟩ := List.mem_iff_getElem.mp hp
 have hi2 : i < ws.length := by omega
 have hm := List.mem_of_find?_eq_some hk
 have ei : k.parts[i]? = some p := by rw [<- e]; exact zGA hi
 exact ⟨ws[i], .inr ⟨.inr (.inr (.inl ⟨a, y, ws, p.1, k, i, h1, hk, xjk (wf.pnd k hm) (by rw [zGM, ei]; rfl), zGA hi2, rfl⟩)), xmg (by walk_at "k")⟩, hw i _ p (zGA hi2) ei⟩
theorem xsu {ks : List Kn} {n : Nat} {bs : List (Str × Str)} {x : Str} {k : Kn} {a : D} {p : Str × Str} (hk : kAt ks x = some k) (hr : k.rc = false) (hp : p ∈ k.parts) (h : TmOk ks n bs a p.2) : TmOk ks (n + 1) bs (tTag x p.1 a) x := fun env hf => by
 obtain ⟨v, h1, h2⟩ := h env hf
 exact ⟨_, .inr ⟨.inr (.inr (.inr (.inl ⟨x, p.1, a, v, h1, rfl, rfl⟩))), xmg (by walk_at "k")⟩, .al hk hr hp h2⟩
theorem xre {ks : List Kn} (wf : KWf ks) {n : Nat} {bs : List (Str × Str)} {x y : Str} {k : Kn} {a : D} {rs : List (Str × Str × D)} (hk : kAt ks y = some k) (hr : k.rc = false) (ha : TmOk ks n bs a y) (hl : rs.length <= 1000) (nd : (rs.map (·.1)).Nodup)
  (h : ∀ p ∈ k.parts, ∃ z e, (p.1, z, e) ∈ rs /\ (∀ q ∈ bs, q.1 ≠ z) /\ TmOk ks n (bs ++ [(z, p.2)]) e x) : TmOk ks (n + 1) bs (xhx a rs) x := fun env hf => by
 obtain ⟨v, h1, h2⟩ := ha env hf
 obtain ⟨p, hp, w, hw, rfl⟩ := xk0 wf hk hr h2
 obtain ⟨z, e, hm, hz, he⟩ := h p hp
 obtain ⟨v', h3, h4⟩ := he _ (hf.put hz hw)
 obtain ⟨i, hi, ei⟩ := List.mem_iff_getElem.mp hm
 have := xbr (f := fun r : Str × Str × D => r.1) (xs := rs) (i := i) (a := (p.1, z, e)) nd (by rw [<- ei]; exact zGA hi)
 exact ⟨v', .inr ⟨.inr (.inr (.inr (.inr (.inl ⟨a, rs, y, p.1, w, z, e, hl, h1, this, h3, rfl⟩)))), xmg (by walk_at "k")⟩, h4⟩
theorem tm_if {ks : List Kn} (wf : KWf ks) {n : Nat} {bs : List (Str × Str)} {x : Str} {a b c : D} (ha : TmOk ks n bs a (S "num")) (hb : TmOk ks n bs b x) (hc : TmOk ks n bs c x) : TmOk ks (n + 1) bs (tIfD a b c) x := fun env hf => by
 obtain ⟨u, e1, k1⟩ := ha env hf
 obtain ⟨i, hi, rfl⟩ := xe6 wf rfl k1
 by_cases h0 : i = 0
 ·obtain ⟨v, e2, k2⟩ := hc env hf
  exact ⟨v, .inr ⟨.inr (.inr (.inr (.inr (.inr ⟨a, b, c, i, e1, by rw [if_pos h0]; exact e2, rfl⟩)))), xmg (by walk_at "k")⟩, k2⟩
 ·obtain ⟨v, e2, k2⟩ := hb env hf
  exact ⟨v, .inr ⟨.inr (.inr (.inr (.inr (.inr ⟨a, b, c, i, e1, by rw [if_neg h0]; exact e2, rfl⟩)))), xmg (by walk_at "k")⟩, k2⟩
def smS (f : Str -> Int) (k : Kn) : Int := if k.rc = true then (k.parts.map fun p => f p.2).sum else match k.parts with | [] => 0 | p :: _ => f p.2
def hiS (f : Str -> Int) (k : Kn) : Int := if k.rc = true then maxD (k.parts.map fun p => f p.2) else match k.parts with | [] => 0 | p :: _ => f p.2
theorem xh7 {f g : Str -> Int} {k : Kn} (h : ∀ p ∈ k.parts, f p.2 = g p.2) : smS f k = smS g k := by
 unfold smS
 rw [List.map_congr_left h]
 cases hq : k.parts with
 | nil => rfl
 | cons p r =>
  show (if k.rc = true then _ else f p.2) = (if k.rc = true then _ else g p.2)
  rw [h p (by rw [hq]; simp)]
theorem xjm {f g : Str -> Int} {k : Kn} (h : ∀ p ∈ k.parts, f p.2 = g p.2) : hiS f k = hiS g k := by
 unfold hiS
 rw [List.map_congr_left h]
 cases hq : k.parts with
 | nil => rfl
 | cons p r =>
  show (if k.rc = true then _ else f p.2) = (if k.rc = true then _ else g p.2)
  rw [h p (by rw [hq]; simp)]
def smF : Nat -> List Kn -> Str -> Int
 | 0, _, _ => 1
 | n + 1, ks, x => match kAt ks x with
  | none => 1
  | some k => 1 + smS (smF n ks) k
def hiF : Nat -> List Kn -> Str -> Int
 | 0, _, _ => 1
 | n + 1, ks, x => match kAt ks x with
  | none => 1
  | some k => 1 + hiS (hiF n ks) k
theorem xdc {n : Nat} {ks : List Kn} {x : Str} (h : kAt ks x = none) : smF (n + 1) ks x = 1 := by unfold smF; rw [h]
theorem xe0 {n : Nat} {ks : List Kn} {x : Str} {k : Kn} (h : kAt ks x = some k) : smF (n + 1) ks x = 1 + smS (smF n ks) k := by
 show (match kAt ks x with | none => 1 | some k => 1 + smS (smF n ks) k) = _
 rw [h]
theorem xdg {n : Nat} {ks : List Kn} {x : Str} (h : kAt ks x = none) : hiF (n + 1) ks x = 1 := by unfold hiF; rw [h]
theorem xe3 {n : Nat} {ks : List Kn} {x : Str} {k : Kn} (h : kAt ks x = some k) : hiF (n + 1) ks x = 1 + hiS (hiF n ks) k := by
 show (match kAt ks x with | none => 1 | some k => 1 + hiS (hiF n ks) k) = _
 rw [h]
theorem xtb {ks : List Kn} (wf : KWf ks) : ∀ (m : Nat) (x : Str), KIn ks m x -> smF (m + 2) ks x = smF (m + 1) ks x /\ hiF (m + 2) ks x = hiF (m + 1) ks x := by
 intro m
 induction m with
 | zero =>
  intro x h
  rcases h.look wf with ⟨_, e⟩ | ⟨j, k, e0, _⟩
  ·exact ⟨(xdc e).trans (xdc e).symm, (xdg e).trans (xdg e).symm⟩
  ·cases e0
 | succ m ih =>
  intro x h
  rcases h.look wf with ⟨_, e⟩ | ⟨j, k, e0, hk, hn, hm, hp⟩
  ·exact ⟨(xdc e).trans (xdc e).symm, (xdg e).trans (xdg e).symm⟩
  ·cases e0
   rw [xe0 hk, xe0 hk, xe3 hk, xe3 hk, xh7 fun p hp' => (ih p.2 (hp p hp')).1, xjm fun p hp' => (ih p.2 (hp p hp')).2]
   exact ⟨rfl, rfl⟩
def smK (ks : List Kn) (x : Str) : Int := smF 7 ks x
def hiK (ks : List Kn) (x : Str) : Int := hiF 7 ks x
theorem xs9 {ks : List Kn} (wf : KWf ks) {m : Nat} {x : Str} (h : KIn ks m x) (hm : m <= 6) : smF (m + 1) ks x = smK ks x /\ hiF (m + 1) ks x = hiK ks x := by
 have : ∀ k, smF (m + k + 1) ks x = smF (m + 1) ks x /\ hiF (m + k + 1) ks x = hiF (m + 1) ks x := fun k => by
  induction k with
  | zero => exact ⟨rfl, rfl⟩
  | succ k ih =>
   have u := xtb wf (m + k) x (h.mono (by omega))
   exact ⟨u.1.trans ih.1, u.2.trans ih.2⟩
 have u := this (6 - m)
 rw [show m + (6 - m) + 1 = 7 by omega] at u
 exact ⟨u.1.symm, u.2.symm⟩
theorem xni {ks : List Kn} (wf : KWf ks) : smK ks (S "num") = 1 /\ hiK ks (S "num") = 1 := ⟨xdc wf.num, xdg wf.num⟩
theorem xta {ks : List Kn} (wf : KWf ks) {x : Str} {k : Kn} (hk : kAt ks x = some k) : smK ks x = 1 + smS (smK ks) k /\ hiK ks x = 1 + hiS (hiK ks) k := by
 have hm := List.mem_of_find?_eq_some hk
 have hx : k.name = x := by
  have := List.find?_some hk
  exact of_decide_eq_true this
 have hin : KIn ks 6 x := (KIn.of (.inr ⟨k, hm, hx⟩)).mono wf.few
 rcases hin.look wf with ⟨_, e⟩ | ⟨j, k', e0, hk', hn, hm', hp⟩
 ·rw [e] at hk; cases hk
 ·cases e0
  rw [hk] at hk'
  cases hk'
  exact ⟨(xe0 (n := 6) hk).trans (congrArg (fun z => 1 + z) (xh7 fun p hp' => (xs9 wf (hp p hp') (by omega)).1)), (xe3 (n := 6) hk).trans (congrArg (fun z => 1 + z) (xjm fun p hp' => (xs9 wf (hp p hp') (by omega)).2))⟩
theorem xh8 {ks : List Kn} (hp : ∀ k ∈ ks, k.parts.length <= 5) : ∀ (n : Nat) (x : Str), (1 <= smF n ks x /\ smF n ks x <= 6 ^ n) /\ (1 <= hiF n ks x /\ hiF n ks x <= n + 1)
 | 0, x => ⟨⟨Int.le_refl _, Int.le_refl _⟩, ⟨Int.le_refl _, Int.le_refl _⟩⟩
 | n + 1, x => by
  have p1 : (1 : Int) <= 6 ^ n := Int.pow_pos (by decide)
  have e6 : (6 : Int) ^ (n + 1) = 6 * 6 ^ n := by rw [Int.pow_succ, Int.mul_comm]
  cases hk : kAt ks x with
  | none =>
   rw [xdc hk, xdg hk]
   exact ⟨⟨Int.le_refl _, by rw [e6]; omega⟩, Int.le_refl _, by push_cast; omega⟩
  | some k =>
   rw [xe0 hk, xe3 hk]
   have hk5 := hp k (List.mem_of_find?_eq_some hk)
   have ih := fun y => xh8 hp n y
   have hs : ∀ (l : List (Str × Str)), 0 <= (l.map fun p => smF n ks p.2).sum /\ (l.map fun p => smF n ks p.2).sum <= l.length * 6 ^ n := by
    intro l
    induction l with
    | nil => simp
    | cons a r ih' =>
     have h1 := (ih a.2).1
     rw [List.map_cons, List.sum_cons, List.length_cons]
     push_cast
     rw [Int.add_mul]
     omega
   have hm : ∀ (l : List (Str × Str)), 0 <= maxD (l.map fun p => hiF n ks p.2) /\ maxD (l.map fun p => hiF n ks p.2) <= n + 1 := by
    intro l
    induction l with
    | nil => show 0 <= (0 : Int) /\ (0 : Int) <= n + 1; omega
    | cons a r ih' =>
     have h1 := (ih a.2).2
     have e : maxD ((a :: r).map fun p => hiF n ks p.2) = max (hiF n ks a.2) (maxD (r.map fun p => hiF n ks p.2)) := rfl
     rw [e]
     omega
   have h1 := hs k.parts
   have h2 : (k.parts.length : Int) * 6 ^ n <= 5 * 6 ^ n := Int.mul_le_mul_of_nonneg_right (by omega) (by omega)
   have h3 := hm k.parts
   unfold smS hiS
   push_cast
   cases k.rc with
   | true =>
    rw [if_pos rfl, if_pos rfl]
    refine ⟨⟨?_, ?_⟩, ?_, ?_⟩ <;> omega
   | false =>
    rw [if_neg (by decide), if_neg (by decide)]
    cases k.parts with
    | nil =>
     refine ⟨⟨?_, ?_⟩, ?_, ?_⟩ <;> dsimp only <;> omega
    | cons p r =>
     have h4 := ih p.2
     refine ⟨⟨?_, ?_⟩, ?_, ?_⟩ <;> dsimp only <;> omega
theorem xla {ks : List Kn} (wf : KWf ks) (x : Str) : 1 <= smK ks x /\ smK ks x <= 279936 /\ 1 <= hiK ks x /\ hiK ks x <= 8 := by
 have := xh8 wf.pts 7 x
 have e : (6 : Int) ^ 7 = 279936 := by decide
 unfold smK hiK
 omega
end M
end
section
namespace L2
open PySem PySem.Spec PyProof.Rows M
end L2
end
section
namespace M
open PySem L2
def byN (j : Nat) : Str := ofL [98, 121, 97 + j]
theorem xsn {i j : Nat} (h : byN i = byN j) : i = j := by
 have := congrArg L h
 unfold byN at this
 rw [xc3, xc3] at this
 simp at this
 exact this
def NoBy (x : Str) : Prop := ∀ j : Nat, x ≠ byN j
theorem nb_of {l : List Nat} (h : l[0]? ≠ some 98 \/ l[1]? ≠ some 121) : NoBy (ofL l) := fun j e => by
 have := congrArg L e
 unfold byN at this
 rw [xc3, xc3] at this
 subst this
 simp at h
theorem xkq {c : Nat} (h : c ∈ five) : c ≠ 98 /\ c ≠ 121 := by
 revert h
 unfold five
 simp
 omega
theorem xqy {cs : List Nat} (h5 : ∀ c ∈ cs, c ∈ five) (a : Nat) (b : Int) (k : Nat) (t : List Nat) (ht : ∀ c ∈ t, c ∈ five) : NoBy (ofL (nmA cs a b k ++ t)) := by
 apply nb_of
 unfold nmA
 cases hcs : cs.take a with
 | nil =>
  right
  rw [List.nil_append, List.cons_append, List.getElem?_cons_succ]
  intro e
  have hm := zMG e
  rcases zMA hm with hm | hm
  ·exact (xkq (h5 _ (List.mem_of_mem_drop hm))).2 rfl
  ·exact (xkq (ht _ hm)).2 rfl
 | cons c r =>
  left
  intro e
  simp at e
  have : c ∈ cs.take a := by rw [hcs]; simp
  exact (xkq (h5 c (List.mem_of_mem_take this))).1 e
theorem xr8 {cs : List Nat} {a : Nat} {b : Int} (h5 : ∀ c ∈ cs, c ∈ five) : ∀ z ∈ ((List.range 26).map fun k => ofL (nmA cs a b k)), NoBy z := fun z hz => by
 obtain ⟨k, _, rfl⟩ := List.mem_map.mp hz
 have := xqy h5 a b k [] (fun _ h => nomatch h)
 rw [List.append_nil] at this
 exact this
theorem xr6 {cs : List Nat} {a : Nat} {b : Int} (h5 : ∀ c ∈ cs, c ∈ five) : ∀ z ∈ ((List.range 26).map fun k => ofL (nmB cs a b k)), NoBy z := fun z hz => by
 obtain ⟨k, _, rfl⟩ := List.mem_map.mp hz
 unfold nmB
 exact xqy h5 a b _ _ fun c hc => by rw [List.eq_of_mem_replicate hc]; decide
theorem xqg {i : Nat} (h : i < 8) : atI (S "abcdefgh").cps.toList (i : Int) = some (97 + i) := by
 have all : ∀ k, k < 8 -> (S "abcdefgh").cps.toList[k]? = some (97 + k) := by walk_at "k"
 exact xap (all i h)
theorem xql (i : Nat) : S "by" ++ (⟨#[97 + i]⟩ : Str) = byN i := by
 apply xpf
 rw [xdi, show L (S "by") = [98, 121] by walk_at "k"]
 rfl
def BxAt (H : Hp) (f : Addr) (bv : V) (bs : List (Str × Str)) : Prop := ∃ bl us, bv = .ref bl /\ H bl = some (.lst us) /\ RelDs H us (bs.map xbu) /\ bl ≠ f
def BFree (bs : List (Str × Str)) (m : Nat) : Prop := ∀ b ∈ bs, ∀ j, j < m -> b.1 ≠ byN j
def PNB (ks : List Kn) : Prop := ∀ k ∈ ks, ∀ p ∈ k.parts, NoBy p.1
structure TIn (H : Hp) (f : Addr) (kv bv : V) (ks : List Kn) (bs : List (Str × Str)) (m : Nat) : Prop where
 fd : ∃ p q : Int, H f = some (.lst [.int p, .int q])
 kd : RelD H kv (xbg ks)
 wf : KWf ks
 nb : PNB ks
 bx : BxAt H f bv bs
 nd : (bs.map (·.1)).Nodup
 bl : bs.length + m <= 30
 fr : BFree bs m
 kn : ∀ b ∈ bs, KIn ks 6 b.2
theorem TIn.same {H H' : Hp} {f : Addr} {kv bv : V} {ks : List Kn} {bs : List (Str × Str)} {m : Nat} (h : TIn H f kv bv ks bs m) (s : Same H H') : TIn H' f kv bv ks bs m := by
 obtain ⟨p, q, hf⟩ := h.fd
 obtain ⟨bl, us, e, hb, hu, n⟩ := h.bx
 exact ⟨⟨p, q, s _ _ hf⟩, h.kd.same s _, h.wf, h.nb, ⟨bl, us, e, s _ _ hb, hu.same s _, n⟩, h.nd, h.bl, h.fr, h.kn⟩
theorem TIn.fed {H H' : Hp} {f : Addr} {kv bv : V} {ks : List Kn} {bs : List (Str × Str)} {m : Nat} (h : TIn H f kv bv ks bs m) (s : Fed f H H') : TIn H' f kv bv ks bs m := by
 obtain ⟨bl, us, e, hb, hu, n⟩ := h.bx
 exact ⟨s.2, h.kd.tups (xai h.fd s) _, h.wf, h.nb, ⟨bl, us, e, s.1 _ _ hb n, hu.tups (xai h.fd s) _, n⟩, h.nd, h.bl, h.fr, h.kn⟩
theorem TIn.down {H : Hp} {f : Addr} {kv bv : V} {ks : List Kn} {bs : List (Str × Str)} {m m' : Nat} (h : TIn H f kv bv ks bs m) (l : m' <= m) : TIn H f kv bv ks bs m' :=
 ⟨h.fd, h.kd, h.wf, h.nb, h.bx, h.nd, by have := h.bl; omega, fun b hb j hj => h.fr b hb j (by omega), h.kn⟩
end M
namespace M
open PySem L2
theorem xil {H : Hp} : ∀ {vs : List V} {ps qs : List (Str × Str)}, RelDs H vs (ps.map xbu) -> RelDs H vs (qs.map xbu) -> ps = qs
 | vs, [], [], _, _ => rfl
 | vs, [], q :: qs, h1, ⟨v, r, e, _⟩ => by rw [show vs = [] from h1] at e; cases e
 | vs, p :: ps, [], ⟨v, r, e, _⟩, h2 => by rw [show vs = [] from h2] at e; cases e
 | vs, p :: ps, q :: qs, ⟨v, r, e, h1, h2⟩, ⟨v', r', e', h1', h2'⟩ => by
  subst e
  cases e'
  obtain ⟨a, us, ea, ha, _, _, rfl, rfl, _, _, rfl, rfl, rfl⟩ := h1
  obtain ⟨a', us', ea', ha', _, _, rfl, rfl, _, _, rfl, rfl, rfl⟩ := h1'
  rw [ea] at ea'
  cases ea'
  rw [ha] at ha'
  simp at ha'
  rw [xil h2 h2', Prod.ext_iff.mpr ⟨ha'.1, ha'.2⟩]
end M
end
section
namespace M
open PySem L2
def ArmN (ks : List Kn) (z : Str) : Prop := (∃ j, z = byN j) \/ ∃ k ∈ ks, ∃ p ∈ k.parts, p.1 = z
def FitK (ks : List Kn) (bs : List (Str × Str)) (env : En) : Prop := (∀ p ∈ bs, env p.1 = some (.str p.2)) /\ ∀ z, ArmN ks z -> (∀ q ∈ bs, q.1 ≠ z) -> env z = none
theorem FitK.put {ks : List Kn} {bs : List (Str × Str)} {env : En} {y k : Str} (h : FitK ks bs env) (hy : ∀ p ∈ bs, p.1 ≠ y) : FitK ks (bs ++ [(y, k)]) (env.put y (.str k)) := by
 refine ⟨fun p hp => ?_, fun z hz hq => ?_⟩
 ·unfold En.put
  rcases zMA hp with hp | hp
  ·rw [if_neg (hy p hp)]; exact h.1 p hp
  ·rw [zMO hp, if_pos rfl]
 ·unfold En.put
  have hzy : y ≠ z := hq (y, k) (by simp)
  rw [if_neg (Ne.symm hzy)]
  exact h.2 z hz fun q hq' => hq q (by simp [hq'])
def TmK (ks : List Kn) (n : Nat) (bs : List (Str × Str)) (d : D) (x : Str) : Prop := ∀ env, FitK ks bs env -> Kd True ks n env d x
def TmB (ks : List Kn) (n : Nat) (bs : List (Str × Str)) (d : D) (x : Str) : Prop := TmOk ks n bs d x /\ TmK ks n bs d x
theorem xom {ks : List Kn} {n : Nat} {env : En} {d : D} {x : Str} (h : xgp env d x) : Kd True ks n env d x := by
 cases n with
 | zero => exact h
 | succ n => exact .inl h
theorem xmy {ks : List Kn} {n : Nat} {bs : List (Str × Str)} {i : Int} (h : Nm i) : TmB ks n bs (tNum i) (S "num") := ⟨xsw h, fun env _ => xom (.inl ⟨i, h, rfl, rfl⟩)⟩
theorem xhw {ks : List Kn} {n : Nat} {bs : List (Str × Str)} {y x : Str} (h : (y, x) ∈ bs) : TmB ks n bs (tBox y) x := ⟨xsy h, fun env hf => xom (.inr ⟨y, hf.1 _ h, rfl⟩)⟩
theorem tb_op {ks : List Kn} (wf : KWf ks) {n : Nat} {bs : List (Str × Str)} {s : Str} {a b : D} (hs : Sg s) (ha : TmB ks n bs a (S "num")) (hb : TmB ks n bs b (S "num")) : TmB ks (n + 1) bs (tOpD s a b) (S "num") :=
 ⟨tm_op wf hs ha.1 hb.1, fun env hf => .inr (.inl ⟨s, a, b, ha.2 env hf, hb.2 env hf, rfl, rfl⟩)⟩
theorem xmx {ks : List Kn} {n : Nat} {bs : List (Str × Str)} {x : Str} {k : Kn} {es : List D} (hk : kAt ks x = some k) (hr : k.rc = true) (hl : k.parts.length <= 1000) (h : All2 (fun e (p : Str × Str) => TmB ks n bs e p.2) es k.parts) : TmB ks (n + 1) bs (tRec x es) x :=
 ⟨xsv hk hr hl (h.imp fun _ _ h => h.1), fun env hf => .inr (.inr (.inl ⟨es, k, hk, hr, h.imp fun _ _ h => h.2 env hf, rfl⟩))⟩
theorem xg2 {k : Kn} {p : Str × Str} (nd : (k.parts.map (·.1)).Nodup) (hp : p ∈ k.parts) : xc6 k p.1 = some p.2 := by
 unfold xc6
 obtain ⟨i, hi, e⟩ := List.mem_iff_getElem.mp hp
 have := xbr (f := fun r : Str × Str => r.1) (xs := k.parts) (i := i) (a := p) nd (by rw [<- e]; exact zGA hi)
 rw [this]
 rfl
theorem xsz {ks : List Kn} (wf : KWf ks) {n : Nat} {bs : List (Str × Str)} {y : Str} {k : Kn} {a : D} {p : Str × Str} (hk : kAt ks y = some k) (hr : k.rc = true) (hp : p ∈ k.parts) (h : TmB ks n bs a y) : TmB ks (n + 1) bs (tGet a p.1) p.2 :=
 ⟨xsx wf hk hr hp h.1, fun env hf => .inr (.inr (.inr (.inl ⟨a, y, p.1, k, h.2 env hf, hk, hr, xg2 (wf.pnd k (List.mem_of_find?_eq_some hk)) hp, rfl⟩)))⟩
theorem xmw {ks : List Kn} (wf : KWf ks) {n : Nat} {bs : List (Str × Str)} {x : Str} {k : Kn} {a : D} {p : Str × Str} (hk : kAt ks x = some k) (hr : k.rc = false) (hp : p ∈ k.parts) (h : TmB ks n bs a p.2) : TmB ks (n + 1) bs (tTag x p.1 a) x :=
 ⟨xsu hk hr hp h.1, fun env hf => .inr (.inr (.inr (.inr (.inl ⟨p.1, a, k, p.2, hk, hr, xg2 (wf.pnd k (List.mem_of_find?_eq_some hk)) hp, h.2 env hf, rfl⟩))))⟩
theorem xi8 {α β : Type} {f : α -> β} : ∀ {l : List α}, (l.map f).Nodup -> ∀ {a b : α}, a ∈ l -> b ∈ l -> f a = f b -> a = b
 | [], _, a, _, ha, _, _ => nomatch ha
 | c :: l, nd, a, b, ha, hb, e => by
  rw [List.map_cons, List.nodup_cons] at nd
  rcases List.mem_cons.mp ha with h1 | h1 <;> rcases List.mem_cons.mp hb with h2 | h2
  ·rw [h1, h2]
  ·rw [h1] at e
   exact absurd (by rw [e]; exact List.mem_map_of_mem h2) nd.1
  ·rw [h2] at e
   exact absurd (by rw [<- e]; exact List.mem_map_of_mem h1) nd.1
  ·exact xi8 nd.2 h1 h2 e
theorem xrh {ks : List Kn} (wf : KWf ks) {n : Nat} {bs : List (Str × Str)} {x y : Str} {k : Kn} {a : D} {rs : List (Str × Str × D)} (hk : kAt ks y = some k) (hr : k.rc = false) (ha : TmB ks n bs a y) (hl : rs.length <= 1000) (nd : (rs.map (·.1)).Nodup)
  (hlen : rs.length = k.parts.length) (hsub : ∀ r ∈ rs, ∃ p ∈ k.parts, p.1 = r.1)
  (h : ∀ p ∈ k.parts, ∃ z e, (p.1, z, e) ∈ rs /\ (∀ q ∈ bs, q.1 ≠ z) /\ ArmN ks z /\ TmB ks n (bs ++ [(z, p.2)]) e x) : TmB ks (n + 1) bs (xhx a rs) x := by
 have hm := List.mem_of_find?_eq_some hk
 refine ⟨xre wf hk hr ha.1 hl nd fun p hp => ?_, fun env hf => .inr (.inr (.inr (.inr (.inr (.inl ⟨True.intro, a, rs, y, k, ha.2 env hf, hk, hr, ?_, hlen, nd, fun r hrr => ?_, rfl⟩)))))⟩
 ·obtain ⟨z, e, g1, g2, g3, g4⟩ := h p hp
  exact ⟨z, e, g1, g2, g4.1⟩
 ·intro e
  have h0 : k.parts = [] := List.eq_nil_of_length_eq_zero (by rw [<- hlen, e]; rfl)
  exact wf.alt k hm hr h0
 ·obtain ⟨p, hp, e⟩ := hsub r hrr
  obtain ⟨z, e', g1, g2, g3, g4⟩ := h p hp
  have er : r = (p.1, z, e') := xi8 nd hrr g1 e.symm
  subst er
  exact ⟨hf.2 z g3 g2, p.2, xg2 (wf.pnd k hm) hp, g4.2 _ (hf.put g2)⟩
theorem tb_if {ks : List Kn} (wf : KWf ks) {n : Nat} {bs : List (Str × Str)} {x : Str} {a b c : D} (ha : TmB ks n bs a (S "num")) (hb : TmB ks n bs b x) (hc : TmB ks n bs c x) : TmB ks (n + 1) bs (tIfD a b c) x :=
 ⟨tm_if wf ha.1 hb.1 hc.1, fun env hf => .inr (.inr (.inr (.inr (.inr (.inr ⟨a, b, c, ha.2 env hf, hb.2 env hf, hc.2 env hf, rfl⟩)))))⟩
theorem NodeKd.mono {cs : Prop} {ks : List Kn} {R R' : RKn} (k : ∀ env d x, R env d x -> R' env d x) {env : En} {d : D} {x : Str} (h : NodeKd cs ks R env d x) : NodeKd cs ks R' env d x := by
 rcases h with ⟨s, a, b, h1, h2, r⟩ | ⟨es, kn, h1, h2, h3, r⟩ | ⟨a, k1, f, kn, h1, r⟩ | ⟨t, a, kn, k1, h1, h2, h3, h4, r⟩ | ⟨hc, a, rs, k1, kn, h1, h2, h3, h4, h5, h6, h7, r⟩ | ⟨a, b, c, h1, h2, h3, r⟩
 ·exact .inl ⟨s, a, b, k _ _ _ h1, k _ _ _ h2, r⟩
 ·exact .inr (.inl ⟨es, kn, h1, h2, h3.imp fun _ _ h => k _ _ _ h, r⟩)
 ·exact .inr (.inr (.inl ⟨a, k1, f, kn, k _ _ _ h1, r⟩))
 ·exact .inr (.inr (.inr (.inl ⟨t, a, kn, k1, h1, h2, h3, k _ _ _ h4, r⟩)))
 ·refine .inr (.inr (.inr (.inr (.inl ⟨hc, a, rs, k1, kn, k _ _ _ h1, h2, h3, h4, h5, h6, fun r hr => ?_, r⟩))))
  obtain ⟨g1, k2, g2, g3⟩ := h7 r hr
  exact ⟨g1, k2, g2, k _ _ _ g3⟩
 ·exact .inr (.inr (.inr (.inr (.inr ⟨a, b, c, k _ _ _ h1, k _ _ _ h2, k _ _ _ h3, r⟩))))
theorem kd_up {cs : Prop} {ks : List Kn} : ∀ (n : Nat) (env : En) (d : D) (x : Str), Kd cs ks n env d x -> Kd cs ks (n + 1) env d x
 | 0, _, _, _, h => .inl h
 | n + 1, env, d, x, h => by
  rcases h with h | h
  ·exact .inl h
  ·exact .inr (h.mono (kd_up n))
theorem kd_le {cs : Prop} {ks : List Kn} {n m : Nat} (l : n <= m) {env : En} {d : D} {x : Str} (h : Kd cs ks n env d x) : Kd cs ks m env d x := by
 obtain ⟨k, rfl⟩ : ∃ k, m = n + k := ⟨m - n, by omega⟩
 clear l
 induction k with
 | zero => exact h
 | succ k ih => exact kd_up _ _ _ _ ih
theorem xse {ks : List Kn} {n : Nat} {env : En} {d : D} {x : Str} (h : Kd True ks n env d x) : (∃ a rs, d = xhx a rs) \/ ∃ hd r, d = .tup (.str hd :: r) /\ hd ≠ S "case" := by
 have lf : xgp env d x -> (∃ a rs, d = xhx a rs) \/ ∃ hd r, d = .tup (.str hd :: r) /\ hd ≠ S "case" := fun z => by
  rcases z with ⟨i, _, e, _⟩ | ⟨y, _, e⟩
  ·exact .inr ⟨_, _, e, by walk_at "k"⟩
  ·exact .inr ⟨_, _, e, by walk_at "k"⟩
 cases n with
 | zero => exact lf h
 | succ m =>
  rcases h with h | ⟨s, a', b, h1, h2, e, _⟩ | ⟨es, kn, h1, h2, h3, e⟩ | ⟨a', k1, f, kn, h1, h2, h3, h4, e⟩ | ⟨t, a', kn, k1, h1, h2, h3, h4, e⟩ | ⟨_, a', rs, k1, kn, h1, h2, h3, h4, h5, h6, h7, e⟩ | ⟨a', b, c, h1, h2, h3, e⟩
  ·exact lf h
  ·exact .inr ⟨_, _, e, by walk_at "k"⟩
  ·exact .inr ⟨_, _, e, by walk_at "k"⟩
  ·exact .inr ⟨_, _, e, by walk_at "k"⟩
  ·exact .inr ⟨_, _, e, by walk_at "k"⟩
  ·exact .inl ⟨a', rs, e⟩
  ·exact .inr ⟨_, _, e, by walk_at "k"⟩
def NoMo (x : Str) : Prop := x ≠ S "more"
theorem nm_of {l : List Nat} (h : l[0]? ≠ some 109 \/ l[1]? ≠ some 111) : NoMo (ofL l) := fun e => by
 have := congrArg L e
 rw [xc3, show L (S "more") = [109, 111, 114, 101] by walk_at "k"] at this
 subst this
 simp at h
theorem xkp {c : Nat} (h : c ∈ five) : c ≠ 109 /\ c ≠ 111 := by
 revert h
 unfold five
 simp
 omega
theorem xqx {cs : List Nat} (h5 : ∀ c ∈ cs, c ∈ five) (a : Nat) (b : Int) (k : Nat) (t : List Nat) (ht : ∀ c ∈ t, c ∈ five) : NoMo (ofL (nmA cs a b k ++ t)) := by
 apply nm_of
 unfold nmA
 cases hcs : cs.take a with
 | nil =>
  right
  rw [List.nil_append, List.cons_append, List.getElem?_cons_succ]
  intro e
  have hm := zMG e
  rcases zMA hm with hm | hm
  ·exact (xkp (h5 _ (List.mem_of_mem_drop hm))).2 rfl
  ·exact (xkp (ht _ hm)).2 rfl
 | cons c r =>
  left
  intro e
  simp at e
  have : c ∈ cs.take a := by rw [hcs]; simp
  exact (xkp (h5 c (List.mem_of_mem_take this))).1 e
theorem xr7 {cs : List Nat} {a : Nat} {b : Int} (h5 : ∀ c ∈ cs, c ∈ five) : ∀ z ∈ ((List.range 26).map fun k => ofL (nmA cs a b k)), NoMo z := fun z hz => by
 obtain ⟨k, _, rfl⟩ := List.mem_map.mp hz
 have := xqx h5 a b k [] (fun _ h => nomatch h)
 rw [List.append_nil] at this
 exact this
theorem xr5 {cs : List Nat} {a : Nat} {b : Int} (h5 : ∀ c ∈ cs, c ∈ five) : ∀ z ∈ ((List.range 26).map fun k => ofL (nmB cs a b k)), NoMo z := fun z hz => by
 obtain ⟨k, _, rfl⟩ := List.mem_map.mp hz
 unfold nmB
 exact xqx h5 a b _ _ fun c hc => by rw [List.eq_of_mem_replicate hc]; decide
end M
end
section
namespace K44
open PySem L2 M
seal L2.PE L2.PA L2.PS L2.PSs L2.PT L2.PW L2.PI L2.PG L2.PJ L2.PTs
def xm9 : Sp := fun vs H Q _ => ∃ c : Int, vs = [.int c, .int 26] /\ ∀ (b : Addr) (H' : Hp) (nms : List Str), Same H H' -> H b = none -> H' b = some (.lst (nms.map V.str)) -> xkx nms -> (∀ z ∈ nms, NoBy z /\ NoMo z) -> Q (.ref b) H'
section
variable {P : Program} {w : World} {K : PySem.W.Frag} {mg : Str -> Option Value} {base : Heap} {n m : Nat}
theorem xny (T : Tx K mg) : DefIs P w K mg base (n + 1) "_law_names" ["_law_cell", "_law_many"] xm9 := by
 refine DefIs.of T.dl_names scl_names ?_ ?_ <;> walk_at "i"
 ·obtain ⟨_, rfl, _⟩ := h
  rfl
 obtain ⟨c, rfl, k⟩ := h
 have nd := scl_names.nd
 refine ⟨_, (zpn (xah (i := 2) nd rfl (by walk_at "o") pS)
   (zpn (xah (i := 3) nd rfl (by walk_at "o") (xam xbw (pv 0) pI))
   (zpn (xah (i := 4) nd rfl (by walk_at "o") (xam xbw (xam xbv (pv 0) pI) (xam xbe (pv 3) pI)))
   (zpn (xah (i := 5) nd rfl (by walk_at "o") (xev PySem.F.plainAttrs_str PySem.F.slot_str_join PySem.F.type_str_join xsa pS (pc (xba ["_law_j", "_law_cell"] [none, some 0] rfl (by kernel_rfl) (xc5 rfl T.z_range (pc (pv 3) pN zsn)) (fun _ _ _ _ => (xaa (i := 0) (by show List.Nodup (["_law_j", "_law_cell"] : List Str); decide +kernel) rfl (Or.inl rfl))) (fun _ _ _ _ => xa8) (fun _ _ _ _ => (xag xln pS (xam xbw (xam xbe (xam xbv (pv 1) pI) (pv 0)) pI) (fun _ _ => rfl)))) pN xbj)))
   (zpn (xah (i := 6) nd rfl (by walk_at "o") (xba ["_law_k", "_law_common", "_law_letters", "_law_at", "_law_cell"] [none, some 5, some 2, some 4, some 0] rfl (by kernel_rfl) (xc5 rfl T.z_range (pc (pv 1) pN zsn)) (fun _ _ _ _ => (xaa (i := 0) (by show List.Nodup (["_law_k", "_law_common", "_law_letters", "_law_at", "_law_cell"] : List Str); decide +kernel) rfl (Or.inl rfl))) (fun _ _ _ _ => xa8) (fun _ _ _ _ => (xam xdd (xam xdd (xcm xqu (pv 1) xed (xcq (pv 3))) (xag xln (pv 2) (xam xbw (xam xbe (xam xbv (pv 4) pI) (xam xcs pI (pv 0))) pI) (fun _ _ => rfl))) (xcm xqu (pv 1) (xcq (pv 3)) xed)))))
   (zpn (xao (pR xas (xam xbw (xam xbv (pv 0) pI) pI) pI (nM _)) (zpo (xae (pv 6))) pQ)
   (zpo (xae (xba ["_law_k", "_law_found"] [none, some 6] rfl (by kernel_rfl) (xc5 rfl T.z_range (pc (pv 1) pN zsn)) (fun _ _ _ _ => (xaa (i := 0) (by show List.Nodup (["_law_k", "_law_found"] : List Str); decide +kernel) rfl (Or.inl rfl))) (fun _ _ _ _ => xa8) (fun _ _ _ _ => (xam xdd (xag (xp8 (K := K) rfl) (pv 1) (xam xb0 (pv 0) (xam xbw (pv 0) pI)) (fun _ _ => rfl)) (xam xr2 pS (xam xbw (pv 0) pI))))))))))))), ?_⟩
 have m0 : 0 <= c % 5 := Int.emod_nonneg _ (by decide)
 have m5 : c % 5 < 5 := Int.emod_lt_of_pos _ (by decide)
 refine ⟨_, rfl, _, _, rfl, rfl, (by show (0 : Int) < 5; decide), ?_⟩
 have hp : 0 < (c % 5) + 1 := by omega
 refine ⟨_, rfl, _, _, rfl, rfl, ⟨by decide, by decide⟩, _, rfl, _, _, rfl, rfl, _, _, rfl, rfl, hp, ?_⟩
 have a0 : 0 <= c / 5 % ((c % 5) + 1) := Int.emod_nonneg _ (by omega)
 have a1 : c / 5 % ((c % 5) + 1) < (c % 5) + 1 := Int.emod_lt_of_pos _ hp
 refine ⟨rfl, _, rfl, _, rfl, by omega, by omega, ?_⟩
 refine xem (j := 0) (fun i ys H' => H' = H /\ ∃ cs : List Nat, ys = (cs.map xck).map V.str /\ ∀ c ∈ cs, c ∈ five) (by rfl) ⟨rfl, [], rfl, fun _ h => nomatch h⟩ (xat (by omega)) ?_ ?_
 ·rintro i ys H' hi hl ⟨rfl, cs, rfl, hcs⟩
  refine ⟨_, rfl, _, _, rfl, rfl, ⟨by decide, by decide⟩, _, rfl, _, _, rfl, rfl, _, _, rfl, rfl, (by show (0 : Int) < 5; decide), ?_⟩
  obtain ⟨ch, hch, hat⟩ := xsi (Int.emod_nonneg (c / 25 + (0 + (i : Int))) (by decide : (5 : Int) ≠ 0)) (Int.emod_lt_of_pos _ (by decide))
  refine ⟨_, _, ch, rfl, rfl, by walk_at "k", hat, ?_⟩
  exact nxt hi hl ⟨rfl, cs ++ [ch], by simp [xck], fun x hx => by
   rcases zMA hx with hx | hx
   ·exact hcs x hx
   ·rw [zMO hx]; exact hch⟩
 ·rintro ys H' hl ⟨rfl, cs, rfl, hcs⟩ D hD
  rw [zLM, zLM] at hl
  refine ⟨S "", D, cs.map xck, rfl, rfl, SqL.of ups, ?_, ?_⟩
  ·rw [xj0, show (S "").length = 0 by walk_at "k"]
   omega
  rw [xji]
  have sD := Same.new hD (.lst ((cs.map xck).map V.str))
  generalize upd H' D (.lst ((cs.map xck).map V.str)) = H1 at sD ⊢
  have hlen : (ofL cs).length = cs.length := by rw [<- xd7, xc3]
  have c4 : cs.length <= 4 := by omega
  refine ⟨_, rfl, _, rfl, by decide, by decide, ?_⟩
  refine xem (j := 0) (fun i ys H2 => H2 = H1 /\ ys = ((List.range i).map fun k => ofL (nmA cs (c / 5 % (c % 5 + 1)).toNat (c / 125) k)).map V.str) (by rfl) ⟨rfl, rfl⟩ (xat (by decide)) ?_ ?_
  ·rintro i ys H2 hi hl2 ⟨rfl, rfl⟩
   have e0 : (0 + (i : Int)) = (i : Int) := by omega
   have li0 : 0 <= (c / 125 + 5 * (0 + (i : Int))) % 26 := Int.emod_nonneg _ (by decide)
   have li1 : (c / 125 + 5 * (0 + (i : Int))) % 26 < 26 := Int.emod_lt_of_pos _ (by decide)
   refine ⟨_, rfl, _, rfl, _, rfl, _, rfl, fits (by rw [hlen]; omega), ?_⟩
   refine ⟨_, rfl, _, rfl, _, _, rfl, rfl, ⟨by decide, by decide⟩, _, rfl, _, _, rfl, rfl, .inl ⟨by decide, by decide⟩, _, _, rfl, rfl, _, _, rfl, rfl, (by show (0 : Int) < 26; decide), ?_⟩
   refine ⟨_, _, _, rfl, rfl, by walk_at "k", xoh li0 li1, ?_⟩
   rw [xpn (ofL cs) a0 (by rw [hlen]; omega)]
   refine ⟨_, _, rfl, rfl, ?_, ?_⟩
   ·refine fits ?_
    rw [show (ofL ((L (ofL cs)).take (c / 5 % (c % 5 + 1)).toNat)).length = (cs.take (c / 5 % (c % 5 + 1)).toNat).length by rw [<- xd7, xc3, xc3], List.length_take]
    show _ + 1 <= _
    omega
   refine ⟨_, rfl, _, rfl, _, rfl, _, rfl, fits (by rw [hlen]; omega), ?_⟩
   rw [xl6 (ofL cs) a0 (by rw [hlen]; omega), xc3]
   refine ⟨_, _, rfl, rfl, ?_, ?_⟩
   ·refine fits ?_
    rw [Str.length_append, show (ofL (cs.take (c / 5 % (c % 5 + 1)).toNat)).length = (cs.take (c / 5 % (c % 5 + 1)).toNat).length by rw [<- xd7, xc3], show (ofL (cs.drop (c / 5 % (c % 5 + 1)).toNat)).length = (cs.drop (c / 5 % (c % 5 + 1)).toNat).length by rw [<- xd7, xc3], List.length_take, List.length_drop]
    show _ + 1 + _ <= _
    omega
   rw [xn6]
   refine nxt hi hl2 ⟨rfl, ?_⟩
   rw [List.range_succ, List.map_append, List.map_append, e0]
   rfl
  ·rintro ys H2 hl2 ⟨rfl, rfl⟩ D2 hD2
   have sD2 := Same.new hD2 (.lst (((List.range 26).map fun k => ofL (nmA cs (c / 5 % (c % 5 + 1)).toNat (c / 125) k)).map V.str))
   refine ⟨_, rfl, _, _, rfl, rfl, ⟨by decide, by decide⟩, _, _, rfl, rfl, (by show (0 : Int) < 3; decide), rfl, _, rfl, ite2 (fun cc => ?_) (fun cc => ?_)⟩
   ·exact ⟨_, rfl, k D2 _ _ (sD.trans sD2) (xco sD hD2) ups (nmsA c4 hcs) (fun z hz => ⟨xr8 hcs z hz, xr7 hcs z hz⟩)⟩
   ·refine ⟨_, rfl, _, rfl, by decide, by decide, ?_⟩
    obtain ⟨H3, hH3⟩ : ∃ H3, H3 = upd H2 D2 (.lst (((List.range 26).map fun k => ofL (nmA cs (c / 5 % (c % 5 + 1)).toNat (c / 125) k)).map V.str)) := ⟨_, rfl⟩
    have hb : H3 D2 = some (.lst (((List.range 26).map fun k => ofL (nmA cs (c / 5 % (c % 5 + 1)).toNat (c / 125) k)).map V.str)) := by rw [hH3]; exact ups
    rw [<- hH3] at sD2
    refine xem (j := 0) (fun i ys H4 => H4 = H3 /\ ys = ((List.range i).map fun k => ofL (nmB cs (c / 5 % (c % 5 + 1)).toNat (c / 125) k)).map V.str) (by rfl) ⟨hH3.symm, rfl⟩ (xat (by decide)) ?_ ?_
    ·rintro i ys H4 hi hl3 ⟨rfl, rfl⟩
     have hi' : i < 26 := hi
     have er : (0 + (i : Int)) % 2 = ((i % 2 : Nat) : Int) := by omega
     have es : (0 + (i : Int)) - (0 + (i : Int)) % 2 = ((i - i % 2 : Nat) : Int) := by omega
     refine ⟨_, rfl, _, rfl, _, rfl, _, _, rfl, rfl, (by show (0 : Int) < 2; decide), _, _, rfl, rfl, D2, _, _, .str (ofL (nmA cs (c / 5 % (c % 5 + 1)).toNat (c / 125) (i - i % 2))), rfl, rfl, SqL.of hb, ?_, ?_⟩
     ·rw [es]
      refine xap ?_
      rw [zGM, zGM, List.getElem?_range (by omega)]
      rfl
     refine ⟨_, rfl, _, _, rfl, rfl, (by show (0 : Int) < 2; decide), _, _, rfl, rfl, by omega, ?_⟩
     refine ⟨_, _, rfl, rfl, ?_, ?_⟩
     ·refine fits ?_
      rw [show (ofL (nmA cs (c / 5 % (c % 5 + 1)).toNat (c / 125) (i - i % 2))).length = cs.length + 1 by rw [<- xd7, xc3, xfs]]
      have : (if (0 + (i : Int)) % 2 = 1 then S "q" else Str.empty).length <= 1 := by split <;> decide +kernel
      show _ + (if (0 + (i : Int)) % 2 = 1 then S "q" else Str.empty).length <= _
      omega
     refine nxt hi hl3 ⟨rfl, ?_⟩
     rw [List.range_succ, List.map_append, List.map_append]
     congr 1
     show [V.str _] = [V.str _]
     congr 2
     apply xpf
     rw [xdi, xc3, xc3]
     unfold nmB
     congr 1
     rw [er]
     rcases Nat.mod_two_eq_zero_or_one i with e | e
     ·rw [e]; decide +kernel
     ·rw [e]; decide +kernel
    ·rintro ys H4 hl3 ⟨rfl, rfl⟩ D4 hD4
     have sD4 := Same.new hD4 (.lst (((List.range 26).map fun k => ofL (nmB cs (c / 5 % (c % 5 + 1)).toNat (c / 125) k)).map V.str))
     exact k D4 _ _ (sD.trans (sD2.trans sD4)) (xco (sD.trans sD2) hD4) ups (nmsB c4 hcs) (fun z hz => ⟨xr6 hcs z hz, xr5 hcs z hz⟩)
end
def xcv : Sp := fun vs H Q _ => ∃ v ks x, vs = [v, .str x] /\ KsSeq H v ks /\ ∀ t pv H', Same H H' -> H' t = some (.tup [.str (xci (kAt ks x)), pv]) -> RelD H' pv (xim (kAt ks x)) -> Q (.ref t) H'
def xfd (m : Nat) : Sp := fun vs H Q _ => ∃ v ks x, vs = [v, .str x] /\ KsSeq H v ks /\ KWf ks /\ KIn ks m x /\ ∀ H', Same H H' -> Q (.int (szF (m + 1) ks x)) H'
section
variable {P : Program} {w : World} {K : PySem.W.Frag} {mg : Str -> Option Value} {base : Heap} {n m : Nat}
theorem xa3 (T : Tx K mg) : DefIs P w K mg base (n + 1) "_law_sort_of" ["_law_kinds_here", "_law_kind"] xcv := by
  refine DefIs.of T.dl_sort_of scl_sort_of ?_ ?_ <;> walk_at "i"
  · obtain ⟨_, _, _, rfl, _⟩ := h
    rfl
  obtain ⟨v, ks, x, rfl, ⟨a, us, rfl, hau, hR⟩, q⟩ := h
  have nd := scl_sort_of.nd
  refine ⟨_, (zpn (xbo PassesOwn.never rfl (xru (xce (pv 0)) (xa4 (pv 0))) (xbb rfl (xab (xaa (i := 2) nd rfl (by walk_at "o")) (xab (xaa (i := 3) nd rfl (by walk_at "o")) (xab (xaa (i := 4) nd rfl (by walk_at "o")) xaq))))
      (zpo (xao (pR xas (pv 2) (pv 1) (nM _)) (zpo (xae (xan (pc (pv 3) (pc (pv 4) pN zsn) zsn)))) pQ)))
      (zpo (xae (xan (pc pS (pc (xan pN) pN sT) zso))))), ?_⟩
  have hl := hR.length
  rw [zLM] at hl
  have turn : ∀ (i : Nat) (v : V), us[i]? = some v -> (ks.take i).find? (fun k => decide (k.name = x)) = none -> ∃ k b pv, ks[i]? = some k /\ v = .ref b /\ H b = some (.tup [.str k.name, .str k.sort, pv]) /\ RelD H pv (xbf k.parts) := fun i v hv hn => by
    obtain ⟨d, hd, rd⟩ := hR.get hv
    rw [zGM] at hd
    obtain ⟨k, hk', rfl⟩ := zMS hd
    obtain ⟨b, ws, rfl, hb, _, _, rfl, rfl, _, _, rfl, rfl, v3, _, rfl, r3, rfl⟩ := rd
    exact ⟨k, b, v3, hk', rfl, hb, r3⟩
  rcases hau with ha | ha
  case' inl =>
    refine .inl ⟨_, rfl, a, rfl, ⟨_, SqL.of ha⟩, ?_⟩
    refine xhf (xs := us) (fun i σ H' => ∃ o2 o3 o4, σ = [some (.ref a), some (.str x), o2, o3, o4] /\ H' = H /\ (ks.take i).find? (fun k => decide (k.name = x)) = none) ⟨none, none, none, rfl, rfl, rfl⟩ (fun i σ H' _ p => by obtain ⟨_, _, _, _, rfl, _⟩ := p; exact SqL.of ha) ?_ ?_
  case' inr =>
    refine .inr ⟨_, rfl, a, rfl, ⟨_, SqT.of ha⟩, ?_⟩
    refine xb5 (xs := us) (fun i σ H' => ∃ o2 o3 o4, σ = [some (.ref a), some (.str x), o2, o3, o4] /\ H' = H /\ (ks.take i).find? (fun k => decide (k.name = x)) = none) ⟨none, none, none, rfl, rfl, rfl⟩ (fun i σ H' _ p => by obtain ⟨_, _, _, _, rfl, _⟩ := p; exact SqT.of ha) ?_ ?_
  all_goals first
    | (rintro i v σ H' hv ⟨o2, o3, o4, rfl, rfl, hn⟩
       obtain ⟨k, b, pv, hk', rfl, hb, r3⟩ := turn i v hv hn
       refine ⟨b, _, rfl, SqT.of hb, rfl, _, _, rfl, _, _, rfl, _, _, rfl, rfl, ?_⟩
       refine ⟨_, rfl, _, rfl, rfl, _, rfl, ite2 (fun c => ?_) (fun c => ?_)⟩
       · have e : k.name = x := V.str.inj (of_decide_eq_true c)
         have e2 : kAt ks x = some k := (xca hn hk').1 (zDT e)
         refine ⟨_, rfl, _, rfl, (by walk_at "s"), fun t ht => ?_⟩
         have st := Same.new ht (.tup [.str k.sort, pv])
         rw [e2] at q
         exact q t pv _ st ups (r3.same st _)
       · have e : ¬ k.name = x := fun z => c (zDT (congrArg V.str z))
         exact ⟨_, _, _, rfl, rfl, (xca hn hk').2 (zDF e)⟩)
    | (rintro σ H' ⟨o2, o3, o4, rfl, rfl, hn⟩
       rw [zTL (by omega)] at hn
       rw [show kAt ks x = none from hn] at q
       refine ⟨(by walk_at "s"), fun e he => ⟨(by walk_at "s"), fun t ht => ?_⟩⟩
       have se := Same.new he (.tup [])
       have st := Same.new ht (.tup [.str (S "num"), .ref e])
       exact q t (.ref e) _ (se.trans st) ups ⟨e, [], rfl, st _ _ ups, rfl⟩)
theorem xlh (T : Tx K mg) (spc : Sp) (Dl_sort_of : DefIs P w K mg base n "_law_sort_of" ["_law_kinds_here", "_law_kind"] xcv) (Dl_size : DefIs P w K mg base n "_law_size" ["_law_kinds_here", "_law_kind"] spc) (hspc : ∀ j, m = j + 1 -> spc = xfd j) (hm : m <= 6) :
  DefIs P w K mg base (n + 1) "_law_size" ["_law_kinds_here", "_law_kind"] (xfd m) := by
 refine DefIs.of T.dl_size scl_size ?_ ?_ <;> walk_at "i"
 ·obtain ⟨_, _, _, rfl, _⟩ := h
  rfl
 obtain ⟨v, ks, x, rfl, hk, wf, hin, q⟩ := h
 have nd := scl_size.nd
 refine ⟨_, (zpn (xcb (pd Dl_sort_of hr (pc (pv 0) (pc (pv 1) pN zsn) zsn)) (xbb rfl (xab (xaa (i := 2) nd rfl (by walk_at "o")) (xab (xaa (i := 3) nd rfl (by walk_at "o")) xaq))))
   (zpn (xa9 (i := 4) ["_law_name", "_law_part", "_law_kinds_here"] [none, none, some 0] rfl (by kernel_rfl) nd rfl (by walk_at "o") (xa4 (pv 3)) (fun _ _ _ _ => (xbp (K := K) (n := 2) rfl rfl (xab (xaa (i := 0) (by show List.Nodup (["_law_name", "_law_part", "_law_kinds_here"] : List Str); decide +kernel) rfl (Or.inl rfl)) (xab (xaa (i := 1) (by show List.Nodup (["_law_name", "_law_part", "_law_kinds_here"] : List Str); decide +kernel) rfl (Or.inl rfl)) xaq)))) (fun _ _ _ _ => xa8) (fun _ _ _ _ => (pd Dl_size hr (pc (pv 2) (pc (pv 1) pN zsn) zsn))))
   (zpn (xao (pR xas (pv 2) pS (nM _)) (zpo (xae (xam xbe pI (xak (xpc rfl) rfl T.z_max PyProof.Rows.boot_max (pc (pv 4) pN zsn))))) pQ)
   (zpo (xae (xam xbe pI (xak (xjr rfl) rfl T.z_sum PyProof.Rows.boot_sum (pc (pv 4) pN zsn)))))))), ?_⟩
 refine ⟨_, rfl, _, rfl, v, ks, x, rfl, hk, fun t pv H1 s1 ht rp => ?_⟩
 refine ⟨t, _, rfl, SqT.of ht, rfl, _, _, rfl, _, _, rfl, rfl, ?_⟩
 have key : ∃ ps : List (Str × Str), xim (kAt ks x) = xbf ps /\ ps.length <= 5 /\ (∀ p ∈ ps, ∃ j, m = j + 1 /\ KIn ks j p.2) /\ (xci (kAt ks x) = S "alt" -> ps ≠ [] /\ szF (m + 1) ks x = 1 + maxD (ps.map fun p => szF m ks p.2)) ∧
   (xci (kAt ks x) ≠ S "alt" -> szF (m + 1) ks x = 1 + (ps.map fun p => szF m ks p.2).sum) := by
  cases hx : kAt ks x with
  | none =>
   refine ⟨[], rfl, by decide, (fun _ h => nomatch h), (fun h => absurd h (by walk_at "k")), fun _ => ?_⟩
   unfold szF
   rw [hx]
   rfl
  | some k =>
   have hmem : k ∈ ks := List.mem_of_find?_eq_some hx
   have hname : k.name = x := by
    have := List.find?_some hx
    simpa using this
   refine ⟨k.parts, rfl, wf.pts k hmem, fun p hp => ?_, fun h => ?_, fun h => ?_⟩
   ·rcases hin with rfl | ⟨j, k', hj, hk', e⟩
    ·exact absurd hname (xcy (wf.nm k hmem))
    ·have e2 : kAt ks k'.name = some k' := wf.at hk'
     rw [e, hx] at e2
     cases e2
     refine ⟨m - 1, by omega, ?_⟩
     rcases wf.ref j k hk' p hp with z | ⟨i, k2, hi, z⟩
     ·exact .inl z
     ·exact .inr ⟨i, k2, by omega, z⟩
   ·have hrc : k.rc = false := by
     cases hc : k.rc with
     | false => rfl
     | true =>
      have : k.sort = S "alt" := h
      unfold Kn.sort at this
      rw [hc, if_pos rfl] at this
      exact absurd this (by walk_at "k")
    refine ⟨wf.alt k hmem hrc, ?_⟩
    conv => lhs; unfold szF
    rw [hx]
    show 1 + (if k.rc = true then _ else _) = _
    rw [if_neg (by rw [hrc]; decide)]
   ·have hrc : k.rc = true := by
     cases hc : k.rc with
     | true => rfl
     | false =>
      refine absurd ?_ h
      show k.sort = S "alt"
      unfold Kn.sort
      rw [hc, if_neg (by decide)]
    conv => lhs; unfold szF
    rw [hx]
    show 1 + (if k.rc = true then _ else _) = _
    rw [if_pos hrc]
 obtain ⟨ps, eps, h5, hpin, halt, hrec⟩ := key
 rw [eps] at rp
 obtain ⟨e, us, rfl, he, hus⟩ := rp
 have hl := hus.length
 rw [zLM] at hl
 refine ⟨_, rfl, e, rfl, ⟨_, SqT.of he⟩, ?_⟩
 refine xa7 (xs := us) (fun i ys H' => Same H1 H' /\ ys = ((ps.take i).map fun p => szF m ks p.2).map V.int) ⟨Same.refl _, rfl⟩ (xat (by omega)) (fun i ys H' _ p => SqT.of (p.1 _ _ he)) ?_ ?_
 ·rintro i z ys H' hz hi hly ⟨sm, rfl⟩
  obtain ⟨d, hd, rd⟩ := hus.get hz
  rw [zGM] at hd
  obtain ⟨p, hp, rfl⟩ := zMS hd
  obtain ⟨b, ws, rfl, hb, _, _, rfl, rfl, _, _, rfl, rfl, rfl⟩ := rd
  obtain ⟨j, rfl, hj⟩ := hpin p (zMG hp)
  have D' := hspc j rfl
  subst D'
  refine ⟨b, _, rfl, SqT.of (sm _ _ hb), rfl, _, _, rfl, _, _, rfl, rfl, ext2 rfl rfl, xdu ?_⟩
  refine ⟨_, rfl, _, rfl, _, ks, p.2, rfl, hk.same (s1.trans sm), wf, hj, fun H2 s2 => nxtG hi hly ⟨sm.trans s2, ?_⟩⟩
  rw [List.take_add_one, hp]
  simp
 ·rintro ys H' hly ⟨sm, rfl⟩ D hD
  rw [zTL (by omega)]
  have sD := Same.new hD (.lst ((ps.map fun p => szF m ks p.2).map V.int))
  have sAll := s1.trans (sm.trans sD)
  have hb : ∀ n ∈ ps.map (fun p => szF m ks p.2), 0 <= n /\ n <= 1000000 := fun n hn => by
   obtain ⟨p, _, rfl⟩ := List.mem_map.mp hn
   have h1 := xfa wf.pts m p.2
   have h2 : (6 : Int) ^ m <= 6 ^ 6 := by
    rcases (show m = 0 \/ m = 1 \/ m = 2 \/ m = 3 \/ m = 4 \/ m = 5 \/ m = 6 by omega) with h | h | h | h | h | h | h <;> subst h <;> decide
   have h3 : (6 : Int) ^ 6 = 46656 := by decide
   omega
  refine ⟨_, rfl, rfl, _, rfl, ite2 (fun c => ?_) (fun c => ?_)⟩
  ·obtain ⟨hne, ez⟩ := halt (V.str.inj (of_decide_eq_true c))
   refine ⟨_, rfl, D, _, rfl, SqL.of ups, (fun z => hne (List.map_eq_nil_iff.mp z)), fun mx h1 h2 => ⟨_, _, rfl, rfl, ?_⟩⟩
   have := q _ sAll
   rw [ez, <- xsb (fun z => hne (List.map_eq_nil_iff.mp z)) (fun n hn => (hb n hn).1) h1 h2] at this
   exact this
  ·have ez := hrec (fun z => c (zDT (congrArg V.str z)))
   refine ⟨_, rfl, D, _, rfl, SqL.of ups, hb, by rw [zLM]; omega, _, _, rfl, rfl, ?_⟩
   have := q _ sAll
   rw [ez] at this
   exact this
theorem xnj (T : Tx K mg) : ∀ m, m <= 6 -> DefIs P w K mg base (m + 2) "_law_size" ["_law_kinds_here", "_law_kind"] (xfd m)
 | 0, h => xlh (n := 1) T (fun _ _ _ _ => False) (xa3 T) (DefIs.none T.dl_size fun _ _ _ _ h => h) (fun j e => by cases e) h
 | m + 1, h => xlh (n := m + 2) T (xfd m) (xa3 T) (xnj T m (by omega)) (fun j e => by cases e; rfl) h
end
def xgv : Sp := fun vs H Q _ => ∃ (f l nb : Addr) (srt : Str) (p q : Int) (ws : List V) (ks : List Kn) (n4 : List Str), vs = [.ref f, .ref l, .str srt, .ref nb] /\ H f = some (.lst [.int p, .int q]) /\ H l = some (.lst ws) /\ RelDs H ws (ks.map Kn.d) /\ KWf ks ∧
 H nb = some (.lst (n4.map V.str)) /\ n4.length = 4 /\ (srt = S "rec" \/ srt = S "alt") /\ l ≠ f /\ nb ≠ f ∧
 ∀ v ps (H' : Hp), Fed f H H' -> RelD H' v (xbf ps) -> ps.length <= 4 -> ps.map (·.1) = n4.take ps.length -> (srt = S "alt" -> ps ≠ []) -> (∀ p ∈ ps, KIn ks ks.length p.2) -> (ps.map fun p => sz ks p.2).sum <= 29 -> Q v H'
theorem if_asg {D : Ends} {σ : St} {H : Hp} {c : Bool} {B : Prop} {i : Nat} {v x : V} (σk : V -> St) (h1 : σ.set i (some v) = σk v) (h2 : σ = σk x) (hB : D.nx σ H -> B) (h : ∀ y, (y = v \/ (y = x /\ c = false)) -> D.nx (σk y) H) : if c = true then tAsg (tC v) (xjn i) D σ H else B := by
 cases c with
 | false => exact hB (by rw [h2]; exact h x (.inr ⟨rfl, rfl⟩))
 | true =>
  show D.nx (σ.set i (some v)) H
  rw [h1]
  exact h v (.inl rfl)
theorem and2 {tb : TE} {σ : St} {H : Hp} {Q : VK} {c cA : Bool} (hA : Q (.bl cA) H -> tb σ H Q) (h : ∀ b : Bool, (b = true -> cA = true) -> Q (.bl b) H) : if c = true then tb σ H Q else Q (.bl false) H := by
 cases c with
 | false => exact h false (fun e => by cases e)
 | true => exact hA (h cA id)
theorem xll : ∀ {ns : List Int}, (∀ n ∈ ns, 0 <= n) -> maxD ns <= ns.sum /\ 0 <= ns.sum
 | [], _ => ⟨Int.le_refl _, Int.le_refl _⟩
 | n :: ns, h => by
  have h1 := h n (by simp)
  have h2 := xll (ns := ns) fun m hm => h m (by simp [hm])
  rw [List.sum_cons]
  show max n (maxD ns) <= _ /\ _
  omega
theorem xqa {ks : List Kn} (wf : KWf ks) {x : Str} {b : Bool} {ps : List (Str × Str)} (h : (ps.map fun p => sz ks p.2).sum <= 29) : inSz (Kn.mk x b ps) (sz ks) <= 29 := by
 have := xll (ns := ps.map fun p => sz ks p.2) fun n hn => by
  obtain ⟨p, _, rfl⟩ := List.mem_map.mp hn
  have := sz_ge wf p.2
  omega
 unfold inSz
 show (if b = true then (ps.map fun p => sz ks p.2).sum else maxD (ps.map fun p => sz ks p.2)) <= 29
 split <;> omega
section
variable {P : Program} {w : World} {K : PySem.W.Frag} {mg : Str -> Option Value} {base : Heap} {n m : Nat}
theorem xnx (T : Tx K mg) (Dl_take : DefIs P w K mg base n "_law_take" ["_law_feed_here", "_law_many"] xb9) (Dl_size : DefIs P w K mg base n "_law_size" ["_law_kinds_here", "_law_kind"] (xfd 6)) : DefIs P w K mg base (n + 1) "_law_parts" ["_law_feed_here", "_law_kinds_here", "_law_sort", "_law_names_here"] xgv := by
  refine DefIs.of T.dl_parts scl_parts ?_ ?_ <;> walk_at "i"
  · obtain ⟨_, _, _, _, _, _, _, _, _, rfl, _⟩ := h
    rfl
  obtain ⟨f', l, nb, srt, p, q, ws, ks, n4, rfl, hf, hl, hws, wf, hnb, h4, hs, lf, nf, k⟩ := h
  have nd := scl_parts.nd
  refine ⟨_, (zpn (xah (i := 4) nd rfl (by walk_at "o") (xbs pN))
      (zpn (xah (i := 5) nd rfl (by walk_at "o") pI)
      (zpn (xbo PassesOwn.never rfl (xc5 rfl T.z_range (pc (xam xbe (xam xbe (pd Dl_take hr (pc (pv 0) (pc pI pN zso) zsn)) (xar xd6 rfl T.z_int PyProof.Rows.boot_int (pc (xcw xas (pv 2) pS (nM _)) pN xgu))) (xar xd6 rfl T.z_int PyProof.Rows.boot_int (pc (xfj (xcw xas (pd Dl_take hr (pc (pv 0) (pc pI pN zso) zsn)) pI (nM _)) (xij (xcw xas (pv 2) pS (nM _)))) pN xm4))) pN xax)) (xaa (i := 6) nd rfl (by walk_at "o"))
      (zpn (xah (i := 7) nd rfl (by walk_at "o") (xag iL (xam xfn (xbs (pc pS pN zso)) (xba ["_law_row"] [none] rfl (by kernel_rfl) (xce (pv 1)) (fun _ _ _ _ => (xaa (i := 0) (by show List.Nodup (["_law_row"] : List Str); decide +kernel) rfl (Or.inl rfl))) (fun _ _ _ _ => xa8) (fun _ _ _ _ => (xag (xbt (K := K) rfl) (pv 0) pI (fun _ _ => rfl))))) (pd Dl_take hr (pc (pv 0) (pc (xam xbe pI (xak xad rfl T.z_len PySem.boot_len (pc (pv 1) pN zsn))) pN xax) zsn)) (fun _ _ => rfl)))
      (zpn (xao (pR xdr (pd Dl_size hr (pc (pv 1) (pc (pv 7) pN zsn) zsn)) (pv 5) (nM _)) (zpo (xah (i := 7) nd rfl (by walk_at "o") pS)) pQ)
      (zpn (xah (i := 5) nd rfl (by walk_at "o") (xam xb0 (pv 5) (pd Dl_size hr (pc (pv 1) (pc (pv 7) pN zsn) zsn))))
      (zpo (xaz (xev PySem.F.plainAttrs_list PySem.F.slot_list_append PySem.F.type_list_append xb1 (pv 4) (pc (xan (pc (xag iL (pv 3) (pv 6) (fun _ _ => rfl)) (pc (pv 7) pN zsn) ss)) pN sT))))))))
      (zpo (xae (xar xau rfl T.z_tuple PyProof.Rows.boot_tuple (pc (xcm xfg (pv 4) xed (xcq pI)) pN ss))))))), ?_⟩
  refine ⟨(by walk_at "s"), fun pl hpl => ?_⟩
  have s0 := Same.new hpl (.lst [])
  have plf : pl ≠ f' := Ne.symm (neN hf hpl)
  have hfew := wf.few
  have hwl := hws.length
  rw [zLM] at hwl
  refine ⟨_, rfl, f', p, q, 4, rfl, s0 _ _ hf, by decide, by decide, fun r1 H1 r10 r11 f1 => ?_⟩
  obtain ⟨p1, q1, h1⟩ := f1.2
  have F1 : Fed f' H H1 := ⟨s0.but.trans f1.1, f1.2⟩
  have hp1 : H1 pl = some (.lst []) := f1.1 _ _ ups plf
  have hAB : ∃ cA cB : Bool, decide (V.str srt = V.str (S "rec")) = cA /\ decide (V.str srt = V.str (S "alt")) = cB /\ 0 <= (if cA = true then (1 : Int) else 0) /\ 0 <= (if cB = true then (1 : Int) else 0) /\ (if cA = true then (1 : Int) else 0) + (if cB = true then (1 : Int) else 0) <= 1 /\ (srt = S "alt" -> (if cB = true then (1 : Int) else 0) = 1) := by
    rcases hs with rfl | rfl
    · exact ⟨true, false, by walk_at "k", by walk_at "k", by decide, by decide, by decide, fun e => absurd e (by walk_at "k")⟩
    · exact ⟨false, true, by walk_at "k", by walk_at "k", by decide, by decide, by decide, fun _ => rfl⟩
  obtain ⟨cA, cB, eA, eB, hb0, hb1, hb2, hbA⟩ := hAB
  refine ⟨_, rfl, rfl, .inr ⟨cB, congrArg (fun b => [V.bl b]) eB, r1, (if cB = true then 1 else 0), rfl, rfl, ?_⟩⟩
  refine ⟨_, rfl, f', p1, q1, 9, rfl, h1, by decide, by decide, fun r2 H2 r20 r21 f2 => ⟨rfl, _, rfl, and2 (cA := decide (V.str srt = V.str (S "rec"))) (fun z => ⟨_, rfl, rfl, z⟩) (fun b hb => ?_)⟩⟩
  rw [eA] at hb
  have hbb : 0 <= (if b = true then (1 : Int) else 0) /\ (if b = true then (1 : Int) else 0) <= (if cA = true then (1 : Int) else 0) := by
    cases b with
    | false => exact ⟨Int.le_refl _, hb0⟩
    | true => rw [hb rfl]; exact ⟨by decide, by decide⟩
  refine .inr ⟨b, rfl, _, (if b = true then 1 else 0), rfl, rfl, _, rfl, by omega, by omega, ?_⟩
  all_goals
      have F2 : Fed f' H H2 := F1.trans f2
      have hp2 : H2 pl = some (.lst []) := f2.1 _ _ hp1 plf
      refine xfv (fun i σ H' => ∃ us, ∃ ps : List (Str × Str), ∃ left o6 o7, σ = [some (.ref f'), some (.ref l), some (.str _), some (.ref nb), some (.ref pl), some (.int left), o6, o7] /\ Fed f' H H' /\ H' pl = some (.lst us) /\ RelDs H' us (ps.map xbu) /\ ps.length = i /\ ps.map (·.1) = n4.take i /\ (∀ p ∈ ps, KIn ks ks.length p.2) /\ (ps.map fun p => sz ks p.2).sum + left = 25 /\ -(i : Int) <= left)
        ⟨[], [], 25, none, none, rfl, F2, hp2, rfl, rfl, rfl, (fun _ h => nomatch h), rfl, by decide⟩ ?_ ?_
      · rintro i σ H3 hi ⟨us, ps, left, o6, o7, rfl, F, hpu, hus, hpl', hpn, hin, hsum, hleft⟩
        have hi4 : i < 4 := by omega
        obtain ⟨p3, q3, h3⟩ := F.2
        have hl3 := F.1 l _ hl lf
        have hn3 := F.1 nb _ hnb nf
        have hws3 := hws.tups (xai ⟨p, q, hf⟩ F) _
        refine ⟨(by walk_at "s"), fun l1 hl1 => ?_⟩
        have s1 := Same.new hl1 (.lst [.str (S "num")])
        refine ⟨_, rfl, l, rfl, ⟨_, SqL.of (s1 _ _ hl3)⟩, ?_⟩
        refine xf0 (j := 0) (xs := ws) (fun i ys H' => H' = upd H3 l1 (.lst [.str (S "num")]) /\ ys = ((ks.take i).map Kn.name).map V.str) (by rfl) ⟨rfl, rfl⟩ (xat (by omega)) (fun i ys H' _ p => by obtain ⟨rfl, _⟩ := p; exact SqL.of (s1 _ _ hl3)) ?_ ?_
        · rintro i' x ys H' hx hly ⟨rfl, rfl⟩
          obtain ⟨d, hd, rd⟩ := (hws3.same s1 _).get hx
          rw [zGM] at hd
          obtain ⟨k', hk', rfl⟩ := zMS hd
          obtain ⟨b, vs', rfl, hb, _, _, rfl, rfl, _, _, rfl, rfl, v3, _, rfl, r3, rfl⟩ := rd
          have hi' : i' < ws.length := (zES hx).1
          refine ⟨_, rfl, b, _, _, _, rfl, rfl, SqT.of hb, rfl, nxt hi' hly ⟨rfl, ?_⟩⟩
          rw [List.take_add_one, hk']
          simp
        rintro ys H' hly ⟨rfl, rfl⟩ D2 hD2
        rw [zTL (by omega)]
        have s2 := Same.new hD2 (.lst ((ks.map Kn.name).map V.str))
        refine ⟨l1, D2, _, _, rfl, rfl, s2 _ _ ups, ups, fits (by rw [zLM, zLM]; show 1 + _ <= _; omega), fun l3 hl3' => ?_⟩
        have s3 := Same.new hl3' (.lst ([.str (S "num")] ++ (ks.map Kn.name).map V.str))
        have s13 := s1.trans (s2.trans s3)
        have l3f : l3 ≠ f' := Ne.symm (neN (s2 _ _ (s1 _ _ h3)) hl3')
        refine ⟨_, rfl, _, rfl, l, _, rfl, .inl (SqL.of (s13 _ _ hl3)), _, _, rfl, rfl, ?_⟩
        refine ⟨f', p3, q3, _, rfl, s13 _ _ h3, by omega, by omega, fun r H4 r0 r1' f4 => ?_⟩
        rw [hwl] at r1'
        obtain ⟨x, hx, hxin⟩ := xhb r0 r1'
        have hl34 : H4 l3 = some (.lst ([.str (S "num")] ++ (ks.map Kn.name).map V.str)) := f4.1 _ _ ups l3f
        refine ⟨l3, _, _, _, rfl, rfl, SqL.of hl34, hx, ?_⟩
        have F4 : Fed f' H H4 := (F.same s13).trans f4
        have hpu4 := f4.1 _ _ (s13 _ _ hpu) plf
        have hus4 := (hus.same s13 _).tups (xai ⟨p3, q3, s13 _ _ h3⟩ f4) _
        have hl4 := F4.1 l _ hl lf
        have hn4 := F4.1 nb _ hnb nf
        have hws4 := hws.tups (xai ⟨p, q, hf⟩ F4) _
        have seq4 : KsSeq H4 (.ref l) ks := ⟨l, ws, rfl, .inl hl4, hws4⟩
        refine ⟨_, rfl, _, rfl, _, ks, x, rfl, seq4, wf, hxin.mono hfew, fun H5 s5 => ⟨_, rfl, _, _, rfl, rfl, _, rfl, if_asg (x := .str x) (fun y => [some (.ref f'), some (.ref l), some (.str srt), some (.ref nb), some (.ref pl), some (.int left), some (.int (0 + (i : Int))), some y]) rfl rfl id (fun y hy => ?_)⟩⟩
        obtain ⟨kd, rfl, hx', hkl⟩ : ∃ kd, y = .str kd /\ KIn ks ks.length kd /\ -((i : Int) + 1) <= left - sz ks kd := by
          rcases hy with rfl | ⟨rfl, hcf⟩
          · exact ⟨S "num", rfl, .inl rfl, by have h1 : sz ks (S "num") = 1 := xs5 wf
                                              omega⟩
          · refine ⟨_, rfl, hxin, ?_⟩
            have h0 : ¬ left < sz ks x := of_decide_eq_false hcf
            omega
        · refine ⟨_, rfl, _, rfl, _, rfl, _, ks, kd, rfl, seq4.same s5, wf, hx'.mono hfew, fun H6 s6 => ⟨_, _, rfl, rfl, ?_⟩⟩
          have s56 := s5.trans s6
          have hpu6 := s56 _ _ hpu4
          have hi4' : i < n4.length := by omega
          refine ⟨_, rfl, .inl ⟨rfl, _, SqL.of hpu6⟩, _, rfl, _, rfl, nb, _, _, _, rfl, rfl, SqL.of (s56 _ _ hn4), xk4 hi4', _, rfl, (by walk_at "s"), fun t ht => ?_⟩
          have s47 : ∀ o, Same H4 (upd H6 t o) := fun o => s56.trans (Same.new ht o)
          have hul := hus.length
          rw [zLM] at hul
          refine ⟨pl, us, _, rfl, rfl, s47 _ _ _ hpu4, xat (by omega), ?_⟩
          refine ⟨_, ps ++ [(n4[i], kd)], _, _, _, rfl, Fed.put (F4.same (s47 _)) hpl plf _, ups, ?_, by rw [List.length_append, List.length_singleton, hpl'], ?_, fun z hz => ?_, ?_, by push_cast; exact hkl⟩
          · rw [List.map_append]
            refine RelDs.append ((hus4.same (s47 _) _).tups (xa2 (s47 _ _ _ hpu4) _) _) ?_
            exact ⟨_, [], rfl, ⟨t, _, rfl, xa2 (s47 _ _ _ hpu4) _ _ _ ups, _, _, rfl, rfl, _, _, rfl, rfl, rfl⟩, rfl⟩
          · rw [List.map_append, hpn, List.take_add_one, zGA hi4']
            rfl
          · rcases zMA hz with hz | hz
            · exact hin z hz
            · rw [zMO hz]; exact hx'
          · show ((ps ++ [(n4[i], kd)]).map fun p => sz ks p.2).sum + (left - sz ks kd) = 25
            rw [List.map_append, List.sum_append]
            simp only [List.map_cons, List.map_nil, List.sum_cons, List.sum_nil]
            omega
      · rintro σ H3 ⟨us, ps, left, o6, o7, rfl, F, hpu, hus, hpl', hpn, hin, hsum, hleft⟩
        have hul := hus.length
        rw [zLM] at hul
        refine ⟨_, rfl, _, rfl, pl, us, rfl, SqL.of hpu, fun c2 hc2 => ?_⟩
        have ecut : cutV us none (some 4) = us := by
          unfold cutV
          rw [show HT.sIx us.length 0 none = 0 from rfl, List.drop_zero, Nat.sub_zero]
          refine zTL ?_
          unfold HT.sIx
          simp
          omega
        have s1 := Same.new hc2 (.lst (cutV us none (some 4)))
        refine ⟨c2, _, rfl, .inl ⟨SqL.of ups, fun t ht => ?_⟩⟩
        have s2 := Same.new ht (.tup (cutV us none (some 4)))
        refine k _ ps _ (F.same (s1.trans s2)) ⟨t, us, rfl, by rw [ecut]; exact ups, hus.same (s1.trans s2) _⟩ (by omega) (by rw [hpl']; exact hpn) ?_ hin (by omega)
        intro ha e
        have h9 := hbA ha
        rw [e] at hpl'
        simp only [List.length_nil] at hpl'
        omega
def xnd : Sp := fun vs H Q _ => ∃ (f nb : Addr) (p q : Int) (nms : List Str), vs = [.ref f, .ref nb] /\ H f = some (.lst [.int p, .int q]) /\ H nb = some (.lst (nms.map V.str)) /\ xkx nms /\ nb ≠ f /\ ∀ v ks (H' : Hp), Fed f H H' -> RelD H' v (xbg ks) -> xqm nms ks -> Fit ks -> Q v H'
theorem xnz (T : Tx K mg) (Dl_take : DefIs P w K mg base n "_law_take" ["_law_feed_here", "_law_many"] xb9) (Dl_parts : DefIs P w K mg base n "_law_parts" ["_law_feed_here", "_law_kinds_here", "_law_sort", "_law_names_here"] xgv) : DefIs P w K mg base (n + 1) "_law_kinds" ["_law_feed_here", "_law_names_here"] xnd := by
 refine DefIs.of T.dl_kinds scl_kinds ?_ ?_ <;> walk_at "i"
 ·obtain ⟨_, _, _, _, _, rfl, _⟩ := h
  rfl
 obtain ⟨f', nb, p, q, nms, rfl, hf, hnb, hok, nf, k⟩ := h
 have nd := scl_kinds.nd
 refine ⟨_, (zpn (xah (i := 2) nd rfl (by walk_at "o") (xbs pN))
   (zpn (xbo PassesOwn.never rfl (xc5 rfl T.z_range (pc (pd Dl_take hr (pc (pv 0) (pc pI pN zso) zsn)) pN zsc)) (xaa (i := 3) nd rfl (by walk_at "o"))
   (zpn (xah (i := 4) nd rfl (by walk_at "o") (xag iL (xbs (pc pS (pc pS pN zso) zso)) (pd Dl_take hr (pc (pv 0) (pc pI pN zso) zsn)) (fun _ _ => rfl)))
   (zpo (xaz (xev PySem.F.plainAttrs_list PySem.F.slot_list_append PySem.F.type_list_append xb1 (pv 2) (pc (xan (pc (xag iL (pv 1) (pv 3) (fun _ _ => rfl)) (pc (pv 4) (pc (pd Dl_parts hr (pc (pv 0) (pc (pv 2) (pc (pv 4) (pc (xcm xfg (pv 1) (xcq pI) (xcq pI)) pN ss) zsn) zsn) zsn)) pN zsc) zsn) ss)) pN sT))))))
   (zpo (xae (xar xau rfl T.z_tuple PyProof.Rows.boot_tuple (pc (pv 2) pN zsn)))))), ?_⟩
 refine ⟨(by walk_at "s"), fun l hl => ?_⟩
 have s0 := Same.new hl (.lst [])
 have lf : l ≠ f' := Ne.symm (neN hf hl)
 have hlen := hok.1
 refine ⟨_, rfl, f', p, q, 5, rfl, s0 _ _ hf, by decide, by decide, fun r1 H1 r10 r11 f1 => ⟨_, rfl, by omega, by omega, ?_⟩⟩
 have F1 : Fed f' H H1 := ⟨s0.but.trans f1.1, f1.2⟩
 have hp1 : H1 l = some (.lst []) := f1.1 _ _ ups lf
 refine xfv (fun i σ H' => ∃ us, ∃ ks : List Kn, ∃ o3 o4, σ = [some (.ref f'), some (.ref nb), some (.ref l), o3, o4] /\ Fed f' H H' /\ H' l = some (.lst us) /\ RelDs H' us (ks.map Kn.d) /\ ks.length = i /\ Fit ks /\ xqm nms ks)
  ⟨[], [], none, none, rfl, F1, hp1, rfl, rfl, Fit.nil, KWf.nil, Nat.zero_le _, rfl, fun _ h => nomatch h⟩ ?_ ?_
 ·rintro i σ H2 hi ⟨us, ks, o3, o4, rfl, F, hlu, hus, hki, hfit, wf, hk4, hkn, hkp⟩
  have hi4 : i < 4 := by omega
  have hul := hus.length
  rw [zLM] at hul
  obtain ⟨p2, q2, h2⟩ := F.2
  refine ⟨(by walk_at "s"), fun l1 hl1 => ?_⟩
  have s1 := Same.new hl1 (.lst [.str (S "rec"), .str (S "alt")])
  have l1f : l1 ≠ f' := Ne.symm (neN h2 hl1)
  refine ⟨_, rfl, f', p2, q2, 2, rfl, s1 _ _ h2, by decide, by decide, fun r H3 r0 r1' f3 => ?_⟩
  have key : ∃ srt : Str, atI [V.str (S "rec"), V.str (S "alt")] r = some (.str srt) /\ (srt = S "rec" \/ srt = S "alt") := by
   rcases (show r = 0 \/ r = 1 by omega) with rfl | rfl
   ·exact ⟨S "rec", rfl, .inl rfl⟩
   ·exact ⟨S "alt", rfl, .inr rfl⟩
  obtain ⟨srt, hat, hsrt⟩ := key
  refine ⟨l1, _, _, _, rfl, rfl, SqL.of (f3.1 _ _ ups l1f), hat, ?_⟩
  have F3 : Fed f' H H3 := (F.same s1).trans f3
  obtain ⟨p3, q3, h3⟩ := f3.2
  have hlu3 := f3.1 _ _ (s1 _ _ hlu) lf
  have hus3 := (hus.same s1 _).tups (xai ⟨p2, q2, s1 _ _ h2⟩ f3) _
  have hn3 := F3.1 nb _ hnb nf
  have hin : i < nms.length := by omega
  refine ⟨_, rfl, .inl ⟨rfl, _, SqL.of hlu3⟩, _, rfl, _, rfl, nb, _, _, _, rfl, rfl, SqL.of hn3, xk4 hin, _, rfl, ?_⟩
  refine ⟨_, rfl, _, rfl, _, rfl, _, rfl, _, rfl, _, rfl, nb, _, rfl, SqL.of hn3, fun c hc => ?_⟩
  rw [xq9 hlen]
  have sc := Same.new hc (.lst (((nms.drop 8).take 4).map V.str))
  have cf : c ≠ f' := Ne.symm (neN h3 hc)
  refine ⟨f', l, c, srt, p3, q3, us, ks, (nms.drop 8).take 4, rfl, sc _ _ h3, sc _ _ hlu3, hus3.same sc _, wf, ups, by rw [List.length_take, List.length_drop, hlen]; rfl, hsrt, lf, cf, fun v ps H4 f4 rv h4 hpn halt hpin hsum => ?_⟩
  have F4 : Fed f' H H4 := (F3.same sc).trans f4
  have hlu4 := f4.1 _ _ (sc _ _ hlu3) lf
  have hus4 := (hus3.same sc _).tups (xai ⟨p3, q3, sc _ _ h3⟩ f4) _
  refine ⟨(by walk_at "s"), fun t ht => ?_⟩
  have s5 : ∀ o, Same H4 (upd H4 t o) := fun o => Same.new ht o
  refine ⟨l, us, _, rfl, rfl, s5 _ _ _ hlu4, xat (by omega), ?_⟩
  have hP4 := xtn hok ps.length
  have hsort : (Kn.mk nms[i] (decide (srt = S "rec")) ps).sort = srt := by
   unfold Kn.sort
   rcases hsrt with rfl | rfl
   ·rfl
   ·show (if decide (S "alt" = S "rec") = true then _ else _) = _
    rw [if_neg (by walk_at "k")]
  have hname : ks.map Kn.name = nms.take i := by rw [hkn, hki]
  have w2 : KWf (ks ++ [Kn.mk nms[i] (decide (srt = S "rec")) ps]) := by
   refine wf.snoc ?_ (hok.2.2 _ (List.getElem_mem hin)) hpin ?_ (by omega) (by show ps.length <= 5; omega) (by show (ps.map (·.1)).Nodup; rw [hpn]; exact hP4.1) (fun z hz => hP4.2 z.1 (by rw [<- hpn]; exact List.mem_map_of_mem hz))
   ·show nms[i] ∉ ks.map Kn.name
    rw [hname]
    exact xn4 hok.2.1 hin
   ·intro hrc
    refine halt ?_
    rcases hsrt with e | e
    ·exact absurd hrc (by show ¬ decide (srt = S "rec") = false; rw [e]; decide +kernel)
    ·exact e
  refine ⟨_, ks ++ [Kn.mk nms[i] (decide (srt = S "rec")) ps], _, _, rfl, Fed.put (F4.same (s5 _)) hl lf _, ups, ?_, by rw [List.length_append, List.length_singleton, hki], hfit.snoc wf w2 hpin (xqa wf hsum), ?_⟩
  ·rw [List.map_append]
   refine RelDs.append ((hus4.same (s5 _) _).tups (xa2 (s5 _ _ _ hlu4) _) _) ?_
   refine ⟨_, [], rfl, ⟨t, _, rfl, xa2 (s5 _ _ _ hlu4) _ _ _ ups, _, _, rfl, rfl, _, _, rfl, ?_, _, _, rfl, (rv.same (s5 _) _).tups (xa2 (s5 _ _ _ hlu4) _) _, rfl⟩, rfl⟩
   show V.str srt = V.str _
   rw [hsort]
  ·refine ⟨w2, by rw [List.length_append, List.length_singleton]; omega, ?_, ?_⟩
   ·rw [List.map_append, hname, List.length_append, List.length_singleton, hki, List.take_add_one, zGA hin]
    rfl
   ·intro z hz
    rcases zMA hz with hz | hz
    ·exact hkp z hz
    ·rw [zMO hz]
     exact ⟨h4, hpn⟩
 ·rintro σ H2 ⟨us, ks, o3, o4, rfl, F, hlu, hus, hki, hfit, hK⟩
  refine ⟨_, rfl, l, us, rfl, .inl ⟨SqL.of hlu, fun t ht => ?_⟩⟩
  have s1 := Same.new ht (.tup us)
  exact k _ ks _ (F.same s1) ⟨t, us, rfl, ups, hus.same s1 _⟩ hK hfit
end
def xnb : Sp := fun vs H Q _ => ∃ (a : Addr) (p q : Int), vs = [.ref a] /\ H a = some (.lst [.int p, .int q]) /\ ∀ (i : Int) (H' : Hp), Nm i -> Fed a H H' -> Q (.int i) H'
section
variable {P : Program} {w : World} {K : PySem.W.Frag} {mg : Str -> Option Value} {base : Heap} {n m : Nat}
theorem xeh (T : Tx K mg) (Dl_take : DefIs P w K mg base n "_law_take" ["_law_feed_here", "_law_many"] xb9) : DefIs P w K mg base (n + 1) "_law_number" ["_law_feed_here"] xnb := by
 refine DefIs.of T.dl_number scl_number ?_ ?_ <;> walk_at "i"
 ·obtain ⟨a, p, q, rfl, _⟩ := h
  rfl
 obtain ⟨a, p, q, rfl, ha, k⟩ := h
 have nd := scl_number.nd
 have e2 : (2 : Int) ^ (32 : Int).toNat = 4294967296 := by decide
 refine ⟨_, (zpn (xah (i := 1) nd rfl (by walk_at "o") (pd Dl_take hr (pc (pv 0) (pc pI pN zso) zsn)))
   (zpn (xao (pR xfm (pv 1) pI (nM _)) (zpo (xae (pd Dl_take hr (pc (pv 0) (pc pI pN zso) zsn)))) pQ)
   (zpn (xao (pR xas (pv 1) pI (nM _)) (zpo (xae (xam xb0 (xam xb0 (xam xnw pI pI) pI) (pd Dl_take hr (pc (pv 0) (pc pI pN zso) zsn))))) pQ)
   (zpo (xae (pd Dl_take hr (pc (pv 0) (pc (xam xnw pI pI) pN xax) zsn))))))), ?_⟩
 refine ⟨_, rfl, a, p, q, 4, rfl, ha, by decide, by decide, fun r1 H1 r10 r11 f1 => ?_⟩
 obtain ⟨p1, q1, h1⟩ := f1.2
 refine ⟨_, rfl, _, _, rfl, rfl, _, rfl, ?_⟩
 refine ite2 (fun c => ?_) (fun c => ?_)
 ·exact ⟨_, rfl, a, p1, q1, 6, rfl, h1, by decide, by decide, fun r2 H2 r20 r21 f2 => k _ _ ⟨r20, by omega⟩ (f1.trans f2)⟩
 refine ⟨_, rfl, rfl, _, rfl, ?_⟩
 refine ite2 (fun c => ?_) (fun c => ?_)
 ·refine ⟨_, _, rfl, rfl, ⟨by decide, by decide, by decide⟩, _, _, rfl, rfl, _, rfl, a, p1, q1, 6, rfl, h1, by decide, by decide, fun r2 H2 r20 r21 f2 => ⟨_, _, rfl, rfl, k _ _ ⟨by omega, by omega⟩ (f1.trans f2)⟩⟩
 ·refine ⟨_, rfl, _, _, rfl, rfl, ⟨by decide, by decide, by decide⟩, a, p1, q1, _, rfl, h1, by omega, by omega, fun r2 H2 r20 r21 f2 => k _ _ ⟨r20, by omega⟩ (f1.trans f2)⟩
end
def xbz : Sp := fun vs H Q _ => ∃ v ks x, vs = [v, .str x] /\ KsAt H v ks /\ Q (sortV (kAt ks x)) H
def xbk : Sp := fun vs H Q _ => ∃ v ks x, vs = [v, .str x] /\ KsAt H v ks /\ ∀ u H', Same H H' -> RelD H' u (xim (kAt ks x)) -> Q u H'
section
variable {P : Program} {w : World} {K : PySem.W.Frag} {mg : Str -> Option Value} {base : Heap} {n : Nat}
theorem xbc (T : Tx K mg) : DefIs P w K mg base (n + 1) "sort_of" ["kinds", "K"] xbz := by
 refine DefIs.of T.d_sort_of sc_sort_of ?_ ?_ <;> walk_at "i"
 ·obtain ⟨_, _, _, rfl, _⟩ := h
  rfl
 obtain ⟨v, ks, x, rfl, hk, q⟩ := h
 have nd := sc_sort_of.nd
 refine ⟨_, (zpn (xbo PassesOwn.never rfl (xa4 (pv 0)) (xbb rfl (xab (xaa (i := 2) nd rfl (by walk_at "o")) (xab (xaa (i := 3) nd rfl (by walk_at "o")) (xab (xaa (i := 4) nd rfl (by walk_at "o")) xaq))))
   (zpo (xao (pR xas (pv 2) (pv 1) (nM _)) (zpo (xae (pv 3))) pQ)))
   (zpo (xae xcf))), ?_⟩
 obtain ⟨a, us, rfl, ha, hR⟩ := hk.1
 refine ⟨_, rfl, a, rfl, ⟨_, SqT.of ha⟩, ?_⟩
 have hl := hR.length
 rw [zLM] at hl
 refine xb5 (xs := us) (fun i σ H' => ∃ o2 o3 o4, σ = [some (.ref a), some (.str x), o2, o3, o4] /\ H' = H /\ (ks.take i).find? (fun k => decide (k.name = x)) = none) ⟨none, none, none, rfl, rfl, rfl⟩ (fun i σ H' _ p => ?_) ?_ ?_
 ·obtain ⟨_, _, _, _, rfl, _⟩ := p
  exact SqT.of ha
 ·rintro i v σ H' hv ⟨o2, o3, o4, rfl, rfl, hn⟩
  obtain ⟨d, hd, rd⟩ := hR.get hv
  rw [zGM] at hd
  obtain ⟨k, hk', rfl⟩ := zMS hd
  obtain ⟨b, ws, rfl, hb, _, _, rfl, rfl, _, _, rfl, rfl, v3, _, rfl, r3, rfl⟩ := rd
  refine ⟨b, _, rfl, SqT.of hb, rfl, _, _, rfl, _, _, rfl, _, _, rfl, rfl, ?_⟩
  refine ⟨_, rfl, _, rfl, rfl, _, rfl, ite2 (fun c => ?_) (fun c => ?_)⟩
  ·have e : k.name = x := V.str.inj (of_decide_eq_true c)
   have e2 : kAt ks x = some k := (xca hn hk').1 (zDT e)
   refine ⟨_, rfl, ?_⟩
   rw [e2] at q
   exact q
  ·have e : ¬ k.name = x := fun z => c (zDT (congrArg V.str z))
   exact ⟨_, _, _, rfl, rfl, (xca hn hk').2 (zDF e)⟩
 ·rintro σ H' ⟨o2, o3, o4, rfl, rfl, hn⟩
  rw [zTL (by omega)] at hn
  rw [show kAt ks x = none from hn] at q
  exact q
theorem xa0 (T : Tx K mg) : DefIs P w K mg base (n + 1) "parts_of" ["kinds", "K"] xbk := by
 refine DefIs.of T.d_parts_of sc_parts_of ?_ ?_ <;> walk_at "i"
 ·obtain ⟨_, _, _, rfl, _⟩ := h
  rfl
 obtain ⟨v, ks, x, rfl, hk, q⟩ := h
 have nd := sc_parts_of.nd
 refine ⟨_, (zpn (xbo PassesOwn.never rfl (xa4 (pv 0)) (xbb rfl (xab (xaa (i := 2) nd rfl (by walk_at "o")) (xab (xaa (i := 3) nd rfl (by walk_at "o")) (xab (xaa (i := 4) nd rfl (by walk_at "o")) xaq))))
   (zpo (xao (pR xas (pv 2) (pv 1) (nM _)) (zpo (xae (pv 4))) pQ)))
   (zpo (xae (xan pN)))), ?_⟩
 obtain ⟨a, us, rfl, ha, hR⟩ := hk.1
 refine ⟨_, rfl, a, rfl, ⟨_, SqT.of ha⟩, ?_⟩
 have hl := hR.length
 rw [zLM] at hl
 refine xb5 (xs := us) (fun i σ H' => ∃ o2 o3 o4, σ = [some (.ref a), some (.str x), o2, o3, o4] /\ H' = H /\ (ks.take i).find? (fun k => decide (k.name = x)) = none) ⟨none, none, none, rfl, rfl, rfl⟩ (fun i σ H' _ p => ?_) ?_ ?_
 ·obtain ⟨_, _, _, _, rfl, _⟩ := p
  exact SqT.of ha
 ·rintro i v σ H' hv ⟨o2, o3, o4, rfl, rfl, hn⟩
  obtain ⟨d, hd, rd⟩ := hR.get hv
  rw [zGM] at hd
  obtain ⟨k, hk', rfl⟩ := zMS hd
  obtain ⟨b, ws, rfl, hb, _, _, rfl, rfl, _, _, rfl, rfl, v3, _, rfl, r3, rfl⟩ := rd
  refine ⟨b, _, rfl, SqT.of hb, rfl, _, _, rfl, _, _, rfl, _, _, rfl, rfl, ?_⟩
  refine ⟨_, rfl, _, rfl, rfl, _, rfl, ite2 (fun c => ?_) (fun c => ?_)⟩
  ·have e : k.name = x := V.str.inj (of_decide_eq_true c)
   have e2 : kAt ks x = some k := (xca hn hk').1 (zDT e)
   refine ⟨_, rfl, ?_⟩
   rw [e2] at q
   exact q _ _ (Same.refl _) r3
  ·have e : ¬ k.name = x := fun z => c (zDT (congrArg V.str z))
   exact ⟨_, _, _, rfl, rfl, (xca hn hk').2 (zDF e)⟩
 ·rintro σ H' ⟨o2, o3, o4, rfl, rfl, hn⟩
  rw [zTL (by omega)] at hn
  rw [show kAt ks x = none from hn] at q
  exact ⟨(by walk_at "s"), fun p hp => q _ _ (Same.new hp _) ⟨p, [], rfl, ups, rfl⟩⟩
end
theorem xaj {t u : TS} {D : Ends} {σ : St} {H : Hp} (h : ∀ R : St -> Hp -> Prop, (∀ σ H, u D σ H -> R σ H) -> t { D with nx := R } σ H) : tSeq t u D σ H := h (u D) fun _ _ h => h
theorem xbm {k : Kn} (h : k.rc = true) : k.sort = S "rec" := by unfold Kn.sort; rw [if_pos h]
theorem xbn {k : Kn} (h : k.rc = false) : k.sort = S "alt" := by unfold Kn.sort; rw [if_neg (by rw [h]; decide)]
theorem xmj {c : Bool} {A B : Prop} (h : c = true) (a : A) : if c = true then A else B := by rw [if_pos h]; exact a
def spSm (F : List Kn -> Str -> Int) (m : Nat) : Sp := fun vs H Q _ => ∃ v ks x, vs = [v, .str x] /\ RelD H v (xbg ks) /\ KWf ks /\ KIn ks m x /\ ∀ H', Same H H' -> Q (.int (F ks x)) H'
section
variable {P : Program} {w : World} {K : PySem.W.Frag} {mg : Str -> Option Value} {base : Heap} {n m : Nat}
theorem xis (T : Tx K mg) (spc : Sp) (Dl_sort_of : DefIs P w K mg base n "_law_sort_of" ["_law_kinds_here", "_law_kind"] xcv) (Dl_small : DefIs P w K mg base n "_law_small" ["_law_kinds_here", "_law_kind"] spc) (hspc : ∀ j, m = j + 1 -> spc = spSm smK j) :
  DefIs P w K mg base (n + 1) "_law_small" ["_law_kinds_here", "_law_kind"] (spSm smK m) := by
 refine DefIs.of T.dl_small scl_small ?_ ?_ <;> walk_at "i"
 ·obtain ⟨_, _, _, rfl, _⟩ := h
  rfl
 obtain ⟨v, ks, x, rfl, hk, wf, hin, q⟩ := h
 have nd := scl_small.nd
 refine ⟨_, (zpn (xcb (pd Dl_sort_of hr (pc (pv 0) (pc (pv 1) pN zsn) zsn)) (xbb rfl (xab (xaa (i := 2) nd rfl (by walk_at "o")) (xab (xaa (i := 3) nd rfl (by walk_at "o")) xaq))))
   (zpn (xao (pR xas (pv 2) pS (nM _)) (zpo (xae (xam xbe pI (pd Dl_small hr (pc (pv 0) (pc (xag xaf (xag xaf (pv 3) pI (fun _ _ => rfl)) pI (fun _ _ => rfl)) pN ss) zsn))))) pQ)
   (zpo (xae (xam xbe pI (xak (xjr rfl) rfl T.z_sum PyProof.Rows.boot_sum (pc (xba ["_law_name", "_law_part", "_law_kinds_here"] [none, none, some 0] rfl (by kernel_rfl) (xa4 (pv 3)) (fun _ _ _ _ => (xbp (K := K) (n := 2) rfl rfl (xab (xaa (i := 0) (by show List.Nodup (["_law_name", "_law_part", "_law_kinds_here"] : List Str); decide +kernel) rfl (Or.inl rfl)) (xab (xaa (i := 1) (by show List.Nodup (["_law_name", "_law_part", "_law_kinds_here"] : List Str); decide +kernel) rfl (Or.inl rfl)) xaq)))) (fun _ _ _ _ => xa8) (fun _ _ _ _ => (pd Dl_small hr (pc (pv 2) (pc (pv 1) pN zsn) zsn)))) pN xbj))))))), ?_⟩
 refine ⟨_, rfl, _, rfl, v, ks, x, rfl, (wf.ksAt hk).seq, fun t pv' H1 s1 ht rp => ?_⟩
 refine ⟨t, _, rfl, SqT.of ht, rfl, _, _, rfl, _, _, rfl, rfl, ?_⟩
 rcases hin.look wf with ⟨rfl, hkx⟩ | ⟨j, k, rfl, hkx, hn, hm, hp⟩
 ·refine ⟨_, rfl, rfl, _, rfl, iteKF (zDF (by rw [hkx]; decide +kernel)) ?_⟩
  rw [hkx] at rp
  obtain ⟨a, us, rfl, ha, hus⟩ := rp
  obtain rfl : us = [] := hus
  refine ⟨_, rfl, a, rfl, ⟨_, SqT.of ha⟩, ?_⟩
  refine xa7 (xs := []) (fun i ys H' => H' = H1 /\ ys = []) ⟨rfl, rfl⟩ (xat (by decide)) (fun i ys H' _ p => by obtain ⟨rfl, _⟩ := p; exact SqT.of ha) (fun i y ys H' hy => by simp at hy) ?_
  rintro ys H' hly ⟨rfl, rfl⟩ D hD
  refine ⟨D, [], rfl, SqL.of ups, (fun _ h => nomatch h), by decide, _, _, rfl, rfl, ?_⟩
  have e := (xni wf).1
  rw [e] at q
  exact q _ (s1.trans (Same.new hD _))
 ·have D' := hspc j rfl
  subst D'
  rw [hkx] at rp
  obtain ⟨a, us, rfl, ha, hus⟩ := rp
  have hl := hus.length
  rw [zLM] at hl
  have h5 := wf.pts k hm
  have hss : xci (kAt ks x) = k.sort := by rw [hkx]; rfl
  have e := (xta wf hkx).1
  unfold smS at e
  cases hc : k.rc with
  | false =>
   rw [if_neg (by rw [hc]; decide)] at e
   refine ⟨_, rfl, rfl, _, rfl, iteKT (zDT (by rw [hss, xbn hc]; rfl)) ?_⟩
   cases hpp : k.parts with
   | nil => exact absurd hpp (wf.alt k hm hc)
   | cons p r =>
    rw [hpp] at hus e
    obtain ⟨vp, rest, rfl, rp, _⟩ := hus
    obtain ⟨b, ws, rfl, hb, _, _, rfl, rfl, _, _, rfl, rfl, rfl⟩ := rp
    refine ⟨_, rfl, _, rfl, a, _, _, _, rfl, rfl, SqT.of ha, xap (j := 0) rfl, b, _, _, _, rfl, rfl, SqT.of hb, rfl, ?_⟩
    refine ⟨v, ks, p.2, rfl, hk.same s1 _, wf, hp p (by rw [hpp]; simp), fun H2 s2 => ⟨_, _, rfl, rfl, ?_⟩⟩
    rw [e] at q
    exact q _ (s1.trans s2)
  | true =>
   rw [if_pos hc] at e
   refine ⟨_, rfl, rfl, _, rfl, iteKF (zDF (by rw [hss, xbm hc]; decide +kernel)) ?_⟩
   refine ⟨_, rfl, a, rfl, ⟨_, SqT.of ha⟩, ?_⟩
   refine xa7 (xs := us) (fun i ys H' => Same H1 H' /\ ys = ((k.parts.take i).map fun p => smK ks p.2).map V.int) ⟨Same.refl _, rfl⟩ (xat (by omega)) (fun i ys H' _ p => SqT.of (p.1 _ _ ha)) ?_ ?_
   ·rintro i y ys H' hy hi' hly ⟨sm', rfl⟩
    obtain ⟨d, hd, rd⟩ := hus.get hy
    rw [zGM] at hd
    obtain ⟨pr, hpr, rfl⟩ := zMS hd
    obtain ⟨b, ws, rfl, hb, _, _, rfl, rfl, _, _, rfl, rfl, rfl⟩ := rd
    refine ⟨b, _, rfl, SqT.of (sm' _ _ hb), rfl, _, _, rfl, _, _, rfl, rfl, ext2 rfl rfl, xdu ?_⟩
    refine ⟨_, rfl, _, rfl, v, ks, pr.2, rfl, hk.same (s1.trans sm') _, wf, hp pr (zMG hpr), fun H2 s2 => nxtG hi' hly ⟨sm'.trans s2, ?_⟩⟩
    rw [List.take_add_one, hpr, List.map_append, List.map_append]
    rfl
   ·rintro ys H' hly ⟨sm', rfl⟩ D hD
    rw [zTL (by omega)]
    refine ⟨D, k.parts.map fun p => smK ks p.2, rfl, SqL.of ups, fun z hz => ?_, by rw [zLM]; omega, _, _, rfl, rfl, ?_⟩
    ·obtain ⟨p, _, rfl⟩ := List.mem_map.mp hz
     have := xla wf p.2
     omega
    ·rw [e] at q
     exact q _ (s1.trans (sm'.trans (Same.new hD _)))
theorem xgw (T : Tx K mg) : ∀ m, DefIs P w K mg base (m + 2) "_law_small" ["_law_kinds_here", "_law_kind"] (spSm smK m)
 | 0 => xis (n := 1) T (fun _ _ _ _ => False) (xa3 T) (DefIs.none T.dl_small fun _ _ _ _ h => h) (fun j e => by cases e)
 | m + 1 => xis (n := m + 2) T (spSm smK m) (xa3 T) (xgw T m) (fun j e => by cases e; rfl)
def xpm : Sp := fun vs H Q _ => ∃ (f ka : Addr) (p q : Int) (us : List V) (ks : List Kn), vs = [.ref f, .ref ka] /\ H f = some (.lst [.int p, .int q]) /\ (H ka = some (.lst us) \/ H ka = some (.tup us)) /\ RelDs H us (ks.map Kn.d) /\ ks.length <= 6 /\ ∀ x H', KIn ks ks.length x -> Fed f H H' -> Q (.str x) H'
theorem xiv (T : Tx K mg) (Dl_take : DefIs P w K mg base n "_law_take" ["_law_feed_here", "_law_many"] xb9) : DefIs P w K mg base (n + 1) "_law_any_kind" ["_law_feed_here", "_law_kinds_here"] xpm := by
 refine DefIs.of T.dl_any_kind scl_any_kind ?_ ?_ <;> walk_at "i"
 ·obtain ⟨_, _, _, _, _, _, rfl, _⟩ := h
  rfl
 obtain ⟨f', ka, p1, q1, us, ks, rfl, h1, hka, hus, hfew, q⟩ := h
 have nd := scl_any_kind.nd
 refine ⟨_, (zpo (xae (xag iL (xam xfn (xbs (pc pS pN zso)) (xba ["_law_row"] [none] rfl (by kernel_rfl) (xru (xce (pv 1)) (xa4 (pv 1))) (fun _ _ _ _ => (xaa (i := 0) (by show List.Nodup (["_law_row"] : List Str); decide +kernel) rfl (Or.inl rfl))) (fun _ _ _ _ => xa8) (fun _ _ _ _ => (xag (xbt (K := K) rfl) (pv 0) pI (fun _ _ => rfl))))) (pd Dl_take hr (pc (pv 0) (pc (xam xbe pI (xak xad rfl T.z_len PySem.boot_len (pc (pv 1) pN zsn))) pN xax) zsn)) (fun _ _ => rfl)))), ?_⟩
 refine ⟨(by walk_at "s"), fun l2 hl2 => ?_⟩
 have s2 := Same.new hl2 (.lst [.str (S "num")])
 have hul := hus.length
 rw [zLM] at hul
 rcases hka with hka | hka
 ·refine .inl ⟨_, rfl, ka, rfl, ⟨_, SqL.of (s2 _ _ hka)⟩, ?_⟩
  refine xf0 (j := 0) (xs := us) (fun i ys H' => H' = upd H l2 (.lst [.str (S "num")]) /\ ys = ((ks.take i).map Kn.name).map V.str) (by rfl) ⟨rfl, rfl⟩ (xat (by omega)) (fun i ys H' _ p => by obtain ⟨rfl, _⟩ := p; exact SqL.of (s2 _ _ hka)) ?_ ?_
  ·rintro i' x ys H' hx hly ⟨rfl, rfl⟩
   obtain ⟨d, hd, rd⟩ := (hus.same s2 _).get hx
   rw [zGM] at hd
   obtain ⟨k', hk', rfl⟩ := zMS hd
   obtain ⟨b, vs', rfl, hb, _, _, rfl, rfl, _, _, rfl, rfl, v3, _, rfl, r3, rfl⟩ := rd
   have hi' : i' < us.length := (zES hx).1
   refine ⟨_, rfl, b, _, _, _, rfl, rfl, SqT.of hb, rfl, nxt hi' hly ⟨rfl, ?_⟩⟩
   rw [List.take_add_one, hk']
   simp
  rintro ys H' hly ⟨rfl, rfl⟩ D2 hD2
  rw [zTL (by omega)]
  have s3 := Same.new hD2 (.lst ((ks.map Kn.name).map V.str))
  refine ⟨l2, D2, _, _, rfl, rfl, s3 _ _ ups, ups, fits (by rw [zLM, zLM]; show 1 + _ <= _; omega), fun l3 hl3 => ?_⟩
  have s4 := Same.new hl3 (.lst ([.str (S "num")] ++ (ks.map Kn.name).map V.str))
  have s24 := s2.trans (s3.trans s4)
  have l3f : l3 ≠ f' := Ne.symm (neN ((s2.trans s3) _ _ h1) hl3)
  refine ⟨_, rfl, _, rfl, ka, _, rfl, .inl (SqL.of (s24 _ _ hka)), _, _, rfl, rfl, f', p1, q1, _, rfl, s24 _ _ h1, by omega, by omega, fun r5 H5 r50 r51 f5 => ?_⟩
  obtain ⟨x, hx, hxin⟩ := xhb (ks := ks) r50 (by rw [<- hul]; exact r51)
  exact ⟨l3, _, _, _, rfl, rfl, SqL.of (f5.1 _ _ ups l3f), hx, q x _ hxin (((Fed.refl h1).same s24).trans f5)⟩
 ·refine .inr ⟨_, rfl, ka, rfl, ⟨_, SqT.of (s2 _ _ hka)⟩, ?_⟩
  refine xcp (j := 0) (xs := us) (fun i ys H' => H' = upd H l2 (.lst [.str (S "num")]) /\ ys = ((ks.take i).map Kn.name).map V.str) (by rfl) ⟨rfl, rfl⟩ (xat (by omega)) (fun i ys H' _ p => by obtain ⟨rfl, _⟩ := p; exact SqT.of (s2 _ _ hka)) ?_ ?_
  ·rintro i' x ys H' hx hly ⟨rfl, rfl⟩
   obtain ⟨d, hd, rd⟩ := (hus.same s2 _).get hx
   rw [zGM] at hd
   obtain ⟨k', hk', rfl⟩ := zMS hd
   obtain ⟨b, vs', rfl, hb, _, _, rfl, rfl, _, _, rfl, rfl, v3, _, rfl, r3, rfl⟩ := rd
   have hi' : i' < us.length := (zES hx).1
   refine ⟨_, rfl, b, _, _, _, rfl, rfl, SqT.of hb, rfl, nxt hi' hly ⟨rfl, ?_⟩⟩
   rw [List.take_add_one, hk']
   simp
  rintro ys H' hly ⟨rfl, rfl⟩ D2 hD2
  rw [zTL (by omega)]
  have s3 := Same.new hD2 (.lst ((ks.map Kn.name).map V.str))
  refine ⟨l2, D2, _, _, rfl, rfl, s3 _ _ ups, ups, fits (by rw [zLM, zLM]; show 1 + _ <= _; omega), fun l3 hl3 => ?_⟩
  have s4 := Same.new hl3 (.lst ([.str (S "num")] ++ (ks.map Kn.name).map V.str))
  have s24 := s2.trans (s3.trans s4)
  have l3f : l3 ≠ f' := Ne.symm (neN ((s2.trans s3) _ _ h1) hl3)
  refine ⟨_, rfl, _, rfl, ka, _, rfl, .inr (SqT.of (s24 _ _ hka)), _, _, rfl, rfl, f', p1, q1, _, rfl, s24 _ _ h1, by omega, by omega, fun r5 H5 r50 r51 f5 => ?_⟩
  obtain ⟨x, hx, hxin⟩ := xhb (ks := ks) r50 (by rw [<- hul]; exact r51)
  exact ⟨l3, _, _, _, rfl, rfl, SqL.of (f5.1 _ _ ups l3f), hx, q x _ hxin (((Fed.refl h1).same s24).trans f5)⟩
end
theorem RelDs.rev {H : Hp} : ∀ {vs : List V} {ds : List D}, RelDs H vs ds -> RelDs H vs.reverse ds.reverse
 | vs, [], h => by rw [show vs = [] from h]; rfl
 | vs, d :: ds, ⟨v, r, e, h1, h2⟩ => by
  subst e
  rw [List.reverse_cons, List.reverse_cons]
  exact (RelDs.rev h2).append ⟨v, [], rfl, h1, rfl⟩
theorem xi6 {α : Type} {l : List α} (h : l.Nodup) : l.reverse.Nodup := List.pairwise_reverse.mpr (h.imp fun h => Ne.symm h)
theorem xnv {H H' : Hp} {p : Addr} (s : Same H H') (hp : H p = none) (o : HO) : Same H (upd H' p o) := fun b u q => by
 rw [xaw (neN q hp)]
 exact s b u q
def bKV (bs : List (Str × Str)) : List (Key × V) := bs.map fun b => (Sum.inr b.1, .str b.2)
theorem xdy {H : Hp} : ∀ {us : List V} {bs : List (Str × Str)}, RelDs H us (bs.map xbu) -> PairsV H us (bKV bs)
 | us, [], h => by rw [show us = [] from h]; trivial
 | us, b :: bs, ⟨v, r, e, h1, h2⟩ => by
  subst e
  obtain ⟨a, ws, rfl, ha, _, _, rfl, rfl, _, _, rfl, rfl, rfl⟩ := h1
  exact ⟨⟨a, rfl, ha⟩, xdy h2⟩
theorem xmo {a b c d r : V} {i j : Int} (h : i = j) : [a, b, c, d, r, V.int i] = [a, b, c, d, r, V.int j] := by rw [h]
theorem xft {ks : List Kn} (wf : KWf ks) {k : Kn} (h : k ∈ ks) {p : Str × Str} (hp : p ∈ k.parts) : KIn ks 6 p.2 := by
 obtain ⟨i, hi, e⟩ := List.mem_iff_getElem.mp h
 have := wf.few
 exact KIn.mono (n := i) (wf.ref i k (by rw [<- e]; exact zGA hi) p hp) (by omega)
def spTw (c : Nat) : Sp := fun vs H Q _ => ∃ (f : Addr) (kv bv : V) (ks : List Kn) (bs : List (Str × Str)) (x : Str) (room : Int) (m j : Nat), vs = [.ref f, kv, bv, .str x, .int room, .int (m : Int)] /\ c = 7 * m + j /\ j <= 6 /\ TIn H f kv bv ks bs (m + 1) /\ m <= 7 /\ KIn ks j x /\ smK ks x <= room /\ ∀ a d H', Fed f H H' -> RelD H' (.ref a) d -> TmB ks (c + 1) bs d x -> Q (.ref a) H'
def xpl (c : Nat) : Sp := fun vs H Q E => ∃ c', c' < c /\ spTw c' vs H Q E
def xng : Sp := fun vs H Q _ => ∃ (f l : Addr) (p q : Int) (zs : List Str), vs = [.ref f, .ref l] /\ H f = some (.lst [.int p, .int q]) /\ H l = some (.lst (zs.map V.str)) /\ zs ≠ [] /\ zs.length <= 100 /\ l ≠ f /\ ∀ z t H', z ∈ zs -> Fed f H H' -> RelD H' (.ref t) (tBox z) -> Q (.ref t) H'
def xj1 (m : Nat) : Sp := fun vs H Q _ => ∃ (f : Addr) (kv bv pvv : V) (ks : List Kn) (bs ps : List (Str × Str)) (x : Str) (room : Int), vs = [.ref f, kv, bv, pvv, .str x, .int room, .int ((m + 1 : Nat) : Int)] /\ TIn H f kv bv ks bs (m + 2) /\ m < 7 /\ RelD H pvv (xbf ps) /\ ps ≠ [] /\ ps.length <= 5 /\ (ps.map (·.1)).Nodup /\ (∀ p ∈ ps, KIn ks 6 p.2) /\ KIn ks 6 x /\ smK ks x * (ps.length : Int) <= room ∧
 ∀ (u : V) (rs : List (Str × Str × D)) (H' : Hp), Fed f H H' -> RelD H' u (.tup (rs.map dArm)) -> rs.length = ps.length -> (∀ r ∈ rs, ∃ p ∈ ps, p.1 = r.1) -> (rs.map (·.1)).Nodup -> (∀ p ∈ ps, ∃ z e, (p.1, z, e) ∈ rs /\ (∀ q ∈ bs, q.1 ≠ z) /\ ArmN ks z /\ TmB ks (7 * m + 7) (bs ++ [(z, p.2)]) e x) -> Q u H'
section
variable {P : Program} {w : World} {K : PySem.W.Frag} {mg : Str -> Option Value} {base : Heap} {n m : Nat}
theorem xn0 (T : Tx K mg) (Dl_take : DefIs P w K mg base n "_law_take" ["_law_feed_here", "_law_many"] xb9) : DefIs P w K mg base (n + 1) "_law_boxed" ["_law_feed_here", "_law_some"] xng := by
 refine DefIs.of T.dl_boxed xnl ?_ ?_ <;> walk_at "i"
 ·obtain ⟨_, _, _, _, _, rfl, _⟩ := h
  rfl
 obtain ⟨f', l, p, q0, zs, rfl, hf, hl, hne, h100, lf, q⟩ := h
 refine ⟨_, (zpo (xae (xan (pc pS (pc (xag iL (pv 1) (pd Dl_take hr (pc (pv 0) (pc (xak xad rfl T.z_len PySem.boot_len (pc (pv 1) pN zsn)) pN zsc) zsn)) (fun _ _ => rfl)) pN ss) zso)))), ?_⟩
 have hzp : 0 < zs.length := List.length_pos_iff.mpr hne
 have zl : (zs.map V.str).length = zs.length := zLM _
 refine ⟨_, rfl, _, rfl, _, rfl, l, _, rfl, .inl (SqL.of hl), f', p, q0, _, rfl, hf, by rw [zl]; omega, by rw [zl]; omega, fun r H4 r0 r1 f4 => ?_⟩
 rw [zl] at r1
 obtain ⟨i, rfl⟩ : ∃ i : Nat, r = (i : Int) := ⟨r.toNat, by omega⟩
 have hi' : i < zs.length := by omega
 refine ⟨l, _, _, .str zs[i], rfl, rfl, SqL.of (f4.1 _ _ hl lf), xap (by rw [zGM, zGA hi']; rfl), (by walk_at "s"), fun t ht => ?_⟩
 have st := Same.new ht (.tup [.str (S "box"), .str zs[i]])
 exact q zs[i] t _ (List.getElem_mem hi') (f4.same st) ⟨t, _, rfl, ups, _, _, rfl, rfl, _, _, rfl, rfl, rfl⟩
theorem xp0 (T : Tx K mg) {c : Nat} (hc : 7 * m + 6 < c) (Dl_take : DefIs P w K mg base n "_law_take" ["_law_feed_here", "_law_many"] xb9) (Dl_term : DefIs P w K mg base n "_law_term" ["_law_feed_here", "_law_kinds_here", "_law_boxes", "_law_kind", "_law_room", "_law_deep"] (xpl c)) : DefIs P w K mg base (n + 1) "_law_arms" ["_law_feed_here", "_law_kinds_here", "_law_boxes", "_law_parts_here", "_law_kind", "_law_room", "_law_deep"] (xj1 m) := by
 refine DefIs.of T.dl_arms scl_arms ?_ ?_ <;> walk_at "i"
 ·obtain ⟨_, _, _, _, _, _, _, _, _, rfl, _⟩ := h
  rfl
 obtain ⟨f', kv, bv, pvv, ks, bs, ps, x, room, rfl, ti, m8, hps, hpe, h5, hnd, hpn, hxin, hroom, q⟩ := h
 have nd := scl_arms.nd
 have hu := xc2 hr
 refine ⟨_, (zpn (xah (i := 7) nd rfl (by walk_at "o") (xbs pN))
   (zpn (xah (i := 8) nd rfl (by walk_at "o") (xam xbv (pv 5) (xak xad rfl T.z_len PySem.boot_len (pc (pv 3) pN zsn))))
   (zpn (xbo PassesOwn.never rfl (xa4 (pv 3)) (xbb rfl (xab (xaa (i := 9) nd rfl (by walk_at "o")) (xab (xaa (i := 10) nd rfl (by walk_at "o")) xaq)))
   (zpn (xah (i := 11) nd rfl (by walk_at "o") (xam xdd pS (xag xln pS (pv 6) (fun _ _ => rfl))))
   (zpo (xaz (xev PySem.F.plainAttrs_list PySem.F.slot_list_append PySem.F.type_list_append xb1 (pv 7) (pc (xan (pc (pv 9) (pc (pv 11) (pc (pd Dl_term hr (pc (pv 0) (pc (pv 1) (pc (xam xfn (pv 2) (xbs (pc (xan (pc (pv 11) (pc (pv 10) pN zsn) zsn)) pN sT))) (pc (pv 4) (pc (pv 8) (pc (xam xb0 (pv 6) pI) pN xax) zsn) zsn) xax) zsn) zsn)) pN zsc) zsn) zsn)) pN sT))))))
   (zpn (xao (pR xas (pd Dl_take hr (pc (pv 0) (pc pI pN zso) zsn)) pI (nM _)) (zpo (xaz (xqw PySem.F.plainAttrs_list PySem.F.slot_list_reverse PySem.F.type_list_reverse xgf (pv 7)))) pQ)
   (zpo (xae (xar xau rfl T.z_tuple PyProof.Rows.boot_tuple (pc (pv 7) pN zsn)))))))), xaj fun R1 hR1 => ?_⟩
 refine ⟨(by walk_at "s"), fun al hal => ?_⟩
 have s0 := Same.new hal (.lst [])
 obtain ⟨p0, q0, hf⟩ := ti.fd
 have alf : al ≠ f' := Ne.symm (neN hf hal)
 obtain ⟨pa, us, rfl, hpa, hus⟩ := hps
 have hl := hus.length
 rw [zLM] at hl
 have hpos : 0 < ps.length := List.length_pos_iff.mpr hpe
 have hpos' : (0 : Int) < (us.length : Int) := by omega
 have hj1 : (((m + 1 : Nat) : Int)) - 1 = (m : Int) := by omega
 have heach : smK ks x <= room / (us.length : Int) := by
  refine (Int.le_ediv_iff_mul_le hpos').mpr ?_
  rw [hl]
  exact hroom
 refine hR1 _ _ (xaj fun R2 hR2 => ?_)
 refine ⟨_, rfl, _, rfl, pa, _, rfl, .inr (SqT.of (s0 _ _ hpa)), _, _, rfl, rfl, ⟨by omega, by omega⟩, ?_⟩
 refine hR2 _ _ (xaj fun R3 hR3 => ?_)
 refine ⟨_, rfl, pa, rfl, ⟨_, SqT.of (s0 _ _ hpa)⟩, ?_⟩
 refine xb5 (xs := us) (fun i σ H' => ∃ (ws : List V) (rs : List (Str × Str × D)) (o8 o9 o10 : Option V), σ = [some (.ref f'), some kv, some bv, some (.ref pa), some (.str x), some (.int room), some (.int ((m + 1 : Nat) : Int)), some (.ref al), some (.int (room / (us.length : Int))), o8, o9, o10] /\ Fed f' H H' /\ H' al = some (.lst ws) /\ RelDs H' ws (rs.map dArm) /\ rs.map (·.1) = (ps.take i).map (·.1) /\ ∀ p ∈ ps.take i, ∃ z e, (p.1, z, e) ∈ rs /\ (∀ q ∈ bs, q.1 ≠ z) /\ ArmN ks z /\ TmB ks (7 * m + 7) (bs ++ [(z, p.2)]) e x)
  ⟨[], [], none, none, none, rfl, (Fed.refl hf).same s0, ups, rfl, rfl, fun p hp => by rw [List.take_zero] at hp; exact nomatch hp⟩ (fun i σ H' _ p => ?_) ?_ ?_
 ·obtain ⟨_, _, _, _, _, _, fm, _⟩ := p
  exact SqT.of (xai ti.fd fm _ _ hpa)
 ·rintro i vv σ H1 hvv ⟨ws, rs, o8, o9, o10, rfl, fm, hws, rws, hrn, hrs⟩
  have tp := xai ti.fd fm
  obtain ⟨d, hd, rd⟩ := hus.get hvv
  rw [zGM] at hd
  obtain ⟨pr, hpr, rfl⟩ := zMS hd
  obtain ⟨b, wz, rfl, hb, _, _, rfl, rfl, _, _, rfl, rfl, rfl⟩ := rd
  have hpm := zMG hpr
  have hi' : i < us.length := (zES hvv).1
  have hwl := rws.length
  have hrl : rs.length <= 5 := by
   have := congrArg List.length hrn
   rw [zLM, zLM, List.length_take] at this
   omega
  rw [zLM] at hwl
  refine ⟨b, _, rfl, SqT.of (tp _ _ hb), rfl, _, _, rfl, _, _, rfl, rfl, xaj fun R4 hR4 => ?_⟩
  have e2 : (Str.ofString "by").length = 2 := by walk_at "k"
  refine ⟨_, rfl, _, _, _, rfl, rfl, by walk_at "k", xqg (i := m + 1) (by omega), _, _, rfl, rfl, fits (by rw [e2]; show 2 + 1 <= _; decide), ?_⟩
  rw [show Str.ofString "by" ++ (⟨#[97 + (m + 1)]⟩ : Str) = byN (m + 1) from xql (m + 1)]
  have hy : ∀ b ∈ bs, b.1 ≠ byN (m + 1) := fun b hb => ti.fr b hb (m + 1) (by omega)
  have hyf : ∀ j, j < m + 1 -> byN (m + 1) ≠ byN j := fun j hj e => by have := xsn e; omega
  have t3 := ti.fed fm
  obtain ⟨bl3, ub3, e3, hbl3, hub3, blf3⟩ := t3.bx
  cases e3
  obtain ⟨p3, q3, h3⟩ := fm.2
  refine hR4 _ _ ?_
  refine ⟨_, rfl, .inl ⟨rfl, _, SqL.of hws⟩, _, rfl, _, rfl, _, rfl, _, rfl, _, rfl, _, rfl, _, rfl, (by walk_at "s"), fun t1 ht1 => ⟨(by walk_at "s"), fun l1 hl1 => ?_⟩⟩
  have y1 := Same.new ht1 (.tup [.str (byN (m + 1)), .str pr.2])
  have y2 := Same.new hl1 (.lst [.ref t1])
  have hul3 := hub3.length
  rw [zLM] at hul3
  have hbl30 := ti.bl
  refine ⟨_, l1, _, _, rfl, rfl, (y1.trans y2) _ _ hbl3, ups, fits (by show _ + 1 <= _; omega), fun l2 hl2 => ?_⟩
  have y3 := Same.new hl2 (.lst (ub3 ++ [.ref t1]))
  have y13 := y1.trans (y2.trans y3)
  have t4 := t3.same y13
  have l2f : l2 ≠ f' := Ne.symm (neN ((y1.trans y2) _ _ h3) hl2)
  refine ⟨_, rfl, _, rfl, _, rfl, _, _, rfl, rfl, 7 * m + 6, hc, f', kv, .ref l2, ks, bs ++ [((byN (m + 1)), pr.2)], x, room / (us.length : Int), m, 6, xmo hj1, rfl, by decide, ⟨t4.fd, t4.kd, t4.wf, t4.nb, ⟨l2, _, rfl, ups, ?_, l2f⟩, ?_, ?_, ?_, ?_⟩, by omega, hxin, heach, fun u dd H6 f6 ru htm => ?_⟩
  ·rw [List.map_append]
   exact (hub3.same y13 _).append ⟨_, [], rfl, ⟨t1, _, rfl, (y2.trans y3) _ _ ups, _, _, rfl, rfl, _, _, rfl, rfl, rfl⟩, rfl⟩
  ·rw [List.map_append]
   exact xkh ti.nd fun hm => by
    obtain ⟨b', hb', e'⟩ := List.mem_map.mp hm
    exact hy b' hb' e'
  ·rw [List.length_append, List.length_singleton]
   omega
  ·intro b' hb' j hj
   rcases zMA hb' with hb' | hb'
   ·exact ti.fr b' hb' j (by omega)
   ·rw [zMO hb']
    exact hyf j hj
  ·intro b' hb'
   rcases zMA hb' with hb' | hb'
   ·exact ti.kn b' hb'
   ·rw [zMO hb']
    exact hpn pr hpm
  refine ⟨(by walk_at "s"), fun t6 ht6 => ?_⟩
  have F6 : Fed f' H1 H6 := ((Fed.refl h3).same y13).trans f6
  have st := Same.new ht6 (.tup [.str pr.1, .str (byN (m + 1)), .ref u])
  have hw6 := st _ _ (F6.1 _ _ hws alf)
  have rw6 := (rws.tups (xai fm.2 F6) _).same st _
  refine ⟨al, ws, _, rfl, rfl, hw6, xat (by omega), _, rs ++ [(pr.1, (byN (m + 1)), dd)], _, _, _, rfl, Fed.put ((fm.trans F6).same st) hal alf _, ups, ?_, ?_, fun p hp => ?_⟩
  ·rw [List.map_append]
   exact (rw6.tups (xa2 hw6 _) _).append ⟨_, [], rfl, ⟨t6, _, rfl, xa2 hw6 _ _ _ ups, _, _, rfl, rfl, _, _, rfl, rfl, _, _, rfl, (ru.same st _).tups (xa2 hw6 _) _, rfl⟩, rfl⟩
  ·rw [List.map_append, hrn, List.take_add_one, hpr, List.map_append]
   rfl
  ·rw [List.take_add_one, hpr] at hp
   rcases zMA hp with hp | hp
   ·obtain ⟨z, e, g1, g2, g3⟩ := hrs p hp
    exact ⟨z, e, List.mem_append_left _ g1, g2, g3⟩
   ·have ep : p = pr := by simpa using hp
    rw [ep]
    exact ⟨(byN (m + 1)), dd, List.mem_append_right _ (by simp), hy, .inl ⟨m + 1, rfl⟩, htm⟩
 ·rintro σ H1 ⟨ws, rs, o8, o9, o10, rfl, fm, hws, rws, hrn, hrs⟩
  rw [zTL (by omega)] at hrn hrs
  have hrl : rs.length = ps.length := by
   have := congrArg List.length hrn
   rwa [zLM, zLM] at this
  have hsub : ∀ r ∈ rs, ∃ p ∈ ps, p.1 = r.1 := fun r hr => by
   have : r.1 ∈ rs.map (·.1) := List.mem_map_of_mem hr
   rw [hrn] at this
   obtain ⟨p, hp, e⟩ := List.mem_map.mp this
   exact ⟨p, hp, e⟩
  obtain ⟨p1, q1, h1⟩ := fm.2
  refine hR3 _ _ (xaj fun R5 hR5 => ?_)
  refine ⟨_, rfl, f', p1, q1, _, rfl, h1, by decide, by decide, fun r H2 r0 r1 f2 => ⟨rfl, _, rfl, ite2 (fun c => ?_) (fun c => ?_)⟩⟩
  ·have hw2 := f2.1 _ _ hws alf
   have rw2 := rws.tups (xai fm.2 f2) _
   refine ⟨_, rfl, .inl ⟨rfl, _, SqL.of hw2⟩, al, ws, rfl, rfl, hw2, ?_⟩
   refine hR5 _ _ ?_
   refine ⟨_, rfl, al, _, rfl, .inl ⟨SqL.of ups, fun t ht => ?_⟩⟩
   have st := Same.new ht (.tup ws.reverse)
   refine q _ rs.reverse _ ((Fed.put (fm.trans f2) hal alf _).same st) ⟨t, _, rfl, ups, ?_⟩ (by rw [List.length_reverse]; exact hrl) (fun r hr => hsub r (List.mem_reverse.mp hr)) ?_ fun p hp => ?_
   ·rw [List.map_reverse]
    exact (RelDs.rev (rw2.tups (xa2 hw2 _) _)).same st _
   ·rw [List.map_reverse]
    exact xi6 (by rw [hrn]; exact hnd)
   ·obtain ⟨z, e, h1, h2, h3⟩ := hrs p hp
    exact ⟨z, e, List.mem_reverse.mpr h1, h2, h3⟩
  ·refine hR5 _ _ ?_
   refine ⟨_, rfl, al, _, rfl, .inl ⟨SqL.of (f2.1 _ _ hws alf), fun t ht => ?_⟩⟩
   have st := Same.new ht (.tup ws)
   exact q _ rs _ ((fm.trans f2).same st) ⟨t, _, rfl, ups, (rws.tups (xai fm.2 f2) _).same st _⟩ hrl hsub (by rw [hrn]; exact hnd) hrs
end
def PtAt (H : Hp) (ks : List Kn) (k : Kn) (room : Int) (w : V) : Prop := ∃ (b : Addr) (p : Str × Str), w = .ref b /\ H b = some (.tup [.str p.1, .str p.2]) /\ p ∈ k.parts /\ smK ks p.2 < room
theorem PtAt.tups {H H' : Hp} {ks : List Kn} {k : Kn} {room : Int} {w : V} (h : PtAt H ks k room w) (s : ∀ b us, H b = some (.tup us) -> H' b = some (.tup us)) : PtAt H' ks k room w := by
 obtain ⟨b, p, e, hb, r⟩ := h
 exact ⟨b, p, e, s _ _ hb, r⟩
theorem xrr {r : Int} (h0 : 0 <= r) (h : r < 5) : ∃ c, atI (S "+-*<=").cps.toList r = some c /\ Sg ⟨#[c]⟩ := by
 obtain ⟨i, rfl⟩ : ∃ i : Nat, r = (i : Int) := ⟨r.toNat, by omega⟩
 have hi : i = 0 \/ i = 1 \/ i = 2 \/ i = 3 \/ i = 4 := by omega
 rcases hi with rfl | rfl | rfl | rfl | rfl
 ·exact ⟨43, xap (by walk_at "k"), .inl (by walk_at "k")⟩
 ·exact ⟨45, xap (by walk_at "k"), .inr (.inl (by walk_at "k"))⟩
 ·exact ⟨42, xap (by walk_at "k"), .inr (.inr (.inl (by walk_at "k")))⟩
 ·exact ⟨60, xap (by walk_at "k"), .inr (.inr (.inr (.inl (by walk_at "k"))))⟩
 ·exact ⟨61, xap (by walk_at "k"), .inr (.inr (.inr (.inr (by walk_at "k"))))⟩
theorem xf3 {α β : Type} {R : α -> β -> Prop} : ∀ {as : List α} {bs : List β} {a : α} {b : β}, All2 R as bs -> R a b -> All2 R (as ++ [a]) (bs ++ [b])
 | _, _, _, _, .nil, h => .cons h .nil
 | _, _, _, _, .cons h t, k => .cons h (xf3 t k)
theorem xq5 {ks : List Kn} : ∀ (n : Nat) (env : En) (d v : D), Evs ks n env d v -> Evs ks (n + 1) env d v
 | 0, _, _, _, h => .inl h
 | n + 1, env, d, v, h => by
  rcases h with h | ⟨h, g⟩
  ·exact .inl h
  ·exact .inr ⟨h.mono (xq5 n), g⟩
theorem evs_le {ks : List Kn} {n m : Nat} (l : n <= m) {env : En} {d v : D} (h : Evs ks n env d v) : Evs ks m env d v := by
 obtain ⟨k, rfl⟩ : ∃ k, m = n + k := ⟨m - n, by omega⟩
 clear l
 induction k with
 | zero => exact h
 | succ k ih => exact xq5 _ _ _ _ ih
theorem TmB.le {ks : List Kn} {n m : Nat} {bs : List (Str × Str)} {d : D} {x : Str} (h : TmB ks n bs d x) (l : n <= m) : TmB ks m bs d x := ⟨fun env hf => by
 obtain ⟨v, h1, h2⟩ := h.1 env hf
 exact ⟨v, evs_le l h1, h2⟩, fun env hf => kd_le l (h.2 env hf)⟩
section
variable {P : Program} {w : World} {K : PySem.W.Frag} {mg : Str -> Option Value} {base : Heap} {n m : Nat}
theorem xf6 (T : Tx K mg) {c : Nat} (Dl_sort_of : DefIs P w K mg base n "_law_sort_of" ["_law_kinds_here", "_law_kind"] xcv) (Dl_take : DefIs P w K mg base n "_law_take" ["_law_feed_here", "_law_many"] xb9) (Dl_number : DefIs P w K mg base n "_law_number" ["_law_feed_here"] xnb) (Dl_small : DefIs P w K mg base n "_law_small" ["_law_kinds_here", "_law_kind"] (spSm smK 6)) (Dl_term : DefIs P w K mg base n "_law_term" ["_law_feed_here", "_law_kinds_here", "_law_boxes", "_law_kind", "_law_room", "_law_deep"] (xpl c)) :
  DefIs P w K mg base (n + 1) "_law_whole_term" ["_law_feed_here", "_law_kinds_here", "_law_boxes", "_law_kind", "_law_room", "_law_deep"] (spTw c) := by
 refine DefIs.of T.dl_whole_term scl_whole_term ?_ ?_ <;> walk_at "i"
 ·obtain ⟨_, _, _, _, _, _, _, _, _, rfl, _⟩ := h
  rfl
 obtain ⟨f', kv, bv, ks, bs, x, room, m, j, rfl, hcm, hj6, ti, m8, hxj, hroom, q⟩ := h
 have nd := scl_whole_term.nd
 have wf := ti.wf
 have hxin : KIn ks 6 x := hxj.mono hj6
 refine ⟨_, (zpn (xcb (pd Dl_sort_of hr (pc (pv 1) (pc (pv 3) pN zsn) zsn)) (xbb rfl (xab (xaa (i := 6) nd rfl (by walk_at "o")) (xab (xaa (i := 7) nd rfl (by walk_at "o")) xaq))))
   (zpn (xao (pR xas (pv 6) pS (nM _)) (zpn (xao (PW.pt (xfh (pR xfm (pv 4) pI (nM _)) (xfh (pR xas (pv 5) pI (nM _)) (xep (pR xas (pd Dl_take hr (pc (pv 0) (pc pI pN zso) zsn)) pI (nM _)))))) (zpo (xae (xan (pc pS (pc (pd Dl_number hr (pc (pv 0) pN zsn)) pN zsc) zso)))) pQ)
   (zpn (xah (i := 8) nd rfl (by walk_at "o") (pd Dl_term hr (pc (pv 0) (pc (pv 1) (pc (pv 2) (pc pS (pc (xam xbv (xam xb0 (pv 4) pI) pI) (pc (xam xb0 (pv 5) pI) pN xax) xax) zso) zsn) zsn) zsn)))
   (zpn (xah (i := 9) nd rfl (by walk_at "o") (pd Dl_term hr (pc (pv 0) (pc (pv 1) (pc (pv 2) (pc pS (pc (xam xbv (xam xb0 (pv 4) pI) pI) (pc (xam xb0 (pv 5) pI) pN xax) xax) zso) zsn) zsn) zsn)))
   (zpo (xae (xan (pc pS (pc (xag xln pS (pd Dl_take hr (pc (pv 0) (pc pI pN zso) zsn)) (fun _ _ => rfl)) (pc (pv 8) (pc (pv 9) pN zsn) zsn) ss) zso))))))) pQ)
   (zpn (xao (pR xas (pv 6) pS (nM _)) (zpn (xa9 (i := 10) ["_law_part", "_law_room", "_law_kinds_here"] [none, some 4, some 1] rfl (by kernel_rfl) nd rfl (by walk_at "o") (xa4 (pv 7)) (fun _ _ _ _ => (xaa (i := 0) (by show List.Nodup (["_law_part", "_law_room", "_law_kinds_here"] : List Str); decide +kernel) rfl (Or.inl rfl))) (fun _ _ _ _ => (xcd (pR xfm (pd Dl_small hr (pc (pv 2) (pc (xag (xbt (K := K) rfl) (pv 0) pI (fun _ _ => rfl)) pN ss) zsn)) (pv 1) (nM _)))) (fun _ _ _ _ => (pv 0)))
   (zpn (xcb (xag iL (pv 10) (pd Dl_take hr (pc (pv 0) (pc (xak xad rfl T.z_len PySem.boot_len (pc (pv 10) pN zsn)) pN zsc) zsn)) (fun _ _ => rfl)) (xbb rfl (xab (xaa (i := 11) nd rfl (by walk_at "o")) (xab (xaa (i := 12) nd rfl (by walk_at "o")) xaq))))
   (zpo (xae (xan (pc pS (pc (pv 3) (pc (pv 11) (pc (pd Dl_term hr (pc (pv 0) (pc (pv 1) (pc (pv 2) (pc (pv 12) (pc (xam xb0 (pv 4) pI) (pc (pv 5) pN zsn) xax) zsn) zsn) zsn) zsn)) pN zsc) zsn) zsn) zso)))))) pQ)
   (zpn (xah (i := 13) nd rfl (by walk_at "o") (xam xb0 (pv 4) (pd Dl_small hr (pc (pv 1) (pc (pv 3) pN zsn) zsn))))
   (zpn (xah (i := 14) nd rfl (by walk_at "o") (xbs pN))
   (zpn (xbo PassesOwn.never rfl (xa4 (pv 7)) (xbb rfl (xab (xaa (i := 15) nd rfl (by walk_at "o")) (xab (xaa (i := 12) nd rfl (by walk_at "o")) xaq)))
   (zpo (xaz (xev PySem.F.plainAttrs_list PySem.F.slot_list_append PySem.F.type_list_append xb1 (pv 14) (pc (pd Dl_term hr (pc (pv 0) (pc (pv 1) (pc (pv 2) (pc (pv 12) (pc (xam xbe (pd Dl_small hr (pc (pv 1) (pc (pv 12) pN zsn) zsn)) (xam xbv (pv 13) (xak xad rfl T.z_len PySem.boot_len (pc (pv 7) pN zsn)))) (pc (pv 5) pN zsn) xax) zsn) zsn) zsn) zsn)) pN zsc)))))
   (zpo (xae (xan (pc pS (pc (pv 3) (pc (xar xau rfl T.z_tuple PyProof.Rows.boot_tuple (pc (pv 14) pN zsn)) pN zsc) zsn) zso)))))))))), xaj fun R1 hR1 => ?_⟩
 refine ⟨_, rfl, _, rfl, kv, ks, x, rfl, (wf.ksAt ti.kd).seq, fun t pv' H1 s1 ht rp => ?_⟩
 refine ⟨t, _, rfl, SqT.of ht, rfl, _, _, rfl, _, _, rfl, rfl, ?_⟩
 refine hR1 _ _ (xaj fun R2 hR2 => ?_)
 have t1 := ti.same s1
 obtain ⟨p1, q1, h1⟩ := t1.fd
 obtain ⟨p0, q0, hf⟩ := ti.fd
 have F1 : Fed f' H H1 := (Fed.refl hf).same s1
 rcases hxj.look wf with ⟨rfl, hkx⟩ | ⟨j', k, hjj, hkx, hn, hkm, hkp⟩
 ·refine ⟨_, rfl, rfl, _, rfl, iteKT (zDT (by rw [hkx]; rfl)) ?_⟩
  have RN : ∀ (H2 : Hp) (f2 : Fed f' H1 H2), ∀ (i : Int) (H3 : Hp), Nm i -> Fed f' H2 H3 -> ∀ t, H3 t = none -> Q (.ref t) (upd H3 t (.tup [.str (S "num"), .int i])) := fun H2 f2 i H3 hi f3 t ht => by
   have st := Same.new ht (.tup [.str (S "num"), .int i])
   exact q _ (tNum i) _ (((F1.trans f2).trans f3).same st) ⟨t, _, rfl, ups, _, _, rfl, rfl, _, _, rfl, rfl, rfl⟩ (xmy hi)
  refine ⟨_, rfl, _, _, rfl, rfl, _, rfl, ite2 (fun c1 => ?_) (fun c1 => ?_)⟩
  ·exact iteT ⟨_, rfl, f', p1, q1, rfl, h1, fun i H3 hi f3 => ⟨(by walk_at "s"), fun t ht => RN H1 (Fed.refl h1) i H3 hi f3 t ht⟩⟩
  refine ⟨_, rfl, rfl, _, rfl, ite2 (fun c2 => ?_) (fun c2 => ?_)⟩
  ·exact iteT ⟨_, rfl, f', p1, q1, rfl, h1, fun i H3 hi f3 => ⟨(by walk_at "s"), fun t ht => RN H1 (Fed.refl h1) i H3 hi f3 t ht⟩⟩
  have c1' : ¬ room < 3 := fun z => c1 (zDT z)
  have c2' : ¬ (m : Int) = 0 := fun z => c2 (zDT (congrArg V.int z))
  obtain ⟨m', rfl⟩ : ∃ m', m = m' + 1 := ⟨m - 1, by omega⟩
  have hj1 : (((m' + 1 : Nat) : Int)) - 1 = (m' : Int) := by omega
  refine ⟨_, rfl, f', p1, q1, _, rfl, h1, by decide, by decide, fun r H2 r0 r1 f2 => ⟨rfl, _, rfl, ite2 (fun c3 => ?_) (fun c3 => ?_)⟩⟩
  ·obtain ⟨p2, q2, h2⟩ := f2.2
   exact ⟨_, rfl, f', p2, q2, rfl, h2, fun i H3 hi f3 => ⟨(by walk_at "s"), fun t ht => RN H2 f2 i H3 hi f3 t ht⟩⟩
  have t2 := t1.fed f2
  have hs1 := (xni wf).1
  have hrm : smK ks (S "num") <= (room - 1) / 2 := by rw [hs1]; omega
  refine ⟨_, rfl, _, rfl, _, rfl, _, rfl, _, _, rfl, rfl, _, _, rfl, rfl, ⟨by decide, by decide⟩, _, rfl, _, _, rfl, rfl, ?_⟩
  refine ⟨7 * m', by omega, f', kv, bv, ks, bs, S "num", (room - 1) / 2, m', 0, xmo hj1, rfl, by decide, t2.down (by omega), by omega, .inl rfl, hrm, fun u1 d1 H3 f3 ru1 ht1 => ?_⟩
  have t3 := t2.fed f3
  refine ⟨_, rfl, _, rfl, _, rfl, _, rfl, _, _, rfl, rfl, _, _, rfl, rfl, ⟨by decide, by decide⟩, _, rfl, _, _, rfl, rfl, ?_⟩
  refine ⟨7 * m', by omega, f', kv, bv, ks, bs, S "num", (room - 1) / 2, m', 0, xmo hj1, rfl, by decide, t3.down (by omega), by omega, .inl rfl, hrm, fun u2 d2 H4 f4 ru2 ht2 => ?_⟩
  have t4 := t3.fed f4
  obtain ⟨p4, q4, h4⟩ := t4.fd
  refine ⟨_, rfl, f', p4, q4, _, rfl, h4, by decide, by decide, fun r' H5 r0' r1' f5 => ?_⟩
  obtain ⟨ch, hch, hsg⟩ := xrr r0' r1'
  refine ⟨_, _, ch, rfl, rfl, by walk_at "k", hch, _, rfl, _, rfl, (by walk_at "s"), fun t' ht' => ?_⟩
  have st := Same.new ht' (.tup [.str (S "op"), .str ⟨#[ch]⟩, .ref u1, .ref u2])
  exact q _ (tOpD ⟨#[ch]⟩ d1 d2) _ (((((F1.trans f2).trans f3).trans f4).trans f5).same st) ⟨t', _, rfl, ups, _, _, rfl, rfl, _, _, rfl, rfl, _, _, rfl, ((ru1.tups (xai t3.fd f4) _).tups (xai t4.fd f5) _).same st _, _, _, rfl, (ru2.tups (xai t4.fd f5) _).same st _, rfl⟩ (TmB.le (tb_op wf hsg ht1 ht2) (by omega))
 ·subst hjj
  rw [hkx] at rp
  obtain ⟨a, us, rfl, ha, hus⟩ := rp
  have hl := hus.length
  rw [zLM] at hl
  have h5 := wf.pts k hkm
  have hss : xci (kAt ks x) = k.sort := by rw [hkx]; rfl
  have es := (xta wf hkx).1
  unfold smS at es
  cases hc : k.rc with
  | false =>
   rw [if_neg (by rw [hc]; decide)] at es
   refine ⟨_, rfl, rfl, _, rfl, iteKF (zDF (by rw [hss, xbn hc]; decide +kernel)) ?_⟩
   refine hR2 _ _ (xaj fun R3 hR3 => ?_)
   refine ⟨_, rfl, rfl, _, rfl, iteKT (zDT (by rw [hss, xbn hc]; rfl)) ?_⟩
   refine ⟨_, rfl, a, rfl, ⟨_, SqT.of ha⟩, ?_⟩
   refine xa7 (xs := us) (fun i ys H' => Same H1 H' /\ (∀ z ∈ ys, PtAt H' ks k room z) /\ (1 <= i -> ys ≠ [])) ⟨Same.refl _, (fun _ h => nomatch h), fun h => absurd h (by decide)⟩ (xat (by omega)) (fun i ys H' _ p => SqT.of (p.1 _ _ ha)) ?_ ?_
   ·rintro i y ys H' hy hi2 hly ⟨sm2, hys, hne⟩
    obtain ⟨d', hd2, rd2⟩ := hus.get hy
    rw [zGM] at hd2
    obtain ⟨pr, hpr, rfl⟩ := zMS hd2
    obtain ⟨b, ws', rfl, hb, _, _, rfl, rfl, _, _, rfl, rfl, rfl⟩ := rd2
    have hpm := zMG hpr
    have first : i = 0 -> smK ks pr.2 < room := fun e0 => by
     subst e0
     cases hpp : k.parts with
     | nil => rw [hpp] at hpr; simp at hpr
     | cons p r =>
      rw [hpp] at hpr es
      simp at hpr
      subst hpr
      have es' : smK ks x = 1 + smK ks p.2 := es
      omega
    refine ⟨xds rfl, ?_⟩
    refine ⟨_, rfl, _, rfl, b, _, _, _, rfl, rfl, SqT.of (sm2 _ _ hb), rfl, kv, ks, pr.2, rfl, t1.kd.same sm2 _, wf, xft wf hkm hpm, fun H3 s3 => ⟨_, rfl, _, _, rfl, rfl, _, rfl, ite2 (fun c1 => ?_) (fun c1 => ?_)⟩⟩
    ·refine ⟨_, rfl, nxtG hi2 hly ⟨sm2.trans s3, fun z hz => ?_, fun _ => by simp⟩⟩
     rcases zMA hz with hz | hz
     ·exact (hys z hz).tups fun b us q => s3 _ _ q
     ·rw [zMO hz]
      exact ⟨b, pr, rfl, s3 _ _ (sm2 _ _ hb), hpm, of_decide_eq_true c1⟩
    ·refine nxtN hi2 hly ⟨sm2.trans s3, fun z hz => (hys z hz).tups fun b us q => s3 _ _ q, fun _ => ?_⟩
     by_cases e0 : i = 0
     ·exact absurd (zDT (first e0)) c1
     ·exact hne (by omega)
   ·rintro ys H2 hly ⟨sm2, hys, hne⟩ D hD
    have hnl : k.parts.length ≠ 0 := fun e => wf.alt k hkm hc (List.length_eq_zero_iff.mp e)
    have hyne := hne (by omega)
    have hyp : 0 < ys.length := Nat.pos_of_ne_zero fun e => hyne (List.length_eq_zero_iff.mp e)
    have sD := Same.new hD (.lst ys)
    have s12 := sm2.trans sD
    have Df : D ≠ f' := Ne.symm (neN (sm2 _ _ h1) hD)
    refine ⟨_, rfl, _, rfl, _, rfl, D, _, rfl, .inl (SqL.of ups), f', p1, q1, _, rfl, s12 _ _ h1, by omega, by omega, fun r H5 r0 r1 f5 => ?_⟩
    obtain ⟨i, rfl⟩ : ∃ i : Nat, r = (i : Int) := ⟨r.toNat, by omega⟩
    have hi' : i < ys.length := by omega
    have t2 := t1.same s12
    have tp5 := xai t2.fd f5
    obtain ⟨b, p, eb, hb, hpm, hsm⟩ := ((hys ys[i] (List.getElem_mem hi')).tups fun b us q => sD _ _ q).tups tp5
    have hat : atI ys (i : Int) = some (.ref b) := xap (by rw [zGA hi', eb])
    refine ⟨D, _, _, _, rfl, rfl, SqL.of (f5.1 _ _ ups Df), hat, b, _, rfl, SqT.of hb, rfl, _, _, rfl, _, _, rfl, rfl, ?_⟩
    have t5 := t2.fed f5
    refine ⟨_, rfl, _, rfl, _, rfl, _, rfl, _, rfl, _, rfl, _, rfl, _, _, rfl, rfl, _, rfl, ?_⟩
    refine ⟨7 * m + j', by omega, f', kv, bv, ks, bs, p.2, room - 1, m, j', rfl, rfl, by omega, t5, m8, hkp p hpm, by omega, fun u du H7 f7 ru htu => ⟨(by walk_at "s"), fun t' ht' => ?_⟩⟩
    have st := Same.new ht' (.tup [.str (S "tag"), .str x, .str p.1, .ref u])
    exact q _ (tTag x p.1 du) _ ((((F1.same s12).trans f5).trans f7).same st) ⟨t', _, rfl, ups, _, _, rfl, rfl, _, _, rfl, rfl, _, _, rfl, rfl, _, _, rfl, ru.same st _, rfl⟩ (TmB.le (xmw wf hkx hc hpm htu) (by omega))
  | true =>
   rw [if_pos hc] at es
   refine ⟨_, rfl, rfl, _, rfl, iteKF (zDF (by rw [hss, xbm hc]; decide +kernel)) ?_⟩
   refine hR2 _ _ (xaj fun R3 hR3 => ?_)
   refine ⟨_, rfl, rfl, _, rfl, iteKF (zDF (by rw [hss, xbm hc]; decide +kernel)) ?_⟩
   refine hR3 _ _ (xaj fun R4 hR4 => ?_)
   refine ⟨_, rfl, _, rfl, _, rfl, kv, ks, x, rfl, t1.kd, wf, hxin, fun H2 s2 => ⟨_, _, rfl, rfl, ?_⟩⟩
   refine hR4 _ _ (xaj fun R5 hR5 => ?_)
   refine ⟨(by walk_at "s"), fun tl htl => ?_⟩
   refine hR5 _ _ (xaj fun R6 hR6 => ?_)
   have s12 := s2.trans (Same.new htl (.lst []))
   have htl1 := xco s2 htl
   have tlf : tl ≠ f' := Ne.symm (neN h1 htl1)
   refine ⟨_, rfl, a, rfl, ⟨_, SqT.of (s12 _ _ ha)⟩, ?_⟩
   refine xb5 (xs := us) (fun i σ H' => ∃ (ws : List V) (ds : List D) (o12 o15 : Option V), σ = [some (.ref f'), some kv, some bv, some (.str x), some (.int room), some (.int (m : Int)), some (.str (xci (kAt ks x))), some (.ref a), none, none, none, none, o12, some (.int (room - smK ks x)), some (.ref tl), o15] /\ Fed f' H1 H' /\ H' tl = some (.lst ws) /\ RelDs H' ws ds /\ All2 (fun e (p : Str × Str) => TmB ks (7 * m + j' + 1) bs e p.2) ds (k.parts.take i)) ⟨[], [], none, none, rfl, (Fed.refl h1).same s12, ups, rfl, by rw [List.take_zero]; exact .nil⟩ (fun i σ H' _ p => ?_) ?_ ?_
   ·obtain ⟨_, _, _, _, _, fm, _⟩ := p
    exact SqT.of (xai t1.fd fm _ _ ha)
   ·rintro i vv σ H3 hvv ⟨ws, ds, o12, o15, rfl, fm, hws, rws, hall⟩
    have tp := xai t1.fd fm
    obtain ⟨d', hd2, rd2⟩ := hus.get hvv
    rw [zGM] at hd2
    obtain ⟨pr, hpr, rfl⟩ := zMS hd2
    obtain ⟨b, ws', rfl, hb, _, _, rfl, rfl, _, _, rfl, rfl, rfl⟩ := rd2
    have hpm := zMG hpr
    have t3 := t1.fed fm
    have hwl := rws.length
    have hal := hall.length
    rw [List.length_take] at hal
    have hi' : i < us.length := (zES hvv).1
    refine ⟨b, _, rfl, SqT.of (tp _ _ hb), rfl, _, _, rfl, _, _, rfl, rfl, ?_⟩
    refine ⟨_, rfl, .inl ⟨rfl, _, SqL.of hws⟩, _, rfl, _, rfl, _, rfl, _, rfl, _, rfl, _, rfl, kv, ks, pr.2, rfl, t3.kd, wf, xft wf hkm hpm, fun H4 s4 => ?_⟩
    have hdv : 0 <= (room - smK ks x) / (us.length : Int) := Int.ediv_nonneg (by omega) (by omega)
    refine ⟨_, rfl, _, rfl, a, _, rfl, .inr (SqT.of (s4 _ _ (tp _ _ ha))), _, _, rfl, rfl, ⟨by omega, by omega⟩, _, _, rfl, rfl, _, rfl, ?_⟩
    have t4 := t3.same s4
    refine ⟨7 * m + j', by omega, f', kv, bv, ks, bs, pr.2, smK ks pr.2 + (room - smK ks x) / (us.length : Int), m, j', rfl, rfl, by omega, t4, m8, hkp pr hpm, by omega, fun u du H5 f5 ru htu => ?_⟩
    have hw5 := f5.1 _ _ (s4 _ _ hws) tlf
    have rw5 := (rws.same s4 _).tups (xai t4.fd f5) _
    refine ⟨tl, ws, _, rfl, rfl, hw5, xat (by omega), _, ds ++ [du], _, _, rfl, Fed.put ((fm.same s4).trans f5) htl1 tlf _, ups, (rw5.tups (xa2 hw5 _) _).append ⟨.ref u, [], rfl, ru.tups (xa2 hw5 _) _, rfl⟩, ?_⟩
    rw [List.take_add_one, hpr]
    exact xf3 hall htu
   ·rintro σ H3 ⟨ws, ds, o12, o15, rfl, fm, hws, rws, hall⟩
    rw [zTL (by omega)] at hall
    refine hR6 _ _ ?_
    refine ⟨_, rfl, _, rfl, tl, ws, rfl, .inl ⟨SqL.of hws, fun t2 ht2 => ⟨(by walk_at "s"), fun t3 ht3 => ?_⟩⟩⟩
    have y2 := Same.new ht2 (.tup ws)
    have y3 := Same.new ht3 (.tup [.str (S "rec"), .str x, .ref t2])
    exact q _ (tRec x ds) _ ((F1.trans fm).same (y2.trans y3)) ⟨t3, _, rfl, ups, _, _, rfl, rfl, _, _, rfl, rfl, _, _, rfl, ⟨t2, ws, rfl, y3 _ _ ups, rws.same (y2.trans y3) _⟩, rfl⟩ (TmB.le (xmx hkx hc (by omega) hall) (by omega))
end
end K44
end
section
namespace L2
open PySem PySem.Spec PyProof.Rows
section
variable {X : Cx}
theorem Inv.reH {pins : List (Addr × Obj)} {σ : St} {H : Hp} {s : Shared} {a : Addr} {o u : HO} (I : Inv X pins σ H s) (ha : H a = some o) (n1 : ∀ xs, o ≠ .tup xs) (n2 : ∀ ps, o ≠ .tbl ps) (n3 : ∀ x, o ≠ .own x) (nz : ∀ ob v, X.H₀ a ≠ some (.frz ob v))
  (new : ObjOk X.prog X.w (upd H a u) s.heap a u) : Inv X pins σ (upd H a u) s := by
 have hn : ∀ {b : Addr}, H b = none -> upd H a u b = none := fun {b} e => by
  rw [xaw fun z => by rw [z, ha] at e; cases e]
  exact e
 have hs : ∀ {b : Addr} {v : HO}, H b = some v -> v ≠ o -> upd H a u b = some v := fun {b v} e ne => by
  rw [xaw fun z => by rw [z, ha] at e; exact ne (Option.some.inj e).symm]
  exact e
 refine ⟨I.ok, I.os, I.bare, ⟨I.base.keep, I.base.slot, fun b ob e n hx => hn (I.base.free b ob e n hx), I.base.there, fun b xs e => hs (I.base.tups b xs e) fun z => n1 xs z.symm, fun b ob v e => ?_, fun b ps e => ?_⟩, I.loc, I.cell, hn I.free, fun x c e => hn (I.freeC x c e), fun p hp => ?_, fun b v e => ?_, I.len⟩
 ·rw [xaw fun z => by subst z; exact nz ob v e]
  exact I.base.frzs b ob v e
 ·obtain ⟨more, e'⟩ := I.base.tbls b ps e
  exact ⟨more, hs e' fun z => n2 _ z.symm⟩
 ·obtain ⟨q1, q2, q3⟩ := I.pin p hp
  exact ⟨q1, hn q2, q3⟩
 ·by_cases hb : b = a
  ·subst hb
   rw [ups] at e
   cases e
   exact new
  ·rw [xaw hb] at e
   exact (I.hok b v e).stay (fun _ _ _ q => q) (fun c q => hs q fun z => n3 _ z.symm) fun c xs q => hs q fun z => n1 _ z.symm
def NoFz (H0 : Hp) (a : Addr) : Prop := ∀ ob u, H0 a ≠ some (.frz ob u)
theorem Inv.noFz {pins : List (Addr × Obj)} {σ : St} {H : Hp} {s : Shared} {a : Addr} {kvs : List (Key × V)} (I : Inv X pins σ H s) (ha : H a = some (.dK kvs)) : NoFz X.H₀ a := fun ob u e => by
 have := I.base.frzs a ob u e
 rw [ha] at this
 cases this
theorem Inv.freeze {pins : List (Addr × Obj)} {σ : St} {H : Hp} {s : Shared} {a : Addr} {ob : Obj} {kvs : List (Key × V)} (I : Inv X pins σ H s) (ha : H a = some (.dK kvs)) (e : s.heap.get? a = some ob) : Inv X pins σ (upd H a (.frz ob (.dK kvs))) s := by
 refine I.reH ha (fun _ z => by cases z) (fun _ z => by cases z) (fun _ z => by cases z) (I.noFz ha) ⟨e, ?_⟩
 obtain ⟨z, y, r⟩ := (show ObjOk X.prog X.w H s.heap a (.dK kvs) from I.hok a _ ha)
 exact ⟨z, y, r⟩
theorem Inv.thaw {pins : List (Addr × Obj)} {σ : St} {H : Hp} {s : Shared} {a : Addr} {ob : Obj} {kvs : List (Key × V)} (I : Inv X pins σ H s) (ha : H a = some (.frz ob (.dK kvs))) (nz : NoFz X.H₀ a) : Inv X pins σ (upd H a (.dK kvs)) s := by
 obtain ⟨_, z, y, r⟩ := (show ObjOk X.prog X.w H s.heap a (.frz ob (.dK kvs)) from I.hok a _ ha)
 exact I.reH ha (fun _ z => by cases z) (fun _ z => by cases z) (fun _ z => by cases z) nz ⟨z, y, r⟩
def Itd (a : Addr) (o : Obj) (kvs : List (Key × V)) : It :=
 ⟨fun i H => H a = some (.frz o (.dK kvs)) /\ i < kvs.length, fun i H x H' => H' = H /\ ∃ kv, kvs[i]? = some kv /\ x = kV kv.1, fun i H => H a = some (.frz o (.dK kvs)) /\ kvs.length <= i⟩
theorem xq4 {P : Program} {w : World} {H : Hp} {h : Heap} {a : Addr} {o : Obj} {kvs : List (Key × V)} {es : Array DictEntry} {ep : Nat} (ok : HOk P w H h) (e : H a = some (.frz o (.dK kvs))) (hd : o.data = .dict es ep) : ∃ vs, KV kvs vs /\ h.DictAt (xbd P w) a vs ep := by
 obtain ⟨e1, _, _, vs, r, ob, es', ep', e2, c, d, q⟩ := (show ObjOk P w H h a (.frz o (.dK kvs)) from ok a _ e)
 rw [e1] at e2
 cases e2
 rw [hd] at d
 cases d
 exact ⟨vs, r, o, es, e1, c, hd, q⟩
theorem xmu {P : Program} {w : World} {K : PySem.W.Frag} {tg : Expr} {a it : Addr} {o : Obj} {kvs : List (Key × V)} {es : Array DictEntry} {ep : Nat} (hne : a ≠ it) (hd : o.data = .dict es ep) : Turn P w K tg (Itd a o kvs) [it] it (fun i h => h.IsKeyIter it a i kvs.length ep) where
 mem := by simp
 obj := fun i h st b hb => by
  have e : b = it := by simpa using hb
  subst e
  obtain ⟨o, e, c, d⟩ := st
  exact ⟨o, e, fun v z => by rw [d] at z; cases z⟩
 keep := fun i h h' st k => st.at fun o e => k it (by simp) o e
 item := by
  intro X hP hw hK hc i pins s σ H E I hf st hg
  subst hP hw hK
  obtain ⟨ha, hi⟩ := hg
  obtain ⟨vs, rel, dat⟩ := xq4 I.hok ha hd
  have hl := rel.length
  obtain ⟨f0, f1, f2, f3, f4, f5⟩ := hf it (by simp)
  have hi' : i < vs.length := by omega
  refine wpAny_pyNext_dict_item (kvs := vs) (k := vs[i].1) (v := vs[i].2) (by rw [<- hl]; exact st) dat (by rw [zGA hi']) fun key h' hkey st' sb => ?_
  have I1 : Inv X pins σ H { s with heap := h' } := I.turned (t' := s.toks) (fun b o hb e => (sb.2 b hb).trans e) f0 f1 f3 f4 f5
  rw [<- hl] at st'
  obtain ⟨o', e, c, d⟩ := id st'
  have ek := KV.get rel (zGA hi) (zGA hi')
  exact ⟨key, rfl, xqd (s := { s with heap := h' }) e c d (by decide) ⟨kV kvs[i].1, H, I1, by rw [ek]; exact is_kV hkey, ⟨rfl, _, zGA hi, rfl⟩, st', fun b hb => (hf b hb).1⟩⟩
 done := by
  intro X hP hw hK hc i pins s σ H E I hf st hg
  subst hP hw hK
  obtain ⟨ha, hi⟩ := hg
  obtain ⟨vs, rel, dat⟩ := xq4 I.hok ha hd
  have hl := rel.length
  obtain ⟨f0, f1, f2, f3, f4, f5⟩ := hf it (by simp)
  exact wpAny_pyNext_dict_end (I.ok.hd hc) (kvs := vs) (by rw [<- hl]; exact st) dat (List.getElem?_eq_none (by omega)) fun h' eb => ⟨rfl, I.turned (t' := s.toks) (fun b o hb e => eb b o hb e) f0 f1 f3 f4 f5⟩
 self := fun _ _ _ _ _ st h => wpAny_pyIter_keyiter st h
def iDict (H0 : Hp) (td : TE) : TI := fun σ H R => td σ H fun x H1 => ∃ a, ∃ kvs : List (Key × V), x = .ref a /\ H1 a = some (.dK kvs) /\ ∀ o, NoFz H0 a -> R (Itd a o kvs) (upd H1 a (.frz o (.dK kvs)))
theorem xj8 {tg l : Expr} {tl : TE} (hl : PE X l tl) : PI X tg l (iDict X.H₀ tl) := by
 intro pins s σ H R I h
 refine thn (hl pins s σ H _ I h) fun v s1 ⟨x, H1, I1, r1, q1⟩ => ?_
 obtain ⟨a, kvs, e, ha, q⟩ := q1
 subst e
 cases r1
 obtain ⟨hz, hsys, vs, rel, dd⟩ := xqh I1.hok ha
 obtain ⟨ep, dat⟩ := dd.dictAt
 obtain ⟨o, es, ho, hx, hdat, _⟩ := id dat
 have hlen := rel.length
 refine wpAny_pyIter_dict hsys dat ?_
 have I2 := I1.freeze ha ho
 have hn : upd H1 a (.frz o (.dK kvs)) s1.heap.objs.size = none := I2.hok.fresh (Nat.le_refl _)
 refine ⟨s1.heap.objs.size, [s1.heap.objs.size], _, _, _, rfl, I2.kept (t' := s1.toks) fun b o e => Heap.get?_push_of_some _ e, xmu (fun z => ?_) hdat, ⟨_, Heap.get?_push_size _ rfl, rfl, by rw [hlen]; rfl⟩, fun b hb => ?_, q o (I1.noFz ha)⟩
 ·rw [<- z, ups] at hn
  cases hn
 ·have e : b = s1.heap.objs.size := by simpa using hb
  subst e
  exact I2.fpOk (Nat.le_refl _) hn
def thawN (H0 : Hp) (N : St -> Hp -> Prop) : St -> Hp -> Prop := fun σ H => ∃ a o, ∃ kvs : List (Key × V), H a = some (.frz o (.dK kvs)) /\ NoFz H0 a /\ N σ (upd H a (.dK kvs))
theorem xj6 {st : Stmt} {t : TS} (h : PS X st t) : PS X st (fun D σ H => t { D with nx := thawN X.H₀ D.nx } σ H) := by
 intro pins s σ H D I hh
 refine thn (h pins s σ H _ I hh) fun f s' q => ?_
 cases f with
 | next =>
  obtain ⟨σ', H', I', a, o, kvs, e, nz, q'⟩ := q
  exact ⟨σ', _, I'.thaw e nz, q'⟩
 | cont => exact q
 | brk => exact q
 | ret v => exact q
theorem xhg {a : Addr} {o : Obj} {kvs : List (Key × V)} {g : TG} {tb : TS} {D : Ends} {σ : St} {H : Hp} (Pv : Nat -> St -> Hp -> Prop) (h0 : Pv 0 σ H) (hl : ∀ i σ H, i <= kvs.length -> Pv i σ H -> H a = some (.frz o (.dK kvs)))
  (hs : ∀ i kv σ H, kvs[i]? = some kv -> Pv i σ H -> g (kV kv.1) σ H fun σ2 H2 => tb { D with nx := Pv (i + 1), ct := Pv (i + 1), bk := D.nx } σ2 H2) (hd : ∀ σ H, Pv kvs.length σ H -> D.nx σ H) :
  ∃ W : Nat -> Nat -> St -> Hp -> Prop, (∃ m, W 0 m σ H) /\ ∀ i m σ H, W i m σ H ->
   ((Itd a o kvs).stop i H /\ D.nx σ H) \/ ((Itd a o kvs).go i H /\ ∃ N : St -> Hp -> Prop, (∀ σ' H', N σ' H' -> ∃ m', m' < m /\ W (i + 1) m' σ' H') /\ ∀ x H', (Itd a o kvs).yld i H x H' -> g x σ H' fun σ2 H2 => tb { D with nx := N, ct := N, bk := D.nx } σ2 H2) := by
 refine ⟨fun i m σ H => m = kvs.length - i /\ i <= kvs.length /\ Pv i σ H, ⟨kvs.length, by simp, Nat.zero_le _, h0⟩, ?_⟩
 rintro i m σ H ⟨rfl, hi, p⟩
 have q := hl i σ H hi p
 by_cases hlt : i < kvs.length
 ·refine .inr ⟨⟨q, hlt⟩, Pv (i + 1), fun σ' H' p' => ⟨kvs.length - (i + 1), by omega, rfl, hlt, p'⟩, fun x H' y => ?_⟩
  obtain ⟨e, kv, hk, e2⟩ := y
  subst e e2
  exact hs i kv σ _ hk p
 ·have e : i = kvs.length := by omega
  subst e
  exact .inl ⟨⟨q, Nat.le_refl _⟩, hd σ H p⟩
end
end L2
end
section
namespace PySem
open Sem (wp)
section
variable {prog : Program} {w : World} {A : Around} {E : Value -> Shared -> Prop} {s : Shared}
theorem xel {a : Addr} {xs : Array Value} {k : Nat} {sl : Array (Option Value)} {name : Str} {Q : Option Value -> Shared -> Prop}
  (hx : s.heap.get? a = some { cls := .type "tuple", dict := none, data := .seq xs k, slots := sl }) (hmiss : typeLookup (.type "tuple") name = pure none) (hname : (["__module__", "__name__", "__qualname__", "__doc__", "__annotations__"] : List Str).contains name = false) (hA : A.handled = none)
  (h : ∀ h' tk, (∀ b o, s.heap.get? b = some o -> h'.get? b = some o) -> Q none { s with heap := h', toks := tk }) (hsz : name.length + 100 <= sizeLine) :
  wpAny (model prog w) A (getAttr? (.ref a) name) Q E s := by
 obtain ⟨hp, g, d, tk, os⟩ := s
 have hT : ∀ tk', (⟨hp, g, d, tk', os⟩ : Shared).TypeIs (.ref a) "tuple" := fun _ => ⟨_, hx, rfl⟩
 have f1 := sub_AttributeError
 have f3 := F.slot_tuple_getattribute.lookup
 have f4 := F.slot_tuple_getattribute.bind (.ref a)
 have f5 := am_tuple_getattr_none
 unfold getAttr? getAttrBy? getAttrBy
 repeat (any_goals (first | assumption | exact hT _ | ((with_reducible show wpAny _ _ (call (Value.builtin "tuple.__getattribute__") _ _) _ _ _); refine call_meets F.slot_tuple_getattribute (hT _) am_entry_tuple_getattribute (F.args_tuple_getattribute_2 _ _) (meets_getattribute_miss_tuple a xs k sl name _ hmiss hname hsz) ⟨hx, hA, fun h' tk' e hx' => ?_⟩) | wp_step))
 obtain ⟨t', u', he⟩ := hx'.there
 show wpAny _ _ (getattributeRaised _ _ _ _ _ _ _) _ _ _
 unfold getattributeRaised
 repeat (any_goals (first | assumption | wp_step))
 all_goals first | exact h _ _ hx'.keeps | skip
end
end PySem
namespace L2
open PySem PySem.Spec PyProof.Rows
section
variable {prog : Program} {w : World} {A : Around} {K : Type} [DecidableEq K] {knd : KeyKind prog w K}
theorem xeo {h : Heap} {a I l : Addr} {i : Nat} {xs : Array Value} (ht : h.IsTuple a xs) (hd : h.IsTupleIter I l i) : a ≠ I := fun e => by
 subst e
 obtain ⟨o, ho, hc, _⟩ := ht
 obtain ⟨t, ht2, hc2, _⟩ := hd
 have : o = t := Option.some.inj (ho.symm.trans ht2)
 subst this
 rw [hc] at hc2
 exact absurd (Value.type.inj hc2) (by decide)
theorem xms {R : Result -> Shared -> Prop} {I l d : Addr} {its : List Value} {ps : List (K × Value)} (hh : A.in1.handled = none) (hne : l ≠ I) (hdl : l ≠ d) (hdI : I ≠ d) :
    ∀ (k i : Nat) (s : Shared) (cur : List (K × Value)), its.length - i = k -> i <= its.length -> s.heap.IsTupleIter I l i -> s.heap.IsTuple l its.toArray -> s.heap.DictOf knd d cur -> PairsAt knd s.heap (its.drop i) (ps.drop i) -> cur.length + (its.length - i) <= sizeLine ->
    (∀ h' tk, h'.DictOf knd d (merged cur (ps.drop i)) -> (∀ b o, b ≠ d -> b ≠ I -> s.heap.get? b = some o -> h'.get? b = some o) -> R (.ok (.ret .none)) { s with heap := h', toks := tk }) ->
    codeAny (model prog w) A (.builtin "dict.update.loop" ⟨[.ref d, .ref I, rawInt i, .none], []⟩) R s := by
  intro k
  induction k with
  | zero =>
    intro i s cur hk hi hit hl hd hp hsz hR
    have hin : i = its.length := by omega
    have W := Walks.tuple (prog := prog) (w := w) (A := A.in1) hh I l hne its.toArray
    refine codeAny_builtin xb8 ?_
    rw [Around.under_plainId xa6 _]
    show wpAny _ A.in1 (pyNext (.ref I) >>= _) _ _ s
    refine wpAny_bind (W.done s _ _ (by have e : its.toArray.size = i := by simp [hin]
                                        rw [e]; exact ⟨hit, hl⟩) fun h' tk hk' => ?_)
    show wpAny _ _ (Builtin.Dict.addKeywords d [] >>= _) _ _ _
    refine wpAny_bind (wpAny_pure (wpAny_pure ?_))
    have hps : ps.drop i = [] := by
      rw [hin, List.drop_length] at hp
      rw [hin]
      cases hq : ps.drop its.length with
      | nil => rfl
      | cons p r => rw [hq] at hp; exact hp.elim
    refine hR h' tk ?_ fun b o hb hbI e => hk' b o (by simpa using hbI) e
    rw [hps]
    exact hd.at fun o e => hk' d o (by simpa using (Ne.symm hdI)) e
  | succ k ih =>
    intro i s cur hk hi hit hl hd hp hsz hR
    have hlt : i < its.length := by omega
    have W := Walks.tuple (prog := prog) (w := w) (A := A.in1) hh I l hne its.toArray
    have hdi : its.drop i = its[i] :: its.drop (i + 1) := List.drop_eq_getElem_cons hlt
    rw [hdi] at hp
    obtain ⟨p, r, hpe⟩ : ∃ p r, ps.drop i = p :: r := by
      cases hq : ps.drop i with
      | nil => rw [hq] at hp; exact hp.elim
      | cons p r => exact ⟨p, r, rfl⟩
    have hpr : ps.drop (i + 1) = r := by rw [<- List.tail_drop, hpe]; rfl
    rw [hpe] at hp
    obtain ⟨⟨a, key, ea, hta, hkey⟩, hrest⟩ := hp
    refine codeAny_builtin xb8 ?_
    rw [Around.under_plainId xa6 _]
    show wpAny _ A.in1 (pyNext (.ref I) >>= _) _ _ s
    refine wpAny_bind (W.item i s _ _ (by simpa using hlt) ⟨hit, hl⟩ fun v h' tk hP hst' hk' => ?_)
    have hv : v = .ref a := by
      have : its[i]? = some v := by simpa using hP
      rw [zGA hlt, ea] at this
      exact (Option.some.inj this).symm
    subst hv
    have hta' : h'.IsTuple a #[key, p.2] := hta.at fun o e => hk' a o (by simpa using xeo hta hit) e
    have hd' : h'.DictOf knd d cur := hd.at fun o e => hk' d o (by simpa using (Ne.symm hdI)) e
    obtain ⟨oa, hoa, hca, na, hda⟩ := id hta'
    refine wpAny_bind (wpAny_holding (wpAny_bind (wpAny_tryCatch ?_)))
    unfold Builtin.Dict.pairItems
    refine wpAny_bind (wpAny_typeOf ⟨oa, hoa, hca⟩ ?_)
    rw [if_pos (by decide)]
    refine wpAny_bind (wpAny_seqItems hoa hda (wpAny_pure ?_))
    show wpAny _ _ (holding [key, p.2] (dictSet d key p.2)) _ _ _
    refine wpAny_holding (wpAny_dictSet_pairs hkey hd' (fun h2 hd2 hs2 => ?_) (by omega))
    have st2 : h2.IsTupleIter I l (i + 1) /\ h2.IsTuple l its.toArray := ⟨hst'.1.at fun o e => (hs2.2 I hdI).trans e, hst'.2.at fun o e => (hs2.2 l hdl).trans e⟩
    refine wpAny_pure ⟨plainId_quiet xa6 _, ih (i + 1) _ _ (by omega) hlt st2.1 st2.2 hd2 ?_ ?_ fun h3 tk3 hd3 hk3 => ?_⟩
    · rw [hpr]
      exact hrest.keep fun b xs hb => by
        have h1 : h'.IsTuple b xs := hb.at fun o e => hk' b o (by simpa using xeo hb hit) e
        exact h1.at fun o e => (hs2.2 b (xe8 h1 hd')).trans e
    · have := stored_length_le cur p.1 p.2
      omega
    · refine hR h3 tk3 ?_ fun b o hb hbI e => hk3 b o hb hbI ((hs2.2 b hb).trans (hk' b o (by simpa using hbI) e))
      rw [hpe]
      rw [hpr] at hd3
      exact hd3
end
end L2
namespace L2
open PySem PySem.Spec PyProof.Rows
theorem xjz : typeLookup (.type "tuple") "keys" = pure none := am_miss_of_fast (by kernel_rfl)
section
variable {prog : Program} {w : World} {A : Around} {E : Value -> Shared -> Prop} {s : Shared} {K : Type} [DecidableEq K] {knd : KeyKind prog w K}
theorem xkt {l : Addr} {its : List Value} {n : Nat} {sl : Array (Option Value)} {ps : List (K × Value)} {Q : Value -> Shared -> Prop} (hh : A.handled = none) (hl : s.heap.get? l = some { cls := .type "tuple", data := .seq its.toArray n, dict := none, slots := sl }) (hp : PairsAt knd s.heap its ps) (hsz : its.length <= sizeLine)
  (h : ∀ h' tk, h'.DictOf knd s.heap.objs.size (merged [] ps) -> (∀ b o, s.heap.get? b = some o -> h'.get? b = some o) -> Q (.ref s.heap.objs.size) { s with heap := h', toks := tk }) :
  wpAny (model prog w) A (call (.type "dict") [.ref l]) Q E s := by
 refine callType_codes (Q₁ := fun obj s₁ => obj = .ref s.heap.objs.size /\ s₁ = { s with heap := s.heap.push { cls := .type "dict", data := .dict #[] } }) F.kt_called_dict (F.kt_typeCall_dict_1 _) F.entry_dict_init (kt_code_dict_new _ ⟨rfl, rfl⟩) ?_
 rintro obj s₁ ⟨rfl, rfl⟩
 have hnew : (s.heap.push { cls := .type "dict", data := .dict #[] }).DictOf knd s.heap.objs.size [] := Heap.DictOf.new s.heap
 have ext0 : ∀ b o, s.heap.get? b = some o -> (s.heap.push { cls := .type "dict", data := .dict #[] }).get? b = some o := fun b o e => Heap.get?_push_of_some _ e
 have hl0 := ext0 _ _ hl
 have hT : (⟨s.heap.push { cls := .type "dict", data := .dict #[] }, s.gens, s.drawn, s.toks, s.os⟩ : Shared).TypeIs (.ref l) "tuple" := ⟨_, hl0, rfl⟩
 have hdl : l ≠ s.heap.objs.size := fun e => absurd (Heap.lt_size hl) (by rw [e]; exact Nat.lt_irrefl _)
 refine ⟨hnew.typeIs, F.args_dict_init_2 _ _, ?_⟩
 unfold Builtin.«dict.__init__»
 refine wpAny_bind ?_
 unfold Builtin.Dict.selfAndRest
 refine wpAny_bind (wpAny_notOrdered_dict hnew.typeIs ?_)
 show wpAny _ _ (pure (s.heap.objs.size, [Value.ref l])) _ _ _
 refine wpAny_pure ?_
 show wpAny _ _ (Builtin.Dict.updateFrom "dict.__init__" s.heap.objs.size (.ref l) [] .none) _ _ _
 unfold Builtin.Dict.updateFrom
 refine wpAny_bind (wpAny_typeOf hT ?_)
 rw [if_pos (by decide)]
 refine wpAny_bind (xel (sl := sl) hl0 xjz (by walk_at "k") hh (fun h1 tk1 k1 => ?_) (by walk_at "k"))
 rw [if_pos (show (none : Option Value).isNone = true from rfl)]
 refine wpAny_bind (wpAny_rule ?_)
 have hl1 := k1 _ _ hl0
 have hL1 : h1.IsTuple l its.toArray := ⟨_, hl1, rfl, _, rfl⟩
 refine wpAny_bind (wpAny_pyIter_tuple hL1 (wpAny_pure ⟨plainId_quiet xa6 _, ?_⟩))
 have hsz1 : s.heap.objs.size < h1.objs.size := Heap.lt_size (k1 _ _ (Heap.get?_push_size _ rfl))
 have hlI : l < h1.objs.size := Heap.lt_size hl1
 have ext2 : ∀ b o, h1.get? b = some o -> (h1.push { cls := .type "tuple_iterator", data := .fields #[.ref l, .int 0 0] }).get? b = some o := fun b o e => Heap.get?_push_of_some _ e
 refine xms (knd := knd) (A := A.in1) (ps := ps) (l := l) (d := s.heap.objs.size) (its := its) hh (Nat.ne_of_lt hlI) hdl (Nat.ne_of_gt hsz1) its.length 0 _ [] (Nat.sub_zero _) (Nat.zero_le _) ⟨_, Heap.get?_push_size _ rfl, rfl, rfl⟩ (hL1.push _) (hnew.at fun o e => ext2 _ _ (k1 _ _ e)) (hp.keep fun a xs ha => ha.at fun o e => ext2 _ _ (k1 _ _ (ext0 _ _ e))) (by simpa using hsz) fun h3 tk3 hd3 hk3 => ?_
 refine ⟨rfl, h h3 tk3 hd3 fun b o e => hk3 b o ?_ ?_ (ext2 _ _ (k1 _ _ (ext0 _ _ e)))⟩
 ·exact fun z => absurd (Heap.lt_size e) (by rw [z]; exact Nat.lt_irrefl _)
 ·exact fun z => absurd (Heap.lt_size e) (by rw [z]; exact Nat.not_lt_of_gt hsz1)
end
end L2
namespace L2
open PySem PySem.Spec PyProof.Rows
section
variable {X : Cx}
theorem xen (hc : X.calm = true) : xdl X (.type "dict") (fun xs H Q => ∃ a ys, ∃ kvs : List (Key × V), xs = [.ref a] /\ H a = some (.tup ys) /\ PairsV H ys kvs /\ ∀ p, H p = none -> Q (.ref p) (upd H p (.dK (xav [] kvs)))) := by
 intro pins s σ H xs us Q I r h
 obtain ⟨a, ys, kvs, rfl, ha, hp, q⟩ := h
 obtain ⟨u, rfl, ru⟩ := xd9 r
 obtain rfl : u = .ref a := ru
 obtain ⟨hz, its, rv, ⟨oc, od, dt, sl⟩, ho, h1, n, h2, h3⟩ := (show ObjOk X.prog X.w H s.heap a (.tup ys) from I.hok a _ ha)
 simp only at h1 h2 h3
 subst h1 h2 h3
 obtain ⟨ps, hk, hpa⟩ := xg3 I rv hp
 have hyl := hp.length
 refine xkt (knd := xbd X.prog X.w) (I.ok.hd hc) ho hpa (by rw [<- rv.length]; exact hz) fun h' tk dd' k' => ?_
 have hz' : (xav [] kvs).length <= sizeLine := by
  have := xbq kvs []
  rw [List.length_nil] at this
  omega
 exact ⟨.ref s.heap.objs.size, _, I.laid (a := s.heap.objs.size) (o := .dK (xav [] kvs)) (t' := tk) k' (Nat.le_refl _) (xjo hz' (beq_eq_false_iff_ne.mpr (Ne.symm (Nat.ne_of_lt I.big))) (hk.merge .nil) dd'), rfl, q _ (I.hok.fresh (Nat.le_refl _))⟩
end
end L2
end
section
namespace M
open PySem L2
abbrev Wy := Str × Str × D
def wyD (y : Wy) : D := .tup [.str y.2.1, y.2.2]
def WAll (H : Hp) : List (Key × V) -> List Wy -> Prop
 | [], [] => True
 | kv :: kvs, y :: ys => (kv.1 = Sum.inr y.1 /\ RelD H kv.2 (wyD y)) /\ WAll H kvs ys
 | _, _ => False
theorem WAll.len {H : Hp} : ∀ {kvs : List (Key × V)} {ys : List Wy}, WAll H kvs ys -> kvs.length = ys.length
 | [], [], _ => rfl
 | kv :: kvs, y :: ys, h => by rw [List.length_cons, List.length_cons, WAll.len h.2]
theorem WAll.tups {H H' : Hp} (s : ∀ b us, H b = some (.tup us) -> H' b = some (.tup us)) : ∀ {kvs : List (Key × V)} {ys : List Wy}, WAll H kvs ys -> WAll H' kvs ys
 | [], [], _ => trivial
 | kv :: kvs, y :: ys, h => ⟨⟨h.1.1, h.1.2.tups s _⟩, WAll.tups s h.2⟩
theorem WAll.snoc {H : Hp} {kv : Key × V} {y : Wy} (h : kv.1 = Sum.inr y.1 /\ RelD H kv.2 (wyD y)) : ∀ {kvs : List (Key × V)} {ys : List Wy}, WAll H kvs ys -> WAll H (kvs ++ [kv]) (ys ++ [y])
 | [], [], _ => ⟨h, trivial⟩
 | kv' :: kvs, y' :: ys, g => ⟨g.1, WAll.snoc h g.2⟩
theorem WAll.get {H : Hp} : ∀ {kvs : List (Key × V)} {ys : List Wy}, WAll H kvs ys -> ∀ {i : Nat} {kv : Key × V}, kvs[i]? = some kv -> ∃ y, ys[i]? = some y /\ kv.1 = Sum.inr y.1 /\ RelD H kv.2 (wyD y)
 | kv' :: kvs, y :: ys, g, 0, kv, e => by
  simp at e
  subst e
  exact ⟨y, rfl, g.1⟩
 | kv' :: kvs, y :: ys, g, i + 1, kv, e => WAll.get g.2 (by simpa using e)
def wyAt (ys : List Wy) (x : Str) : Option Wy := ys.find? fun y => decide (y.1 = x)
def xal (ys : List Wy) (x : Str) : Option Str := if x = S "num" then some (S "num") else (wyAt ys x).map fun y => y.2.1
def optV : Option Str -> V
 | some x => .str x
 | none => .non
def WaysAt (H : Hp) (a : Addr) (ys : List Wy) : Prop := ∃ kvs : List (Key × V), Rd H a (.dK kvs) /\ WAll H kvs ys
theorem WAll.val {H : Hp} {x : Str} : ∀ {kvs : List (Key × V)} {ys : List Wy}, WAll H kvs ys -> (wyAt ys x = none -> valV kvs (Sum.inr x : Key) = none) /\ ∀ y, wyAt ys x = some y -> ∃ v, valV kvs (Sum.inr x : Key) = some v /\ RelD H v (wyD y)
 | [], [], _ => ⟨fun _ => rfl, fun y e => (by cases e)⟩
 | kv :: kvs, y :: ys, h => by
  have ih := WAll.val (x := x) h.2
  unfold wyAt valV at *
  rw [List.find?_cons, List.find?_cons]
  by_cases c : y.1 = x
  ·have c' : kv.1 = Sum.inr x := by rw [h.1.1, c]
   rw [zDT c, zDT c']
   exact ⟨fun e => (by cases e), fun z e => by cases e; exact ⟨kv.2, rfl, h.1.2⟩⟩
  ·have c' : ¬ kv.1 = Sum.inr x := fun z => c (Sum.inr.inj (h.1.1.symm.trans z))
   rw [zDF c, zDF c']
   exact ih
theorem Rd.same {H H' : Hp} {a : Addr} {u : HO} (h : Rd H a u) (s : Same H H') : Rd H' a u := by
 rcases h with h | ⟨o, h⟩
 ·exact .inl (s _ _ h)
 ·exact .inr ⟨o, s _ _ h⟩
theorem WaysAt.same {H H' : Hp} {a : Addr} {ys : List Wy} (h : WaysAt H a ys) (s : Same H H') : WaysAt H' a ys := by
 obtain ⟨kvs, h1, h2⟩ := h
 exact ⟨kvs, Rd.same h1 s, h2.tups fun b us e => s _ _ e⟩
theorem DGet.rd {H : Hp} {a : Addr} {kvs : List (Key × V)} {k : Key} (e : Rd H a (.dK kvs)) : DGet H a (kV k) (valV kvs k) := .inl ⟨kvs, k, e, rfl, rfl⟩
def howD (k : Kn) : D := if k.rc = true then tRec k.name (k.parts.map fun p => tBox p.1) else .tup (k.parts.map fun p => .tup [.str p.1, tTag k.name p.1 (tBox (S "it"))])
end M
end
section
namespace K44
open PySem L2 M
seal L2.PE L2.PA L2.PS L2.PSs L2.PT L2.PW L2.PI L2.PG L2.PJ L2.PTs
structure Hold (R : Prop) : Prop where
 go : R
theorem xlk {R A : Prop} (h : Hold R -> A) (r : R) : A := h ⟨r⟩
theorem DefIs.anyP {P : Program} {w : World} {K : PySem.W.Frag} {mg : Str -> Option Value} {base : Heap} {n : Nat} {x : Str} {st : Stmt} {ps : List Str} {Pr : Nat -> Prop} {sps : Nat -> Sp} (T : DefTx K mg x st ps) (D : ∀ m, Pr m -> DefIs P w K mg base n x ps (sps m)) : DefIs P w K mg base n x ps (fun vs H Q E => ∃ m, Pr m /\ sps m vs H Q E) := by
 by_cases hP : ∃ m, Pr m
 ·obtain ⟨m0, h0⟩ := hP
  obtain ⟨f, fd, F, b, k, mm, l⟩ := (D m0 h0).ex
  refine ⟨f, fd, ⟨?_, ?_⟩, b, k, mm, l⟩
  ·rintro vs H Q E ⟨m, hm, h⟩
   obtain ⟨f2, fd2, F2, _⟩ := (D m hm).ex
   exact F2.1 vs H Q E h
  ·rintro A outer s H args us vs Q E h1 h2 h3 h4 ⟨m, hm, h⟩
   obtain ⟨f2, fd2, F2, b2, k2, mm2, l2⟩ := (D m hm).ex
   rw [mm] at mm2
   cases mm2
   obtain ⟨oc, od, osl, l⟩ := l
   obtain ⟨_, _, _, l2⟩ := l2
   rw [l] at l2
   cases l2
   exact F2.2 A outer s H args us vs Q E h1 h2 h3 h4 h
 ·exact DefIs.none T fun vs H Q E h => hP ⟨h.choose, h.choose_spec.1⟩
def xrq (c : Nat) : Sp := fun vs H Q E => ∃ m, 7 * m + 6 < c /\ xj1 m vs H Q E
theorem xgs {z : Str} : ∀ {bs : List (Str × Str)}, (∀ b ∈ bs, b.1 ≠ z) -> ∀ acc, valV (xav acc (bKV bs)) (Sum.inr z) = valV acc (Sum.inr z)
 | [], _, acc => rfl
 | b :: bs, h, acc => by
  have := xgs (bs := bs) (fun b' hb => h b' (by simp [hb])) (putK acc (Sum.inr b.1) (.str b.2))
  show valV (xav (putK acc (Sum.inr b.1) (.str b.2)) (bKV bs)) (Sum.inr z) = _
  rw [this, xdv, if_neg]
  intro e
  exact h b (by simp) (Sum.inr.inj e).symm
theorem xk2 {z k : Str} : ∀ {bs : List (Str × Str)}, (bs.map (·.1)).Nodup -> (z, k) ∈ bs -> ∀ acc, valV (xav acc (bKV bs)) (Sum.inr z) = some (.str k)
 | b :: bs, nd, h, acc => by
  rw [List.map_cons, List.nodup_cons] at nd
  show valV (xav (putK acc (Sum.inr b.1) (.str b.2)) (bKV bs)) (Sum.inr z) = _
  rcases List.mem_cons.mp h with h | h
  ·subst h
   rw [xgs (bs := bs) (fun b' hb e => nd.1 (List.mem_map.mpr ⟨b', hb, e⟩)), xdv, if_pos rfl]
  ·exact xk2 nd.2 h _
theorem xof {ks : List Kn} (wf : KWf ks) {y : Str} (h : KIn ks 6 y) {H : Hp} {v : V} (rp : RelD H v (xim (kAt ks y))) : ∃ ps, RelD H v (xbf ps) /\ ps.length <= 5 /\ (xci (kAt ks y) = S "rec" -> ∃ k, kAt ks y = some k /\ k.rc = true /\ k.parts = ps) /\ (xci (kAt ks y) = S "alt" -> ∃ k, kAt ks y = some k /\ k.rc = false /\ k.parts = ps) := by
 rcases h.look wf with ⟨rfl, e⟩ | ⟨j, k, hj, e, hn, hm, hp⟩
 ·rw [e] at rp ⊢
  exact ⟨[], rp, by decide, fun z => absurd z (by walk_at "k"), fun z => absurd z (by walk_at "k")⟩
 ·rw [e] at rp ⊢
  refine ⟨k.parts, rp, by have := wf.pts k hm; omega, fun z => ⟨k, rfl, ?_, rfl⟩, fun z => ⟨k, rfl, ?_, rfl⟩⟩
  ·cases hc : k.rc with
   | true => rfl
   | false =>
    have z' : k.sort = S "rec" := z
    rw [xbn hc] at z'
    exact absurd z' (by walk_at "k")
  ·cases hc : k.rc with
   | false => rfl
   | true =>
    have z' : k.sort = S "alt" := z
    rw [xbm hc] at z'
    exact absurd z' (by walk_at "k")
def HdAt (H : Hp) (ks : List Kn) (bs : List (Str × Str)) (x : Str) (w : V) : Prop := ∃ (b : Addr) (z g y : Str) (k : Kn), w = .ref b /\ H b = some (.tup [.str z, .str g]) /\ (z, y) ∈ bs /\ kAt ks y = some k /\ k.rc = true /\ (g, x) ∈ k.parts
theorem HdAt.tups {H H' : Hp} {ks : List Kn} {bs : List (Str × Str)} {x : Str} {w : V} (h : HdAt H ks bs x w) (s : ∀ b us, H b = some (.tup us) -> H' b = some (.tup us)) : HdAt H' ks bs x w := by
 obtain ⟨b, z, g, y, k, e, hb, r⟩ := h
 exact ⟨b, z, g, y, k, e, s _ _ hb, r⟩
def TgOk (ks : List Kn) (bs : List (Str × Str)) (z : Str) : Prop := ∃ (y : Str) (k : Kn), (z, y) ∈ bs /\ kAt ks y = some k /\ k.rc = false
section
variable {P : Program} {w : World} {K : PySem.W.Frag} {mg : Str -> Option Value} {base : Heap} {n m : Nat}
theorem xpy (T : Tx K mg) {c : Nat} (Dl_take : DefIs P w K mg base n "_law_take" ["_law_feed_here", "_law_many"] xb9) (Dl_boxed : DefIs P w K mg base n "_law_boxed" ["_law_feed_here", "_law_some"] xng) (Dl_small : DefIs P w K mg base n "_law_small" ["_law_kinds_here", "_law_kind"] (spSm smK 6)) (Dl_sort_of : DefIs P w K mg base n "_law_sort_of" ["_law_kinds_here", "_law_kind"] xcv) (Dl_term : DefIs P w K mg base n "_law_term" ["_law_feed_here", "_law_kinds_here", "_law_boxes", "_law_kind", "_law_room", "_law_deep"] (xpl c)) (Dl_arms : DefIs P w K mg base n "_law_arms" ["_law_feed_here", "_law_kinds_here", "_law_boxes", "_law_parts_here", "_law_kind", "_law_room", "_law_deep"] (xrq c)) (Dl_whole_term : DefIs P w K mg base n "_law_whole_term" ["_law_feed_here", "_law_kinds_here", "_law_boxes", "_law_kind", "_law_room", "_law_deep"] (spTw c)) :
  DefIs P w K mg base (n + 1) "_law_term" ["_law_feed_here", "_law_kinds_here", "_law_boxes", "_law_kind", "_law_room", "_law_deep"] (spTw c) := by
 refine DefIs.of T.dl_term scl_term ?_ ?_ <;> walk_at "i"
 ·obtain ⟨_, _, _, _, _, _, _, _, _, rfl, _⟩ := h
  rfl
 obtain ⟨f', kv, bv, ks, bs, x, room, m, j, rfl, hcm, hj6, ti, m8, hxj, hroom, q⟩ := h
 have nd := scl_term.nd
 have hu := xc2 hr
 have wf := ti.wf
 have hxin : KIn ks 6 x := hxj.mono hj6
 have hsb := xla wf x
 refine ⟨_, (zpn (xa9 (i := 6) ["_law_x", "_law_told_here", "_law_kind"] [none, none, some 3] rfl (by kernel_rfl) nd rfl (by walk_at "o") (xce (pv 2)) (fun _ _ _ _ => (xbp (K := K) (n := 2) rfl rfl (xab (xaa (i := 0) (by show List.Nodup (["_law_x", "_law_told_here", "_law_kind"] : List Str); decide +kernel) rfl (Or.inl rfl)) (xab (xaa (i := 1) (by show List.Nodup (["_law_x", "_law_told_here", "_law_kind"] : List Str); decide +kernel) rfl (Or.inl rfl)) xaq)))) (fun _ _ _ _ => (xcd (pR xas (pv 1) (pv 2) (nM _)))) (fun _ _ _ _ => (pv 0)))
   (zpn (xah (i := 7) nd rfl (by walk_at "o") (pd Dl_take hr (pc (pv 0) (pc pI pN zso) zsn)))
   (zpn (xao (PW.pt (xcl (pR xdr (xak xad rfl T.z_len PySem.boot_len (pc (pv 6) pN zsn)) pI (nM _)) (xb3 (pR xfm (pv 7) pI (nM _))))) (zpo (xae (pd Dl_boxed hr (pc (pv 0) (pc (pv 6) pN zsn) zsn)))) pQ)
   (zpn (xah (i := 8) nd rfl (by walk_at "o") (pd Dl_small hr (pc (pv 1) (pc (pv 3) pN zsn) zsn)))
   (zpn (xao (PW.pt (xcl (pR xas (pv 7) pI (nM _)) (xcl (pR xdr (pv 5) pI (nM _)) (xb3 (pR xdr (pv 4) (xam xbe (xam xcs pI (pv 8)) pI) (nM _)))))) (zpn (xah (i := 9) nd rfl (by walk_at "o") (xam xbv (xam xb0 (xam xb0 (pv 4) pI) (xam xcs pI (pv 8))) pI))
   (zpn (xah (i := 10) nd rfl (by walk_at "o") (pd Dl_term hr (pc (pv 0) (pc (pv 1) (pc (pv 2) (pc pS (pc (xam xbe pI (pv 9)) (pc (xam xb0 (pv 5) pI) pN xax) xax) zso) zsn) zsn) zsn)))
   (zpn (xah (i := 11) nd rfl (by walk_at "o") (pd Dl_term hr (pc (pv 0) (pc (pv 1) (pc (pv 2) (pc (pv 3) (pc (xam xbe (pv 8) (pv 9)) (pc (xam xb0 (pv 5) pI) pN xax) xax) zsn) zsn) zsn) zsn)))
   (zpo (xae (xan (pc pS (pc (pv 10) (pc (pv 11) (pc (pd Dl_term hr (pc (pv 0) (pc (pv 1) (pc (pv 2) (pc (pv 3) (pc (xam xbe (pv 8) (pv 9)) (pc (xam xb0 (pv 5) pI) pN xax) xax) zsn) zsn) zsn) zsn)) pN zsc) zsn) zsn) zso))))))) pQ)
   (zpn (xao (PW.pt (xcl (pR xas (pv 7) pI (nM _)) (xb3 (pR xdr (pv 4) pI (nM _))))) (zpn (xah (i := 12) nd rfl (by walk_at "o") (xbs pN))
   (zpn (xbo PassesOwn.never rfl (xce (pv 2)) (xbb rfl (xab (xaa (i := 13) nd rfl (by walk_at "o")) (xab (xaa (i := 14) nd rfl (by walk_at "o")) xaq)))
   (zpn (xcb (pd Dl_sort_of hr (pc (pv 1) (pc (pv 14) pN zsn) zsn)) (xbb rfl (xab (xaa (i := 15) nd rfl (by walk_at "o")) (xab (xaa (i := 16) nd rfl (by walk_at "o")) xaq))))
   (zpo (xah (i := 12) nd rfl (by walk_at "o") (xam xfn (pv 12) (xba ["_law_f", "_law_part", "_law_x", "_law_sort", "_law_kind"] [none, none, some 13, some 15, some 3] rfl (by kernel_rfl) (xa4 (pv 16)) (fun _ _ _ _ => (xbp (K := K) (n := 2) rfl rfl (xab (xaa (i := 0) (by show List.Nodup (["_law_f", "_law_part", "_law_x", "_law_sort", "_law_kind"] : List Str); decide +kernel) rfl (Or.inl rfl)) (xab (xaa (i := 1) (by show List.Nodup (["_law_f", "_law_part", "_law_x", "_law_sort", "_law_kind"] : List Str); decide +kernel) rfl (Or.inl rfl)) xaq)))) (fun _ _ _ _ => (xcd (PW.pt (xcl (pR xas (pv 3) pS (nM _)) (xb3 (pR xas (pv 1) (pv 4) (nM _))))))) (fun _ _ _ _ => (xan (pc (pv 2) (pc (pv 0) pN zsn) zsn)))))))))
   (zpo (xao (pR xdr (xak xad rfl T.z_len PySem.boot_len (pc (pv 12) pN zsn)) pI (nM _)) (zpn (xcb (xag iL (pv 12) (pd Dl_take hr (pc (pv 0) (pc (xak xad rfl T.z_len PySem.boot_len (pc (pv 12) pN zsn)) pN zsc) zsn)) (fun _ _ => rfl)) (xbb rfl (xab (xaa (i := 13) nd rfl (by walk_at "o")) (xab (xaa (i := 17) nd rfl (by walk_at "o")) xaq))))
   (zpo (xae (xan (pc pS (pc (xan (pc pS (pc (pv 13) pN zsn) zso)) (pc (pv 17) pN zsn) sT) zso))))) pQ)))) pQ)
   (zpn (xao (PW.pt (xcl (pR xas (pv 7) pI (nM _)) (xb3 (pR xdr (pv 5) pI (nM _))))) (zpn (xa9 (i := 18) ["_law_x", "_law_told_here", "_law_kinds_here"] [none, none, some 1] rfl (by kernel_rfl) nd rfl (by walk_at "o") (xce (pv 2)) (fun _ _ _ _ => (xbp (K := K) (n := 2) rfl rfl (xab (xaa (i := 0) (by show List.Nodup (["_law_x", "_law_told_here", "_law_kinds_here"] : List Str); decide +kernel) rfl (Or.inl rfl)) (xab (xaa (i := 1) (by show List.Nodup (["_law_x", "_law_told_here", "_law_kinds_here"] : List Str); decide +kernel) rfl (Or.inl rfl)) xaq)))) (fun _ _ _ _ => (xcd (pR xas (xag (xbt (K := K) rfl) (pd Dl_sort_of hr (pc (pv 2) (pc (pv 1) pN zsn) zsn)) pI (fun _ _ => rfl)) pS (nM _)))) (fun _ _ _ _ => (pv 0)))
   (zpo (xao (pR xdr (xak xad rfl T.z_len PySem.boot_len (pc (pv 18) pN zsn)) pI (nM _)) (zpn (xah (i := 13) nd rfl (by walk_at "o") (xag iL (pv 18) (pd Dl_take hr (pc (pv 0) (pc (xak xad rfl T.z_len PySem.boot_len (pc (pv 18) pN zsn)) pN zsc) zsn)) (fun _ _ => rfl)))
   (zpn (xah (i := 16) nd rfl (by walk_at "o") (xag xaf (pd Dl_sort_of hr (pc (pv 1) (pc (xb4 hu (xar (xdh rfl) rfl T.z_dict PyProof.Rows.boot_dict (pc (pv 2) pN zsn)) (pv 13) (fun _ _ => rfl)) pN ss) zsn)) pI (fun _ _ => rfl)))
   (zpo (xao (pR op_ge (xam xb0 (pv 4) pI) (xam xcs (pv 8) (xak xad rfl T.z_len PySem.boot_len (pc (pv 16) pN zsn))) (nM _)) (zpo (xae (xan (pc pS (pc (xan (pc pS (pc (pv 13) pN zsn) zso)) (pc (pd Dl_arms hr (pc (pv 0) (pc (pv 1) (pc (pv 2) (pc (pv 16) (pc (pv 3) (pc (xam xb0 (pv 4) pI) (pc (pv 5) pN zsn) xax) zsn) zsn) zsn) zsn) zsn)) pN zsc) sT) zso)))) pQ)))) pQ))) pQ)
   (zpo (xae (pd Dl_whole_term hr (pc (pv 0) (pc (pv 1) (pc (pv 2) (pc (pv 3) (pc (pv 4) (pc (pv 5) pN zsn) zsn) zsn) zsn) zsn) zsn))))))))))), ?_⟩
 refine xaj fun R1 hR1 => ?_
 obtain ⟨p0, q0, hf⟩ := ti.fd
 have hbx := ti.bx
 obtain ⟨bl, ub, rfl, hbl, hub, blf⟩ := hbx
 have hul := hub.length
 rw [zLM] at hul
 have hbl30 := ti.bl
 refine ⟨_, rfl, bl, rfl, ⟨_, SqL.of hbl⟩, ?_⟩
 refine xcu (xs := ub) (fun i ys H' => H' = H /\ ∃ zs : List Str, ys = zs.map V.str /\ (∀ z ∈ zs, (z, x) ∈ bs) /\ zs.length <= i) ⟨rfl, [], rfl, (fun _ h => nomatch h), Nat.le_refl _⟩ (xat (by omega)) (fun i ys H' _ p => by obtain ⟨rfl, _⟩ := p; exact SqL.of hbl) ?_ ?_
 ·rintro i y ys H' hy hi2 hly ⟨rfl, zs, rfl, hzs, hzl⟩
  obtain ⟨d', hd2, rd2⟩ := hub.get hy
  rw [zGM] at hd2
  obtain ⟨pr, hpr, rfl⟩ := zMS hd2
  obtain ⟨b, ws', rfl, hb, _, _, rfl, rfl, _, _, rfl, rfl, rfl⟩ := rd2
  refine ⟨b, _, rfl, SqT.of hb, rfl, _, _, rfl, _, _, rfl, rfl, ext2 rfl rfl, ?_⟩
  refine ⟨_, rfl, _, rfl, rfl, _, rfl, ?_⟩
  by_cases hpx : pr.2 = x
  ·refine iteKT (zDT (by rw [hpx])) ⟨_, rfl, nxtG hi2 hly ⟨rfl, zs ++ [pr.1], by rw [List.map_append]; rfl, fun z hz => ?_, by rw [List.length_append, List.length_singleton]; omega⟩⟩
   rcases zMA hz with hz | hz
   ·exact hzs z hz
   ·rw [zMO hz, <- hpx]
    exact zMG hpr
  ·exact iteKF (zDF fun z => hpx (V.str.inj z)) (nxtN hi2 hly ⟨rfl, zs, rfl, hzs, by omega⟩)
 rintro ys H2 hly ⟨rfl, zs, rfl, hzs, hzl⟩ D hD
 have sD := Same.new hD (.lst (zs.map V.str))
 have t1 := ti.same sD
 have F1 := (Fed.refl hf).same sD
 have Df : D ≠ f' := Ne.symm (neN hf hD)
 refine hR1 _ _ (xaj fun R2 hR2 => ?_)
 refine ⟨_, rfl, f', p0, q0, _, rfl, sD _ _ hf, by decide, by decide, fun fm H1 m0 m1 f1 => ?_⟩
 have t2 := t1.fed f1
 have F2 := F1.trans f1
 obtain ⟨p2, q2, h2⟩ := t2.fd
 have hD2 := f1.1 _ _ ups Df
 have zl : (zs.map V.str).length = zs.length := zLM _
 refine hR2 _ _ (xaj fun R3 hR3 => ?_)
 apply xlk
 ·intro key
  refine ⟨_, rfl, D, _, rfl, .inl (SqL.of hD2), _, _, rfl, rfl, _, rfl, ite2 (fun c1 => ?_) (fun c1 => ?_)⟩
  ·refine ⟨_, rfl, _, _, rfl, rfl, _, rfl, ite2 (fun c2 => ?_) (fun c2 => ?_)⟩
   ·have hzp := of_decide_eq_true c1
    rw [zl] at hzp
    exact ⟨_, rfl, _, rfl, f', D, p2, q2, zs, rfl, h2, hD2, List.length_pos_iff.mp (by omega), by omega, Df, fun z t H' hz fz rz => q t (tBox z) H' (F2.trans fz) rz (xhw (hzs z hz))⟩
   ·exact key.go
  ·exact iteF key.go
 refine hR3 _ _ (xaj fun R4 hR4 => ?_)
 refine ⟨_, rfl, _, rfl, kv, ks, x, rfl, t2.kd, wf, hxin, fun H3 s3 => ?_⟩
 have t3 := t2.same s3
 have F3 := F2.same s3
 obtain ⟨p3, q3, h3⟩ := t3.fd
 have hbx3 := t3.bx
 obtain ⟨bl3, ub3, e3b, hbl3, hub3, blf3⟩ := hbx3
 cases e3b
 have hul3 := hub3.length
 rw [zLM] at hul3
 refine hR4 _ _ (xaj fun R5 hR5 => ?_)
 by_cases e3 : fm = 3
 ·refine ⟨_, rfl, rfl, _, rfl, iteKT (zDT (by rw [e3])) ?_⟩
  apply xlk
  ·intro key
   refine ⟨_, rfl, _, _, rfl, rfl, _, rfl, ite2 (fun c2 => ?_) (fun c2 => iteF key.go)⟩
   refine ⟨_, rfl, _, rfl, _, _, rfl, rfl, .inr ⟨by omega, by omega⟩, _, _, rfl, rfl, _, _, rfl, rfl, _, rfl, ite2 (fun c3 => ?_) (fun c3 => key.go)⟩
   have c2' : (0 : Int) < (m : Int) := of_decide_eq_true c2
   have c3' : 2 * smK ks x + 1 < room := of_decide_eq_true c3
   obtain ⟨m', rfl⟩ : ∃ m', m = m' + 1 := ⟨m - 1, by omega⟩
   have hj1 : (((m' + 1 : Nat) : Int)) - 1 = (m' : Int) := by omega
   refine ⟨_, rfl, _, _, rfl, rfl, _, rfl, _, _, rfl, rfl, .inr ⟨by omega, by omega⟩, _, _, rfl, rfl, _, _, rfl, rfl, ⟨by decide, by decide⟩, ?_⟩
   have hm0 : 0 <= (room - 2 - 2 * smK ks x) / 3 := Int.ediv_nonneg (by omega) (by decide)
   refine ⟨_, rfl, _, rfl, _, rfl, _, rfl, _, _, rfl, rfl, _, rfl, _, _, rfl, rfl, ?_⟩
   refine ⟨7 * m', by omega, f', kv, .ref bl, ks, bs, S "num", 1 + (room - 2 - 2 * smK ks x) / 3, m', 0, xmo hj1, rfl, by decide, t3.down (by omega), by omega, .inl rfl, by rw [(xni wf).1]; omega, fun u1 d1 H5 f5 ru1 ht1 => ?_⟩
   have t5 := t3.fed f5
   refine ⟨_, rfl, _, rfl, _, rfl, _, rfl, _, rfl, _, rfl, _, _, rfl, rfl, _, rfl, _, _, rfl, rfl, ?_⟩
   refine ⟨7 * m' + j, by omega, f', kv, .ref bl, ks, bs, x, smK ks x + (room - 2 - 2 * smK ks x) / 3, m', j, xmo hj1, rfl, hj6, t5.down (by omega), by omega, hxj, by omega, fun u2 d2 H6 f6 ru2 ht2 => ?_⟩
   have t6 := t5.fed f6
   refine ⟨_, rfl, _, rfl, _, rfl, _, rfl, _, rfl, _, rfl, _, rfl, _, rfl, _, _, rfl, rfl, _, rfl, _, _, rfl, rfl, ?_⟩
   refine ⟨7 * m' + j, by omega, f', kv, .ref bl, ks, bs, x, smK ks x + (room - 2 - 2 * smK ks x) / 3, m', j, xmo hj1, rfl, hj6, t6.down (by omega), by omega, hxj, by omega, fun u3 d3 H7 f7 ru3 ht3 => ⟨(by walk_at "s"), fun t ht => ?_⟩⟩
   have st := Same.new ht (.tup [.str (S "if"), .ref u1, .ref u2, .ref u3])
   exact q _ (tIfD d1 d2 d3) _ ((((F3.trans f5).trans f6).trans f7).same st) ⟨t, _, rfl, ups, _, _, rfl, rfl, _, _, rfl, ((ru1.tups (xai t5.fd f6) _).tups (xai t6.fd f7) _).same st _, _, _, rfl, (ru2.tups (xai t6.fd f7) _).same st _, _, _, rfl, ru3.same st _, rfl⟩ (TmB.le (tb_if wf (TmB.le ht1 (by omega)) ht2 ht3) (by omega))
  refine hR5 _ _ (xaj fun R6 hR6 => ?_)
  refine ⟨_, rfl, rfl, _, rfl, iteKF (zDF fun z => absurd (V.int.inj z) (by omega)) (iteF ?_)⟩
  refine hR6 _ _ (xaj fun R7 hR7 => ?_)
  refine ⟨_, rfl, rfl, _, rfl, iteKF (zDF fun z => absurd (V.int.inj z) (by omega)) (iteF ?_)⟩
  refine hR7 _ _ ?_
  exact ⟨_, rfl, _, rfl, _, rfl, _, rfl, _, rfl, _, rfl, f', kv, .ref bl, ks, bs, x, room, m, j, rfl, hcm, hj6, t3, m8, hxj, hroom, fun a d H' fd ra ha => q a d H' (F3.trans fd) ra ha⟩
 refine ⟨_, rfl, rfl, _, rfl, iteKF (zDF fun z => e3 (V.int.inj z)) (iteF ?_)⟩
 refine hR5 _ _ (xaj fun R6 hR6 => ?_)
 by_cases e4 : fm = 4
 ·refine ⟨_, rfl, rfl, _, rfl, iteKT (zDT (by rw [e4])) ?_⟩
  refine ⟨_, rfl, _, _, rfl, rfl, _, rfl, ite2 (fun c2 => ?_) (fun c2 => ?_)⟩
  ·refine ⟨(by walk_at "s"), fun hd hhd => ?_⟩
   have s4 := Same.new hhd (.lst [])
   refine ⟨_, rfl, bl, rfl, ⟨_, SqL.of (s4 _ _ hbl3)⟩, ?_⟩
   refine xhf (xs := ub3) (fun i σ H' => ∃ (ha : Addr) (ws : List V) (o13 o14 o15 o16 : Option V), σ = [some (.ref f'), some kv, some (.ref bl), some (.str x), some (.int room), some (.int (m : Int)), some (.ref D), some (.int fm), some (.int (smK ks x)), none, none, none, some (.ref ha), o13, o14, o15, o16, none, none] /\ Same H3 H' /\ H' ha = some (.lst ws) /\ ha ≠ f' /\ (∀ w ∈ ws, HdAt H' ks bs x w) /\ ws.length <= 5 * i)
    ⟨hd, [], none, none, none, none, rfl, s4, ups, Ne.symm (neN h3 hhd), (fun _ h => nomatch h), Nat.zero_le _⟩ (fun i σ H' _ p => ?_) ?_ ?_
   ·obtain ⟨_, _, _, _, _, _, _, sm, _⟩ := p
    exact SqL.of (sm _ _ hbl3)
   ·rintro i vv σ H4 hvv ⟨ha, ws, o13, o14, o15, o16, rfl, sm, hws, haf, hall, hwl⟩
    obtain ⟨d', hd2, rd2⟩ := hub3.get hvv
    rw [zGM] at hd2
    obtain ⟨pr, hpr, rfl⟩ := zMS hd2
    obtain ⟨b, ws', rfl, hb, _, _, rfl, rfl, _, _, rfl, rfl, rfl⟩ := rd2
    have hpm := zMG hpr
    have hi' : i < ub3.length := (zES hvv).1
    refine ⟨b, _, rfl, SqT.of (sm _ _ hb), rfl, _, _, rfl, _, _, rfl, rfl, ?_⟩
    refine ⟨_, rfl, _, rfl, kv, ks, pr.2, rfl, (wf.ksAt (t3.kd.same sm _)).seq, fun t pv' H5 s5 ht rp => ?_⟩
    refine ⟨t, _, rfl, SqT.of ht, rfl, _, _, rfl, _, _, rfl, rfl, ?_⟩
    obtain ⟨ps, rps, h5, hrec, halt⟩ := xof wf (t3.kn pr hpm) rp
    obtain ⟨a, us, rfl, hpa, hus⟩ := rps
    have hl := hus.length
    rw [zLM] at hl
    refine ⟨_, rfl, _, rfl, a, rfl, ⟨_, SqT.of hpa⟩, ?_⟩
    refine xa7 (xs := us) (fun i ys H' => Same H5 H' /\ (∀ w ∈ ys, HdAt H' ks bs x w) /\ ys.length <= i) ⟨Same.refl _, (fun _ h => nomatch h), Nat.le_refl _⟩ (xat (by omega)) (fun i ys H' _ p => SqT.of (p.1 _ _ hpa)) ?_ ?_
    ·rintro i2 y ys H' hy hi2 hly ⟨sm2, hys, hyl⟩
     obtain ⟨d', hd2, rd2⟩ := hus.get hy
     rw [zGM] at hd2
     obtain ⟨pt, hpt, rfl⟩ := zMS hd2
     obtain ⟨b2, ws2, rfl, hb2, _, _, rfl, rfl, _, _, rfl, rfl, rfl⟩ := rd2
     refine ⟨b2, _, rfl, SqT.of (sm2 _ _ hb2), rfl, _, _, rfl, _, _, rfl, rfl, ext2 rfl rfl, ?_⟩
     refine ⟨_, rfl, rfl, _, rfl, ?_⟩
     by_cases hs : xci (kAt ks pr.2) = S "rec"
     ·refine iteKT (zDT (congrArg V.str hs)) ?_
      refine ⟨_, rfl, _, rfl, rfl, _, rfl, ?_⟩
      by_cases hpx : pt.2 = x
      ·refine iteKT (zDT (by rw [hpx])) ⟨_, rfl, _, rfl, (by walk_at "s"), fun t2 ht2 => nxtG hi2 hly ⟨sm2.trans (Same.new ht2 _), fun z hz => ?_, by rw [List.length_append, List.length_singleton]; omega⟩⟩
       rcases zMA hz with hz | hz
       ·exact (hys z hz).tups fun b us q => Same.new ht2 _ _ _ q
       ·obtain ⟨k, hk, hrc, hkp⟩ := hrec hs
        rw [zMO hz]
        exact ⟨t2, pr.1, pt.1, pr.2, k, rfl, ups, hpm, hk, hrc, by rw [hkp, <- hpx]; exact zMG hpt⟩
      ·exact iteKF (zDF fun z => hpx (V.str.inj z)) (nxtN hi2 hly ⟨sm2, hys, by omega⟩)
     ·exact iteKF (zDF fun z => hs (V.str.inj z)) (iteF (nxtN hi2 hly ⟨sm2, hys, by omega⟩))
    ·rintro ys H6 hly ⟨sm2, hys, hyl⟩ D2 hD2'
     have sD2 := Same.new hD2' (.lst ys)
     have s56 := s5.trans (sm2.trans sD2)
     refine ⟨ha, D2, _, _, rfl, rfl, s56 _ _ hws, ups, fits (by omega), fun l3 hl3 => ?_⟩
     have sl := Same.new hl3 (.lst (ws ++ ys))
     refine ⟨l3, ws ++ ys, _, _, _, _, rfl, sm.trans (s56.trans sl), ups, Ne.symm (neN ((sm.trans s56) _ _ h3) hl3), fun z hz => ?_, by rw [List.length_append]; omega⟩
     rcases zMA hz with hz | hz
     ·exact (hall z hz).tups fun b us q => (s56.trans sl) _ _ q
     ·exact (hys z hz).tups fun b us q => (sD2.trans sl) _ _ q
   ·rintro σ H4 ⟨ha, ws, o13, o14, o15, o16, rfl, sm, hws, haf, hall, hwl⟩
    have t4 := t3.same sm
    have F4 := F3.same sm
    refine ⟨_, rfl, ha, _, rfl, .inl (SqL.of hws), _, _, rfl, rfl, _, rfl, ite2 (fun c3 => ?_) (fun c3 => ?_)⟩
    ·have hwp := of_decide_eq_true c3
     refine ⟨_, rfl, _, rfl, _, rfl, ha, _, rfl, .inl (SqL.of hws), f', p3, q3, _, rfl, sm _ _ h3, by omega, by omega, fun r H6 r0 r1 f6 => ?_⟩
     obtain ⟨i, rfl⟩ : ∃ i : Nat, r = (i : Int) := ⟨r.toNat, by omega⟩
     have hi' : i < ws.length := by omega
     obtain ⟨b, z, g, y, k, eb, hb, hz, hk, hrc, hg⟩ := (hall ws[i] (List.getElem_mem hi')).tups (xai t4.fd f6)
     have hat : atI ws (i : Int) = some (.ref b) := xap (by rw [zGA hi', eb])
     refine ⟨ha, _, _, _, rfl, rfl, SqL.of (f6.1 _ _ hws haf), hat, b, _, rfl, SqT.of hb, rfl, _, _, rfl, _, _, rfl, rfl, ?_⟩
     refine ⟨_, rfl, (by walk_at "s"), fun t1 ht1 => ⟨_, rfl, (by walk_at "s"), fun t2 ht2 => ?_⟩⟩
     have y1 := Same.new ht1 (.tup [.str (S "box"), .str z])
     have y2 := Same.new ht2 (.tup [.str (S "get"), .ref t1, .str g])
     exact q _ (tGet (tBox z) g) _ ((F4.trans f6).same (y1.trans y2)) ⟨t2, _, rfl, ups, _, _, rfl, rfl, _, _, rfl, ⟨t1, _, rfl, y2 _ _ ups, _, _, rfl, rfl, _, _, rfl, rfl, rfl⟩, _, _, rfl, rfl, rfl⟩ (xsz (p := (g, x)) wf hk hrc hg (xhw hz))
    ·refine hR6 _ _ (xaj fun R7 hR7 => ?_)
     refine ⟨_, rfl, rfl, _, rfl, iteKF (zDF fun z => absurd (V.int.inj z) (by omega)) (iteF ?_)⟩
     refine hR7 _ _ ?_
     exact ⟨_, rfl, _, rfl, _, rfl, _, rfl, _, rfl, _, rfl, f', kv, .ref bl, ks, bs, x, room, m, j, rfl, hcm, hj6, t4, m8, hxj, hroom, fun a d H' fd ra ha => q a d H' (F4.trans fd) ra ha⟩
  ·refine hR6 _ _ (xaj fun R7 hR7 => ?_)
   refine ⟨_, rfl, rfl, _, rfl, iteKF (zDF fun z => absurd (V.int.inj z) (by omega)) (iteF ?_)⟩
   refine hR7 _ _ ?_
   exact ⟨_, rfl, _, rfl, _, rfl, _, rfl, _, rfl, _, rfl, f', kv, .ref bl, ks, bs, x, room, m, j, rfl, hcm, hj6, t3, m8, hxj, hroom, fun a d H' fd ra ha => q a d H' (F3.trans fd) ra ha⟩
 refine ⟨_, rfl, rfl, _, rfl, iteKF (zDF fun z => e4 (V.int.inj z)) (iteF ?_)⟩
 refine hR6 _ _ (xaj fun R7 hR7 => ?_)
 by_cases e5 : fm = 5
 ·refine ⟨_, rfl, rfl, _, rfl, iteKT (zDT (by rw [e5])) ?_⟩
  refine ⟨_, rfl, _, _, rfl, rfl, _, rfl, ite2 (fun c2 => ?_) (fun c2 => ?_)⟩
  ·have c2' : (0 : Int) < (m : Int) := of_decide_eq_true c2
   refine ⟨_, rfl, bl, rfl, ⟨_, SqL.of hbl3⟩, ?_⟩
   refine xcu (xs := ub3) (fun i ys H' => Same H3 H' /\ ∃ zs : List Str, ys = zs.map V.str /\ (∀ z ∈ zs, TgOk ks bs z) /\ zs.length <= i) ⟨Same.refl _, [], rfl, (fun _ h => nomatch h), Nat.le_refl _⟩ (xat (by omega)) (fun i ys H' _ p => SqL.of (p.1 _ _ hbl3)) ?_ ?_
   ·rintro i y ys H' hy hi2 hly ⟨sm, zs, rfl, hzs, hzl⟩
    obtain ⟨d', hd2, rd2⟩ := hub3.get hy
    rw [zGM] at hd2
    obtain ⟨pr, hpr, rfl⟩ := zMS hd2
    obtain ⟨b, ws', rfl, hb, _, _, rfl, rfl, _, _, rfl, rfl, rfl⟩ := rd2
    have hpm := zMG hpr
    refine ⟨b, _, rfl, SqT.of (sm _ _ hb), rfl, _, _, rfl, _, _, rfl, rfl, ext2 rfl rfl, ?_⟩
    refine ⟨_, rfl, _, rfl, kv, ks, pr.2, rfl, (wf.ksAt (t3.kd.same sm _)).seq, fun t pv' H5 s5 ht rp => ⟨t, _, _, _, rfl, rfl, SqT.of ht, rfl, rfl, _, rfl, ?_⟩⟩
    obtain ⟨ps, rps, h5, hrec, halt⟩ := xof wf (t3.kn pr hpm) rp
    by_cases hs : xci (kAt ks pr.2) = S "alt"
    ·refine iteKT (zDT (congrArg V.str hs)) ⟨_, rfl, nxtG hi2 hly ⟨sm.trans s5, zs ++ [pr.1], by rw [List.map_append]; rfl, fun z hz => ?_, by rw [List.length_append, List.length_singleton]; omega⟩⟩
     rcases zMA hz with hz | hz
     ·exact hzs z hz
     ·obtain ⟨k, hk, hrc, _⟩ := halt hs
      rw [zMO hz]
      exact ⟨pr.2, k, hpm, hk, hrc⟩
    ·exact iteKF (zDF fun z => hs (V.str.inj z)) (nxtN hi2 hly ⟨sm.trans s5, zs, rfl, hzs, by omega⟩)
   rintro ys H4 hly ⟨sm, tgs, rfl, htg, htl⟩ G hG
   have sG := Same.new hG (.lst (tgs.map V.str))
   have s4 := sm.trans sG
   have t4 := t3.same s4
   have F4 := F3.same s4
   have Gf : G ≠ f' := Ne.symm (neN (sm _ _ h3) hG)
   have gl : (tgs.map V.str).length = tgs.length := zLM _
   refine ⟨_, rfl, G, _, rfl, .inl (SqL.of ups), _, _, rfl, rfl, _, rfl, ite2 (fun c3 => ?_) (fun c3 => ?_)⟩
   ·have hgp := of_decide_eq_true c3
    rw [gl] at hgp
    refine ⟨_, rfl, _, rfl, _, rfl, G, _, rfl, .inl (SqL.of ups), f', p3, q3, _, rfl, s4 _ _ h3, by rw [gl]; omega, by rw [gl]; omega, fun r H6 r0 r1 f6 => ?_⟩
    rw [gl] at r1
    obtain ⟨i, rfl⟩ : ∃ i : Nat, r = (i : Int) := ⟨r.toNat, by omega⟩
    have hi' : i < tgs.length := by omega
    obtain ⟨y, k, hzy, hk, hrc⟩ := htg tgs[i] (List.getElem_mem hi')
    have hkm := List.mem_of_find?_eq_some hk
    have t6 := t4.fed f6
    have F6 := F4.trans f6
    have hbx6 := t6.bx
    obtain ⟨bl6, ub6, e6b, hbl6, hub6, blf6⟩ := hbx6
    cases e6b
    refine ⟨G, _, _, .str tgs[i], rfl, rfl, SqL.of (f6.1 _ _ ups Gf), xap (by rw [zGM, zGA hi']; rfl), ?_⟩
    refine ⟨_, rfl, _, rfl, bl, ub6, bKV bs, rfl, hbl6, xdy hub6, fun p hp => ?_⟩
    have sp := Same.new hp (.dK (xav [] (bKV bs)))
    have hdg := DGet.rd (H := upd H6 p (.dK (xav [] (bKV bs)))) (a := p) (kvs := xav [] (bKV bs)) (k := (Sum.inr tgs[i] : Key)) (Or.inl ups)
    rw [xk2 ti.nd hzy] at hdg
    refine ⟨_, rfl, p, .str y, rfl, hdg, ?_⟩
    have t7 := t6.same sp
    refine ⟨kv, ks, y, rfl, (wf.ksAt t7.kd).seq, fun t pv' H8 s8 ht rp => ⟨t, _, _, _, rfl, rfl, SqT.of ht, rfl, ?_⟩⟩
    have t8 := t7.same s8
    have F8 := F6.same (sp.trans s8)
    rw [hk] at rp
    have rp' := rp
    obtain ⟨a, us, rfl, hpa, hus⟩ := rp
    have hl := hus.length
    rw [zLM] at hl
    have h5 := wf.pts k hkm
    refine ⟨_, rfl, _, _, rfl, rfl, _, rfl, _, rfl, a, _, rfl, .inr (SqT.of hpa), _, _, rfl, rfl, .inl ⟨by omega, by omega⟩, _, _, rfl, rfl, _, rfl, ite2 (fun c4 => ?_) (fun c4 => ?_)⟩
    ·have c4' : smK ks x * (us.length : Int) <= room - 2 := of_decide_eq_true c4
     rw [hl] at c4'
     obtain ⟨m', rfl⟩ : ∃ m', m = m' + 1 := ⟨m - 1, by omega⟩
     refine ⟨_, rfl, (by walk_at "s"), fun t1 ht1 => ?_⟩
     have y1 := Same.new ht1 (.tup [.str (S "box"), .str tgs[i]])
     refine ⟨_, rfl, _, rfl, _, rfl, _, rfl, _, rfl, _, rfl, _, _, rfl, rfl, _, rfl, m', by omega, f', kv, .ref bl, .ref a, ks, bs, k.parts, x, room - 2, rfl, t8.same y1, by omega, rp'.same y1 _, wf.alt k hkm hrc, h5, wf.pnd k hkm, fun p hp => xft wf hkm hp, hxin, c4', fun u rs H9 f9 ru hlen hsub hnd hrs => ⟨(by walk_at "s"), fun t2 ht2 => ?_⟩⟩
     have y2 := Same.new ht2 (.tup [.str (S "case"), .ref t1, u])
     have hb9 := xai (t8.same y1).fd f9 _ _ ups
     exact q _ (xhx (tBox tgs[i]) rs) _ (((F8.same y1).trans f9).same y2) ⟨t2, _, rfl, ups, _, _, rfl, rfl, _, _, rfl, ⟨t1, _, rfl, y2 _ _ hb9, _, _, rfl, rfl, _, _, rfl, rfl, rfl⟩, _, _, rfl, ru.same y2 _, rfl⟩ (TmB.le (xrh wf hk hrc (xhw hzy) (by omega) hnd hlen hsub hrs) (by omega))
    ·refine hR7 _ _ ?_
     exact ⟨_, rfl, _, rfl, _, rfl, _, rfl, _, rfl, _, rfl, f', kv, .ref bl, ks, bs, x, room, m, j, rfl, hcm, hj6, t8, m8, hxj, hroom, fun a d H' fd ra ha => q a d H' (F8.trans fd) ra ha⟩
   ·refine hR7 _ _ ?_
    exact ⟨_, rfl, _, rfl, _, rfl, _, rfl, _, rfl, _, rfl, f', kv, .ref bl, ks, bs, x, room, m, j, rfl, hcm, hj6, t4, m8, hxj, hroom, fun a d H' fd ra ha => q a d H' (F4.trans fd) ra ha⟩
  ·refine hR7 _ _ ?_
   exact ⟨_, rfl, _, rfl, _, rfl, _, rfl, _, rfl, _, rfl, f', kv, .ref bl, ks, bs, x, room, m, j, rfl, hcm, hj6, t3, m8, hxj, hroom, fun a d H' fd ra ha => q a d H' (F3.trans fd) ra ha⟩
 refine ⟨_, rfl, rfl, _, rfl, iteKF (zDF fun z => e5 (V.int.inj z)) (iteF ?_)⟩
 refine hR7 _ _ ?_
 exact ⟨_, rfl, _, rfl, _, rfl, _, rfl, _, rfl, _, rfl, f', kv, .ref bl, ks, bs, x, room, m, j, rfl, hcm, hj6, t3, m8, hxj, hroom, fun a d H' fd ra ha => q a d H' (F3.trans fd) ra ha⟩
theorem xrf (T : Tx K mg) : ∀ c, DefIs P w K mg base (3 * c + 10) "_law_term" ["_law_feed_here", "_law_kinds_here", "_law_boxes", "_law_kind", "_law_room", "_law_deep"] (spTw c) := by
 intro c
 induction c using Nat.strongRecOn with
 | _ c ih =>
  have take : ∀ k, DefIs P w K mg base (k + 1) "_law_take" ["_law_feed_here", "_law_many"] xb9 := fun k => xcx T
  have sml : ∀ k, 8 <= k -> DefIs P w K mg base k "_law_small" ["_law_kinds_here", "_law_kind"] (spSm smK 6) := fun k hk => (xgw T 6).mono hk
  have tlt : DefIs P w K mg base (3 * c + 7) "_law_term" ["_law_feed_here", "_law_kinds_here", "_law_boxes", "_law_kind", "_law_room", "_law_deep"] (xpl c) := DefIs.anyP (Pr := fun c' => c' < c) (sps := spTw) T.dl_term fun c' h => (ih c' h).mono (by omega)
  exact xpy (n := 3 * c + 9) T (take _) (xn0 (n := 3 * c + 8) T (take _)) (sml _ (by omega)) (xa3 T) (tlt.mono (by omega)) (DefIs.anyP (Pr := fun m => 7 * m + 6 < c) (sps := xj1) T.dl_arms fun m hm => xp0 (n := 3 * c + 8) T hm (take _) (tlt.mono (by omega))) (xf6 (n := 3 * c + 8) T (xa3 T) (take _) (xeh T (take _)) (sml _ (by omega)) (tlt.mono (by omega)))
def xm8 : Sp := fun vs H Q _ => ∃ (f : Addr) (kv bv : V) (ks : List Kn) (bs : List (Str × Str)) (x : Str), vs = [.ref f, kv, bv, .str x] /\ TIn H f kv bv ks bs 3 /\ KIn ks 6 x /\ ∀ a d H', Fed f H H' -> RelD H' (.ref a) d -> TmB ks 21 bs d x -> Q (.ref a) H'
def spTC : Sp := fun vs H Q E => ∃ c, c <= 20 /\ spTw c vs H Q E
theorem xit (T : Tx K mg) (Dl_take : DefIs P w K mg base n "_law_take" ["_law_feed_here", "_law_many"] xb9) (Dl_small : DefIs P w K mg base n "_law_small" ["_law_kinds_here", "_law_kind"] (spSm smK 6)) (Dl_term : DefIs P w K mg base n "_law_term" ["_law_feed_here", "_law_kinds_here", "_law_boxes", "_law_kind", "_law_room", "_law_deep"] spTC) :
  DefIs P w K mg base (n + 1) "_law_new_term" ["_law_feed_here", "_law_kinds_here", "_law_boxes", "_law_kind"] xm8 := by
 refine DefIs.of T.dl_new_term xia ?_ ?_ <;> walk_at "i"
 ·obtain ⟨_, _, _, _, _, _, rfl, _⟩ := h
  rfl
 obtain ⟨f', kv, bv, ks, bs, x, rfl, ti, hxin, q⟩ := h
 refine ⟨_, (zpo (xae (pd Dl_term hr (pc (pv 0) (pc (pv 1) (pc (pv 2) (pc (pv 3) (pc (xam xbe (pd Dl_small hr (pc (pv 1) (pc (pv 3) pN zsn) zsn)) (pd Dl_take hr (pc (pv 0) (pc pI pN zso) zsn))) (pc pI pN zso) xax) zsn) zsn) zsn) zsn)))), ?_⟩
 refine ⟨_, rfl, _, rfl, _, rfl, _, rfl, _, rfl, _, rfl, kv, ks, x, rfl, ti.kd, ti.wf, hxin, fun H1 s1 => ?_⟩
 have t1 := ti.same s1
 obtain ⟨p0, q0, hf⟩ := ti.fd
 obtain ⟨p1, q1, h1⟩ := t1.fd
 refine ⟨_, rfl, f', p1, q1, _, rfl, h1, by decide, by decide, fun r H2 r0 r1 f2 => ?_⟩
 refine ⟨_, _, rfl, rfl, 20, Nat.le_refl _, f', kv, bv, ks, bs, x, _, 2, 6, rfl, rfl, by decide, t1.fed f2, by decide, hxin, by omega, fun a d H' fd ra ha => q a d H' ((((Fed.refl hf).same s1).trans f2).trans fd) ra ha⟩
theorem xkg (T : Tx K mg) : DefIs P w K mg base 80 "_law_new_term" ["_law_feed_here", "_law_kinds_here", "_law_boxes", "_law_kind"] xm8 :=
 xit (n := 79) T (xcx T) ((xgw T 6).mono (by omega)) (DefIs.anyP (Pr := fun c => c <= 20) (sps := spTw) T.dl_term fun c hc => (xrf T c).mono (by omega))
end
end K44
end
section
local macro_rules | `(tactic| walk_at "rd1") => `(tactic| first
 | refine ⟨_, rfl, ?_⟩
 | refine ⟨_, _, rfl, rfl, ?_⟩
 | refine ⟨_, _, _, _, rfl, rfl, (by assumption), (by first | rfl | assumption), ?_⟩
 | refine ⟨rfl, ?_⟩
 | refine M.iteKF (by walk_at "k") ?_
 | refine M.iteKT (by walk_at "k") ?_)
local macro_rules | `(tactic| walk_at "rd") => `(tactic| repeat walk_at "rd1")
namespace K44
open PySem L2 M
seal L2.PE L2.PA L2.PS L2.PSs L2.PT L2.PW L2.PI L2.PG L2.PJ L2.PTs
abbrev RW := List Kn -> En -> D -> D -> Prop
def xc4 (R : RW) (m : Nat) : Sp := fun vs H Q _ => ∃ kv tv p ks d env val, vs = [kv, tv, .ref p] /\ KsAt H kv ks /\ RelD H tv d /\ EnAt H p m env /\ R ks env d val /\ ∀ u H', Same H H' -> RelD H' u val -> Q u H'
def xh3 : Sp := fun vs H Q _ => ∃ s x y, vs = [.str s, .int x, .int y] /\ Nm x /\ Nm y /\ Q (.int (opV s x y)) H
section
variable {P : Program} {w : World} {K : PySem.W.Frag} {mg : Str -> Option Value} {base : Heap} {n m : Nat}
theorem xkb (T : Tx K mg) : DefIs P w K mg base (n + 1) "op_worth" ["sign", "a", "b"] xh3 := by
 refine DefIs.of T.d_op_worth xj3 ?_ ?_ <;> walk_at "i"
 ·obtain ⟨_, _, _, rfl, _⟩ := h
  rfl
 obtain ⟨s, x, y, rfl, hx, hy, q⟩ := h
 refine ⟨_, (zpn (xao (pR xas (pv 0) pS (nM _)) (zpo (xae (xam xbw (xam xbe (pv 1) (pv 2)) (xg1 T.g_WIDE)))) pQ)
   (zpn (xao (pR xas (pv 0) pS (nM _)) (zpo (xae (xam xbw (xam xb0 (pv 1) (pv 2)) (xg1 T.g_WIDE)))) pQ)
   (zpn (xao (pR xas (pv 0) pS (nM _)) (zpo (xae (xam xbw (xam xcs (pv 1) (pv 2)) (xg1 T.g_WIDE)))) pQ)
   (zpn (xao (pR xas (pv 0) pS (nM _)) (zpo (xae (xg0 (pR xfm (pv 1) (pv 2) (nM _)) pI pI))) pQ)
   (zpo (xae (xg0 (pR xas (pv 1) (pv 2) (nM _)) pI pI))))))), ?_⟩
 have pos : (0 : Int) < 4294967296 := by decide
 unfold opV at q
 refine ⟨_, rfl, rfl, _, rfl, ite2 (fun c => ?_) (fun c => ?_)⟩
 ·rw [if_pos (show s = S "+" from V.str.inj (of_decide_eq_true c))] at q
  exact ⟨_, rfl, _, rfl, _, _, rfl, rfl, _, _, rfl, rfl, pos, q⟩
 rw [if_neg (show ¬ s = S "+" from fun z => c (zDT (congrArg V.str z)))] at q
 refine ⟨_, rfl, rfl, _, rfl, ite2 (fun c => ?_) (fun c => ?_)⟩
 ·rw [if_pos (show s = S "-" from V.str.inj (of_decide_eq_true c))] at q
  exact ⟨_, rfl, _, rfl, _, _, rfl, rfl, _, _, rfl, rfl, pos, q⟩
 rw [if_neg (show ¬ s = S "-" from fun z => c (zDT (congrArg V.str z)))] at q
 refine ⟨_, rfl, rfl, _, rfl, ite2 (fun c => ?_) (fun c => ?_)⟩
 ·rw [if_pos (show s = S "*" from V.str.inj (of_decide_eq_true c))] at q
  obtain ⟨x0, x1⟩ := hx
  exact ⟨_, rfl, _, rfl, _, _, rfl, rfl, .inl ⟨by omega, by omega⟩, _, _, rfl, rfl, pos, q⟩
 rw [if_neg (show ¬ s = S "*" from fun z => c (zDT (congrArg V.str z)))] at q
 refine ⟨_, rfl, rfl, _, rfl, ite2 (fun c => ?_) (fun c => ?_)⟩
 ·rw [if_pos (show s = S "<" from V.str.inj (of_decide_eq_true c))] at q
  refine ⟨_, rfl, _, rfl, _, _, rfl, rfl, _, rfl, ite2 (fun c2 => ?_) (fun c2 => ?_)⟩
  ·rw [if_pos (of_decide_eq_true c2)] at q
   exact q
  ·rw [if_neg (fun z => c2 (zDT z))] at q
   exact q
 rw [if_neg (show ¬ s = S "<" from fun z => c (zDT (congrArg V.str z)))] at q
 refine ⟨_, rfl, _, rfl, rfl, _, rfl, ite2 (fun c2 => ?_) (fun c2 => ?_)⟩
 ·rw [if_pos (V.int.inj (of_decide_eq_true c2))] at q
  exact q
 ·rw [if_neg (fun z => c2 (zDT (congrArg V.int z)))] at q
  exact q
def xfc (m : Nat) : Sp := fun vs H Q _ => ∃ p x v d env, vs = [.ref p, .str x, v] /\ EnAt H p m env /\ RelD H v d /\ m <= 1000 /\ ∀ p' H', Same H H' -> EnAt H' p' (m + 1) (env.put x d) -> Q (.ref p') H'
theorem xfo (T : Tx K mg) : DefIs P w K mg base (n + 1) "with_box" ["boxes", "x", "thing"] (xfc m) := by
 refine DefIs.of T.d_with_box sc_with_box ?_ ?_ <;> walk_at "i"
 ·obtain ⟨_, _, _, _, _, rfl, _⟩ := h
  rfl
 obtain ⟨p, x, v, d, env, rfl, ⟨kvs, hp, hl, he⟩, hv, hm, q⟩ := h
 have nd := sc_with_box.nd
 have hu := xc2 hr
 refine ⟨_, (zpn (xah (i := 3) nd rfl (by walk_at "o") (xar xgm rfl T.z_dict PyProof.Rows.boot_dict (pc (pv 0) pN zsn)))
   (zpn (xj7 hu (pv 3) (pv 1) (pv 2) rfl)
   (zpo (xae (pv 3))))), ?_⟩
 refine ⟨_, rfl, p, kvs, rfl, hp, fun c hc => ?_⟩
 have s1 := Same.new hc (.dK kvs)
 refine ⟨_, rfl, _, rfl, _, rfl, c, _, rfl, DPut.k (k := Sum.inr x) ups (xat (by omega)), _, rfl, ?_⟩
 have s2 := Same.new2 hc (.dK kvs) (.dK (putK kvs (Sum.inr x) v))
 exact q c _ s2 (EnAt.put hp hl he s2 (hv.same s2 _) ups)
def xne : Sp := fun vs H Q _ => ∃ kv vv ks k kn ws f i d, vs = [kv, vv, .str f] /\ KsAt H kv ks /\ RelD H vv (.tup [.str k, .tup ws]) /\ kAt ks k = some kn /\ (kn.parts.map (·.1)).findIdx? (fun z => decide (z = f)) = some i /\ ws[i]? = some d /\ ∀ u H', Same H H' -> RelD H' u d -> Q u H'
theorem xp2 (T : Tx K mg) (D_parts_of : DefIs P w K mg base n "parts_of" ["kinds", "K"] xbk) : DefIs P w K mg base (n + 1) "field" ["kinds", "value", "f"] xne := by
 refine DefIs.of T.d_field sc_field ?_ ?_ <;> walk_at "i"
 ·obtain ⟨_, _, _, _, _, _, _, _, _, rfl, _⟩ := h
  rfl
 obtain ⟨kv, vv, ks, k, kn, ws, f', i, d, rfl, hk, hv, hkn, hi, hw, q⟩ := h
 have nd := sc_field.nd
 refine ⟨_, (zpn (xa9 (i := 3) ["part"] [none] rfl (by kernel_rfl) nd rfl (by walk_at "o") (xa4 (pd D_parts_of hr (pc (pv 0) (pc (xag xaf (pv 1) pI (fun _ _ => rfl)) pN ss) zsn))) (fun _ _ _ _ => (xaa (i := 0) (by show List.Nodup (["part"] : List Str); decide +kernel) rfl (Or.inl rfl))) (fun _ _ _ _ => xa8) (fun _ _ _ _ => (xag (xbt (K := K) rfl) (pv 0) pI (fun _ _ => rfl))))
   (zpo (xae (xag xaf (xag xaf (pv 1) pI (fun _ _ => rfl)) (xev PySem.F.plainAttrs_list PySem.F.slot_list_index PySem.F.type_list_index xp6 (pv 3) (pc (pv 2) pN zsn)) (fun _ _ => rfl))))), ?_⟩
 obtain ⟨l, us, rfl, ha, _, _, rfl, rfl, vw, _, rfl, rw', rfl⟩ := hv
 obtain ⟨c, zs, rfl, hc, hzs⟩ := rw'
 refine ⟨_, rfl, _, rfl, l, _, _, _, rfl, rfl, SqT.of ha, rfl, _, ks, k, rfl, hk, fun u H1 s1 r1 => ?_⟩
 rw [hkn] at r1
 obtain ⟨e, ps, rfl, he, hps⟩ := r1
 have hl := hps.length
 rw [zLM] at hl
 have hkm : kn.parts.length <= 100 := hk.2.2 kn (List.mem_of_find?_eq_some hkn)
 refine ⟨e, rfl, ⟨_, SqT.of he⟩, ?_⟩
 refine xcp (j := 0) (xs := ps) (fun i ys H' => H' = H1 /\ ys = ((kn.parts.take i).map (·.1)).map V.str) (by rfl) ⟨rfl, rfl⟩ (xat (by omega)) (fun i ys H' _ p => by obtain ⟨rfl, _⟩ := p; exact SqT.of he) ?_ ?_
 ·rintro i x ys H' hx hly ⟨rfl, rfl⟩
  obtain ⟨d', hd', rd'⟩ := hps.get hx
  rw [zGM] at hd'
  obtain ⟨pt, hpt, rfl⟩ := zMS hd'
  obtain ⟨b, ws', rfl, hb, _, _, rfl, rfl, _, _, rfl, rfl, rfl⟩ := rd'
  have hi : i < ps.length := (zES hx).1
  refine ⟨_, rfl, b, _, _, _, rfl, rfl, SqT.of hb, rfl, nxt hi hly ⟨rfl, ?_⟩⟩
  rw [List.take_add_one, hpt]
  simp
 ·rintro ys H' hly ⟨rfl, rfl⟩ D hD
  rw [zTL (by omega)]
  rw [zTL (by omega)] at hly
  have sD := Same.new hD (.lst ((kn.parts.map (·.1)).map V.str))
  have sHD := s1.trans sD
  have hwi : ∃ v, zs[i]? = some v /\ RelD H v d := by
   have hil : i < ws.length := (zES hw).1
   have hzl := hzs.length
   obtain ⟨d', hd', rd'⟩ := hzs.get (i := i) (v := zs[i]) (zGA (by omega))
   rw [hw] at hd'
   cases hd'
   exact ⟨zs[i], zGA (by omega), rd'⟩
  obtain ⟨v, hv, rv⟩ := hwi
  refine ⟨_, rfl, l, _, _, _, rfl, rfl, SqT.of (sHD _ _ ha), rfl, ?_⟩
  refine ⟨_, rfl, .inl ⟨rfl, _, SqL.of ups⟩, _, rfl, D, _, f', i, rfl, rfl, ups, hi, ?_⟩
  exact ⟨c, _, _, v, rfl, rfl, SqT.of (sHD _ _ hc), xap hv, q _ _ sHD (rv.same sHD _)⟩
def xff (R : RW) (m : Nat) : Sp := fun vs H Q _ => ∃ kv tv p ks env a rs k t x y e val, vs = [kv, tv, .ref p] /\ KsAt H kv ks /\ RelD H tv (xhx a rs) /\ EnAt H p m env /\ rs.length <= 1000 /\ R ks env a (.tup [.str k, .str t, x]) /\ rs.find? (fun r => decide (r.1 = t)) = some (t, y, e) /\ R ks (env.put y x) e val ∧
 ∀ u H', Same H H' -> RelD H' u val -> Q u H'
theorem xg8 (T : Tx K mg) (R : RW) (hm : m <= 1000) (D_worth : DefIs P w K mg base n "worth" ["kinds", "term", "boxes"] (xc4 R (m + 1))) (D_with_box : DefIs P w K mg base n "with_box" ["boxes", "x", "thing"] (xfc m)) : DefIs P w K mg base (n + 1) "case_worth" ["kinds", "term", "boxes"] (xff R m) := by
 refine DefIs.of T.d_case_worth sc_case_worth ?_ ?_ <;> walk_at "i"
 ·obtain ⟨_, _, _, _, _, _, _, _, _, _, _, _, _, rfl, _⟩ := h
  rfl
 obtain ⟨kv, tv, p, ks, env, a, rs, k, t, x, y, e, val, rfl, hk, hv, he, hl, h1, hf, h2, q⟩ := h
 have nd := sc_case_worth.nd
 refine ⟨_, (zpn (xah (i := 3) nd rfl (by walk_at "o") (pd D_worth hr (pc (pv 0) (pc (xag xaf (pv 1) pI (fun _ _ => rfl)) (pc (pv 2) pN zsn) ss) zsn)))
   (zpn (xah (i := 4) nd rfl (by walk_at "o") (xag iL (xba ["each", "value"] [none, some 3] rfl (by kernel_rfl) (xa4 (xag xaf (pv 1) pI (fun _ _ => rfl))) (fun _ _ _ _ => (xaa (i := 0) (by show List.Nodup (["each", "value"] : List Str); decide +kernel) rfl (Or.inl rfl))) (fun _ _ _ _ => (xcd (pR xas (xag (xbt (K := K) rfl) (pv 0) pI (fun _ _ => rfl)) (xag (xbt (K := K) rfl) (pv 1) pI (fun _ _ => rfl)) (nM _)))) (fun _ _ _ _ => (pv 0))) pI (fun _ _ => rfl)))
   (zpo (xae (pd D_worth hr (pc (pv 0) (pc (xag xaf (pv 4) pI (fun _ _ => rfl)) (pc (pd D_with_box hr (pc (pv 2) (pc (xag xaf (pv 4) pI (fun _ _ => rfl)) (pc (xag xaf (pv 3) pI (fun _ _ => rfl)) pN ss) ss) zsn)) pN zsc) ss) zsn)))))), ?_⟩
 obtain ⟨b, us, rfl, hb, _, _, rfl, rfl, va, _, rfl, ra, vr, _, rfl, rr, rfl⟩ := hv
 obtain ⟨c, ws, rfl, hc, hws⟩ := rr
 refine ⟨_, rfl, _, rfl, b, _, _, _, rfl, rfl, SqT.of hb, rfl, _, rfl, ?_⟩
 refine ⟨_, _, _, ks, _, env, _, rfl, hk, ra, he.mono (by omega), h1, fun u H1 s1 r1 => ?_⟩
 obtain ⟨g, zs, rfl, hg, _, _, rfl, rfl, _, _, rfl, rfl, vx, _, rfl, rx, rfl⟩ := r1
 refine ⟨_, rfl, b, _, _, _, rfl, rfl, SqT.of (s1 _ _ hb), rfl, c, rfl, ⟨_, SqT.of (s1 _ _ hc)⟩, ?_⟩
 have hln := hws.length
 rw [zLM] at hln
 refine xa7 (xs := ws) (fun i ys H' => H' = H1 /\ ∃ ds : List (Str × Str × D), ds = (rs.take i).filter (fun r => decide (r.1 = t)) /\ RelDs H1 ys (ds.map dArm)) ⟨rfl, [], rfl, rfl⟩ (xat (by omega)) (fun i ys H' _ p => by obtain ⟨rfl, _⟩ := p; exact SqT.of (s1 _ _ hc)) ?_ ?_
 ·rintro i z ys H' hz hi hly ⟨rfl, ds, rfl, hds⟩
  obtain ⟨d, hd, rd⟩ := (hws.same s1 _).get hz
  rw [zGM] at hd
  obtain ⟨r, hr', rfl⟩ := zMS hd
  have rd' := rd
  obtain ⟨l, zs, rfl, hl', _, _, rfl, rfl, _, _, rfl, rfl, _, _, rfl, re, rfl⟩ := rd
  refine ⟨xds rfl, ?_⟩
  refine ⟨_, rfl, l, _, _, _, rfl, rfl, SqT.of hl', rfl, _, rfl, g, _, _, _, rfl, rfl, SqT.of hg, rfl, rfl, _, rfl, ite2 (fun cc => ?_) (fun cc => ?_)⟩
  ·have ee : r.1 = t := V.str.inj (of_decide_eq_true cc)
   refine ⟨_, rfl, nxtG hi hly ⟨rfl, _, rfl, ?_⟩⟩
   rw [List.take_add_one, hr', List.filter_append, List.map_append]
   refine hds.append ?_
   simp only [Option.toList, List.filter_cons, zDT ee, if_true, List.filter_nil, List.map_cons, List.map_nil]
   exact ⟨_, [], rfl, rd', rfl⟩
  ·have ee : ¬ r.1 = t := fun z => cc (zDT (congrArg V.str z))
   refine nxtN hi hly ⟨rfl, _, rfl, ?_⟩
   rw [List.take_add_one, hr', List.filter_append, List.map_append]
   simp only [Option.toList, List.filter_cons, zDF ee, Bool.false_eq_true, if_false, List.filter_nil, List.map_nil, List.append_nil]
   exact hds
 ·rintro ys H' hly ⟨rfl, ds, rfl, hds⟩ D hD
  rw [zTL (by omega)] at hds
  have hh : (rs.filter (fun r => decide (r.1 = t))).head? = some (t, y, e) := by rw [List.head?_filter, hf]
  obtain ⟨rest, hrest⟩ : ∃ rest, rs.filter (fun r => decide (r.1 = t)) = (t, y, e) :: rest := by
   cases hq : rs.filter (fun r => decide (r.1 = t)) with
   | nil => rw [hq] at hh; cases hh
   | cons z zs => rw [hq] at hh; exact ⟨zs, by rw [Option.some.inj hh]⟩
  rw [hrest] at hds
  obtain ⟨va', rest', rfl, r0, _⟩ := hds
  have sD := Same.new hD (.lst (va' :: rest'))
  refine ⟨D, _, 0, va', rfl, rfl, SqL.of ups, xap (j := 0) rfl, ?_⟩
  obtain ⟨l, zs, rfl, hl', _, _, rfl, rfl, _, _, rfl, rfl, ve, _, rfl, re, rfl⟩ := r0
  have sHD := s1.trans sD
  have hSl : SqT K (upd H' D (.lst (.ref l :: rest'))) l [.str t, .str y, ve] := SqT.of (sD _ _ hl')
  refine ⟨_, rfl, _, rfl, l, _, _, _, rfl, rfl, hSl, rfl, _, rfl, _, rfl, l, _, _, _, rfl, rfl, hSl, rfl, _, rfl, g, _, _, _, rfl, rfl, SqT.of (sD _ _ hg), rfl, ?_⟩
  refine ⟨p, y, vx, x, env, rfl, he.same sHD, rx.same sD _, hm, fun p' H2 s2 he2 => ?_⟩
  exact ⟨_, _, _, ks, _, _, _, rfl, hk.same (sHD.trans s2), re.same (sD.trans s2) _, he2, h2, fun u H3 s3 r3 => q u H3 (sHD.trans (s2.trans s3)) r3⟩
theorem xp1 (T : Tx K mg) (R : RW) (D_worth : DefIs P w K mg base n "worth" ["kinds", "term", "boxes"] (xc4 R m)) (D_op_worth : DefIs P w K mg base n "op_worth" ["sign", "a", "b"] xh3)
  (D_field : DefIs P w K mg base n "field" ["kinds", "value", "f"] xne) (D_case_worth : DefIs P w K mg base n "case_worth" ["kinds", "term", "boxes"] (xff R m)) :
  DefIs P w K mg base (n + 1) "worth" ["kinds", "term", "boxes"] (xc4 (fun ks env d v => xf4 env d v \/ NodeEv ks (R ks) env d v) m) := by
 refine DefIs.of T.d_worth sc_worth ?_ ?_ <;> walk_at "i"
 ·obtain ⟨_, _, _, _, _, _, _, rfl, _⟩ := h
  rfl
 obtain ⟨kv, tv, p, ks, d, env, val, rfl, hk, hv, he, hR, q⟩ := h
 have nd := sc_worth.nd
 have hu := xc2 hr
 refine ⟨_, (zpn (xah (i := 3) nd rfl (by walk_at "o") (xag xaf (pv 1) pI (fun _ _ => rfl)))
   (zpn (xao (pR xas (pv 3) pS (nM _)) (zpo (xae (xag xaf (pv 1) pI (fun _ _ => rfl)))) pQ)
   (zpn (xao (pR xas (pv 3) pS (nM _)) (zpo (xae (xb4 hu (pv 2) (xag xaf (pv 1) pI (fun _ _ => rfl)) (fun _ _ => rfl)))) pQ)
   (zpn (xao (pR xas (pv 3) pS (nM _)) (zpo (xae (pd D_op_worth hr (pc (xag xaf (pv 1) pI (fun _ _ => rfl)) (pc (pd D_worth hr (pc (pv 0) (pc (xag xaf (pv 1) pI (fun _ _ => rfl)) (pc (pv 2) pN zsn) ss) zsn)) (pc (pd D_worth hr (pc (pv 0) (pc (xag xaf (pv 1) pI (fun _ _ => rfl)) (pc (pv 2) pN zsn) ss) zsn)) pN zsc) zsc) ss)))) pQ)
   (zpn (xao (pR xas (pv 3) pS (nM _)) (zpo (xae (xan (pc (xag xaf (pv 1) pI (fun _ _ => rfl)) (pc (xar xau rfl T.z_tuple PyProof.Rows.boot_tuple (pc (xba ["inner", "kinds", "boxes"] [none, some 0, some 2] rfl (by kernel_rfl) (xa4 (xag xaf (pv 1) pI (fun _ _ => rfl))) (fun _ _ _ _ => (xaa (i := 0) (by show List.Nodup (["inner", "kinds", "boxes"] : List Str); decide +kernel) rfl (Or.inl rfl))) (fun _ _ _ _ => xa8) (fun _ _ _ _ => (pd D_worth hr (pc (pv 1) (pc (pv 0) (pc (pv 2) pN zsn) zsn) zsn)))) pN xbj)) pN zsc) ss)))) pQ)
   (zpn (xao (pR xas (pv 3) pS (nM _)) (zpo (xae (pd D_field hr (pc (pv 0) (pc (pd D_worth hr (pc (pv 0) (pc (xag xaf (pv 1) pI (fun _ _ => rfl)) (pc (pv 2) pN zsn) ss) zsn)) (pc (xag xaf (pv 1) pI (fun _ _ => rfl)) pN ss) zsc) zsn)))) pQ)
   (zpn (xao (pR xas (pv 3) pS (nM _)) (zpo (xae (xan (pc (xag xaf (pv 1) pI (fun _ _ => rfl)) (pc (xag xaf (pv 1) pI (fun _ _ => rfl)) (pc (pd D_worth hr (pc (pv 0) (pc (xag xaf (pv 1) pI (fun _ _ => rfl)) (pc (pv 2) pN zsn) ss) zsn)) pN zsc) ss) ss)))) pQ)
   (zpn (xao (pR xas (pv 3) pS (nM _)) (zpo (xae (pd D_case_worth hr (pc (pv 0) (pc (pv 1) (pc (pv 2) pN zsn) zsn) zsn)))) pQ)
   (zpn (xah (i := 4) nd rfl (by walk_at "o") (xg0 (pR xas (pd D_worth hr (pc (pv 0) (pc (xag xaf (pv 1) pI (fun _ _ => rfl)) (pc (pv 2) pN zsn) ss) zsn)) pI (nM _)) (xag xaf (pv 1) pI (fun _ _ => rfl)) (xag xaf (pv 1) pI (fun _ _ => rfl))))
   (zpo (xae (pd D_worth hr (pc (pv 0) (pc (pv 4) (pc (pv 2) pN zsn) zsn) zsn))))))))))))), ?_⟩
 rcases hR with (⟨i, rfl, rfl⟩ | ⟨x, hx, rfl⟩) | ⟨sg, a, b, x, y, h1, h2, nx, ny, rfl, rfl⟩ | ⟨k, es, ws, hl, h1, rfl, rfl⟩ | ⟨a, k, ws, f', kn, i, h1, hk1, hi, hw, rfl⟩ | ⟨k, t, a, x, h1, rfl, rfl⟩ | ⟨a, rs, k, t, x, y, e, hl, h1, hf, h2, rfl⟩ | ⟨a, b, c, x, h1, h2, rfl⟩
 ·obtain ⟨a, us, rfl, ha, _, _, rfl, rfl, _, _, rfl, rfl, rfl⟩ := hv
  have hS : SqT K H a [.str (S "num"), .int i] := SqT.of ha
  walk_at "rd"
  exact q _ _ (Same.refl _) rfl
 ·obtain ⟨a, us, rfl, ha, _, _, rfl, rfl, _, _, rfl, rfl, rfl⟩ := hv
  have hS : SqT K H a [.str (S "box"), .str x] := SqT.of ha
  obtain ⟨kvs, hp, hl, hh⟩ := he
  obtain ⟨v, hv, rv⟩ := (hh x).2 _ hx
  walk_at "rd"
  exact ⟨p, v, rfl, hv ▸ DGet.k (k := Sum.inr x) hp, q _ _ (Same.refl _) rv⟩
 ·obtain ⟨l, us, rfl, ha, _, _, rfl, rfl, _, _, rfl, rfl, va, _, rfl, ra, vb, _, rfl, rb, rfl⟩ := hv
  have hS : SqT K H l [.str (S "op"), .str sg, va, vb] := SqT.of ha
  walk_at "rd"
  refine ⟨_, _, _, ks, _, env, _, rfl, hk, ra, he, h1, fun u H1 s1 r1 => ?_⟩
  obtain rfl : u = .int x := r1
  have hS1 : SqT K H1 l [.str (S "op"), .str sg, va, vb] := SqT.of (s1 _ _ ha)
  refine ⟨_, rfl, _, rfl, l, _, _, _, rfl, rfl, hS1, rfl, _, rfl, ?_⟩
  refine ⟨_, _, _, ks, _, env, _, rfl, hk.same s1, rb.same s1 _, he.same s1, h2, fun u H2 s2 r2 => ?_⟩
  obtain rfl : u = .int y := r2
  exact ⟨sg, x, y, rfl, nx, ny, q _ _ (s1.trans s2) rfl⟩
 ·obtain ⟨l, us, rfl, ha, _, _, rfl, rfl, _, _, rfl, rfl, va, _, rfl, ra, rfl⟩ := hv
  obtain ⟨c, vs', rfl, hc, hvs⟩ := ra
  have hS : SqT K H l [.str (S "rec"), .str k, .ref c] := SqT.of ha
  walk_at "rd"
  refine ⟨⟨_, SqT.of hc⟩, ?_⟩
  have l1 := hvs.length
  have l2 := h1.length
  refine xcp (j := 0) (xs := vs') (fun i ys H' => Same H H' /\ RelDs H' ys (ws.take i)) (by rfl) ⟨Same.refl _, rfl⟩ (xat (by omega)) (fun i ys H' _ p => SqT.of (p.1 _ _ hc)) ?_ ?_
  ·rintro i x ys H' hx hly ⟨sm, hys⟩
   obtain ⟨d', hd', rd'⟩ := hvs.get hx
   obtain ⟨v', hv', rv'⟩ := h1.get hd'
   have hi : i < vs'.length := (zES hx).1
   refine ⟨_, rfl, _, rfl, _, rfl, _, _, _, ks, _, env, _, rfl, hk.same sm, rd'.same sm _, he.same sm, rv', fun u H2 s2 r2 => nxt hi hly ⟨sm.trans s2, ?_⟩⟩
   rw [List.take_add_one, hv']
   exact (hys.same s2 _).append ⟨u, [], rfl, r2, rfl⟩
  ·rintro ys H' hly ⟨sm, hys⟩ D hD
   rw [zTL (by omega)] at hys
   refine ⟨D, ys, rfl, .inl ⟨SqL.of ups, fun l' hl' => ?_⟩⟩
   have s1 := Same.new hD (.lst ys)
   have s2 := Same.new hl' (.tup ys)
   refine ⟨(by walk_at "s"), fun t ht => ?_⟩
   have s3 := Same.new ht (.tup [.str k, .ref l'])
   exact q _ _ (sm.trans (s1.trans (s2.trans s3))) ⟨t, _, rfl, ups, _, _, rfl, rfl, _, _, rfl, ⟨l', ys, rfl, s3 _ _ ups, hys.same (s1.trans (s2.trans s3)) _⟩, rfl⟩
 ·obtain ⟨l, us, rfl, ha, _, _, rfl, rfl, va, _, rfl, ra, _, _, rfl, rfl, rfl⟩ := hv
  have hS : SqT K H l [.str (S "get"), va, .str f'] := SqT.of ha
  walk_at "rd"
  refine ⟨_, _, _, ks, _, env, _, rfl, hk, ra, he, h1, fun u H1 s1 r1 => ?_⟩
  have hS1 : SqT K H1 l [.str (S "get"), va, .str f'] := SqT.of (s1 _ _ ha)
  refine ⟨_, rfl, l, _, _, _, rfl, rfl, hS1, rfl, ?_⟩
  exact ⟨_, _, ks, k, kn, ws, f', i, val, rfl, hk.same s1, r1, hk1, hi, hw, fun u H2 s2 r2 => q _ _ (s1.trans s2) r2⟩
 ·obtain ⟨l, us, rfl, ha, _, _, rfl, rfl, _, _, rfl, rfl, _, _, rfl, rfl, va, _, rfl, ra, rfl⟩ := hv
  have hS : SqT K H l [.str (S "tag"), .str k, .str t, va] := SqT.of ha
  walk_at "rd"
  refine ⟨_, _, _, ks, _, env, _, rfl, hk, ra, he, h1, fun u H1 s1 r1 => ?_⟩
  refine ⟨(by walk_at "s"), fun c hc => ?_⟩
  have s2 := Same.new hc (.tup [.str k, .str t, u])
  exact q _ _ (s1.trans s2) ⟨c, _, rfl, ups, _, _, rfl, rfl, _, _, rfl, rfl, _, _, rfl, r1.same s2 _, rfl⟩
 ·have hv' := hv
  obtain ⟨l, us, rfl, ha, _, _, rfl, rfl, va, _, rfl, ra, vr, _, rfl, rr, rfl⟩ := hv
  have hS : SqT K H l [.str (S "case"), va, vr] := SqT.of ha
  walk_at "rd"
  exact ⟨_, _, p, ks, env, a, rs, k, t, x, y, e, val, rfl, hk, hv', he, hl, h1, hf, h2, q⟩
 ·obtain ⟨l, us, rfl, ha, _, _, rfl, rfl, va, _, rfl, ra, vb, _, rfl, rb, vc, _, rfl, rc, rfl⟩ := hv
  have hS : SqT K H l [.str (S "if"), va, vb, vc] := SqT.of ha
  walk_at "rd"
  refine ⟨_, _, _, ks, _, env, _, rfl, hk, ra, he, h1, fun u H1 s1 r1 => ?_⟩
  obtain rfl : u = .int x := r1
  have hS1 : SqT K H1 l [.str (S "if"), va, vb, vc] := SqT.of (s1 _ _ ha)
  refine ⟨rfl, _, rfl, ite2 (fun c' => ?_) (fun c' => ?_)⟩
  ·have e : x = 0 := V.int.inj (of_decide_eq_true c')
   rw [if_pos e] at h2
   refine ⟨_, rfl, l, _, _, _, rfl, rfl, hS1, rfl, _, rfl, _, rfl, _, rfl, ?_⟩
   exact ⟨_, _, _, ks, _, env, _, rfl, hk.same s1, rc.same s1 _, he.same s1, h2, fun u H2 s2 r2 => q _ _ (s1.trans s2) r2⟩
  ·have e : ¬ x = 0 := fun z => c' (zDT (congrArg V.int z))
   rw [if_neg e] at h2
   refine ⟨_, rfl, l, _, _, _, rfl, rfl, hS1, rfl, _, rfl, _, rfl, _, rfl, ?_⟩
   exact ⟨_, _, _, ks, _, env, _, rfl, hk.same s1, rb.same s1 _, he.same s1, h2, fun u H2 s2 r2 => q _ _ (s1.trans s2) r2⟩
theorem xf9 (T : Tx K mg) (R : RW) (hm : m <= 1000) (D : DefIs P w K mg base (n + 1) "worth" ["kinds", "term", "boxes"] (xc4 R (m + 1))) : DefIs P w K mg base (n + 3) "worth" ["kinds", "term", "boxes"] (xc4 (fun ks env d v => xf4 env d v \/ NodeEv ks (R ks) env d v) m) := by
 have D' : DefIs P w K mg base (n + 1) "worth" ["kinds", "term", "boxes"] (xc4 R m) := D.imp (by
  rintro vs H Q E ⟨kv, tv, p, ks, d, env, val, h1, h2, h3, h4, h5, h6⟩
  exact ⟨kv, tv, p, ks, d, env, val, h1, h2, h3, h4.mono (by omega), h5, h6⟩)
 exact xp1 T R (D'.mono (by omega)) (xkb T) (xp2 T (xa0 T)) (xg8 T R hm D (xfo T))
theorem xgr (T : Tx K mg) : ∀ n m, n + m <= 1000 -> DefIs P w K mg base (2 * n + 3) "worth" ["kinds", "term", "boxes"] (xc4 (fun ks => Ev ks n) m)
 | 0, m, h => by
  refine (xf9 (P := P) (w := w) (base := base) (n := 0) (m := m) T (fun _ _ _ _ => False) (by omega) (DefIs.none T.d_worth ?_)).imp ?_
  ·rintro vs H Q E ⟨_, _, _, _, _, _, _, _, _, _, _, h, _⟩
   exact h
  ·rintro vs H Q E ⟨kv, tv, p, ks, d, env, k, h1, h2, h3, h4, h5, h6⟩
   exact ⟨kv, tv, p, ks, d, env, k, h1, h2, h3, h4, .inl h5, h6⟩
 | n + 1, m, h => xf9 (n := 2 * n + 2) (m := m) T (fun ks => Ev ks n) (by omega) (xgr T n (m + 1) (by omega))
end
end K44
end
section
local macro_rules | `(tactic| walk_at "rd1") => `(tactic| first
 | refine ⟨_, rfl, ?_⟩
 | refine ⟨_, _, rfl, rfl, ?_⟩
 | refine ⟨_, _, _, _, rfl, rfl, (by assumption), (by first | rfl | assumption), ?_⟩
 | refine ⟨rfl, ?_⟩
 | refine M.iteKF (by walk_at "k") ?_
 | refine M.iteKT (by walk_at "k") ?_)
local macro_rules | `(tactic| walk_at "rd") => `(tactic| repeat walk_at "rd1")
namespace K44
open PySem L2 M
seal L2.PE L2.PA L2.PS L2.PSs L2.PT L2.PW L2.PI L2.PG L2.PJ L2.PTs
abbrev RK := List Kn -> En -> D -> Str -> Prop
def xay (R : RK) (m : Nat) : Sp := fun vs H Q _ => ∃ kv tv p ks d env k, vs = [kv, tv, .ref p] /\ KsAt H kv ks /\ RelD H tv d /\ EnAt H p m env /\ R ks env d k /\ ∀ H', Same H H' -> Q (.str k) H'
def xb2 (R : RK) (m : Nat) : Sp := fun vs H Q _ => ∃ kv tv p ks d env k, vs = [kv, tv, .ref p, .str k] /\ KsAt H kv ks /\ RelD H tv d /\ EnAt H p m env /\ R ks env d k /\ ∀ H', Same H H' -> Q .non H'
def xdb : Sp := fun vs H Q _ => ∃ k, vs = [.str k, .str k] /\ Q .non H
def xea : Sp := fun vs H Q _ => ∃ kv ks k kn, vs = [kv, .str k, .str kn.sort] /\ KsAt H kv ks /\ kAt ks k = some kn /\ Q .non H
def xeb (R : RK) (m : Nat) : Sp := fun vs H Q _ => ∃ kv tv p ks d env k kn, vs = [kv, tv, .ref p, .str kn.sort] /\ KsAt H kv ks /\ RelD H tv d /\ EnAt H p m env /\ R ks env d k /\ kAt ks k = some kn /\ ∀ H', Same H H' -> Q (.str k) H'
def xcr : Sp := fun vs H Q _ => ∃ kv ks k kn f k2, vs = [kv, .str k, .str f] /\ KsAt H kv ks /\ kAt ks k = some kn /\ xc6 kn f = some k2 /\ ∀ H', Same H H' -> Q (.str k2) H'
def xh4 : Sp := fun vs H Q _ => ∃ i, vs = [.int i] /\ Nm i /\ Q (.str (S "num")) H
def xh5 (m : Nat) : Sp := fun vs H Q _ => ∃ x p env k, vs = [.str x, .ref p] /\ EnAt H p m env /\ env x = some (.str k) /\ Q (.str k) H
section
variable {P : Program} {w : World} {K : PySem.W.Frag} {mg : Str -> Option Value} {base : Heap} {n m : Nat}
theorem xc8 (T : Tx K mg) : DefIs P w K mg base (n + 1) "need_same" ["found", "kind"] xdb := by
 refine DefIs.of T.d_need_same xib ?_ ?_ <;> walk_at "i"
 ·obtain ⟨_, rfl, _⟩ := h
  rfl
 obtain ⟨k, rfl, q⟩ := h
 refine ⟨_, (zpo (xao (pR xeg (pv 0) (pv 1) (nM _)) (zpo xbh) pQ)), ?_⟩
 refine ⟨_, rfl, _, rfl, rfl, _, rfl, xkn rfl ?_⟩
 exact q
theorem xeq (T : Tx K mg) (R : RK) (D_kind_of : DefIs P w K mg base n "kind_of" ["kinds", "term", "boxes"] (xay R m)) (D_need_same : DefIs P w K mg base n "need_same" ["found", "kind"] xdb) : DefIs P w K mg base (n + 1) "need_kind" ["kinds", "term", "boxes", "kind"] (xb2 R m) := by
 refine DefIs.of T.d_need_kind xid ?_ ?_ <;> walk_at "i"
 ·obtain ⟨_, _, _, _, _, _, _, rfl, _⟩ := h
  rfl
 obtain ⟨kv, tv, p, ks, d, env, k, rfl, hk, hv, he, hR, q⟩ := h
 refine ⟨_, (zpo (xaz (pd D_need_same hr (pc (pd D_kind_of hr (pc (pv 0) (pc (pv 1) (pc (pv 2) pN zsn) zsn) zsn)) (pc (pv 3) pN zsn) zsc)))), ?_⟩
 refine ⟨_, rfl, _, rfl, _, rfl, _, _, _, ks, d, env, k, rfl, hk, hv, he, hR, fun H1 s1 => ?_⟩
 exact ⟨_, rfl, k, rfl, q H1 s1⟩
theorem xiy (T : Tx K mg) (D_sort_of : DefIs P w K mg base n "sort_of" ["kinds", "K"] xbz) : DefIs P w K mg base (n + 1) "need_sort" ["kinds", "name", "sort"] xea := by
 refine DefIs.of T.d_need_sort sc_need_sort ?_ ?_ <;> walk_at "i"
 ·obtain ⟨_, _, _, _, rfl, _⟩ := h
  rfl
 obtain ⟨kv, ks, k, kn, rfl, hk, hkn, q⟩ := h
 have nd := sc_need_sort.nd
 refine ⟨_, (zpn (xah (i := 3) nd rfl (by walk_at "o") (pd D_sort_of hr (pc (pv 0) (pc (pv 1) pN zsn) zsn)))
   (zpn (xao (pR xip (pv 3) xcf (nM _)) (zpo xbh) pQ)
   (zpo (xao (pR xeg (pv 3) (pv 2) (nM _)) (zpo xbh) pQ)))), ?_⟩
 refine ⟨_, rfl, _, rfl, _, ks, k, rfl, hk, ?_⟩
 rw [hkn]
 refine ⟨_, rfl, rfl, _, rfl, iteKF (zDF (fun z => by cases z)) ?_⟩
 exact ⟨_, rfl, _, rfl, rfl, _, rfl, xkn rfl q⟩
theorem xc9 (T : Tx K mg) (R : RK) (D_kind_of : DefIs P w K mg base n "kind_of" ["kinds", "term", "boxes"] (xay R m)) (D_sort_of : DefIs P w K mg base n "sort_of" ["kinds", "K"] xbz) : DefIs P w K mg base (n + 1) "kind_of_sort" ["kinds", "term", "boxes", "sort"] (xeb R m) := by
 refine DefIs.of T.d_kind_of_sort sc_kind_of_sort ?_ ?_ <;> walk_at "i"
 ·obtain ⟨_, _, _, _, _, _, _, _, rfl, _⟩ := h
  rfl
 obtain ⟨kv, tv, p, ks, d, env, k, kn, rfl, hk, hv, he, hR, hkn, q⟩ := h
 have nd := sc_kind_of_sort.nd
 refine ⟨_, (zpn (xah (i := 4) nd rfl (by walk_at "o") (pd D_kind_of hr (pc (pv 0) (pc (pv 1) (pc (pv 2) pN zsn) zsn) zsn)))
   (zpn (xao (pR xeg (pd D_sort_of hr (pc (pv 0) (pc (pv 4) pN zsn) zsn)) (pv 3) (nM _)) (zpo xbh) pQ)
   (zpo (xae (pv 4))))), ?_⟩
 refine ⟨_, rfl, _, rfl, _, rfl, _, _, _, ks, d, env, k, rfl, hk, hv, he, hR, fun H1 s1 => ?_⟩
 refine ⟨_, rfl, _, rfl, _, ks, k, rfl, hk.same s1, ?_⟩
 rw [hkn]
 exact ⟨_, rfl, rfl, _, rfl, xkn rfl ⟨_, rfl, q H1 s1⟩⟩
theorem xcn (T : Tx K mg) (D_parts_of : DefIs P w K mg base n "parts_of" ["kinds", "K"] xbk) : DefIs P w K mg base (n + 1) "part_kind" ["kinds", "kind", "name"] xcr := by
 refine DefIs.of T.d_part_kind sc_part_kind ?_ ?_ <;> walk_at "i"
 ·obtain ⟨_, _, _, _, _, _, rfl, _⟩ := h
  rfl
 obtain ⟨kv, ks, k, kn, f', k2, rfl, hk, hkn, hp, q⟩ := h
 have nd := sc_part_kind.nd
 refine ⟨_, (zpn (xbo PassesOwn.never rfl (xa4 (pd D_parts_of hr (pc (pv 0) (pc (pv 1) pN zsn) zsn))) (xaa (i := 3) nd rfl (by walk_at "o"))
   (zpo (xao (pR xas (xag xaf (pv 3) pI (fun _ _ => rfl)) (pv 2) (nM _)) (zpo (xae (xag xaf (pv 3) pI (fun _ _ => rfl)))) pQ)))
   (zpo xbh)), ?_⟩
 refine ⟨_, rfl, _, rfl, _, ks, k, rfl, hk, fun u H1 s1 r1 => ?_⟩
 rw [hkn] at r1
 obtain ⟨e, ps, rfl, he, hps⟩ := r1
 have hl := hps.length
 rw [zLM] at hl
 refine ⟨e, rfl, ⟨_, SqT.of he⟩, ?_⟩
 obtain ⟨pt, hpt, rfl⟩ := zMS hp
 refine xb5 (xs := ps) (fun i σ H' => ∃ o3, σ = [some kv, some (.str k), some (.str f'), o3] /\ H' = H1 /\ (kn.parts.take i).find? (fun p => decide (p.1 = f')) = none) ⟨none, rfl, rfl, rfl⟩ (fun i σ H' _ p => ?_) ?_ ?_
 ·obtain ⟨_, _, rfl, _⟩ := p
  exact SqT.of he
 ·rintro i v σ H' hv ⟨o3, rfl, rfl, hn⟩
  obtain ⟨d, hd, rd⟩ := hps.get hv
  rw [zGM] at hd
  obtain ⟨p, hp', rfl⟩ := zMS hd
  obtain ⟨b, ws, rfl, hb, _, _, rfl, rfl, _, _, rfl, rfl, rfl⟩ := rd
  refine ⟨_, rfl, b, _, _, _, rfl, rfl, SqT.of hb, rfl, _, rfl, rfl, _, rfl, ite2 (fun c => ?_) (fun c => ?_)⟩
  ·have e' : p.1 = f' := V.str.inj (of_decide_eq_true c)
   have e2 := (xca hn hp').1 (zDT e')
   rw [hpt] at e2
   cases e2
   exact ⟨_, rfl, b, _, _, _, rfl, rfl, SqT.of hb, rfl, q _ s1⟩
  ·have e' : ¬ p.1 = f' := fun z => c (zDT (congrArg V.str z))
   exact ⟨_, rfl, rfl, (xca hn hp').2 (zDF e')⟩
 ·rintro σ H' ⟨o3, rfl, rfl, hn⟩
  rw [zTL (by omega), hpt] at hn
  cases hn
theorem xkc (T : Tx K mg) : DefIs P w K mg base (n + 1) "num_kind" ["n"] xh4 := by
 refine DefIs.of T.d_num_kind xj4 ?_ ?_ <;> walk_at "i"
 ·obtain ⟨_, rfl, _⟩ := h
  rfl
 obtain ⟨i, rfl, ⟨h0, h1⟩, q⟩ := h
 refine ⟨_, (zpn (xao (xih (xpq xtp xfm pI (pv 0) (xg1 T.g_WIDE))) (zpo xbh) pQ)
   (zpo (xae pS))), ?_⟩
 refine ⟨_, rfl, _, _, rfl, rfl, _, rfl, iteKT (zDT h0) ⟨_, _, rfl, rfl, _, rfl, ?_⟩⟩
 rw [zDT h1]
 exact q
theorem xke (T : Tx K mg) : DefIs P w K mg base (n + 1) "box_kind" ["x", "boxes"] (xh5 m) := by
 refine DefIs.of T.d_box_kind xj5 ?_ ?_ <;> walk_at "i"
 ·obtain ⟨_, _, _, _, rfl, _⟩ := h
  rfl
 obtain ⟨x, p, env, k, rfl, ⟨kvs, hp, hl, hh⟩, hx, q⟩ := h
 have hu := xc2 hr
 refine ⟨_, (zpn (xao (xfi (xdx hu (pv 0) (pv 1))) (zpo xbh) pQ)
   (zpo (xae (xb4 hu (pv 1) (pv 0) (fun _ _ => rfl))))), ?_⟩
 obtain ⟨v, hv, rv⟩ := (hh x).2 _ hx
 obtain rfl : v = .str k := rv
 have g : DGet H p (.str x) (some (.str k)) := hv ▸ DGet.k (k := Sum.inr x) hp
 refine ⟨_, rfl, _, rfl, p, _, rfl, g, _, rfl, iteF ?_⟩
 exact ⟨_, rfl, _, rfl, p, _, rfl, g, q⟩
theorem xmc (T : Tx K mg) (R : RK) (D_need_kind : DefIs P w K mg base n "need_kind" ["kinds", "term", "boxes", "kind"] (xb2 R m)) :
  DefIs P w K mg base (n + 1) "op_kind" ["kinds", "term", "boxes"] (xay (fun ks => OpKd (R ks)) m) := by
 refine DefIs.of T.d_op_kind xl7 ?_ ?_ <;> walk_at "i"
 ·obtain ⟨_, _, _, _, _, _, _, rfl, _⟩ := h
  rfl
 obtain ⟨kv, tv, p, ks, d, env, k, rfl, hk, hv, he, ⟨sg, a, b, h1, h2, rfl, rfl⟩, q⟩ := h
 refine ⟨_, (zpn (xaz (pd D_need_kind hr (pc (pv 0) (pc (xag xaf (pv 1) pI (fun _ _ => rfl)) (pc (pv 2) (pc pS pN zso) zsn) ss) zsn)))
   (zpn (xaz (pd D_need_kind hr (pc (pv 0) (pc (xag xaf (pv 1) pI (fun _ _ => rfl)) (pc (pv 2) (pc pS pN zso) zsn) ss) zsn)))
   (zpo (xae pS)))), ?_⟩
 obtain ⟨l, us, rfl, ha, _, _, rfl, rfl, _, _, rfl, rfl, va, _, rfl, ra, vb, _, rfl, rb, rfl⟩ := hv
 refine ⟨_, rfl, _, rfl, l, _, _, _, rfl, rfl, SqT.of ha, rfl, _, rfl, ?_⟩
 refine ⟨_, _, _, ks, _, env, _, rfl, hk, ra, he, h1, fun H1 s1 => ?_⟩
 refine ⟨_, rfl, _, rfl, l, _, _, _, rfl, rfl, SqT.of (s1 _ _ ha), rfl, _, rfl, ?_⟩
 exact ⟨_, _, _, ks, _, env, _, rfl, hk.same s1, rb.same s1 _, he.same s1, h2, fun H2 s2 => q H2 (s1.trans s2)⟩
theorem xmf (T : Tx K mg) (R : RK) (D_kind_of : DefIs P w K mg base n "kind_of" ["kinds", "term", "boxes"] (xay R m)) (D_need_kind : DefIs P w K mg base n "need_kind" ["kinds", "term", "boxes", "kind"] (xb2 R m)) :
  DefIs P w K mg base (n + 1) "if_kind" ["kinds", "term", "boxes"] (xay (fun ks => IfKd (R ks)) m) := by
 refine DefIs.of T.d_if_kind sc_if_kind ?_ ?_ <;> walk_at "i"
 ·obtain ⟨_, _, _, _, _, _, _, rfl, _⟩ := h
  rfl
 obtain ⟨kv, tv, p, ks, d, env, k, rfl, hk, hv, he, ⟨a, b, c, h1, h2, h3, rfl⟩, q⟩ := h
 have nd := sc_if_kind.nd
 refine ⟨_, (zpn (xaz (pd D_need_kind hr (pc (pv 0) (pc (xag xaf (pv 1) pI (fun _ _ => rfl)) (pc (pv 2) (pc pS pN zso) zsn) ss) zsn)))
   (zpn (xah (i := 3) nd rfl (by walk_at "o") (pd D_kind_of hr (pc (pv 0) (pc (xag xaf (pv 1) pI (fun _ _ => rfl)) (pc (pv 2) pN zsn) ss) zsn)))
   (zpn (xaz (pd D_need_kind hr (pc (pv 0) (pc (xag xaf (pv 1) pI (fun _ _ => rfl)) (pc (pv 2) (pc (pv 3) pN zsn) zsn) ss) zsn)))
   (zpo (xae (pv 3)))))), ?_⟩
 obtain ⟨l, us, rfl, ha, _, _, rfl, rfl, va, _, rfl, ra, vb, _, rfl, rb, vc, _, rfl, rc, rfl⟩ := hv
 refine ⟨_, rfl, _, rfl, l, _, _, _, rfl, rfl, SqT.of ha, rfl, _, rfl, ?_⟩
 refine ⟨_, _, _, ks, _, env, _, rfl, hk, ra, he, h1, fun H1 s1 => ?_⟩
 refine ⟨_, rfl, _, rfl, l, _, _, _, rfl, rfl, SqT.of (s1 _ _ ha), rfl, _, rfl, ?_⟩
 refine ⟨_, _, _, ks, _, env, _, rfl, hk.same s1, rb.same s1 _, he.same s1, h2, fun H2 s2 => ?_⟩
 have s12 := s1.trans s2
 refine ⟨_, rfl, _, rfl, l, _, _, _, rfl, rfl, SqT.of (s12 _ _ ha), rfl, _, rfl, _, rfl, ?_⟩
 exact ⟨_, _, _, ks, _, env, _, rfl, hk.same s12, rc.same s12 _, he.same s12, h3, fun H3 s3 => ⟨_, rfl, q H3 (s12.trans s3)⟩⟩
theorem xkd (T : Tx K mg) (R : RK) (D_kind_of_sort : DefIs P w K mg base n "kind_of_sort" ["kinds", "term", "boxes", "sort"] (xeb R m)) (D_part_kind : DefIs P w K mg base n "part_kind" ["kinds", "kind", "name"] xcr) :
  DefIs P w K mg base (n + 1) "get_kind" ["kinds", "term", "boxes"] (xay (fun ks => xsr ks (R ks)) m) := by
 refine DefIs.of T.d_get_kind sc_get_kind ?_ ?_ <;> walk_at "i"
 ·obtain ⟨_, _, _, _, _, _, _, rfl, _⟩ := h
  rfl
 obtain ⟨kv, tv, p, ks, d, env, k, rfl, hk, hv, he, ⟨a, k1, f', kn, h1, h2, h3, h4, rfl⟩, q⟩ := h
 have nd := sc_get_kind.nd
 refine ⟨_, (zpn (xah (i := 3) nd rfl (by walk_at "o") (pd D_kind_of_sort hr (pc (pv 0) (pc (xag xaf (pv 1) pI (fun _ _ => rfl)) (pc (pv 2) (pc pS pN zso) zsn) ss) zsn)))
   (zpo (xae (pd D_part_kind hr (pc (pv 0) (pc (pv 3) (pc (xag xaf (pv 1) pI (fun _ _ => rfl)) pN ss) zsn) zsn))))), ?_⟩
 have hs : kn.sort = S "rec" := by unfold Kn.sort; rw [if_pos h3]
 obtain ⟨l, us, rfl, ha, _, _, rfl, rfl, va, _, rfl, ra, _, _, rfl, rfl, rfl⟩ := hv
 refine ⟨_, rfl, _, rfl, l, _, _, _, rfl, rfl, SqT.of ha, rfl, _, rfl, ?_⟩
 refine ⟨_, _, _, ks, _, env, k1, kn, by rw [hs]; rfl, hk, ra, he, h1, h2, fun H1 s1 => ?_⟩
 refine ⟨_, rfl, _, rfl, _, rfl, l, _, _, _, rfl, rfl, SqT.of (s1 _ _ ha), rfl, ?_⟩
 exact ⟨_, ks, k1, kn, f', k, rfl, hk.same s1, h2, h4, fun H2 s2 => q H2 (s1.trans s2)⟩
theorem xj9 (T : Tx K mg) (R : RK) (D_need_sort : DefIs P w K mg base n "need_sort" ["kinds", "name", "sort"] xea) (D_need_kind : DefIs P w K mg base n "need_kind" ["kinds", "term", "boxes", "kind"] (xb2 R m)) (D_part_kind : DefIs P w K mg base n "part_kind" ["kinds", "kind", "name"] xcr) :
  DefIs P w K mg base (n + 1) "tag_kind" ["kinds", "term", "boxes"] (xay (fun ks => xso ks (R ks)) m) := by
 refine DefIs.of T.d_tag_kind sc_tag_kind ?_ ?_ <;> walk_at "i"
 ·obtain ⟨_, _, _, _, _, _, _, rfl, _⟩ := h
  rfl
 obtain ⟨kv, tv, p, ks, d, env, k, rfl, hk, hv, he, ⟨t, a, kn, k1, h1, h2, h3, h4, rfl⟩, q⟩ := h
 have nd := sc_tag_kind.nd
 refine ⟨_, (zpn (xah (i := 3) nd rfl (by walk_at "o") (xag xaf (pv 1) pI (fun _ _ => rfl)))
   (zpn (xaz (pd D_need_sort hr (pc (pv 0) (pc (pv 3) (pc pS pN zso) zsn) zsn)))
   (zpn (xaz (pd D_need_kind hr (pc (pv 0) (pc (xag xaf (pv 1) pI (fun _ _ => rfl)) (pc (pv 2) (pc (pd D_part_kind hr (pc (pv 0) (pc (pv 3) (pc (xag xaf (pv 1) pI (fun _ _ => rfl)) pN ss) zsn) zsn)) pN zsc) zsn) ss) zsn)))
   (zpo (xae (pv 3)))))), ?_⟩
 have hs : kn.sort = S "alt" := by unfold Kn.sort; rw [if_neg (by rw [h2]; decide)]
 obtain ⟨l, us, rfl, ha, _, _, rfl, rfl, _, _, rfl, rfl, _, _, rfl, rfl, va, _, rfl, ra, rfl⟩ := hv
 have hS : SqT K H l [.str (S "tag"), .str k, .str t, va] := SqT.of ha
 refine ⟨_, rfl, l, _, _, _, rfl, rfl, hS, rfl, ?_⟩
 refine ⟨_, rfl, _, rfl, _, ks, k, kn, by rw [hs]; rfl, hk, h1, ?_⟩
 refine ⟨_, rfl, _, rfl, l, _, _, _, rfl, rfl, hS, rfl, _, rfl, _, rfl, _, rfl, _, rfl, l, _, _, _, rfl, rfl, hS, rfl, ?_⟩
 refine ⟨_, ks, k, kn, t, k1, rfl, hk, h1, h3, fun H1 s1 => ?_⟩
 exact ⟨_, _, _, ks, _, env, k1, rfl, hk.same s1, ra.same s1 _, he.same s1, h4, fun H2 s2 => ⟨_, rfl, q H2 (s1.trans s2)⟩⟩
theorem xka (T : Tx K mg) (R : RK) (D_need_sort : DefIs P w K mg base n "need_sort" ["kinds", "name", "sort"] xea) (D_need_kind : DefIs P w K mg base n "need_kind" ["kinds", "term", "boxes", "kind"] (xb2 R m)) (D_parts_of : DefIs P w K mg base n "parts_of" ["kinds", "K"] xbk) :
  DefIs P w K mg base (n + 1) "rec_kind" ["kinds", "term", "boxes"] (xay (fun ks => xsp ks (R ks)) m) := by
 refine DefIs.of T.d_rec_kind sc_rec_kind ?_ ?_ <;> walk_at "i"
 ·obtain ⟨_, _, _, _, _, _, _, rfl, _⟩ := h
  rfl
 obtain ⟨kv, tv, p, ks, d, env, k, rfl, hk, hv, he, ⟨es, kn, h1, h2, h3, rfl⟩, q⟩ := h
 have nd := sc_rec_kind.nd
 refine ⟨_, (zpn (xah (i := 3) nd rfl (by walk_at "o") (xag xaf (pv 1) pI (fun _ _ => rfl)))
   (zpn (xaz (pd D_need_sort hr (pc (pv 0) (pc (pv 3) (pc pS pN zso) zsn) zsn)))
   (zpn (xah (i := 4) nd rfl (by walk_at "o") (pd D_parts_of hr (pc (pv 0) (pc (pv 3) pN zsn) zsn)))
   (zpn (xao (pR xeg (xak xad rfl T.z_len PySem.boot_len (pc (xag xaf (pv 1) pI (fun _ _ => rfl)) pN ss)) (xak xad rfl T.z_len PySem.boot_len (pc (pv 4) pN zsn)) (nM _)) (zpo xbh) pQ)
   (zpn (xbo PassesOwn.never rfl (xle rfl T.z_zip (pc (pv 4) (pc (xag xaf (pv 1) pI (fun _ _ => rfl)) pN ss) zsn)) (xbb rfl (xab (xaa (i := 5) nd rfl (by walk_at "o")) (xab (xaa (i := 6) nd rfl (by walk_at "o")) xaq)))
   (zpo (xaz (pd D_need_kind hr (pc (pv 0) (pc (pv 6) (pc (pv 2) (pc (xag xaf (pv 5) pI (fun _ _ => rfl)) pN ss) zsn) zsn) zsn)))))
   (zpo (xae (pv 3)))))))), ?_⟩
 have hs : kn.sort = S "rec" := by unfold Kn.sort; rw [if_pos h2]
 obtain ⟨l, us, rfl, ha, _, _, rfl, rfl, _, _, rfl, rfl, va, _, rfl, ra, rfl⟩ := hv
 obtain ⟨c, vs', rfl, hc, hvs⟩ := ra
 have hS : SqT K H l [.str (S "rec"), .str k, .ref c] := SqT.of ha
 refine ⟨_, rfl, l, _, _, _, rfl, rfl, hS, rfl, ?_⟩
 refine ⟨_, rfl, _, rfl, _, ks, k, kn, by rw [hs]; rfl, hk, h1, ?_⟩
 refine ⟨_, rfl, _, rfl, _, ks, k, rfl, hk, fun u H1 s1 r1 => ?_⟩
 rw [h1] at r1
 obtain ⟨e, ps, rfl, hpe, hps⟩ := r1
 have l1 := hps.length
 rw [zLM] at l1
 have l2 := hvs.length
 have l3 := h3.length
 have hS1 : SqT K H1 l [.str (S "rec"), .str k, .ref c] := SqT.of (s1 _ _ ha)
 refine ⟨_, rfl, l, _, _, _, rfl, rfl, hS1, rfl, c, _, rfl, .inr (SqT.of (s1 _ _ hc)), _, rfl, e, _, rfl, .inr (SqT.of hpe), rfl, _, rfl, xkn (by rw [show vs'.length = ps.length by omega]) ?_⟩
 refine ⟨_, rfl, _, rfl, l, _, _, _, rfl, rfl, hS1, rfl, e, c, rfl, ⟨_, SqT.of hpe⟩, ⟨_, SqT.of (s1 _ _ hc)⟩, ?_⟩
 refine xou (xs := ps) (ys := vs') (by omega) (fun i σ H' => ∃ o5 o6, σ = [some kv, some (.ref l), some (.ref p), some (.str k), some (.ref e), o5, o6] /\ Same H1 H') ⟨none, none, rfl, Same.refl _⟩ (fun i σ H' _ p => ?_) ?_ ?_
 ·obtain ⟨_, _, _, sm⟩ := p
  exact ⟨SqT.of (sm _ _ hpe), SqT.of ((s1.trans sm) _ _ hc)⟩
 ·rintro i x y σ H' pt hx hy ⟨o5, o6, rfl, sm⟩ hpt
  obtain ⟨dp, hdp, rdp⟩ := hps.get hx
  rw [zGM] at hdp
  obtain ⟨pr, hpr, rfl⟩ := zMS hdp
  obtain ⟨de, hde, rde⟩ := hvs.get hy
  obtain ⟨pr', hpr', rR⟩ := h3.get hde
  rw [hpr] at hpr'
  cases hpr'
  obtain ⟨b, ws, rfl, hb, _, _, rfl, rfl, _, _, rfl, rfl, rfl⟩ := rdp
  have sn := Same.new hpt (.tup [.ref b, y])
  have s2 := sm.trans sn
  refine ⟨pt, _, rfl, SqT.of ups, rfl, _, _, rfl, _, _, rfl, rfl, ?_⟩
  refine ⟨_, rfl, _, rfl, _, rfl, _, rfl, b, _, _, _, rfl, rfl, SqT.of (s2 _ _ hb), rfl, ?_⟩
  have s12 := s1.trans s2
  exact ⟨_, _, _, ks, _, env, _, rfl, hk.same s12, rde.same s12 _, he.same s12, rR, fun H2 s3 => ⟨_, _, rfl, s2.trans s3⟩⟩
 ·rintro σ H' ⟨o5, o6, rfl, sm⟩
  exact ⟨_, rfl, q _ (s1.trans sm)⟩
theorem xmd (T : Tx K mg) (R : RK) (cs : Prop) (D_num_kind : DefIs P w K mg base n "num_kind" ["n"] xh4) (D_box_kind : DefIs P w K mg base n "box_kind" ["x", "boxes"] (xh5 m))
  (D_op_kind : DefIs P w K mg base n "op_kind" ["kinds", "term", "boxes"] (xay (fun ks => OpKd (R ks)) m)) (D_rec_kind : DefIs P w K mg base n "rec_kind" ["kinds", "term", "boxes"] (xay (fun ks => xsp ks (R ks)) m)) (D_get_kind : DefIs P w K mg base n "get_kind" ["kinds", "term", "boxes"] (xay (fun ks => xsr ks (R ks)) m))
  (D_tag_kind : DefIs P w K mg base n "tag_kind" ["kinds", "term", "boxes"] (xay (fun ks => xso ks (R ks)) m)) (D_case_kind : DefIs P w K mg base n "case_kind" ["kinds", "term", "boxes"] (xay (fun ks => xl1 cs ks (R ks)) m)) (D_if_kind : DefIs P w K mg base n "if_kind" ["kinds", "term", "boxes"] (xay (fun ks => IfKd (R ks)) m)) :
  DefIs P w K mg base (n + 1) "kind_of" ["kinds", "term", "boxes"] (xay (fun ks env d k => xgp env d k \/ NodeKd cs ks (R ks) env d k) m) := by
 refine DefIs.of T.d_kind_of sc_kind_of ?_ ?_ <;> walk_at "i"
 ·obtain ⟨_, _, _, _, _, _, _, rfl, _⟩ := h
  rfl
 obtain ⟨kv, tv, p, ks, d, env, k, rfl, hk, hv, he, hR, q⟩ := h
 have nd := sc_kind_of.nd
 refine ⟨_, (zpn (xah (i := 3) nd rfl (by walk_at "o") (xag xaf (pv 1) pI (fun _ _ => rfl)))
   (zpn (xao (pR xas (pv 3) pS (nM _)) (zpo (xae (pd D_num_kind hr (pc (xag xaf (pv 1) pI (fun _ _ => rfl)) pN ss)))) pQ)
   (zpn (xao (pR xas (pv 3) pS (nM _)) (zpo (xae (pd D_box_kind hr (pc (xag xaf (pv 1) pI (fun _ _ => rfl)) (pc (pv 2) pN zsn) ss)))) pQ)
   (zpn (xao (pR xas (pv 3) pS (nM _)) (zpo (xae (pd D_op_kind hr (pc (pv 0) (pc (pv 1) (pc (pv 2) pN zsn) zsn) zsn)))) pQ)
   (zpn (xao (pR xas (pv 3) pS (nM _)) (zpo (xae (pd D_rec_kind hr (pc (pv 0) (pc (pv 1) (pc (pv 2) pN zsn) zsn) zsn)))) pQ)
   (zpn (xao (pR xas (pv 3) pS (nM _)) (zpo (xae (pd D_get_kind hr (pc (pv 0) (pc (pv 1) (pc (pv 2) pN zsn) zsn) zsn)))) pQ)
   (zpn (xao (pR xas (pv 3) pS (nM _)) (zpo (xae (pd D_tag_kind hr (pc (pv 0) (pc (pv 1) (pc (pv 2) pN zsn) zsn) zsn)))) pQ)
   (zpn (xao (pR xas (pv 3) pS (nM _)) (zpo (xae (pd D_case_kind hr (pc (pv 0) (pc (pv 1) (pc (pv 2) pN zsn) zsn) zsn)))) pQ)
   (zpo (xae (pd D_if_kind hr (pc (pv 0) (pc (pv 1) (pc (pv 2) pN zsn) zsn) zsn)))))))))))), ?_⟩
 have hv' := hv
 rcases hR with (⟨i, hi, rfl, rfl⟩ | ⟨x, hx, rfl⟩) | hN | hN | hN | hN | hN | hN
 ·obtain ⟨a, us, rfl, ha, _, _, rfl, rfl, _, _, rfl, rfl, rfl⟩ := hv
  have hS : SqT K H a [.str (S "num"), .int i] := SqT.of ha
  walk_at "rd"
  exact ⟨hi, q _ (Same.refl _)⟩
 ·obtain ⟨a, us, rfl, ha, _, _, rfl, rfl, _, _, rfl, rfl, rfl⟩ := hv
  have hS : SqT K H a [.str (S "box"), .str x] := SqT.of ha
  walk_at "rd"
  exact ⟨x, p, env, k, rfl, he, hx, q _ (Same.refl _)⟩
 ·obtain ⟨sg, a, b, h1, h2, rfl, rfl⟩ := id hN
  obtain ⟨l, us, rfl, ha, _, _, rfl, rfl, _, _, rfl, rfl, va, _, rfl, ra, vb, _, rfl, rb, rfl⟩ := hv
  have hS : SqT K H l [.str (S "op"), .str sg, va, vb] := SqT.of ha
  walk_at "rd"
  exact ⟨_, _, _, ks, _, env, _, rfl, hk, hv', he, hN, q⟩
 ·obtain ⟨es, kn, h1, h2, h3, rfl⟩ := id hN
  obtain ⟨l, us, rfl, ha, _, _, rfl, rfl, _, _, rfl, rfl, va, _, rfl, ra, rfl⟩ := hv
  have hS : SqT K H l [.str (S "rec"), .str k, va] := SqT.of ha
  walk_at "rd"
  exact ⟨_, _, _, ks, _, env, _, rfl, hk, hv', he, hN, q⟩
 ·obtain ⟨a, k1, f', kn, h1, h2, h3, h4, rfl⟩ := id hN
  obtain ⟨l, us, rfl, ha, _, _, rfl, rfl, va, _, rfl, ra, _, _, rfl, rfl, rfl⟩ := hv
  have hS : SqT K H l [.str (S "get"), va, .str f'] := SqT.of ha
  walk_at "rd"
  exact ⟨_, _, _, ks, _, env, _, rfl, hk, hv', he, hN, q⟩
 ·obtain ⟨t, a, kn, k1, h1, h2, h3, h4, rfl⟩ := id hN
  obtain ⟨l, us, rfl, ha, _, _, rfl, rfl, _, _, rfl, rfl, _, _, rfl, rfl, va, _, rfl, ra, rfl⟩ := hv
  have hS : SqT K H l [.str (S "tag"), .str k, .str t, va] := SqT.of ha
  walk_at "rd"
  exact ⟨_, _, _, ks, _, env, _, rfl, hk, hv', he, hN, q⟩
 ·obtain ⟨hcs, a, rs, k1, kn, h1, h2, h3, h4, h5, h6, h7, rfl⟩ := id hN
  obtain ⟨l, us, rfl, ha, _, _, rfl, rfl, va, _, rfl, ra, vr, _, rfl, rr, rfl⟩ := hv
  have hS : SqT K H l [.str (S "case"), va, vr] := SqT.of ha
  walk_at "rd"
  exact ⟨_, _, _, ks, _, env, _, rfl, hk, hv', he, hN, q⟩
 ·obtain ⟨a, b, c, h1, h2, h3, rfl⟩ := id hN
  obtain ⟨l, us, rfl, ha, _, _, rfl, rfl, va, _, rfl, ra, vb, _, rfl, rb, vc, _, rfl, rc, rfl⟩ := hv
  have hS : SqT K H l [.str (S "if"), va, vb, vc] := SqT.of ha
  walk_at "rd"
  exact ⟨_, _, _, ks, _, env, _, rfl, hk, hv', he, hN, q⟩
theorem xjf (T : Tx K mg) (R : RK) (cs : Prop) (D : DefIs P w K mg base (n + 1) "kind_of" ["kinds", "term", "boxes"] (xay R m)) (Dc : DefIs P w K mg base (n + 3) "case_kind" ["kinds", "term", "boxes"] (xay (fun ks => xl1 cs ks (R ks)) m)) :
  DefIs P w K mg base (n + 4) "kind_of" ["kinds", "term", "boxes"] (xay (fun ks env d k => xgp env d k \/ NodeKd cs ks (R ks) env d k) m) := by
 have same : ∀ k, DefIs P w K mg base (k + 1) "need_same" ["found", "kind"] xdb := fun k => xc8 T
 have sort : ∀ k, DefIs P w K mg base (k + 1) "sort_of" ["kinds", "K"] xbz := fun k => xbc T
 have parts : ∀ k, DefIs P w K mg base (k + 1) "parts_of" ["kinds", "K"] xbk := fun k => xa0 T
 have nk := xeq T R D (same n)
 have ns := xiy (n := n + 1) T (sort n)
 have ko := xc9 T R D (sort n)
 have pk := xcn (n := n + 1) T (parts n)
 exact xmd T R cs (xkc T) (xke T) (xmc T R nk) (xka T R ns nk (parts (n + 1))) (xkd T R ko pk) (xj9 T R ns nk pk) Dc (xmf T R (D.mono (by omega)) nk)
end
end K44
end
section
set_option maxHeartbeats 1000000
namespace L2
open PySem PySem.Spec PyProof.Rows
end L2
end
section
set_option maxHeartbeats 1000000
namespace L2
open PySem PySem.Spec PyProof.Rows
end L2
end
section
set_option maxHeartbeats 1000000
namespace L2
open PySem PySem.Spec PyProof.Rows
end L2
end
section
set_option maxHeartbeats 1000000
namespace L2
open PySem PySem.Spec PyProof.Rows
end L2
end
section
set_option maxHeartbeats 1000000
namespace L2
open PySem PySem.Spec PyProof.Rows
end L2
end
section
set_option maxHeartbeats 1000000
namespace L2
open PySem PySem.Spec PyProof.Rows
end L2
end
section
set_option maxHeartbeats 1000000
namespace L2
open PySem PySem.Spec PyProof.Rows
end L2
end
section
set_option maxHeartbeats 1000000
namespace L2
open PySem PySem.Spec PyProof.Rows
end L2
end
section
namespace St
open PySem PySem.Spec PyProof.Rows
end St
namespace L2
open PySem PySem.Spec PyProof.Rows
end L2
namespace L2
open PySem PySem.Spec PyProof.Rows
end L2
end
section
namespace K44
open PySem L2 M
seal L2.PE L2.PA L2.PS L2.PSs L2.PT L2.PW L2.PI L2.PG L2.PJ L2.PTs
theorem xhe (x : Str) : ∀ ys : List Str, inV (.str x) (ys.map V.str) = decide (x ∈ ys)
 | [] => rfl
 | y :: ys => by
  show ((y == x) || inV (.str x) (ys.map V.str)) = _
  rw [xhe x ys]
  by_cases h : y = x
  ·subst h; simp
  ·have h' : ¬ x = y := fun e => h e.symm
   simp [h, h']
theorem xct : ∀ ys : List Str, (ys.map V.str).all xd4 = true
 | [] => rfl
 | y :: ys => by
  show (xd4 (.str y) && (ys.map V.str).all xd4) = true
  rw [xct ys]
  rfl
def KL (ks : List Kn) : Prop := ∀ k ∈ ks, k.name.length <= 100
def xgb : Sp := fun vs H Q _ => ∃ (a : Addr) (ns : List Str) (x : Str), vs = [.ref a, .str x] /\ H a = some (.lst (ns.map V.str)) /\ ns.Nodup /\ ns.length <= 1000 /\ Q .non H
def xga : Sp := fun vs H Q _ => ∃ (kv : V) (c : Addr) (ws : List V) (ks : List Kn) (k : Str) (kn : Kn) (rs : List (Str × Str × D)), vs = [kv, .str k, .ref c] /\ KsAt H kv ks /\ KL ks /\ kAt ks k = some kn /\ H c = some (.tup ws) /\ RelDs H ws (rs.map dArm) /\ rs.length = kn.parts.length /\ (rs.map (·.1)).Nodup /\ (∀ r ∈ rs, ∃ k2, xc6 kn r.1 = some k2) /\ ∀ H', Same H H' -> Q .non H'
def xh6 (R : RK) (m : Nat) : Sp := fun vs H Q _ => ∃ (kv av : V) (p : Addr) (ks : List Kn) (env : En) (k1 : Str) (kn : Kn) (k k2 : Str) (r : Str × Str × D), vs = [kv, .str k1, av, .ref p] /\ KsAt H kv ks /\ kAt ks k1 = some kn /\ RelD H av (dArm r) /\ EnAt H p m env /\ env r.2.1 = none /\ xc6 kn r.1 = some k2 /\ R ks (env.put r.2.1 (.str k2)) r.2.2 k /\ m <= 1000 /\ ∀ H', Same H H' -> Q (.str k) H'
theorem xpw {kn : Kn} {f k2 : Str} (h : xc6 kn f = some k2) : f ∈ kn.parts.map (·.1) := by
 unfold xc6 at h
 obtain ⟨p, hp, _⟩ := zMS h
 have h1 := List.mem_of_find?_eq_some hp
 have h2 := List.find?_some hp
 rw [<- of_decide_eq_true h2]
 exact List.mem_map_of_mem h1
section
variable {P : Program} {w : World} {K : PySem.W.Frag} {mg : Str -> Option Value} {base : Heap} {n m : Nat}
theorem xiz (T : Tx K mg) : DefIs P w K mg base (n + 1) "need_once" ["names", "things"] xgb := by
 refine DefIs.of T.d_need_once xic ?_ ?_ <;> walk_at "i"
 ·obtain ⟨_, _, _, rfl, _⟩ := h
  rfl
 obtain ⟨a, ns, x, rfl, ha, hnd, hl, q⟩ := h
 refine ⟨_, (zpo (xao (pR xfm (xnt rfl rfl T.z_len rfl T.z_set (pv 0)) (xak xad rfl T.z_len PySem.boot_len (pc (pv 0) pN zsn)) (nM _)) (zpo xbh) pQ)), ?_⟩
 refine ⟨_, rfl, a, ns, rfl, ha, hnd, hl, _, rfl, a, _, rfl, .inl (SqL.of ha), _, _, rfl, rfl, _, rfl, iteKF (zDF ?_) q⟩
 rw [zLM]
 omega
theorem xix (T : Tx K mg) (D_parts_of : DefIs P w K mg base n "parts_of" ["kinds", "K"] xbk) (D_need_once : DefIs P w K mg base n "need_once" ["names", "things"] xgb) : DefIs P w K mg base (n + 1) "need_tags" ["kinds", "kind", "arms"] xga := by
 refine DefIs.of T.d_need_tags sc_need_tags ?_ ?_ <;> walk_at "i"
 ·obtain ⟨_, _, _, _, _, _, _, rfl, _⟩ := h
  rfl
 obtain ⟨kv, c, ws, ks, k, kn, rs, rfl, hk, hkl, hkn, hc, hws, hlen, hnd, hpt, q⟩ := h
 have nd := sc_need_tags.nd
 have hkm := List.mem_of_find?_eq_some hkn
 have hkx : kn.name = k := by
  have := List.find?_some hkn
  exact of_decide_eq_true this
 have hkl' : k.length <= 100 := by rw [<- hkx]; exact hkl kn hkm
 have hp100 := hk.2.2 kn hkm
 refine ⟨_, (zpn (xa9 (i := 3) ["part"] [none] rfl (by kernel_rfl) nd rfl (by walk_at "o") (xa4 (pd D_parts_of hr (pc (pv 0) (pc (pv 1) pN zsn) zsn))) (fun _ _ _ _ => (xaa (i := 0) (by show List.Nodup (["part"] : List Str); decide +kernel) rfl (Or.inl rfl))) (fun _ _ _ _ => xa8) (fun _ _ _ _ => (xag (xbt (K := K) rfl) (pv 0) pI (fun _ _ => rfl))))
   (zpn (xa9 (i := 4) ["arm"] [none] rfl (by kernel_rfl) nd rfl (by walk_at "o") (xa4 (pv 2)) (fun _ _ _ _ => (xaa (i := 0) (by show List.Nodup (["arm"] : List Str); decide +kernel) rfl (Or.inl rfl))) (fun _ _ _ _ => xa8) (fun _ _ _ _ => (xag (xbt (K := K) rfl) (pv 0) pI (fun _ _ => rfl))))
   (zpn (xbo PassesOwn.never rfl (xce (pv 4)) (xaa (i := 5) nd rfl (by walk_at "o"))
   (zpo (xao (pR xio (pv 5) (pv 3) (by with_unfolding_all rfl)) (zpo xbh) pQ)))
   (zpn (xaz (pd D_need_once hr (pc (pv 4) (pc (xrw (xtl (xtj (pv 1) xtk))) pN xm2) zsn)))
   (zpo (xao (pR xfm (xak xad rfl T.z_len PySem.boot_len (pc (pv 4) pN zsn)) (xak xad rfl T.z_len PySem.boot_len (pc (pv 3) pN zsn)) (nM _)) (zpo xbh) pQ)))))), ?_⟩
 refine ⟨_, rfl, _, rfl, kv, ks, k, rfl, hk, fun u H1 s1 r1 => ?_⟩
 rw [hkn] at r1
 obtain ⟨e, ps, rfl, he, hps⟩ := r1
 have hl := hps.length
 rw [zLM] at hl
 refine ⟨e, rfl, ⟨_, SqT.of he⟩, ?_⟩
 refine xcp (j := 0) (xs := ps) (fun i ys H' => H' = H1 /\ ys = ((kn.parts.take i).map (·.1)).map V.str) (by rfl) ⟨rfl, rfl⟩ (xat (by omega)) (fun i ys H' _ p => by obtain ⟨rfl, _⟩ := p; exact SqT.of he) ?_ ?_
 ·rintro i x ys H' hx hly ⟨rfl, rfl⟩
  obtain ⟨d, hd, rd⟩ := hps.get hx
  rw [zGM] at hd
  obtain ⟨p, hp, rfl⟩ := zMS hd
  obtain ⟨b, wz, rfl, hb, _, _, rfl, rfl, _, _, rfl, rfl, rfl⟩ := rd
  have hi' : i < ps.length := (zES hx).1
  refine ⟨_, rfl, b, _, _, _, rfl, rfl, SqT.of hb, rfl, nxt hi' hly ⟨rfl, ?_⟩⟩
  rw [List.take_add_one, hp]
  simp
 rintro ys H' hly ⟨rfl, rfl⟩ D1 hD1
 rw [zTL (by omega)]
 have t1 := Same.new hD1 (.lst ((kn.parts.map (·.1)).map V.str))
 have s2 := s1.trans t1
 have hwl := hws.length
 rw [zLM] at hwl
 generalize hH2 : upd H' D1 (.lst ((kn.parts.map (·.1)).map V.str)) = H2 at t1 s2 ⊢
 have hD1' : H2 D1 = some (.lst ((kn.parts.map (·.1)).map V.str)) := by rw [<- hH2]; exact ups
 refine ⟨_, rfl, c, rfl, ⟨_, SqT.of (s2 _ _ hc)⟩, ?_⟩
 refine xcp (j := 0) (xs := ws) (fun i ys H' => H' = H2 /\ ys = ((rs.take i).map (·.1)).map V.str) (by rfl) ⟨rfl, rfl⟩ (xat (by omega)) (fun i ys H' _ p => by obtain ⟨rfl, _⟩ := p; exact SqT.of (s2 _ _ hc)) ?_ ?_
 ·rintro i x ys H3 hx hly ⟨rfl, rfl⟩
  obtain ⟨d, hd, rd⟩ := (hws.same s2 _).get hx
  rw [zGM] at hd
  obtain ⟨p, hp, rfl⟩ := zMS hd
  obtain ⟨b, wz, rfl, hb, _, _, rfl, rfl, _, _, rfl, rfl, v3, _, rfl, r3, rfl⟩ := rd
  have hi' : i < ws.length := (zES hx).1
  refine ⟨_, rfl, b, _, _, _, rfl, rfl, SqT.of hb, rfl, nxt hi' hly ⟨rfl, ?_⟩⟩
  rw [List.take_add_one, hp]
  simp
 rintro ys H3 hly ⟨rfl, rfl⟩ D2 hD2
 rw [zTL (by omega)]
 have t2 := Same.new hD2 (.lst ((rs.map (·.1)).map V.str))
 have s3 := s2.trans t2
 have hD1'' := t2 _ _ hD1'
 generalize hH4 : upd H3 D2 (.lst ((rs.map (·.1)).map V.str)) = H4 at t2 s3 hD1'' ⊢
 have hD2' : H4 D2 = some (.lst ((rs.map (·.1)).map V.str)) := by rw [<- hH4]; exact ups
 refine ⟨_, rfl, D2, rfl, ⟨_, SqL.of hD2'⟩, ?_⟩
 refine xhf (xs := (rs.map (·.1)).map V.str) (fun i σ H' => ∃ o5, σ = [some kv, some (.str k), some (.ref c), some (.ref D1), some (.ref D2), o5] /\ H' = H4) ⟨none, rfl, rfl⟩ (fun i σ H' _ p => ?_) ?_ ?_
 ·obtain ⟨_, _, rfl⟩ := p
  exact SqL.of hD2'
 ·rintro i z σ H5 hz ⟨o5, rfl, rfl⟩
  rw [zGM] at hz
  obtain ⟨y, hy, rfl⟩ := zMS hz
  obtain ⟨r, hr, rfl⟩ := List.mem_map.mp (zMG hy)
  obtain ⟨k2, hk2⟩ := hpt r hr
  refine ⟨_, rfl, _, rfl, D1, _, rfl, .inl (SqL.of hD1''), rfl, xct _, _, rfl, ?_⟩
  rw [if_pos rfl, xhe, zDT (xpw hk2)]
  exact iteF ⟨_, rfl, rfl⟩
 ·rintro σ H5 ⟨o5, rfl, rfl⟩
  have l1 : (Str.empty ++ Str.ofString "arms in a case of the kind ").length = 27 := by walk_at "k"
  refine ⟨_, rfl, fits (by omega), _, rfl, _, rfl, fits (by omega), fits (by rw [Str.length_append]; omega), fits (by rw [Str.length_append]; omega), ?_⟩
  refine ⟨D2, rs.map (·.1), _, rfl, hD2', hnd, by rw [zLM]; omega, ?_⟩
  refine ⟨_, rfl, D2, _, rfl, .inl (SqL.of hD2'), _, rfl, D1, _, rfl, .inl (SqL.of hD1''), _, _, rfl, rfl, _, rfl, iteKF (zDF ?_) (q _ s3)⟩
  rw [zLM, zLM, zLM, zLM]
  omega
theorem xkf (T : Tx K mg) (R : RK) (D_kind_of : DefIs P w K mg base n "kind_of" ["kinds", "term", "boxes"] (xay R (m + 1))) (D_with_box : DefIs P w K mg base n "with_box" ["boxes", "x", "thing"] (xfc m)) (D_part_kind : DefIs P w K mg base n "part_kind" ["kinds", "kind", "name"] xcr) :
  DefIs P w K mg base (n + 1) "arm_kind" ["kinds", "kind", "arm", "boxes"] (xh6 R m) := by
 refine DefIs.of T.d_arm_kind sc_arm_kind ?_ ?_ <;> walk_at "i"
 ·obtain ⟨_, _, _, _, _, _, _, _, _, _, rfl, _⟩ := h
  rfl
 obtain ⟨kv, av, p, ks, env, k1, kn, k, k2, r, rfl, hk, hkn, hv, he, hx, hp, hR, hm, q⟩ := h
 have nd := sc_arm_kind.nd
 have hu := xc2 hr
 refine ⟨_, (zpn (xah (i := 4) nd rfl (by walk_at "o") (xag xaf (pv 2) pI (fun _ _ => rfl)))
   (zpn (xao (xfi (xnu hu (pv 4) (pv 3))) (zpo xbh) pQ)
   (zpo (xae (pd D_kind_of hr (pc (pv 0) (pc (xag xaf (pv 2) pI (fun _ _ => rfl)) (pc (pd D_with_box hr (pc (pv 3) (pc (pv 4) (pc (pd D_part_kind hr (pc (pv 0) (pc (pv 1) (pc (xag xaf (pv 2) pI (fun _ _ => rfl)) pN ss) zsn) zsn)) pN zsc) zsn) zsn)) pN zsc) ss) zsn)))))), ?_⟩
 obtain ⟨a, us, rfl, ha, _, _, rfl, rfl, _, _, rfl, rfl, ve, _, rfl, re, rfl⟩ := hv
 have hS : SqT K H a [.str r.1, .str r.2.1, ve] := SqT.of ha
 refine ⟨_, rfl, a, _, _, _, rfl, rfl, hS, rfl, ?_⟩
 obtain ⟨kvs, hkp, hkl, hh⟩ := id he
 have g : DGet H p (.str r.2.1) none := (hh r.2.1).1 hx ▸ DGet.k (k := Sum.inr r.2.1) hkp
 refine ⟨_, rfl, _, rfl, p, _, rfl, g, _, rfl, iteF ?_⟩
 refine ⟨_, rfl, _, rfl, a, _, _, _, rfl, rfl, hS, rfl, _, rfl, _, rfl, _, rfl, _, rfl, _, rfl, a, _, _, _, rfl, rfl, hS, rfl, ?_⟩
 refine ⟨kv, ks, k1, kn, r.1, k2, rfl, hk, hkn, hp, fun H1 s1 => ?_⟩
 refine ⟨p, r.2.1, .str k2, .str k2, env, rfl, he.same s1, rfl, hm, fun p' H2 s2 he2 => ?_⟩
 have s12 := s1.trans s2
 exact ⟨kv, ve, p', ks, r.2.2, _, k, rfl, hk.same s12, re.same s12 _, he2, hR, fun H3 s3 => q _ (s12.trans s3)⟩
theorem xi4 (T : Tx K mg) (R : RK) (hm : m <= 1000) (hRK : ∀ ks env d k, R ks env d k -> KL ks) (D_kind_of_sort : DefIs P w K mg base n "kind_of_sort" ["kinds", "term", "boxes", "sort"] (xeb R m)) (D_need_tags : DefIs P w K mg base n "need_tags" ["kinds", "kind", "arms"] xga) (D_arm_kind : DefIs P w K mg base n "arm_kind" ["kinds", "kind", "arm", "boxes"] (xh6 R m)) (D_need_same : DefIs P w K mg base n "need_same" ["found", "kind"] xdb) :
  DefIs P w K mg base (n + 1) "case_kind" ["kinds", "term", "boxes"] (xay (fun ks => xl1 True ks (R ks)) m) := by
 refine DefIs.of T.d_case_kind sc_case_kind ?_ ?_ <;> walk_at "i"
 ·obtain ⟨_, _, _, _, _, _, _, rfl, _⟩ := h
  rfl
 obtain ⟨kv, tv, p, ks, d, env, k, rfl, hk, hv, he, ⟨_, a, rs, k1, kn, h1, h2, h3, h4, h5, h6, h7, rfl⟩, q⟩ := h
 have nd := sc_case_kind.nd
 have hkl := hRK _ _ _ _ h1
 refine ⟨_, (zpn (xah (i := 3) nd rfl (by walk_at "o") (pd D_kind_of_sort hr (pc (pv 0) (pc (xag xaf (pv 1) pI (fun _ _ => rfl)) (pc (pv 2) (pc pS pN zso) zsn) ss) zsn)))
   (zpn (xah (i := 4) nd rfl (by walk_at "o") (xag xaf (pv 1) pI (fun _ _ => rfl)))
   (zpn (xaz (pd D_need_tags hr (pc (pv 0) (pc (pv 3) (pc (pv 4) pN zsn) zsn) zsn)))
   (zpn (xah (i := 5) nd rfl (by walk_at "o") (pd D_arm_kind hr (pc (pv 0) (pc (pv 3) (pc (xag xaf (pv 4) pI (fun _ _ => rfl)) (pc (pv 2) pN zsn) ss) zsn) zsn)))
   (zpn (xbo PassesOwn.never rfl (xa4 (xcm xtc (pv 4) (xcq pI) xed)) (xaa (i := 6) nd rfl (by walk_at "o"))
   (zpo (xaz (pd D_need_same hr (pc (pd D_arm_kind hr (pc (pv 0) (pc (pv 3) (pc (pv 6) (pc (pv 2) pN zsn) zsn) zsn) zsn)) (pc (pv 5) pN zsn) zsc)))))
   (zpo (xae (pv 5)))))))), ?_⟩
 have hs : kn.sort = S "alt" := by unfold Kn.sort; rw [if_neg (by rw [h3]; decide)]
 obtain ⟨l, us, rfl, ha, _, _, rfl, rfl, va, _, rfl, ra, vr, _, rfl, rr, rfl⟩ := hv
 obtain ⟨c, ws, rfl, hc, hws⟩ := rr
 refine ⟨_, rfl, _, rfl, l, _, _, _, rfl, rfl, SqT.of ha, rfl, _, rfl, ?_⟩
 refine ⟨_, _, _, ks, _, env, k1, kn, by rw [hs]; rfl, hk, ra, he, h1, h2, fun H1 s1 => ?_⟩
 refine ⟨_, rfl, l, _, _, _, rfl, rfl, SqT.of (s1 _ _ ha), rfl, ?_⟩
 refine ⟨_, rfl, _, rfl, _, rfl, kv, c, ws, ks, k1, kn, rs, rfl, hk.same s1, hkl, h2, s1 _ _ hc, hws.same s1 _, h5, h6, (fun r hr => by obtain ⟨_, k2, e, _⟩ := h7 r hr; exact ⟨k2, e⟩), fun H2 s2 => ?_⟩
 have s12 := s1.trans s2
 have arm : ∀ (i : Nat) (w0 : V) (H3 : Hp) (s3 : Same H H3), ws[i]? = some w0 -> ∃ (r : Str × Str × D) (k2 : Str), RelD H3 w0 (dArm r) /\ env r.2.1 = none /\ xc6 kn r.1 = some k2 /\ R ks (env.put r.2.1 (.str k2)) r.2.2 k := fun i w0 H3 s3 hw => by
  obtain ⟨d0, hd0, rd0⟩ := hws.get hw
  rw [zGM] at hd0
  obtain ⟨r, hr, rfl⟩ := zMS hd0
  obtain ⟨g1, k2, g2, g3⟩ := h7 r (zMG hr)
  exact ⟨r, k2, rd0.same s3 _, g1, g2, g3⟩
 have hwl := hws.length
 rw [zLM] at hwl
 have hrp : 0 < rs.length := List.length_pos_iff.mpr h4
 cases hw0 : ws with
 | nil => rw [hw0] at hwl; simp at hwl; omega
 | cons w0 wr =>
  refine ⟨_, rfl, _, rfl, _, rfl, c, _, _, w0, rfl, rfl, SqT.of (s12 _ _ hc), (by rw [hw0]; exact xap (j := 0) rfl), _, rfl, ?_⟩
  obtain ⟨r, k2, g0, g1, g2, g3⟩ := arm 0 w0 H2 s12 (by rw [hw0]; rfl)
  refine ⟨kv, w0, p, ks, env, k1, kn, k, k2, r, rfl, hk.same s12, h2, g0, he.same s12, g1, g2, g3, hm, fun H3 s3 => ?_⟩
  have s13 := s12.trans s3
  refine ⟨_, rfl, _, rfl, c, ws, rfl, SqT.of (s13 _ _ hc), (by
   rw [show ((1 : Int)) = ((1 : Nat) : Int) from rfl, HT.sIx_nat]
   rw [hw0, List.length_cons]
   omega), fun cp hcp => ?_⟩
  have t3 := Same.new hcp (.tup (cutV ws (some 1) none))
  have s14 := s13.trans t3
  have hcut : cutV ws (some 1) none = wr := by
   unfold cutV
   rw [show ((1 : Int)) = ((1 : Nat) : Int) from rfl, HT.sIx_nat, HT.sIx_none, hw0, List.length_cons]
   rw [show min 1 (wr.length + 1) = 1 by omega]
   show List.take _ wr = wr
   exact zTL (by omega)
  refine ⟨cp, rfl, ⟨_, SqT.of ups⟩, ?_⟩
  rw [hcut] at t3 s14 ⊢
  refine xb5 (xs := wr) (fun i σ H' => ∃ o6, σ = [some kv, some (.ref l), some (.ref p), some (.str k1), some (.ref c), some (.str k), o6] /\ Same (upd H3 cp (.tup wr)) H') ⟨none, rfl, Same.refl _⟩ (fun i σ H' _ p => ?_) ?_ ?_
  ·obtain ⟨_, _, sm⟩ := p
   exact SqT.of (sm _ _ ups)
  ·rintro i v σ H5 hv ⟨o6, rfl, sm⟩
   refine ⟨_, rfl, _, rfl, _, rfl, _, rfl, ?_⟩
   obtain ⟨r, k2, g0, g1, g2, g3⟩ := arm (i + 1) v H5 (s14.trans sm) (by rw [hw0]; exact hv)
   have s15 := s14.trans sm
   refine ⟨kv, v, p, ks, env, k1, kn, k, k2, r, rfl, hk.same s15, h2, g0, he.same s15, g1, g2, g3, hm, fun H6 s6 => ?_⟩
   exact ⟨_, rfl, k, rfl, _, rfl, sm.trans s6⟩
  ·rintro σ H5 ⟨o6, rfl, sm⟩
   exact ⟨_, rfl, q _ (s14.trans sm)⟩
theorem xsd (R : RK) (D : DefIs P w K mg base n "kind_of" ["kinds", "term", "boxes"] (xay R (m + 1))) : DefIs P w K mg base n "kind_of" ["kinds", "term", "boxes"] (xay R m) := D.imp fun vs H Q E h => by
 obtain ⟨kv, tv, p, ks, d, env, k, h1, h2, h3, h4, h5, h6⟩ := h
 exact ⟨kv, tv, p, ks, d, env, k, h1, h2, h3, h4.mono (by omega), h5, h6⟩
def KdL (n : Nat) : RK := fun ks env d k => KL ks /\ Kd True ks n env d k
theorem xoj (T : Tx K mg) : ∀ n m, n + m <= 1000 -> DefIs P w K mg base (3 * n + 8) "kind_of" ["kinds", "term", "boxes"] (xay (KdL n) m)
 | 0, m, _ => by
  refine (xjf (P := P) (w := w) (base := base) (n := 4) (m := m) T (fun _ _ _ _ => False) False (DefIs.none T.d_kind_of ?_) (DefIs.none T.d_case_kind ?_)).imp ?_
  ·rintro vs H Q E ⟨_, _, _, _, _, _, _, _, _, _, _, h, _⟩
   exact h
  ·rintro vs H Q E ⟨_, _, _, _, _, _, _, _, _, _, _, ⟨h, _⟩, _⟩
   exact h
  ·rintro vs H Q E ⟨kv, tv, p, ks, d, env, k, h1, h2, h3, h4, h5, h6⟩
   exact ⟨kv, tv, p, ks, d, env, k, h1, h2, h3, h4, .inl h5.2, h6⟩
 | n + 1, m, hnm => by
  have ih1 : DefIs P w K mg base (3 * n + 8) "kind_of" ["kinds", "term", "boxes"] (xay (KdL n) (m + 1)) := xoj T n (m + 1) (by omega)
  have ih := xsd (KdL n) ih1
  have ko := xc9 (n := 3 * n + 8) T (KdL n) ih (xbc T)
  have pk := xcn (P := P) (w := w) (base := base) (n := 3 * n + 7) T (xa0 T)
  have ak := xkf (n := 3 * n + 8) T (KdL n) ih1 (xfo T) pk
  have nt := xix (P := P) (w := w) (base := base) (n := 3 * n + 8) T (xa0 T) (xiz T)
  have ck := xi4 (n := 3 * n + 9) T (KdL n) (by omega) (fun _ _ _ _ h => h.1) ko nt ak (xc8 T)
  refine (xjf (n := 3 * n + 7) (m := m) T (KdL n) True ih ck).imp ?_
  rintro vs H Q E ⟨kv, tv, p, ks, d, env, k, h1, h2, h3, h4, ⟨hl, h5⟩, h6⟩
  refine ⟨kv, tv, p, ks, d, env, k, h1, h2, h3, h4, ?_, h6⟩
  rcases h5 with h5 | h5
  ·exact .inl h5
  ·exact .inr (h5.mono fun _ _ _ h => ⟨hl, h⟩)
theorem xma {X : Cx} {K : PySem.W.Frag} (hK : X.K = K) : OpR X (compareOp .In) (rIn K false) := by subst hK; exact xiq
theorem xlc {H : Hp} : ∀ {vs : List V} {ds : List D} (n : Nat), RelDs H vs ds -> RelDs H (vs.take n) (ds.take n)
 | vs, [], n, h => by
  rw [show vs = [] from h, List.take_nil, List.take_nil]
  rfl
 | vs, d :: ds, 0, _ => by
  rw [List.take_zero, List.take_zero]
  rfl
 | vs, d :: ds, n + 1, ⟨v, r, e, h1, h2⟩ => by
  subst e
  exact ⟨v, _, rfl, h1, xlc n h2⟩
theorem xno {H : Hp} {w : V} {e : D} (hw : RelD H w e) : ∀ {vs : List V} {ds : List D} (n : Nat), RelDs H vs ds -> RelDs H (vs.set n w) (ds.set n e)
 | vs, [], n, h => by
  rw [show vs = [] from h]
  rfl
 | vs, d :: ds, 0, ⟨v, r, e', h1, h2⟩ => by
  subst e'
  exact ⟨w, r, rfl, hw, h2⟩
 | vs, d :: ds, n + 1, ⟨v, r, e', h1, h2⟩ => by
  subst e'
  exact ⟨v, _, rfl, h1, xno hw n h2⟩
theorem xif {H : Hp} : ∀ {vs : List V} {ds : List D} (n : Nat), RelDs H vs ds -> RelDs H (vs.eraseIdx n) (ds.eraseIdx n)
 | vs, [], n, h => by
  rw [show vs = [] from h]
  rfl
 | vs, d :: ds, 0, ⟨v, r, e', h1, h2⟩ => by
  subst e'
  exact h2
 | vs, d :: ds, n + 1, ⟨v, r, e', h1, h2⟩ => by
  subst e'
  exact ⟨v, _, rfl, h1, xif n h2⟩
theorem xkk {α β : Type} (f : α -> β) : ∀ (l : List α) (n : Nat) (a : α), (l.set n a).map f = (l.map f).set n (f a)
 | [], _, _ => rfl
 | b :: l, 0, a => rfl
 | b :: l, n + 1, a => by
  show f b :: (l.set n a).map f = f b :: (l.map f).set n (f a)
  rw [xkk f l n a]
theorem xja {α β : Type} (f : α -> β) : ∀ (l : List α) (n : Nat), (l.eraseIdx n).map f = (l.map f).eraseIdx n
 | [], _ => rfl
 | b :: l, 0 => rfl
 | b :: l, n + 1 => by
  show f b :: (l.eraseIdx n).map f = f b :: (l.map f).eraseIdx n
  rw [xja f l n]
theorem cut0 (us : List V) (k : Nat) : cutV us none (some (k : Int)) = us.take k := by
 unfold cutV
 rw [show HT.sIx us.length 0 none = 0 from rfl, List.drop_zero, Nat.sub_zero, HT.sIx_nat]
 by_cases h : k <= us.length
 ·rw [Nat.min_eq_left h]
 ·rw [Nat.min_eq_right (by omega), List.take_length, zTL (by omega)]
theorem xpt {X : Cx} {K : PySem.W.Frag} {tg : Expr} (hK : X.K = K) {l : Expr} {tl : TE} (hl : PE X l tl) : PI X tg l (iList K tl) := by subst hK; exact xce hl
theorem xq0 (Pq : Addr -> Hp -> Prop) {R : Addr -> Hp -> Prop} {A : Prop} (h : (∀ a H, Pq a H -> R a H) -> A) (r : ∀ a H, Pq a H -> R a H) : A := h r
structure BP (ks : List Kn) (ns : List Str) (n7 : Str) (qs : List (Str × Str)) : Prop where
 len : qs.length <= 4
 nd : (qs.map (·.1)).Nodup
 nm : ∀ p ∈ qs, p.1 ∈ ns \/ p.1 = n7
 kn : ∀ p ∈ qs, KIn ks ks.length p.2
def spBP : Sp := fun vs H Q _ => ∃ (f l nb : Addr) (srt : Str) (pv : V) (p q : Int) (ws : List V) (ks : List Kn) (ps : List (Str × Str)) (nms : List Str) (n7 : Str), vs = [.ref f, .ref l, .str srt, pv, .ref nb] /\ H f = some (.lst [.int p, .int q]) /\ H l = some (.lst ws) /\ RelDs H ws (ks.map Kn.d) /\ KWf ks ∧
 RelD H pv (xbf ps) /\ ps.length <= 4 /\ (ps.map (·.1)).Nodup /\ H nb = some (.lst (nms.map V.str)) /\ nms[7]? = some n7 /\ n7 ∉ ps.map (·.1) /\ l ≠ f /\ nb ≠ f ∧
 ∀ v qs (H' : Hp), Fed f H H' -> RelD H' v (xbf qs) -> BP ks (ps.map (·.1)) n7 qs -> (srt = S "alt" -> qs ≠ []) -> Q v H'
def StA (H : Hp) (f : Addr) (qok : List (Str × Str) -> Prop) (pl : Addr) (H' : Hp) : Prop := Fed f H H' /\ pl ≠ f /\ H pl = none /\ ∃ us qs, H' pl = some (.lst us) /\ RelDs H' us (qs.map xbu) /\ qok qs
def okA (ks : List Kn) (ps : List (Str × Str)) (qs : List (Str × Str)) : Prop := qs.length <= 4 /\ (qs.map (·.1)).Sublist (ps.map (·.1)) /\ ∀ p ∈ qs, KIn ks ks.length p.2
theorem xew (T : Tx K mg) (Dl_take : DefIs P w K mg base n "_law_take" ["_law_feed_here", "_law_many"] xb9) (Dl_any_kind : DefIs P w K mg base n "_law_any_kind" ["_law_feed_here", "_law_kinds_here"] xpm) : DefIs P w K mg base (n + 1) "_law_beside_parts" ["_law_feed_here", "_law_kinds_here", "_law_sort", "_law_parts_here", "_law_names_here"] spBP := by
 refine DefIs.of T.dl_beside_parts scl_beside_parts ?_ ?_ <;> walk_at "i"
 ·obtain ⟨_, _, _, _, _, _, _, _, _, _, _, _, rfl, _⟩ := h
  rfl
 obtain ⟨f', l, nb, srt, pv', p0, q0, ws, ks, ps, nms, n7, rfl, hf, hl, hws, wf, hpv, hps4, hpnd, hnb, hn7, hn7n, lf, nf, q⟩ := h
 have nd := scl_beside_parts.nd
 have hfew := wf.few
 have hwl := hws.length
 rw [zLM] at hwl
 refine ⟨_, (zpn (xah (i := 5) nd rfl (by walk_at "o") (pd Dl_take hr (pc (pv 0) (pc pI pN zso) zsn)))
   (zpn (xa9 (i := 3) ["_law_name", "_law_part", "_law_kinds_here"] [none, none, some 1] rfl (by kernel_rfl) nd rfl (by walk_at "o") (xa4 (pv 3)) (fun _ _ _ _ => (xbp (K := K) (n := 2) rfl rfl (xab (xaa (i := 0) (by show List.Nodup (["_law_name", "_law_part", "_law_kinds_here"] : List Str); decide +kernel) rfl (Or.inl rfl)) (xab (xaa (i := 1) (by show List.Nodup (["_law_name", "_law_part", "_law_kinds_here"] : List Str); decide +kernel) rfl (Or.inl rfl)) xaq)))) (fun _ _ _ _ => (xcd (PW.pt (xfh (pR xas (pv 1) pS (nM _)) (xep (pR (xma (K := K) rfl) (pv 1) (xba ["_law_row"] [none] rfl (by kernel_rfl) (xpt (K := K) rfl (pv 2)) (fun _ _ _ _ => (xaa (i := 0) (by show List.Nodup (["_law_row"] : List Str); decide +kernel) rfl (Or.inl rfl))) (fun _ _ _ _ => xa8) (fun _ _ _ _ => (xag (xbt (K := K) rfl) (pv 0) pI (fun _ _ => rfl)))) (by with_unfolding_all rfl))))))) (fun _ _ _ _ => (xan (pc (pv 0) (pc (pv 1) pN zsn) zsn))))
   (zpn (xao (PW.pt (xcl (pR xas (pv 5) pI (nM _)) (xb3 (pR xdr (xak xad rfl T.z_len PySem.boot_len (pc (pv 3) pN zsn)) pI (nM _))))) (zpo (xaz (xev PySem.F.plainAttrs_list PySem.F.slot_list_pop PySem.F.type_list_pop xp5 (pv 3) (pc (pd Dl_take hr (pc (pv 0) (pc (xak xad rfl T.z_len PySem.boot_len (pc (pv 3) pN zsn)) pN zsc) zsn)) pN zsc)))) pQ)
   (zpn (xao (PW.pt (xfh (pR xas (pv 5) pI (nM _)) (xep (PW.pt (xcl (pR xas (xak xad rfl T.z_len PySem.boot_len (pc (pv 3) pN zsn)) pI (nM _)) (xb3 (pR xas (pv 2) pS (nM _)))))))) (zpo (xah (i := 3) nd rfl (by walk_at "o") (xam xfn (xcm xfg (pv 3) xed (xcq pI)) (xbs (pc (xan (pc (xag iL (pv 4) pI (fun _ _ => rfl)) (pc (pd Dl_any_kind hr (pc (pv 0) (pc (pv 1) pN zsn) zsn)) pN zsc) ss)) pN sT))))) pQ)
   (zpn (xao (pR xas (pv 5) pI (nM _)) (zpo (xaz (xqw PySem.F.plainAttrs_list PySem.F.slot_list_reverse PySem.F.type_list_reverse xgf (pv 3)))) pQ)
   (zpn (xao (PW.pt (xcl (pR xas (pv 5) pI (nM _)) (xb3 (pR xdr (xak xad rfl T.z_len PySem.boot_len (pc (pv 3) pN zsn)) pI (nM _))))) (zpn (xah (i := 6) nd rfl (by walk_at "o") (pd Dl_take hr (pc (pv 0) (pc (xak xad rfl T.z_len PySem.boot_len (pc (pv 3) pN zsn)) pN zsc) zsn)))
   (zpo (xcb (xan (pc (xag xaf (xag iL (pv 3) (pv 6) (fun _ _ => rfl)) pI (fun _ _ => rfl)) (pc (pd Dl_any_kind hr (pc (pv 0) (pc (pv 1) pN zsn) zsn)) pN zsc) ss)) (xns (pv 3) (pv 6) xgy)))) pQ)
   (zpo (xae (xar xau rfl T.z_tuple PyProof.Rows.boot_tuple (pc (pv 3) pN zsn)))))))))), ?_⟩
 refine ⟨_, rfl, f', p0, q0, _, rfl, hf, by decide, by decide, fun fm H1 m0 m1 f1 => ?_⟩
 have tp1 := xai ⟨p0, q0, hf⟩ f1
 obtain ⟨p1, q1, h1⟩ := f1.2
 have hl1 := f1.1 _ _ hl lf
 have hws1 := hws.tups tp1 _
 obtain ⟨pa, us, rfl, hpa, hus⟩ := hpv
 have hpa1 := tp1 _ _ hpa
 have hus1 := hus.tups tp1 _
 have hul := hus.length
 rw [zLM] at hul
 apply xq0 (StA H f' (okA ks ps))
 ·intro key
  refine ⟨_, rfl, pa, rfl, ⟨_, SqT.of hpa1⟩, ?_⟩
  refine xa7 (xs := us) (fun i ys H' => Same H1 H' /\ ∃ qs : List (Str × Str), qs.Sublist (ps.take i) /\ RelDs H' ys (qs.map xbu) /\ ∀ p ∈ qs, KIn ks ks.length p.2) ⟨Same.refl _, [], List.nil_sublist _, rfl, fun _ h => nomatch h⟩ (xat (by omega)) (fun i ys H' _ p => SqT.of (p.1 _ _ hpa1)) ?_ ?_
  ·rintro i y ys H' hy hi2 hly ⟨sm, qs, hsub, rqs, hqk⟩
   obtain ⟨d', hd2, rd2⟩ := hus1.get hy
   rw [zGM] at hd2
   obtain ⟨pr, hpr, rfl⟩ := zMS hd2
   obtain ⟨b, ws', rfl, hb, _, _, rfl, rfl, _, _, rfl, rfl, rfl⟩ := rd2
   have etk : ps.take (i + 1) = ps.take i ++ [pr] := by rw [List.take_add_one, hpr]; rfl
   have keep : ∀ (H2 : Hp) (t : Addr), Same H' H2 -> H2 t = none -> KIn ks ks.length pr.2 -> Same H1 (upd H2 t (.tup [.str pr.1, .str pr.2])) /\ ∃ qs' : List (Str × Str), qs'.Sublist (ps.take (i + 1)) /\ RelDs (upd H2 t (.tup [.str pr.1, .str pr.2])) (ys ++ [.ref t]) (qs'.map xbu) /\ ∀ p ∈ qs', KIn ks ks.length p.2 := fun H2 t s2 ht hk => by
    have st := Same.new ht (.tup [.str pr.1, .str pr.2])
    refine ⟨sm.trans (s2.trans st), qs ++ [pr], by rw [etk]; exact hsub.append (List.Sublist.refl _), ?_, fun z hz => ?_⟩
    ·rw [List.map_append]
     exact (rqs.same (s2.trans st) _).append ⟨_, [], rfl, ⟨t, _, rfl, ups, _, _, rfl, rfl, _, _, rfl, rfl, rfl⟩, rfl⟩
    ·rcases zMA hz with hz | hz
     ·exact hqk z hz
     ·rw [zMO hz]; exact hk
   refine ⟨b, _, rfl, SqT.of (sm _ _ hb), rfl, _, _, rfl, _, _, rfl, rfl, ext2 rfl rfl, ?_⟩
   refine ⟨_, rfl, rfl, _, rfl, ?_⟩
   by_cases hnum : pr.2 = S "num"
   ·exact iteKT (zDT (congrArg V.str hnum)) (iteT ⟨_, rfl, _, rfl, (by walk_at "s"), fun t ht => nxtG hi2 hly (keep _ t (Same.refl _) ht (.inl hnum))⟩)
   ·refine iteKF (zDF fun z => hnum (V.str.inj z)) ?_
    refine ⟨_, rfl, _, rfl, l, rfl, ⟨_, SqL.of (sm _ _ hl1)⟩, ?_⟩
    refine xf0 (j := 0) (xs := ws) (fun i2 ys2 H2 => Same H' H2 /\ ys2 = ((ks.take i2).map Kn.name).map V.str) (by rfl) ⟨Same.refl _, rfl⟩ (xat (by omega)) (fun i2 ys2 H2 _ p => SqL.of (p.1 _ _ (sm _ _ hl1))) ?_ ?_
    ·rintro i' x ys2 H2 hx hly2 ⟨s2, rfl⟩
     obtain ⟨d, hd, rd⟩ := (hws1.same (sm.trans s2) _).get hx
     rw [zGM] at hd
     obtain ⟨k', hk', rfl⟩ := zMS hd
     obtain ⟨b3, vs', rfl, hb3, _, _, rfl, rfl, _, _, rfl, rfl, v3, _, rfl, r3, rfl⟩ := rd
     have hi' : i' < ws.length := (zES hx).1
     refine ⟨_, rfl, b3, _, _, _, rfl, rfl, SqT.of hb3, rfl, nxt hi' hly2 ⟨s2, ?_⟩⟩
     rw [List.take_add_one, hk']
     simp
    rintro ys2 H2 hly2 ⟨s2, rfl⟩ D2 hD2
    rw [zTL (by omega)]
    have sD := Same.new hD2 (.lst ((ks.map Kn.name).map V.str))
    refine ⟨D2, _, rfl, .inl (SqL.of ups), rfl, xct _, _, rfl, ?_⟩
    rw [if_neg (by decide), xhe]
    by_cases hin : pr.2 ∈ ks.map Kn.name
    ·refine xmj (zDT hin) ⟨_, rfl, _, rfl, (by walk_at "s"), fun t ht => nxtG hi2 hly (keep _ t (s2.trans sD) ht (KIn.of (.inr ?_)))⟩
     obtain ⟨k', h1', h2'⟩ := List.mem_map.mp hin
     exact ⟨k', h1', h2'⟩
    ·exact xmk (zDF hin) (nxtN hi2 hly ⟨sm.trans (s2.trans sD), qs, by rw [etk]; exact hsub.trans (List.sublist_append_left _ _), rqs.same (s2.trans sD) _, hqk⟩)
  rintro ys H2 hly ⟨sm, qs, hsub, rqs, hqk⟩ pl hpl
  have sP := Same.new hpl (.lst ys)
  have hsub' : qs.Sublist ps := hsub.trans (List.take_sublist _ _)
  have plf : pl ≠ f' := Ne.symm (neN (sm _ _ h1) hpl)
  have hpl0 : H pl = none := by
   cases h : H pl with
   | none => rfl
   | some o =>
    have := (f1.same sm).1 _ _ h plf
    rw [hpl] at this
    cases this
  have st0 : StA H f' (okA ks ps) pl (upd H2 pl (.lst ys)) := ⟨f1.same (sm.trans sP), plf, hpl0, ys, qs, ups, rqs.same sP _, Nat.le_trans hsub'.length_le hps4, hsub'.map _, hqk⟩
  clear hsub hsub' rqs hqk hly
  generalize upd H2 pl (.lst ys) = H3 at st0 ⊢
  clear sP sm hpl plf hpl0 ys qs
  refine ⟨_, rfl, rfl, _, rfl, ite2 (fun c1 => ?_) (fun c1 => iteF (key _ _ st0))⟩
  obtain ⟨F, plf, hpl0, us3, qs, hpl3, rqs, hq4, hqs, hqk⟩ := id st0
  refine ⟨_, rfl, pl, _, rfl, .inl (SqL.of hpl3), _, _, rfl, rfl, _, rfl, ite2 (fun c2 => ?_) (fun c2 => key _ _ st0)⟩
  obtain ⟨p3, q3, h3⟩ := F.2
  have hrl := rqs.length
  rw [zLM] at hrl
  refine ⟨_, rfl, .inl ⟨rfl, _, SqL.of hpl3⟩, _, rfl, _, rfl, pl, _, rfl, .inl (SqL.of hpl3), f', p3, q3, _, rfl, h3, by have := of_decide_eq_true c2; omega, by omega, fun r H4 r0 r1 f4 => ?_⟩
  have hpl4 := f4.1 _ _ hpl3 plf
  obtain ⟨i, rfl⟩ : ∃ i : Nat, r = (i : Int) := ⟨r.toNat, by omega⟩
  have hi' : i < us3.length := by omega
  refine ⟨pl, us3, _, i, us3[i], rfl, rfl, hpl4, by omega, by omega, ?_, zGA hi', ?_⟩
  ·exact PySem.StrLaws.seqIndex_nonneg (by omega) (by omega)
  have rq4 := rqs.tups (xai F.2 f4) _
  have st1 : StA H f' (okA ks ps) pl (upd H4 pl (.lst (us3.eraseIdx i))) := by
   refine ⟨Fed.put (F.trans f4) hpl0 plf _, plf, hpl0, us3.eraseIdx i, qs.eraseIdx i, ups, ?_, Nat.le_trans (List.eraseIdx_sublist _ _).length_le hq4, ((List.eraseIdx_sublist _ _).map _).trans hqs, fun p hp => hqk p ((List.eraseIdx_sublist _ _).subset hp)⟩
   rw [xja]
   exact (xif i rq4).tups (xa2 hpl4 _) _
  generalize upd H4 pl (.lst (us3.eraseIdx i)) = H5 at st1 ⊢
  exact key _ _ st1
 apply xq0 (StA H f' (fun qs => BP ks (ps.map (·.1)) n7 qs /\ (srt = S "alt" -> qs ≠ [])))
 ·intro key pl H3 st0
  obtain ⟨F, plf, hpl0, us3, qs, hpl3, rqs, hq4, hqs, hqk⟩ := id st0
  have hrl := rqs.length
  rw [zLM] at hrl
  obtain ⟨p3, q3, h3⟩ := F.2
  have stay : (srt = S "alt" -> qs ≠ []) -> StA H f' (fun qs => BP ks (ps.map (·.1)) n7 qs /\ (srt = S "alt" -> qs ≠ [])) pl H3 := fun ha => ⟨F, plf, hpl0, us3, qs, hpl3, rqs, ⟨hq4, hpnd.sublist hqs, fun p hp => .inl (hqs.subset (List.mem_map_of_mem hp)), hqk⟩, ha⟩
  apply xlk
  ·intro body
   refine ⟨_, rfl, rfl, _, rfl, ite2 (fun c1 => iteT body.go) (fun c1 => ?_)⟩
   refine ⟨_, rfl, pl, _, rfl, .inl (SqL.of hpl3), rfl, _, rfl, ite2 (fun c2 => ?_) (fun c2 => iteF (key _ _ (stay fun _ e => ?_)))⟩
   ·refine ⟨_, rfl, rfl, _, rfl, ite2 (fun c3 => body.go) (fun c3 => key _ _ (stay fun e => ?_))⟩
    exact absurd (zDT (by rw [e]; rfl)) c3
   ·refine c2 (zDT ?_)
    rw [e] at hrl
    rw [hrl]
    rfl
  have hl3 := F.1 _ _ hl lf
  have hws3 := hws.tups (xai ⟨p0, q0, hf⟩ F) _
  have hnb3 := F.1 _ _ hnb nf
  refine ⟨_, rfl, _, rfl, pl, us3, rfl, SqL.of hpl3, fun c2 hc2 => ?_⟩
  rw [show ((3 : Int)) = ((3 : Nat) : Int) from rfl, cut0]
  have sc := Same.new hc2 (.lst (us3.take 3))
  have c2f : c2 ≠ f' := Ne.symm (neN h3 hc2)
  have hat : atI (nms.map V.str) 7 = some (.str n7) := xap (j := 7) (by rw [zGM, hn7]; rfl)
  refine ⟨_, rfl, nb, _, _, _, rfl, rfl, SqL.of (sc _ _ hnb3), hat, _, rfl, _, rfl, f', l, p3, q3, ws, ks, rfl, sc _ _ h3, .inl (sc _ _ hl3), hws3.same sc _, hfew, fun x H5 hx f5 => ?_⟩
  refine ⟨(by walk_at "s"), fun t ht => ⟨(by walk_at "s"), fun l1 hl1 => ?_⟩⟩
  have y1 := Same.new ht (.tup [.str n7, .str x])
  have y2 := Same.new hl1 (.lst [.ref t])
  have hc5 := f5.1 _ _ ups c2f
  refine ⟨c2, l1, _, _, rfl, rfl, (y1.trans y2) _ _ hc5, ups, fits (by rw [List.length_take]; show _ + 1 <= _; omega), fun l3 hl3' => ?_⟩
  have y3 := Same.new hl3' (.lst (us3.take 3 ++ [.ref t]))
  have y13 := y1.trans (y2.trans y3)
  have F5 : Fed f' H H5 := (F.same sc).trans f5
  have rq5 := ((rqs.same sc _).tups (xai ⟨p3, q3, sc _ _ h3⟩ f5) _).same y13 _
  obtain ⟨p5, q5, h5⟩ := F5.2
  have l3f : l3 ≠ f' := Ne.symm (neN ((y1.trans y2) _ _ h5) hl3')
  have st1 : StA H f' (fun qs => BP ks (ps.map (·.1)) n7 qs /\ (srt = S "alt" -> qs ≠ [])) l3 (upd (upd (upd H5 t (.tup [.str n7, .str x])) l1 (.lst [.ref t])) l3 (.lst (us3.take 3 ++ [.ref t]))) := by
   refine ⟨F5.same y13, l3f, ?_, us3.take 3 ++ [.ref t], qs.take 3 ++ [(n7, x)], ups, ?_, ⟨?_, ?_, fun p hp => ?_, fun p hp => ?_⟩, fun _ => by simp⟩
   ·cases h : H l3 with
    | none => rfl
    | some o =>
     have := (F5.same (y1.trans y2)).1 _ _ h l3f
     rw [hl3'] at this
     cases this
   ·rw [List.map_append, List.map_take]
    exact (xlc 3 rq5).append ⟨_, [], rfl, ⟨t, _, rfl, (y2.trans y3) _ _ ups, _, _, rfl, rfl, _, _, rfl, rfl, rfl⟩, rfl⟩
   ·rw [List.length_append, List.length_take, List.length_singleton]
    omega
   ·rw [List.map_append]
    refine List.nodup_append.mpr ⟨(hpnd.sublist hqs).sublist ((List.take_sublist _ _).map _), by simp, fun a ha b hb e => ?_⟩
    have hb' : b = n7 := by simpa using hb
    rw [e, hb'] at ha
    exact hn7n (hqs.subset (((List.take_sublist _ _).map _).subset ha))
   ·rcases zMA hp with hp | hp
    ·exact .inl (hqs.subset (List.mem_map_of_mem (List.mem_of_mem_take hp)))
    ·rw [zMO hp]; exact .inr rfl
   ·rcases zMA hp with hp | hp
    ·exact hqk p (List.mem_of_mem_take hp)
    ·rw [zMO hp]; exact hx
  generalize upd (upd (upd H5 t (.tup [.str n7, .str x])) l1 (.lst [.ref t])) l3 (.lst (us3.take 3 ++ [.ref t])) = H7 at st1 ⊢
  exact key _ _ st1
 intro pl H3 st0
 obtain ⟨F, plf, hpl0, us3, qs, hpl3, rqs, hbp, hne⟩ := st0
 have hrl := rqs.length
 rw [zLM] at hrl
 have hq4 := hbp.len
 obtain ⟨p3, q3, h3⟩ := F.2
 by_cases e3 : fm = 3
 ·refine ⟨_, rfl, rfl, _, rfl, iteKT (zDT (by rw [e3])) ?_⟩
  refine ⟨_, rfl, .inl ⟨rfl, _, SqL.of hpl3⟩, pl, us3, rfl, rfl, hpl3, ?_⟩
  refine ⟨_, rfl, rfl, _, rfl, iteKF (zDF fun z => absurd (V.int.inj z) (by omega)) (iteF ?_)⟩
  refine ⟨_, rfl, pl, _, rfl, .inl ⟨SqL.of ups, fun t ht => ?_⟩⟩
  have st := Same.new ht (.tup us3.reverse)
  refine q _ qs.reverse _ ((Fed.put F hpl0 plf _).same st) ⟨t, _, rfl, ups, ?_⟩ ⟨by rw [List.length_reverse]; exact hq4, by rw [List.map_reverse]; exact xi6 hbp.nd, fun p hp => hbp.nm p (List.mem_reverse.mp hp), fun p hp => hbp.kn p (List.mem_reverse.mp hp)⟩ fun ha e => hne ha (List.reverse_eq_nil_iff.mp e)
  rw [List.map_reverse]
  exact ((RelDs.rev rqs).tups (xa2 hpl3 _) _).same st _
 refine ⟨_, rfl, rfl, _, rfl, iteKF (zDF fun z => e3 (V.int.inj z)) ?_⟩
 apply xlk
 ·intro key
  refine ⟨_, rfl, rfl, _, rfl, ite2 (fun c1 => ?_) (fun c1 => iteF key.go)⟩
  refine ⟨_, rfl, pl, _, rfl, .inl (SqL.of hpl3), _, _, rfl, rfl, _, rfl, ite2 (fun c2 => ?_) (fun c2 => key.go)⟩
  refine ⟨_, rfl, _, rfl, pl, _, rfl, .inl (SqL.of hpl3), f', p3, q3, _, rfl, h3, by have := of_decide_eq_true c2; omega, by omega, fun r H4 r0 r1 f4 => ?_⟩
  have hpl4 := f4.1 _ _ hpl3 plf
  have F4 := F.trans f4
  obtain ⟨p4, q4, h4⟩ := F4.2
  obtain ⟨i, rfl⟩ : ∃ i : Nat, r = (i : Int) := ⟨r.toNat, by omega⟩
  have hi' : i < us3.length := by omega
  have rq4 := rqs.tups (xai F.2 f4) _
  obtain ⟨di, hdi, rdi⟩ := rq4.get (zGA hi')
  rw [zGM] at hdi
  obtain ⟨pi, hpi, rfl⟩ := zMS hdi
  obtain ⟨b, ws', eb, hb, _, _, rfl, rfl, _, _, rfl, rfl, rfl⟩ := rdi
  have hl4 := F4.1 _ _ hl lf
  have hws4 := hws.tups (xai ⟨p0, q0, hf⟩ F4) _
  have hat : atI us3 (i : Int) = some (.ref b) := xap (by rw [zGA hi', eb])
  refine ⟨_, rfl, _, rfl, pl, _, _, _, rfl, rfl, SqL.of hpl4, hat, b, _, _, _, rfl, rfl, SqT.of hb, rfl, ?_⟩
  refine ⟨_, rfl, _, rfl, f', l, p4, q4, ws, ks, rfl, h4, .inl hl4, hws4, hfew, fun x H5 hx f5 => ⟨(by walk_at "s"), fun t ht => ?_⟩⟩
  have y1 := Same.new ht (.tup [.str pi.1, .str x])
  have hpl5 := y1 _ _ (f5.1 _ _ hpl4 plf)
  have rq5 := (rq4.tups (xai ⟨p4, q4, h4⟩ f5) _).same y1 _
  have hix : ixN us3.length (i : Int) = some i := by
   unfold ixN
   rw [if_pos (by omega), if_pos (by omega)]
   simp
  refine ⟨_, rfl, _, rfl, pl, us3, _, i, rfl, rfl, hpl5, hix, ?_⟩
  have hrl5 : (us3.set i (V.ref t)).length = us3.length := List.length_set
  refine ⟨_, rfl, pl, _, rfl, .inl ⟨SqL.of ups, fun t2 ht2 => ?_⟩⟩
  have st := Same.new ht2 (.tup (us3.set i (.ref t)))
  refine q _ (qs.set i (pi.1, x)) _ ((Fed.put ((F4.trans f5).same y1) hpl0 plf _).same st) ⟨t2, _, rfl, ups, ?_⟩ ⟨by rw [List.length_set]; exact hq4, ?_, fun p hp => ?_, fun p hp => ?_⟩ fun ha e => ?_
  ·rw [xkk]
   exact ((xno (e := xbu (pi.1, x)) ⟨t, _, rfl, ups, _, _, rfl, rfl, _, _, rfl, rfl, rfl⟩ i rq5).tups (xa2 hpl5 _) _).same st _
  ·rw [xkk]
   have : (qs.map (·.1)).set i pi.1 = qs.map (·.1) := by
    refine List.ext_getElem? fun j => ?_
    rw [List.getElem?_set]
    by_cases hij : i = j
    ·subst hij
     rw [if_pos rfl, zGM, hpi, if_pos (by rw [zLM]; omega)]
     rfl
    ·rw [if_neg hij]
   rw [this]
   exact hbp.nd
  ·rcases List.mem_or_eq_of_mem_set hp with hp | rfl
   ·exact hbp.nm p hp
   ·exact hbp.nm pi (zMG hpi)
  ·rcases List.mem_or_eq_of_mem_set hp with hp | rfl
   ·exact hbp.kn p hp
   ·exact hx
  ·have h0 : qs.length = 0 := by
    have := congrArg List.length e
    rwa [List.length_set] at this
   omega
 refine ⟨_, rfl, pl, _, rfl, .inl ⟨SqL.of hpl3, fun t ht => ?_⟩⟩
 have st := Same.new ht (.tup us3)
 exact q _ qs _ (F.same st) ⟨t, _, rfl, ups, rqs.same st _⟩ hbp hne
theorem xqz (Pq : V -> V -> Hp -> Prop) {R : V -> V -> Hp -> Prop} {A : Prop} (h : (∀ a b H, Pq a b H -> R a b H) -> A) (r : ∀ a b H, Pq a b H -> R a b H) : A := h r
theorem xn8 {ks : List Kn} (nd : (ks.map Kn.name).Nodup) {i j : Nat} {k k' : Kn} (hi : ks[i]? = some k) (hj : ks[j]? = some k') (e : k.name = k'.name) : i = j := by
 have h1 : (ks.map Kn.name)[i]? = some k.name := by rw [zGM, hi]; rfl
 have h2 : (ks.map Kn.name)[j]? = some k.name := by rw [zGM, hj, e]; rfl
 have hl := (zES hi).1
 exact (List.getElem?_inj (by rw [zLM]; exact hl) nd).mp (h1.trans h2.symm)
theorem xn3 {nms : List Str} (nd : nms.Nodup) {h7 : 7 < nms.length} (h : nms[7] ∈ nms.drop 8) : False := by
 obtain ⟨j, hj, e⟩ := List.mem_iff_getElem.mp h
 rw [List.getElem_drop] at e
 rw [List.length_drop] at hj
 have h1 : nms[8 + j]? = nms[7]? := by rw [zGA (by omega), zGA h7, e]
 have := (List.getElem?_inj (by omega) nd).mp h1
 omega
structure QOk (ks2 : List Kn) (nms : List Str) (srt : Str) (qs : List (Str × Str)) : Prop where
 len : qs.length <= 4
 nd : (qs.map (·.1)).Nodup
 nm : ∀ p ∈ qs, p.1 ∈ nms
 kn : ∀ p ∈ qs, KIn ks2 ks2.length p.2
 ne : srt = S "alt" -> qs ≠ []
 st : srt = S "rec" \/ srt = S "alt"
def KBes (nms : List Str) (ks2 : List Kn) : Prop := KWf ks2 /\ ks2.length <= 4 /\ ∀ k ∈ ks2, ∀ p ∈ k.parts, p.1 ∈ nms
theorem xnh {x srt : Str} {ps : List (Str × Str)} (h : srt = S "rec" \/ srt = S "alt") : (Kn.mk x (decide (srt = S "rec")) ps).sort = srt := by
 unfold Kn.sort
 rcases h with rfl | rfl
 ·rfl
 ·show (if decide (S "alt" = S "rec") = true then _ else _) = _
  rw [if_neg (by walk_at "k")]
theorem QOk.wf {ks2 : List Kn} {nms : List Str} {srt x : Str} {qs : List (Str × Str)} (h : QOk ks2 nms srt qs) (w : KWf ks2) (l : ks2.length < 6) (hok : xkx nms) (hx : x ∈ nms) (hn : x ∉ ks2.map Kn.name) : KWf (ks2 ++ [Kn.mk x (decide (srt = S "rec")) qs]) := by
 refine w.snoc hn (hok.2.2 _ hx) h.kn (fun hrc => h.ne ?_) l (by show qs.length <= 5; have := h.len; omega) h.nd (fun z hz => hok.2.2 _ (h.nm z hz))
 rcases h.st with e | e
 ·exact absurd hrc (by show ¬ decide (srt = S "rec") = false; rw [e]; decide +kernel)
 ·exact e
theorem QOk.nums {ks2 : List Kn} {nms : List Str} {srt : Str} {qs : List (Str × Str)} (h : QOk ks2 nms srt qs) : QOk ks2 nms srt (qs.map fun p => (p.1, S "num")) := by
 refine ⟨by rw [zLM]; exact h.len, by rw [List.map_map]; exact h.nd, fun p hp => ?_, fun p hp => ?_, fun e z => h.ne e (List.map_eq_nil_iff.mp z), h.st⟩
 ·obtain ⟨p', hp', rfl⟩ := List.mem_map.mp hp
  exact h.nm p' hp'
 ·obtain ⟨p', hp', rfl⟩ := List.mem_map.mp hp
  exact .inl rfl
def xrp : Sp := fun vs H Q _ => ∃ (f nb : Addr) (kv : V) (p q : Int) (ks : List Kn) (nms : List Str), vs = [.ref f, kv, .ref nb] /\ H f = some (.lst [.int p, .int q]) /\ RelD H kv (xbg ks) /\ xqm nms ks /\ H nb = some (.lst (nms.map V.str)) /\ xkx nms /\ nb ≠ f ∧
 ∀ v ks2 (H' : Hp), Fed f H H' -> RelD H' v (xbg ks2) -> KBes nms ks2 -> Q v H'
theorem xmb (T : Tx K mg) (Dl_take : DefIs P w K mg base n "_law_take" ["_law_feed_here", "_law_many"] xb9) (Dl_beside_parts : DefIs P w K mg base n "_law_beside_parts" ["_law_feed_here", "_law_kinds_here", "_law_sort", "_law_parts_here", "_law_names_here"] spBP) (Dl_parts : DefIs P w K mg base n "_law_parts" ["_law_feed_here", "_law_kinds_here", "_law_sort", "_law_names_here"] xgv) (Dl_size : DefIs P w K mg base n "_law_size" ["_law_kinds_here", "_law_kind"] (xfd 6)) : DefIs P w K mg base (n + 1) "_law_beside" ["_law_feed_here", "_law_kinds_here", "_law_names_here"] xrp := by
 refine DefIs.of T.dl_beside scl_beside ?_ ?_ <;> walk_at "i"
 ·obtain ⟨_, _, _, _, _, _, _, rfl, _⟩ := h
  rfl
 obtain ⟨f', nb, kv, p0, q0, ks, nms, rfl, hf, hkv, hKo, hnb, hok, nf, q⟩ := h
 obtain ⟨wf, hk4, hkn, hkp⟩ := hKo
 have nd := scl_beside.nd
 have hlen := hok.1
 obtain ⟨ka, kus, rfl, hka, hku⟩ := hkv
 have hkl := hku.length
 rw [zLM] at hkl
 have h7 : 7 < nms.length := by omega
 have hn7 : nms[7]? = some nms[7] := zGA h7
 refine ⟨_, (zpn (xah (i := 3) nd rfl (by walk_at "o") (xbs pN))
   (zpn (xbo PassesOwn.never rfl (xa4 (pv 1)) (xbb rfl (xab (xaa (i := 4) nd rfl (by walk_at "o")) (xab (xaa (i := 5) nd rfl (by walk_at "o")) (xab (xaa (i := 6) nd rfl (by walk_at "o")) xaq))))
   (zpn (xah (i := 7) nd rfl (by walk_at "o") (pd Dl_take hr (pc (pv 0) (pc pI pN zso) zsn)))
   (zpn (xah (i := 8) nd rfl (by walk_at "o") (pd Dl_beside_parts hr (pc (pv 0) (pc (pv 3) (pc (pv 5) (pc (pv 6) (pc (pv 2) pN zsn) zsn) zsn) zsn) zsn)))
   (zpn (xao (pR xas (pv 7) pI (nM _)) (zpn (xah (i := 8) nd rfl (by walk_at "o") (pd Dl_parts hr (pc (pv 0) (pc (pv 3) (pc (xag iL (xbs (pc pS (pc pS pN zso) zso)) (xar xd6 rfl T.z_int PyProof.Rows.boot_int (pc (xcw xas (pv 5) pS (nM _)) pN xgu)) (fun _ _ => rfl)) (pc (xcm xfg (pv 2) (xcq pI) (xcq pI)) pN ss) ss) zsn) zsn)))
   (zpo (xah (i := 5) nd rfl (by walk_at "o") (xag iL (xbs (pc pS (pc pS pN zso) zso)) (xar xd6 rfl T.z_int PyProof.Rows.boot_int (pc (xcw xas (pv 5) pS (nM _)) pN xgu)) (fun _ _ => rfl))))) pQ)
   (zpn (xao (pR xdr (pd Dl_size hr (pc (xam xfn (pv 3) (xbs (pc (xan (pc (pv 4) (pc (pv 5) (pc (pv 8) pN zsn) zsn) zsn)) pN sT))) (pc (pv 4) pN zsn) xax)) pI (nM _)) (zpo (xah (i := 8) nd rfl (by walk_at "o") (xar xau rfl T.z_tuple PyProof.Rows.boot_tuple (pc (xba ["_law_part", "_law_kind"] [none, none] rfl (by kernel_rfl) (xa4 (pv 8)) (fun _ _ _ _ => (xbp (K := K) (n := 2) rfl rfl (xab (xaa (i := 0) (by show List.Nodup (["_law_part", "_law_kind"] : List Str); decide +kernel) rfl (Or.inl rfl)) (xab (xaa (i := 1) (by show List.Nodup (["_law_part", "_law_kind"] : List Str); decide +kernel) rfl (Or.inl rfl)) xaq)))) (fun _ _ _ _ => xa8) (fun _ _ _ _ => (xan (pc (pv 0) (pc pS pN zso) zsn)))) pN xbj)))) pQ)
   (zpo (xao (pR xeg (pv 7) pI (nM _)) (zpo (xaz (xev PySem.F.plainAttrs_list PySem.F.slot_list_append PySem.F.type_list_append xb1 (pv 3) (pc (xan (pc (pv 4) (pc (pv 5) (pc (pv 8) pN zsn) zsn) zsn)) pN sT)))) pQ)))))))
   (zpo (xae (xar xau rfl T.z_tuple PyProof.Rows.boot_tuple (pc (pv 3) pN zsn)))))), ?_⟩
 refine ⟨(by walk_at "s"), fun fl hfl => ?_⟩
 have s0 := Same.new hfl (.lst [])
 have flf : fl ≠ f' := Ne.symm (neN hf hfl)
 refine ⟨_, rfl, ka, rfl, ⟨_, SqT.of (s0 _ _ hka)⟩, ?_⟩
 refine xb5 (xs := kus) (fun i σ H' => ∃ (ws : List V) (ks2 : List Kn) (o4 o5 o6 o7 o8 : Option V), σ = [some (.ref f'), some (.ref ka), some (.ref nb), some (.ref fl), o4, o5, o6, o7, o8] /\ Fed f' H H' /\ H' fl = some (.lst ws) /\ RelDs H' ws (ks2.map Kn.d) /\ KWf ks2 /\ ks2.length <= i /\ (∀ k ∈ ks2, ∃ j k0, j < i /\ ks[j]? = some k0 /\ k0.name = k.name) /\ ∀ k ∈ ks2, ∀ p ∈ k.parts, p.1 ∈ nms)
  ⟨[], [], none, none, none, none, none, rfl, (Fed.refl hf).same s0, ups, rfl, KWf.nil, Nat.le_refl _, (fun _ h => nomatch h), (fun _ h => nomatch h)⟩ (fun i σ H' _ p => ?_) ?_ ?_
 ·obtain ⟨_, _, _, _, _, _, _, _, F, _⟩ := p
  exact SqT.of (xai ⟨p0, q0, hf⟩ F _ _ hka)
 ·rintro i vv σ H1 hvv ⟨ws, ks2, o4, o5, o6, o7, o8, rfl, F, hws, rws, wf2, hl2, hbef, hpn⟩
  have tp := xai ⟨p0, q0, hf⟩ F
  obtain ⟨d, hd, rd⟩ := (hku.tups tp _).get hvv
  rw [zGM] at hd
  obtain ⟨k, hk, rfl⟩ := zMS hd
  obtain ⟨b, _, rfl, hb, _, _, rfl, rfl, v2, _, rfl, e2, v3, _, rfl, r3, rfl⟩ := rd
  have e2' : v2 = .str k.sort := e2
  have hi : i < ks.length := (zES hk).1
  have hkm := zMG hk
  obtain ⟨hp4, hpnm⟩ := hkp k hkm
  have hwl := rws.length
  rw [zLM] at hwl
  have hst : k.sort = S "rec" \/ k.sort = S "alt" := by
   unfold Kn.sort
   cases k.rc
   ·exact .inr rfl
   ·exact .inl rfl
  have hkin : k.name ∈ nms := by
   have h1 : k.name ∈ ks.map Kn.name := List.mem_map_of_mem hkm
   rw [hkn] at h1
   exact List.mem_of_mem_take h1
  have hknew : k.name ∉ ks2.map Kn.name := fun hm => by
   obtain ⟨k', hk', e'⟩ := List.mem_map.mp hm
   obtain ⟨j, k0, hj, hk0, e0⟩ := hbef k' hk'
   have := xn8 wf.nd hk0 hk (e0.trans e')
   omega
  have hn8 : ∀ z ∈ k.parts.map (·.1), z ∈ nms.drop 8 := fun z hz => by
   rw [hpnm] at hz
   exact List.mem_of_mem_take (List.mem_of_mem_take hz)
  have hn7n : nms[7] ∉ k.parts.map (·.1) := fun hm => xn3 hok.2.1 (hn8 _ hm)
  have hpar : ∀ p ∈ k.parts, p.1 ∈ nms := fun p hp => List.mem_of_mem_drop (hn8 _ (List.mem_map_of_mem hp))
  obtain ⟨p1, q1, h1⟩ := F.2
  refine ⟨b, _, rfl, SqT.of hb, rfl, _, _, rfl, _, _, rfl, _, _, rfl, rfl, xaj fun R1 hR1 => ?_⟩
  refine ⟨_, rfl, f', p1, q1, _, rfl, h1, by decide, by decide, fun fm H2 m0 m1 f2 => ?_⟩
  have F2 := F.trans f2
  have tp2 := xai F.2 f2
  obtain ⟨p2, q2, h2⟩ := F2.2
  have hws2 := f2.1 _ _ hws flf
  have rws2 := rws.tups tp2 _
  have r32 := r3.tups tp2 _
  refine hR1 _ _ ?_
  apply xqz (fun v s H' => ∃ (srt : Str) (qs : List (Str × Str)), s = .str srt /\ Fed f' H H' /\ H' fl = some (.lst ws) /\ RelDs H' ws (ks2.map Kn.d) /\ RelD H' v (xbf qs) /\ QOk ks2 nms srt qs)
  ·intro key
   generalize ew : v2 = w2
   have ew2 : w2 = .str k.sort := ew.symm.trans e2'
   refine xaj fun R2 hR2 => ?_
   refine ⟨_, rfl, _, rfl, _, rfl, _, rfl, _, rfl, f', fl, nb, k.sort, v3, p2, q2, ws, ks2, k.parts, nms, nms[7], by rw [ew2]; rfl, h2, hws2, rws2, wf2, r32, hp4, wf.pnd k hkm, F2.1 _ _ hnb nf, hn7, hn7n, flf, nf, fun v1 qs1 H3 f3 rv1 hbp hne1 => ?_⟩
   have F3 := F2.trans f3
   have tp3 := xai F2.2 f3
   obtain ⟨p3, q3, h3⟩ := F3.2
   have hws3 := f3.1 _ _ hws2 flf
   have rws3 := rws2.tups tp3 _
   have q1k : QOk ks2 nms k.sort qs1 := ⟨hbp.len, hbp.nd, fun p hp => by
    rcases hbp.nm p hp with z | z
    ·exact List.mem_of_mem_drop (hn8 _ z)
    ·rw [z]; exact List.getElem_mem h7, hbp.kn, hne1, hst⟩
   refine hR2 _ _ (xaj fun R3 hR3 => ?_)
   refine ⟨_, rfl, rfl, _, rfl, ite2 (fun c1 => ?_) (fun c1 => hR3 _ _ (key _ _ _ ⟨k.sort, qs1, ew2, F3, hws3, rws3, rv1, q1k⟩))⟩
   have flip : ∃ so : Str, ∃ cB : Bool, decide (w2 = V.str (S "rec")) = cB /\ atI [V.str (S "rec"), V.str (S "alt")] (if cB = true then 1 else 0) = some (.str so) /\ (so = S "rec" \/ so = S "alt") := by
    rw [ew2]
    rcases hst with e | e
    ·exact ⟨S "alt", true, by rw [e]; decide +kernel, rfl, .inr rfl⟩
    ·exact ⟨S "rec", false, by rw [e]; decide +kernel, rfl, .inl rfl⟩
   obtain ⟨so, cB, eB, hat, hso⟩ := flip
   have hn3 := F3.1 _ _ hnb nf
   refine ⟨_, rfl, _, rfl, (by walk_at "s"), fun l1 hl1 => ?_⟩
   have y1 := Same.new hl1 (.lst [.str (S "rec"), .str (S "alt")])
   refine ⟨_, rfl, by rw [ew2]; rfl, .inr ⟨cB, congrArg (fun b => [V.bl b]) eB, l1, _, _, _, rfl, rfl, SqL.of ups, hat, ?_⟩⟩
   refine ⟨_, rfl, _, rfl, _, rfl, nb, _, rfl, SqL.of (y1 _ _ hn3), fun c hc => ?_⟩
   rw [xq9 hlen]
   have sc := Same.new hc (.lst (((nms.drop 8).take 4).map V.str))
   have y1c := y1.trans sc
   have cf : c ≠ f' := Ne.symm (neN (y1 _ _ h3) hc)
   refine ⟨f', fl, c, so, p3, q3, ws, ks2, (nms.drop 8).take 4, rfl, y1c _ _ h3, y1c _ _ hws3, rws3.same y1c _, wf2, ups, by rw [List.length_take, List.length_drop, hlen]; rfl, hso, flf, cf, fun v ps H4 f4 rv h4 hpn4 halt hpin hsum => ?_⟩
   have F4 := (F3.same y1c).trans f4
   have hws4 := f4.1 _ _ (y1c _ _ hws3) flf
   have rws4 := (rws3.same y1c _).tups (xai ⟨p3, q3, y1c _ _ h3⟩ f4) _
   refine ⟨(by walk_at "s"), fun l2 hl2 => ?_⟩
   have y2 := Same.new hl2 (.lst [.str (S "rec"), .str (S "alt")])
   refine ⟨_, rfl, by rw [ew2]; rfl, .inr ⟨cB, congrArg (fun b => [V.bl b]) eB, l2, _, _, _, rfl, rfl, SqL.of ups, hat, ?_⟩⟩
   have hn4 : ∀ z ∈ ps.map (·.1), z ∈ nms := fun z hz => by
    rw [hpn4] at hz
    exact List.mem_of_mem_drop (List.mem_of_mem_take (List.mem_of_mem_take hz))
   have q2k : QOk ks2 nms so ps := ⟨h4, by rw [hpn4]; exact (xtn hok ps.length).1, fun p hp => hn4 _ (List.mem_map_of_mem hp), hpin, halt, hso⟩
   have hP : ∃ (srt : Str) (qs : List (Str × Str)), V.str so = .str srt /\ Fed f' H (upd H4 l2 (.lst [.str (Str.ofString "rec"), .str (Str.ofString "alt")])) /\ upd H4 l2 (.lst [.str (Str.ofString "rec"), .str (Str.ofString "alt")]) fl = some (.lst ws) /\ RelDs (upd H4 l2 (.lst [.str (Str.ofString "rec"), .str (Str.ofString "alt")])) ws (ks2.map Kn.d) /\ RelD (upd H4 l2 (.lst [.str (Str.ofString "rec"), .str (Str.ofString "alt")])) v (xbf qs) /\ QOk ks2 nms srt qs := ⟨so, ps, rfl, F4.same y2, y2 _ _ hws4, rws4.same y2 _, rv.same y2 _, q2k⟩
   generalize upd H4 l2 (.lst [.str (Str.ofString "rec"), .str (Str.ofString "alt")]) = H5 at hP ⊢
   generalize V.str so = vso at hP ⊢
   exact hR3 _ _ (key _ _ _ hP)
  apply xqz (fun v s H' => ∃ (srt : Str) (qs : List (Str × Str)), s = .str srt /\ Fed f' H H' /\ H' fl = some (.lst ws) /\ RelDs H' ws (ks2.map Kn.d) /\ RelD H' v (xbf qs) /\ QOk ks2 nms srt qs)
  ·intro key v s H3 hP
   obtain ⟨srt, qs, es, F3, hws3, rws3, rv, hq⟩ := id hP
   have wf3 := hq.wf wf2 (by omega) hok hkin hknew
   refine xaj fun R4 hR4 => ?_
   refine ⟨_, rfl, _, rfl, _, rfl, _, rfl, (by walk_at "s"), fun t ht => ⟨(by walk_at "s"), fun l1 hl1 => ?_⟩⟩
   have y1 := Same.new ht (.tup [.str k.name, s, v])
   have y2 := Same.new hl1 (.lst [.ref t])
   refine ⟨fl, l1, _, _, rfl, rfl, (y1.trans y2) _ _ hws3, ups, fits (by show _ + 1 <= _; omega), fun l3 hl3 => ?_⟩
   have y3 := Same.new hl3 (.lst (ws ++ [.ref t]))
   have y13 := y1.trans (y2.trans y3)
   have seq3 : KsSeq (upd (upd (upd H3 t (.tup [.str k.name, s, v])) l1 (.lst [.ref t])) l3 (.lst (ws ++ [.ref t]))) (.ref l3) (ks2 ++ [Kn.mk k.name (decide (srt = S "rec")) qs]) := by
    refine ⟨l3, _, rfl, .inl ups, ?_⟩
    rw [List.map_append]
    refine (rws3.same y13 _).append ⟨_, [], rfl, ⟨t, _, rfl, (y2.trans y3) _ _ ups, _, _, rfl, rfl, _, _, rfl, ?_, _, _, rfl, rv.same y13 _, rfl⟩, rfl⟩
    rw [es]
    show V.str srt = V.str _
    rw [xnh hq.st]
   refine ⟨_, rfl, .ref l3, _, k.name, rfl, seq3, wf3, ?_, fun H5 s5 => ⟨_, _, rfl, rfl, _, rfl, ite2 (fun c1 => ?_) (fun c1 => hR4 _ _ (key _ _ _ ⟨srt, qs, es, F3.same (y13.trans s5), (y13.trans s5) _ _ hws3, rws3.same (y13.trans s5) _, rv.same (y13.trans s5) _, hq⟩))⟩⟩
   ·refine (KIn.of (.inr ⟨Kn.mk k.name (decide (srt = S "rec")) qs, by simp, rfl⟩)).mono ?_
    rw [List.length_append, List.length_singleton]
    omega
   ·have y15 := y13.trans s5
    obtain ⟨a, us, rfl, ha, hus⟩ := rv
    have hul := hus.length
    rw [zLM] at hul
    have hql := hq.len
    have ha5 := y15 _ _ ha
    have hus5 := hus.same y15 _
    refine ⟨_, rfl, a, rfl, ⟨_, SqT.of ha5⟩, ?_⟩
    refine xa7 (xs := us) (fun i ys H' => Same H5 H' /\ RelDs H' ys ((qs.take i).map fun p => xbu (p.1, S "num"))) ⟨Same.refl _, rfl⟩ (xat (by omega)) (fun i ys H' _ p => SqT.of (p.1 _ _ ha5)) ?_ ?_
    ·rintro i2 y ys H' hy hi2 hly ⟨sm, rys⟩
     obtain ⟨d', hd2, rd2⟩ := hus5.get hy
     rw [zGM] at hd2
     obtain ⟨pr, hpr, rfl⟩ := zMS hd2
     obtain ⟨b2, ws', rfl, hb2, _, _, rfl, rfl, _, _, rfl, rfl, rfl⟩ := rd2
     refine ⟨b2, _, rfl, SqT.of (sm _ _ hb2), rfl, _, _, rfl, _, _, rfl, rfl, ext2 rfl rfl, xdu ?_⟩
     refine ⟨_, rfl, (by walk_at "s"), fun t2 ht2 => nxtG hi2 hly ⟨sm.trans (Same.new ht2 _), ?_⟩⟩
     rw [List.take_add_one, hpr]
     show RelDs _ _ ((qs.take i2 ++ [pr]).map _)
     rw [List.map_append]
     exact (rys.same (Same.new ht2 _) _).append ⟨_, [], rfl, ⟨t2, _, rfl, ups, _, _, rfl, rfl, _, _, rfl, rfl, rfl⟩, rfl⟩
    ·rintro ys H6 hly ⟨sm, rys⟩ D hD
     rw [zTL (by omega)] at rys
     have z1 := Same.new hD (.lst ys)
     refine ⟨D, ys, rfl, .inl ⟨SqL.of ups, fun t2 ht2 => ?_⟩⟩
     have z2 := Same.new ht2 (.tup ys)
     have z := y15.trans (sm.trans (z1.trans z2))
     have hP2 : ∃ (srt : Str) (qs : List (Str × Str)), s = .str srt /\ Fed f' H (upd (upd H6 D (.lst ys)) t2 (.tup ys)) /\ upd (upd H6 D (.lst ys)) t2 (.tup ys) fl = some (.lst ws) /\ RelDs (upd (upd H6 D (.lst ys)) t2 (.tup ys)) ws (ks2.map Kn.d) /\ RelD (upd (upd H6 D (.lst ys)) t2 (.tup ys)) (.ref t2) (xbf qs) /\ QOk ks2 nms srt qs := by
      refine ⟨srt, qs.map fun p => (p.1, S "num"), es, F3.same z, z _ _ hws3, rws3.same z _, ⟨t2, ys, rfl, ups, ?_⟩, hq.nums⟩
      rw [List.map_map]
      exact rys.same (z1.trans z2) _
     generalize upd (upd H6 D (.lst ys)) t2 (.tup ys) = H7 at hP2 ⊢
     generalize V.ref t2 = v7 at hP2 ⊢
     exact hR4 _ _ (key _ _ _ hP2)
  intro v s H3 hP
  obtain ⟨srt, qs, rfl, F3, hws3, rws3, rv, hq⟩ := hP
  have wf3 := hq.wf wf2 (by omega) hok hkin hknew
  refine ⟨_, rfl, rfl, _, rfl, ite2 (fun c1 => ?_) (fun c1 => ?_)⟩
  ·refine ⟨_, rfl, .inl ⟨rfl, _, SqL.of hws3⟩, _, rfl, _, rfl, _, rfl, (by walk_at "s"), fun t ht => ?_⟩
   have y1 := Same.new ht (.tup [.str k.name, .str srt, v])
   have hw4 := y1 _ _ hws3
   refine ⟨fl, ws, _, rfl, rfl, hw4, xat (by omega), ?_⟩
   refine ⟨_, ks2 ++ [Kn.mk k.name (decide (srt = S "rec")) qs], _, _, _, _, _, rfl, Fed.put (F3.same y1) hfl flf _, ups, ?_, wf3, by rw [List.length_append, List.length_singleton]; omega, fun k' hk' => ?_, fun k' hk' => ?_⟩
   ·rw [List.map_append]
    refine RelDs.append ((rws3.same y1 _).tups (xa2 hw4 _) _) ⟨_, [], rfl, ⟨t, _, rfl, xa2 hw4 _ _ _ ups, _, _, rfl, rfl, _, _, rfl, ?_, _, _, rfl, (rv.same y1 _).tups (xa2 hw4 _) _, rfl⟩, rfl⟩
    show V.str srt = V.str _
    rw [xnh hq.st]
   ·rcases zMA hk' with h | h
    ·obtain ⟨j, k0, hj, h'⟩ := hbef k' h
     exact ⟨j, k0, by omega, h'⟩
    ·rw [zMO h]
     exact ⟨i, k, by omega, hk, rfl⟩
   ·rcases zMA hk' with h | h
    ·exact hpn k' h
    ·rw [zMO h]
     exact hq.nm
  ·refine ⟨ws, ks2, _, _, _, _, _, rfl, F3, hws3, rws3, wf2, by omega, fun k' hk' => ?_, hpn⟩
   obtain ⟨j, k0, hj, h'⟩ := hbef k' hk'
   exact ⟨j, k0, by omega, h'⟩
 ·rintro σ H1 ⟨ws, ks2, o4, o5, o6, o7, o8, rfl, F, hws, rws, wf2, hl2, hbef, hpn⟩
  refine ⟨_, rfl, fl, ws, rfl, .inl ⟨SqL.of hws, fun t ht => ?_⟩⟩
  have st := Same.new ht (.tup ws)
  exact q _ ks2 _ (F.same st) ⟨t, ws, rfl, ups, rws.same st _⟩ ⟨wf2, by omega, hpn⟩
end
end K44
end
section
namespace M
open PySem L2
end M
end
section
namespace M
open PySem L2
theorem xc1 {ks : List Kn} (nd : (ks.map Kn.name).Nodup) {k : Kn} (hk : k ∈ ks) : kAt ks k.name = some k := by
 obtain ⟨i, hi, e⟩ := List.mem_iff_getElem.mp hk
 exact xbr (f := Kn.name) (xs := ks) (i := i) (a := k) nd (by rw [<- e]; exact zGA hi)
end M
end
section
namespace M
open PySem L2
def xc7 (olds : List (Str × Str)) (x : Str) : Option Str := (olds.find? fun p => decide (p.1 = x)).map fun p => p.2
theorem xlf {olds : List (Str × Str)} {x k : Str} (h : xc7 olds x = some k) : (x, k) ∈ olds := by
 unfold xc7 at h
 obtain ⟨p, hp, e⟩ := zMS h
 have h1 : p.1 = x := by
  have := List.find?_some hp
  exact of_decide_eq_true this
 have := List.mem_of_find?_eq_some hp
 rw [<- h1, <- e]
 exact this
theorem xlg {olds : List (Str × Str)} (nd : (olds.map (·.1)).Nodup) {p : Str × Str} (hp : p ∈ olds) : xc7 olds p.1 = some p.2 := by
 unfold xc7
 obtain ⟨i, hi, e⟩ := List.mem_iff_getElem.mp hp
 rw [xbr (f := fun r : Str × Str => r.1) (xs := olds) (i := i) (a := p) nd (by rw [<- e]; exact zGA hi)]
 rfl
def okQ (ys : List Wy) (olds : List (Str × Str)) (q : Str × Str) : Bool := match xc7 olds q.1 with
 | none => true
 | some k => decide (xal ys k = some q.2)
def tmQ (ks2 : List Kn) (olds : List (Str × Str)) (q : Str × Str) : D := match xc7 olds q.1 with
 | none => nuT 7 ks2 q.2
 | some _ => tBox q.1
def okT (ys : List Wy) (news : List (Str × Str)) (p : Str × Str) : Bool := match xc7 news p.1 with
 | none => false
 | some g => decide (xal ys p.2 = some g)
def xri (k : Kn) : D := .tup (k.parts.map fun p => .tup [.str p.1, tTag k.name p.1 (tBox (S "it"))])
def xcg (ks2 : List Kn) (ys : List Wy) (k : Kn) : Option D := match kAt ks2 k.name with
  | none => none
  | some k2 => if k2.rc = k.rc then
      (if k.rc = true then (if k2.parts.all (okQ ys k.parts) = true then some (tRec k.name (k2.parts.map (tmQ ks2 k.parts))) else none)
       else (if k.parts.all (okT ys k2.parts) = true then some (xri k) else none))
    else none
def xdj (ks2 : List Kn) (ys : List Wy) (k : Kn) : List Wy := match wyAt ys k.name with
 | some _ => ys
 | none => match xcg ks2 ys k with
  | none => ys
  | some d => ys ++ [(k.name, k.name, d)]
def xa1 (ks2 ks : List Kn) (told : List Wy) : List Wy := ks.foldl (xdj ks2) told
theorem xda (ks2 ks : List Kn) (k : Kn) (told : List Wy) : xa1 ks2 (ks ++ [k]) told = xdj ks2 (xa1 ks2 ks told) k := by
 unfold xa1
 rw [List.foldl_append]
 rfl
theorem xhq (ks2 as bs : List Kn) (told : List Wy) : xa1 ks2 (as ++ bs) told = xa1 ks2 bs (xa1 ks2 as told) := by
 unfold xa1
 rw [List.foldl_append]
theorem xgq (ys : List Wy) (y : Wy) (x : Str) : wyAt (ys ++ [y]) x = match wyAt ys x with
  | some z => some z
  | none => if y.1 = x then some y else none := by
 unfold wyAt
 rw [List.find?_append]
 cases h : ys.find? fun y => decide (y.1 = x) with
 | some z => rfl
 | none =>
  rw [Option.none_or, List.find?_cons]
  by_cases c : y.1 = x
  ·rw [zDT c, if_pos c]
  ·rw [zDF c, if_neg c]
   rfl
theorem xf8 {ys : List Wy} {y : Wy} {x : Str} (h : y.1 ≠ x) : wyAt (ys ++ [y]) x = wyAt ys x := by
 rw [xgq]
 cases wyAt ys x with
 | some z => rfl
 | none => rw [if_neg h]
theorem xjw {ys : List Wy} {x : Str} {y : Wy} (h : wyAt ys x = some y) : y.1 = x /\ y ∈ ys := by
 unfold wyAt at h
 have h2 := List.find?_some h
 exact ⟨of_decide_eq_true h2, List.mem_of_find?_eq_some h⟩
theorem xpg {ks2 : List Kn} {ys : List Wy} {k : Kn} {x : Str} (h : k.name ≠ x) : wyAt (xdj ks2 ys k) x = wyAt ys x := by
 unfold xdj
 cases wyAt ys k.name with
 | some z => rfl
 | none =>
  cases xcg ks2 ys k with
  | none => rfl
  | some d => exact xf8 h
theorem xey {ks2 : List Kn} {x : Str} : ∀ {ks : List Kn} {ys : List Wy}, (∀ k ∈ ks, k.name ≠ x) -> wyAt (xa1 ks2 ks ys) x = wyAt ys x
 | [], ys, _ => rfl
 | k :: ks, ys, h => by
  show wyAt (xa1 ks2 ks (xdj ks2 ys k)) x = _
  rw [xey fun k' hk => h k' (by simp [hk]), xpg (h k (by simp))]
theorem xek {ys ys' : List Wy} {x : Str} (h : wyAt ys x = wyAt ys' x) : xal ys x = xal ys' x := by
 unfold xal
 rw [h]
theorem xf2 {α : Type} {f g : α -> Bool} : ∀ {l : List α}, (∀ a ∈ l, f a = g a) -> l.all f = l.all g
 | [], _ => rfl
 | a :: l, h => by rw [List.all_cons, List.all_cons, h a (by simp), xf2 fun b hb => h b (by simp [hb])]
theorem xjl {ks2 : List Kn} {ys ys' : List Wy} {k : Kn} (h : ∀ p ∈ k.parts, xal ys p.2 = xal ys' p.2) : xcg ks2 ys k = xcg ks2 ys' k := by
 have hq : ∀ q, okQ ys k.parts q = okQ ys' k.parts q := fun q => by
  unfold okQ
  cases e : xc7 k.parts q.1 with
  | none => rfl
  | some z =>
   show decide (xal ys z = some q.2) = decide (xal ys' z = some q.2)
   rw [h _ (xlf e)]
 have ht : ∀ news, ∀ p ∈ k.parts, okT ys news p = okT ys' news p := fun news p hp => by
  unfold okT
  cases e : xc7 news p.1 with
  | none => rfl
  | some g =>
   show decide (xal ys p.2 = some g) = decide (xal ys' p.2 = some g)
   rw [h p hp]
 unfold xcg
 cases kAt ks2 k.name with
 | none => rfl
 | some k2 =>
  show (if k2.rc = k.rc then _ else _) = (if k2.rc = k.rc then _ else _)
  rw [xf2 (l := k2.parts) fun q _ => hq q, xf2 (l := k.parts) (ht k2.parts)]
theorem xcz {ks : List Kn} (nd : (ks.map Kn.name).Nodup) {i j : Nat} {k k' : Kn} (hi : ks[i]? = some k) (hj : ks[j]? = some k') (e : k.name = k'.name) : i = j := by
 have h1 : (ks.map Kn.name)[i]? = some k.name := by rw [zGM, hi]; rfl
 have h2 : (ks.map Kn.name)[j]? = some k.name := by rw [zGM, hj, e]; rfl
 have hl := (zES hi).1
 exact (List.getElem?_inj (by rw [zLM]; exact hl) nd).mp (h1.trans h2.symm)
def xl2 (ks : List Kn) (i : Nat) (x : Str) : Prop := x = S "num" \/ ∃ j, ∃ k' : Kn, j < i /\ ks[j]? = some k' /\ k'.name = x
theorem xb7 (ys : List Wy) : xal ys (S "num") = some (S "num") := by unfold xal; rw [if_pos rfl]
theorem xd2 {ks : List Kn} (wf : KWf ks) {ks2 : List Kn} {told : List Wy} {i : Nat} {x : Str} (h : xl2 ks i x) : xal (xa1 ks2 ks told) x = xal (xa1 ks2 (ks.take i) told) x := by
 rcases h with rfl | ⟨j, k', hj, hk, rfl⟩
 ·rw [xb7, xb7]
 ·apply xek
  conv => lhs; rw [<- List.take_append_drop i ks]
  rw [xhq]
  refine xey fun k hk2 e => ?_
  obtain ⟨l, hl, e2⟩ := List.mem_iff_getElem.mp hk2
  have h2 : ks[i + l]? = some k := by
   rw [<- e2, List.getElem_drop]
   rw [List.length_drop] at hl
   exact zGA (by omega)
  have := xcz wf.nd h2 hk e
  omega
theorem xe9 {ks : List Kn} {i : Nat} {k : Kn} (h : ks[i]? = some k) : ks.take (i + 1) = ks.take i ++ [k] := by
 rw [List.take_add_one, h]
 rfl
theorem xhv {ks : List Kn} (wf : KWf ks) {ks2 : List Kn} {told : List Wy} {y : Wy} {i : Nat} {k0 : Kn} (h0 : ks[i]? = some k0) (hy : y.1 = k0.name) : ∀ j, j <= i -> ∀ x, x ≠ y.1 -> wyAt (xa1 ks2 (ks.take j) (told ++ [y])) x = wyAt (xa1 ks2 (ks.take j) told) x
 | 0, _, x, hx => by
  rw [List.take_zero]
  exact xf8 (Ne.symm hx)
 | j + 1, hj, x, hx => by
  have ih := xhv wf (ks2 := ks2) (told := told) h0 hy j (by omega)
  have hi := (zES h0).1
  obtain ⟨k, hk⟩ : ∃ k, ks[j]? = some k := ⟨ks[j], zGA (by omega)⟩
  have hkn : k.name ≠ y.1 := fun e => by
   have := xcz wf.nd hk h0 (by rw [e, hy])
   omega
  rw [xe9 hk, xda, xda]
  have hb : xcg ks2 (xa1 ks2 (ks.take j) (told ++ [y])) k = xcg ks2 (xa1 ks2 (ks.take j) told) k := xjl fun p hp => by
   rcases wf.ref j k hk p hp with z | ⟨l, k', hl, hk', e⟩
   ·rw [z, xb7, xb7]
   ·refine xek (ih p.2 fun e2 => ?_)
    have := xcz wf.nd hk' h0 (by rw [e, e2, hy])
    omega
  have hw := ih k.name hkn
  have hx' := ih x hx
  unfold xdj
  rw [hw, hb]
  cases wyAt (xa1 ks2 (ks.take j) told) k.name with
  | some z => exact hx'
  | none =>
   cases xcg ks2 (xa1 ks2 (ks.take j) told) k with
   | none => exact hx'
   | some d =>
    show wyAt (_ ++ [_]) x = wyAt (_ ++ [_]) x
    rw [xgq, xgq, hx']
theorem xos {ks : List Kn} (wf : KWf ks) {ks2 : List Kn} {told : List Wy} {y : Wy} {i : Nat} {k0 : Kn} (h0 : ks[i]? = some k0) (hy : y.1 = k0.name) {x : Str} (h : xl2 ks i x) : xal (xa1 ks2 ks (told ++ [y])) x = xal (xa1 ks2 ks told) x := by
 rw [xd2 wf h, xd2 wf h]
 rcases h with rfl | ⟨j, k', hj, hk, rfl⟩
 ·rw [xb7, xb7]
 ·refine xek (xhv wf h0 hy i (Nat.le_refl _) _ fun e => ?_)
  have := xcz wf.nd hk h0 (by rw [e, hy])
  omega
def xbl (ys : List Wy) (ps : List (Str × Str)) : List (Str × Str) := ps.filterMap fun p => (xal ys p.2).map fun g => (p.1, g)
theorem xef {ys ys' : List Wy} : ∀ {ps : List (Str × Str)}, (∀ p ∈ ps, xal ys p.2 = xal ys' p.2) -> xbl ys ps = xbl ys' ps
 | [], _ => rfl
 | p :: ps, h => by
  unfold xbl
  rw [List.filterMap_cons, List.filterMap_cons, h p (by simp)]
  have := xef (ps := ps) fun q hq => h q (by simp [hq])
  unfold xbl at this
  rw [this]
theorem xg4 {ys : List Wy} {ps : List (Str × Str)} {p : Str × Str} {g : Str} (hp : p ∈ ps) (h : xal ys p.2 = some g) : (p.1, g) ∈ xbl ys ps := by
 unfold xbl
 exact List.mem_filterMap.mpr ⟨p, hp, by rw [h]; rfl⟩
theorem xfl {ys : List Wy} {ps : List (Str × Str)} {b : Str × Str} (h : b ∈ xbl ys ps) : ∃ p ∈ ps, p.1 = b.1 /\ xal ys p.2 = some b.2 := by
 unfold xbl at h
 obtain ⟨p, hp, e⟩ := List.mem_filterMap.mp h
 obtain ⟨g, hg, rfl⟩ := zMS e
 exact ⟨p, hp, rfl, hg⟩
theorem xgd {ys : List Wy} : ∀ {ps : List (Str × Str)}, ((xbl ys ps).map (·.1)).Sublist (ps.map (·.1))
 | [] => .slnil
 | p :: ps => by
  have ih := xgd (ys := ys) (ps := ps)
  unfold xbl at ih ⊢
  rw [List.filterMap_cons]
  cases xal ys p.2 with
  | none => exact ih.cons _
  | some g => exact ih.cons₂ _
theorem xee {ys : List Wy} {ps : List (Str × Str)} (h : (ps.map (·.1)).Nodup) : ((xbl ys ps).map (·.1)).Nodup := h.sublist xgd
theorem xdz {ys : List Wy} {ps : List (Str × Str)} : (xbl ys ps).length <= ps.length := List.length_filterMap_le _ _
def dPr (e : Str × D) : D := .tup [.str e.1, e.2]
def HowOk (ks2 : List Kn) (ys : List Wy) (k : Kn) (g : Str) (d : D) : Prop :=
 (k.rc = true /\ TmB ks2 22 (xbl ys k.parts) d g) ∨
 (k.rc = false /\ ∃ es : List (Str × D), d = .tup (es.map dPr) /\ es.map (·.1) = k.parts.map (·.1) /\ ∀ (i : Nat) e p, es[i]? = some e -> k.parts[i]? = some p -> TmB ks2 22 (xbl ys [(S "it", p.2)]) e.2 g)
def xgn (ks ks2 : List Kn) (ys : List Wy) (y : Wy) : Prop := ∃ k, kAt ks y.1 = some k /\ KIn ks2 6 y.2.1 /\ HowOk ks2 ys k y.2.1 y.2.2
theorem HowOk.congr {ks2 : List Kn} {ys ys' : List Wy} {k : Kn} {g : Str} {d : D} (h : HowOk ks2 ys k g d) (c : ∀ p ∈ k.parts, xal ys p.2 = xal ys' p.2) : HowOk ks2 ys' k g d := by
 rcases h with ⟨hc, h⟩ | ⟨hc, es, e1, e2, h⟩
 ·exact .inl ⟨hc, by rw [<- xef c]; exact h⟩
 ·refine .inr ⟨hc, es, e1, e2, fun i e p he hp => ?_⟩
  have := h i e p he hp
  rw [xef (ys := ys) (ys' := ys') (ps := [(S "it", p.2)]) fun q hq => by rw [zMO hq]; exact c p (zMG hp)] at this
  exact this
theorem xrg {ks : List Kn} (wf : KWf ks) {bs : List (Str × Str)} : ∀ (m : Nat) (x : Str), KIn ks m x -> TmB ks m bs (nuT (m + 1) ks x) x
 | 0, x, h => by
  rcases h.nu wf with ⟨rfl, _, e, _⟩ | ⟨j, k, e, _⟩
  ·rw [e]; exact xmy ⟨by decide, by decide⟩
  ·cases e
 | m + 1, x, h => by
  rcases h.nu wf with ⟨rfl, _, e, _⟩ | ⟨j, k, ej, hk, hn, hm, hp, _, ⟨hc, e, _⟩ | ⟨hc, p, r, er, e, _⟩⟩
  ·rw [e]; exact xmy ⟨by decide, by decide⟩
  ·cases ej
   rw [e]
   refine xmx hk hc (by have := wf.pts k hm; omega) ?_
   have := xhm (R := fun e (p : Str × Str) => TmB ks m bs e p.2) (f := fun p : Str × Str => nuT (m + 1) ks p.2) (g := fun p => p) (xs := k.parts) fun p hp' => xrg wf m p.2 (hp p hp')
   rw [List.map_id'] at this
   exact this
  ·cases ej
   rw [e]
   exact xmw wf hk hc (by rw [er]; simp) (xrg wf m p.2 (hp p (by rw [er]; simp)))
theorem xov {ks : List Kn} : ∀ (n : Nat) (env : En) (d v : D), Evs ks n env d v -> Evs ks (n + 1) env d v
 | 0, _, _, _, h => .inl h
 | n + 1, env, d, v, h => by
  rcases h with h | ⟨h, g⟩
  ·exact .inl h
  ·exact .inr ⟨h.mono (xov n), g⟩
theorem xsj {ks : List Kn} {n m : Nat} (l : n <= m) {env : En} {d v : D} (h : Evs ks n env d v) : Evs ks m env d v := by
 obtain ⟨k, rfl⟩ : ∃ k, m = n + k := ⟨m - n, by omega⟩
 clear l
 induction k with
 | zero => exact h
 | succ k ih => exact xov _ _ _ _ ih
theorem TmB.up {ks : List Kn} {n m : Nat} {bs : List (Str × Str)} {d : D} {x : Str} (h : TmB ks n bs d x) (l : n <= m) : TmB ks m bs d x := ⟨fun env hf => by
 obtain ⟨v, h1, h2⟩ := h.1 env hf
 exact ⟨v, xsj l h1, h2⟩, fun env hf => kd_le l (h.2 env hf)⟩
theorem xlm {ks : List Kn} (wf : KWf ks) {x : Str} {k : Kn} (h : kAt ks x = some k) : KIn ks 6 x := by
 have hm := List.mem_of_find?_eq_some h
 have hx : k.name = x := by
  have := List.find?_some h
  exact of_decide_eq_true this
 exact (KIn.of (.inr ⟨k, hm, hx⟩)).mono wf.few
theorem xkl {ks : List Kn} {x : Str} {k : Kn} (h : kAt ks x = some k) : k.name = x := by
 have := List.find?_some h
 exact of_decide_eq_true this
theorem xq2 {ks : List Kn} (wf : KWf ks) {k : Kn} (h : k ∈ ks) {p : Str × Str} (hp : p ∈ k.parts) : KIn ks 6 p.2 := by
 obtain ⟨i, hi, e⟩ := List.mem_iff_getElem.mp h
 have := wf.few
 exact KIn.mono (n := i) (wf.ref i k (by rw [<- e]; exact zGA hi) p hp) (by omega)
theorem xoq {ks2 : List Kn} (wf2 : KWf ks2) {ys : List Wy} {k : Kn} {d : D} (h : xcg ks2 ys k = some d) : KIn ks2 6 k.name /\ HowOk ks2 ys k k.name d := by
 unfold xcg at h
 cases hk : kAt ks2 k.name with
 | none => rw [hk] at h; cases h
 | some k2 =>
  rw [hk] at h
  have hm := List.mem_of_find?_eq_some hk
  refine ⟨xlm wf2 hk, ?_⟩
  by_cases hr : k2.rc = k.rc
  ·simp only [hr, if_true] at h
   cases hc : k.rc with
   | true =>
    simp only [hc, if_true] at h
    by_cases ha : k2.parts.all (okQ ys k.parts) = true
    ·rw [if_pos ha] at h
     cases h
     refine .inl ⟨hc, ?_⟩
     have h5 := wf2.pts k2 hm
     refine TmB.up (n := 7) (xmx (n := 6) hk (by rw [hr, hc]) (by omega) ?_) (by omega)
     have := xhm (R := fun e (p : Str × Str) => TmB ks2 6 (xbl ys k.parts) e p.2) (f := tmQ ks2 k.parts) (g := fun p => p) (xs := k2.parts) fun q hq => by
      have hok := List.all_eq_true.mp ha q hq
      unfold okQ at hok
      unfold tmQ
      cases ho : xc7 k.parts q.1 with
      | none => exact xrg wf2 6 q.2 (xq2 wf2 hm hq)
      | some z =>
       rw [ho] at hok
       exact xhw (xg4 (p := (q.1, z)) (xlf ho) (of_decide_eq_true hok))
     rw [List.map_id'] at this
     exact this
    ·rw [if_neg ha] at h
     cases h
   | false =>
    rw [hc] at h
    simp only [Bool.false_eq_true, if_false] at h
    by_cases ha : k.parts.all (okT ys k2.parts) = true
    ·rw [if_pos ha] at h
     cases h
     refine .inr ⟨hc, k.parts.map fun p => (p.1, tTag k.name p.1 (tBox (S "it"))), ?_, ?_, fun i e p he hp => ?_⟩
     ·unfold xri
      rw [List.map_map]
      rfl
     ·rw [List.map_map]
      rfl
     ·rw [zGM, hp] at he
      cases he
      have hpm := zMG hp
      have hok := List.all_eq_true.mp ha p hpm
      unfold okT at hok
      cases ho : xc7 k2.parts p.1 with
      | none => rw [ho] at hok; cases hok
      | some g =>
       rw [ho] at hok
       have hg := of_decide_eq_true hok
       refine TmB.up (n := 1) (xmw (n := 0) (p := (p.1, g)) wf2 hk (by rw [hr, hc]) (xlf ho) (xhw ?_)) (by omega)
       exact xg4 (p := (S "it", p.2)) (by simp) hg
    ·rw [if_neg ha] at h
     cases h
  ·simp only [if_neg hr] at h
   cases h
theorem xod {ks2 : List Kn} : ∀ {ks : List Kn} {told : List Wy} {y : Wy}, y ∈ xa1 ks2 ks told -> y ∈ told \/ ∃ i k d, ks[i]? = some k /\ y = (k.name, k.name, d) /\ xcg ks2 (xa1 ks2 (ks.take i) told) k = some d
 | [], told, y, h => .inl h
 | k :: ks, told, y, h => by
  rcases xod (ks := ks) (told := xdj ks2 told k) h with h | ⟨i, k', d, h1, h2, h3⟩
  ·unfold xdj at h
   cases hw : wyAt told k.name with
   | some z => rw [hw] at h; exact .inl h
   | none =>
    rw [hw] at h
    cases hb : xcg ks2 told k with
    | none => rw [hb] at h; exact .inl h
    | some d =>
     rw [hb] at h
     rcases zMA h with h | h
     ·exact .inl h
     ·exact .inr ⟨0, k, d, rfl, zMO h, hb⟩
  ·exact .inr ⟨i + 1, k', d, h1, h2, h3⟩
theorem xdq {ks : List Kn} (wf : KWf ks) {i : Nat} {k : Kn} (hk : ks[i]? = some k) {p : Str × Str} (hp : p ∈ k.parts) : xl2 ks i p.2 := wf.ref i k hk p hp
def xgo (ks ks2 : List Kn) (told : List Wy) : Prop := ∀ y ∈ told, xgn ks ks2 (xa1 ks2 ks told) y
theorem xgg {ks ks2 : List Kn} (wf : KWf ks) (wf2 : KWf ks2) {told : List Wy} (h : xgo ks ks2 told) : ∀ y ∈ xa1 ks2 ks told, xgn ks ks2 (xa1 ks2 ks told) y := fun y hy => by
 rcases xod hy with h1 | ⟨i, k, d, hk, rfl, hb⟩
 ·exact h y h1
 ·have hb' : xcg ks2 (xa1 ks2 ks told) k = some d := by
   rw [xjl (ys' := xa1 ks2 (ks.take i) told) fun p hp => xd2 wf (xdq wf hk hp)]
   exact hb
  obtain ⟨h1, h2⟩ := xoq wf2 hb'
  exact ⟨k, xc1 wf.nd (zMG hk), h1, h2⟩
theorem xhu {ks ks2 : List Kn} (wf : KWf ks) {told : List Wy} {y : Wy} {i : Nat} {k0 : Kn} (h0 : ks[i]? = some k0) (hy : y.1 = k0.name) (h : xgo ks ks2 told) (hb : ∀ z ∈ told, ∃ j k, j < i /\ ks[j]? = some k /\ k.name = z.1) (hw : KIn ks2 6 y.2.1 /\ HowOk ks2 (xa1 ks2 ks told) k0 y.2.1 y.2.2) : xgo ks ks2 (told ++ [y]) := by
 have stay : ∀ x, xl2 ks i x -> xal (xa1 ks2 ks told) x = xal (xa1 ks2 ks (told ++ [y])) x := fun x hx => (xos wf h0 hy hx).symm
 intro z hz
 rcases zMA hz with hz | hz
 ·obtain ⟨k, h1, h2, h3⟩ := h z hz
  obtain ⟨j, k', hj, hk', e⟩ := hb z hz
  have ek : k = k' := by
   have := xc1 wf.nd (zMG hk')
   rw [e, h1] at this
   exact Option.some.inj this
  subst ek
  refine ⟨k, h1, h2, h3.congr fun p hp => stay _ ?_⟩
  rcases wf.ref j k hk' p hp with z | ⟨l, k2, hl, z⟩
  ·exact .inl z
  ·exact .inr ⟨l, k2, by omega, z⟩
 ·rw [zMO hz]
  exact ⟨k0, by rw [hy]; exact xc1 wf.nd (zMG h0), hw.1, hw.2.congr fun p hp => stay _ (xdq wf h0 hp)⟩
theorem xho {ys : List Wy} {x : Str} (h : wyAt ys x = none) : ∀ y ∈ ys, y.1 ≠ x := fun y hy e => by
 unfold wyAt at h
 have := List.find?_eq_none.mp h y hy
 exact this (zDT e)
theorem xhn {ys : List Wy} (nd : (ys.map (·.1)).Nodup) {y : Wy} (hy : y ∈ ys) : wyAt ys y.1 = some y := by
 obtain ⟨i, hi, e⟩ := List.mem_iff_getElem.mp hy
 exact xbr (f := fun z : Wy => z.1) (xs := ys) (i := i) (a := y) nd (by rw [<- e]; exact zGA hi)
theorem xrn {ks2 : List Kn} {ys : List Wy} {k : Kn} (nd : (ys.map (·.1)).Nodup) : ((xdj ks2 ys k).map (·.1)).Nodup := by
 unfold xdj
 cases hw : wyAt ys k.name with
 | some z => exact nd
 | none =>
  cases xcg ks2 ys k with
  | none => exact nd
  | some d =>
   show ((ys ++ [(k.name, k.name, d)]).map (·.1)).Nodup
   rw [List.map_append]
   refine List.nodup_append.mpr ⟨nd, by simp, fun a ha b hb e => ?_⟩
   obtain ⟨y, hy, rfl⟩ := List.mem_map.mp ha
   have hb' : b = k.name := by simpa using hb
   exact xho hw y hy (by rw [e, hb'])
theorem xoe {ks2 : List Kn} : ∀ {ks : List Kn} {ys : List Wy}, (ys.map (·.1)).Nodup -> ((xa1 ks2 ks ys).map (·.1)).Nodup
 | [], _, nd => nd
 | k :: ks, ys, nd => xoe (ks := ks) (xrn nd)
theorem xpj {ks2 : List Kn} {ys : List Wy} {k : Kn} : (xdj ks2 ys k).length <= ys.length + 1 := by
 unfold xdj
 cases wyAt ys k.name with
 | some z => show ys.length <= _; omega
 | none =>
  cases xcg ks2 ys k with
  | none => show ys.length <= _; omega
  | some d => show (ys ++ [_]).length <= _; simp
theorem xhd {ks2 : List Kn} : ∀ {ks : List Kn} {ys : List Wy}, (xa1 ks2 ks ys).length <= ys.length + ks.length
 | [], ys => Nat.le_refl _
 | k :: ks, ys => by
  have h1 := xhd (ks2 := ks2) (ks := ks) (ys := xdj ks2 ys k)
  have h2 := xpj (ks2 := ks2) (ys := ys) (k := k)
  show (xa1 ks2 ks (xdj ks2 ys k)).length <= ys.length + (ks.length + 1)
  omega
theorem xgi {ks ks2 : List Kn} {ys : List Wy} (h : ∀ y ∈ ys, xgn ks ks2 ys y) {x g : Str} (hg : xal ys x = some g) : KIn ks2 6 g := by
 unfold xal at hg
 by_cases c : x = S "num"
 ·rw [if_pos c] at hg
  cases hg
  exact .inl rfl
 ·rw [if_neg c] at hg
  obtain ⟨y, hy, rfl⟩ := zMS hg
  obtain ⟨k, _, h2, _⟩ := h y (xjw hy).2
  exact h2
def eqK (o : Option Kn) (k : Kn) : Bool := match o with
 | none => false
 | some k2 => decide (k2.rc = k.rc) && decide (k2.parts = k.parts)
theorem xoy {ks ks2 : List Kn} {x : Str} {k : Kn} (hk : kAt ks x = some k) : eqK (kAt ks2 x) k = true ↔ kAt ks2 x = some k := by
 cases h : kAt ks2 x with
 | none => exact ⟨(fun z => by cases z), (fun z => by cases z)⟩
 | some k2 =>
  have n1 := xkl h
  have n2 := xkl hk
  refine ⟨fun z => ?_, fun z => ?_⟩
  ·have z' : (decide (k2.rc = k.rc) && decide (k2.parts = k.parts)) = true := z
   simp only [Bool.and_eq_true, decide_eq_true_eq] at z'
   obtain ⟨a, b, c⟩ := k2
   obtain ⟨a', b', c'⟩ := k
   simp only at z' n1 n2
   rw [n1, n2, z'.1, z'.2]
  ·cases z
   show (decide _ && decide _) = true
   simp
def xec (ks ks2 : List Kn) (told : List Wy) : Nat -> Str -> Bool
 | 0, _ => true
 | n + 1, x => match kAt ks x with
  | none => true
  | some k => (wyAt told x).isNone && eqK (kAt ks2 x) k && k.parts.all fun p => xec ks ks2 told n p.2
theorem xqb {ks2 : List Kn} {ys : List Wy} {k : Kn} (nd : (k.parts.map (·.1)).Nodup) (hk : kAt ks2 k.name = some k) (hg : ∀ p ∈ k.parts, xal ys p.2 = some p.2) : xcg ks2 ys k = some (howD k) := by
 unfold xcg howD
 rw [hk]
 show (if k.rc = k.rc then _ else _) = _
 rw [if_pos rfl]
 have h1 : k.parts.all (okQ ys k.parts) = true := List.all_eq_true.mpr fun q hq => by
  unfold okQ
  rw [xlg nd hq]
  exact zDT (hg q hq)
 have h2 : k.parts.all (okT ys k.parts) = true := List.all_eq_true.mpr fun q hq => by
  unfold okT
  rw [xlg nd hq]
  exact zDT (hg q hq)
 rw [if_pos h1, if_pos h2]
 cases k.rc with
 | true =>
  rw [if_pos rfl, if_pos rfl]
  have : k.parts.map (tmQ ks2 k.parts) = k.parts.map fun p => tBox p.1 := List.map_congr_left fun q hq => by
   unfold tmQ
   rw [xlg nd hq]
  rw [this]
 | false => rfl
theorem xie {ks ks2 : List Kn} (wf : KWf ks) {told : List Wy} : ∀ (m : Nat) (x : Str), KIn ks m x -> xec ks ks2 told (m + 1) x = true -> xal (xa1 ks2 ks told) x = some x /\ ∀ k, kAt ks x = some k -> wyAt (xa1 ks2 ks told) x = some (x, x, howD k)
 | m, x, h, hs => by
  rcases h.look wf with ⟨rfl, e⟩ | ⟨j, k, rfl, e, hn, hm, hp⟩
  ·exact ⟨xb7 _, fun k hk => by rw [e] at hk; cases hk⟩
  ·unfold xec at hs
   rw [e] at hs
   simp only [Bool.and_eq_true] at hs
   obtain ⟨⟨h1, h2⟩, h3⟩ := hs
   have h1' : wyAt told x = none := Option.isNone_iff_eq_none.mp h1
   have h2' := (xoy e).mp h2
   obtain ⟨i, hi, ei⟩ := List.mem_iff_getElem.mp hm
   have hk : ks[i]? = some k := by rw [<- ei]; exact zGA hi
   have hg : ∀ p ∈ k.parts, xal (xa1 ks2 ks told) p.2 = some p.2 := fun p hp' => (xie wf j p.2 (hp p hp') (List.all_eq_true.mp h3 p hp')).1
   have hb : xcg ks2 (xa1 ks2 (ks.take i) told) k = some (howD k) := xqb (wf.pnd k hm) (by rw [hn]; exact h2') fun p hp' => by
    rw [<- xd2 wf (xdq wf hk hp')]
    exact hg p hp'
   have hw : wyAt (xa1 ks2 ks told) x = some (x, x, howD k) := by
    conv => lhs; rw [<- List.take_append_drop (i + 1) ks]
    rw [xhq, xey, xe9 hk, xda]
    ·have h0 : wyAt (xa1 ks2 (ks.take i) told) k.name = none := by
      rw [xey, hn]
      ·exact h1'
      ·intro k' hk' e'
       obtain ⟨l, hl, el⟩ := List.mem_iff_getElem.mp hk'
       rw [List.length_take] at hl
       rw [List.getElem_take] at el
       have := xcz wf.nd (i := l) (j := i) (k := k') (k' := k) (by rw [<- el]; exact zGA (by omega)) hk e'
       omega
     unfold xdj
     rw [h0, hb]
     show wyAt (_ ++ [_]) x = _
     rw [xgq, <- hn, h0]
     show (if k.name = k.name then _ else _) = _
     rw [if_pos rfl]
    ·intro k' hk' e'
     obtain ⟨l, hl, el⟩ := List.mem_iff_getElem.mp hk'
     rw [List.getElem_drop] at el
     rw [List.length_drop] at hl
     have := xcz wf.nd (i := i + 1 + l) (j := i) (k := k') (k' := k) (by rw [<- el]; exact zGA (by omega)) hk (by rw [e', hn])
     omega
   refine ⟨?_, fun k' hk' => ?_⟩
   ·unfold xal
    by_cases c : x = S "num"
    ·rw [if_pos c, c]
    ·rw [if_neg c, hw]
     rfl
   ·rw [e] at hk'
    cases hk'
    exact hw
 termination_by m => m
end M
end
section
namespace K44
open PySem L2 M
seal L2.PE L2.PA L2.PS L2.PSs L2.PT L2.PW L2.PI L2.PG L2.PJ L2.PTs
theorem xmr {olds : List (Str × Str)} (nd : (olds.map (·.1)).Nodup) (x : Str) : valV (xav [] (bKV olds)) (Sum.inr x) = (xc7 olds x).map V.str := by
 cases h : xc7 olds x with
 | some k => exact xk2 nd (xlf h) []
 | none =>
  rw [xgs]
  ·rfl
  ·intro b hb e
   have := xlg nd hb
   rw [e, h] at this
   cases this
theorem xd0 {H H1 : Hp} {c : Addr} (s : Same H H1) (n : H1 c = none) : H c = none := xco s n
theorem xgz {H H1 : Hp} {c : Addr} (s : Same H H1) (n : H c = none) (o : HO) : Same H (upd H1 c o) := xnv s n o
theorem xhk {H : Hp} {p : Addr} {kvs : List (Key × V)} (h : H p = some (.dK kvs)) (o : HO) : ∀ b vs, H b = some (.tup vs) -> upd H p o b = some (.tup vs) := fun b vs hb => by
 rw [xaw fun e => by rw [e, h] at hb; cases hb]
 exact hb
theorem xnp {k : Key} {v : V} : ∀ {kvs : List (Key × V)}, valV kvs k = none -> putK kvs k v = kvs ++ [(k, v)] := fun {kvs} h => by
 unfold putK
 rw [if_neg fun z => ?_]
 obtain ⟨e, he, ek⟩ := List.any_eq_true.mp z
 unfold valV at h
 have := List.find?_eq_none.mp (Option.map_eq_none_iff.mp h) e he
 exact this ek
theorem xpo (o : Option Str) (x : Str) : scal (optV o) (.str x) = true := by cases o <;> rfl
theorem xnm (o : Option Str) (x : Str) : scal (.str x) (optV o) = true := by cases o <;> rfl
theorem optV_eq {o : Option Str} {x : Str} : (optV o = V.str x) ↔ o = some x := by
 cases o with
 | none => exact ⟨(fun h => by cases h), (fun h => by cases h)⟩
 | some z => exact ⟨(fun h => by rw [V.str.inj h]), (fun h => by rw [Option.some.inj h]; rfl)⟩
theorem xp9 {c : Prop} [Decidable c] {A B : Prop} (h : ¬ c) (a : A) : if (!decide c) = true then A else B := by
 rw [zDF h]
 exact a
theorem xsf {c : Prop} [Decidable c] {A B : Prop} (h : c) (b : B) : if (!decide c) = true then A else B := by
 rw [zDT h]
 exact b
theorem xjy {H : Hp} {u : V} {ds : List D} (h : RelD H u (.tup ds)) : ∃ b, u = .ref b := by
 obtain ⟨b, _, e, _⟩ := h
 exact ⟨b, e⟩
theorem xsh {H : Hp} {u : V} {ks2 : List Kn} {ys : List Wy} {k : Kn} {d : D} (h : xcg ks2 ys k = some d) (r : RelD H u d) : ∃ b, u = .ref b := by
 unfold xcg at h
 split at h
 ·cases h
 ·split at h
  ·split at h
   ·split at h
    ·cases h
     exact xjy r
    ·cases h
   ·split at h
    ·cases h
     exact xjy r
    ·cases h
  ·cases h
theorem nu_ref {H : Hp} {u : V} {ks : List Kn} (wf : KWf ks) {m : Nat} {x : Str} (h : KIn ks m x) (r : RelD H u (nuT (m + 1) ks x)) : ∃ b, u = .ref b := by
 rcases h.nu wf with ⟨rfl, _, e, _⟩ | ⟨j, k, ej, hk, hn, hm, hp, _, ⟨hc, e, _⟩ | ⟨hc, p, rr, er, e, _⟩⟩ <;> (rw [e] at r; exact xjy r)
def optD (H : Hp) (u : V) : Option D -> Prop
 | none => u = .non
 | some d => RelD H u d
def xfe : Sp := fun vs H Q _ => ∃ (a : Addr) (ys : List Wy) (x : Str), vs = [.ref a, .str x] /\ WaysAt H a ys /\ Q (optV (xal ys x)) H
def spNu (F : Nat -> List Kn -> Str -> D) (m : Nat) : Sp := fun vs H Q _ => ∃ v ks x, vs = [v, .str x] /\ RelD H v (xbg ks) /\ KWf ks /\ KIn ks m x /\ ∀ u H', Same H H' -> RelD H' u (F (m + 1) ks x) -> Q u H'
def xgt (ks2 : List Kn) (ys : List Wy) (olds news : List (Str × Str)) : Option D := if news.all (okQ ys olds) = true then some (.tup (news.map (tmQ ks2 olds))) else none
def xmz (ys : List Wy) (k k2 : Kn) : Option D := if k.parts.all (okT ys k2.parts) = true then some (xri k) else none
def xh1 : Sp := fun vs H Q _ => ∃ (kv : V) (wa : Addr) (ov nv : V) (ks2 : List Kn) (ys : List Wy) (os ps : List (Str × Str)), vs = [kv, .ref wa, ov, nv] /\ RelD H kv (xbg ks2) /\ KWf ks2 /\ WaysAt H wa ys /\ RelD H ov (xbf os) /\ RelD H nv (xbf ps) /\ (os.map (·.1)).Nodup /\ os.length <= 100 /\ ps.length <= 100 /\ (∀ p ∈ ps, KIn ks2 6 p.2) /\ ∀ u H', Same H H' -> optD H' u (xgt ks2 ys os ps) -> Q u H'
def xk7 : Sp := fun vs H Q _ => ∃ (kv : V) (wa : Addr) (dv : V) (ks2 : List Kn) (ys : List Wy) (k k2 : Kn), vs = [kv, .ref wa, dv] /\ KsAt H kv ks2 /\ WaysAt H wa ys /\ RelD H dv k.d /\ kAt ks2 k.name = some k2 /\ (k2.parts.map (·.1)).Nodup /\ k2.parts.length <= 100 /\ k.parts.length <= 100 ∧
 ∀ u H', Same H H' -> optD H' u (xmz ys k k2) -> Q u H'
def xs7 : Sp := fun vs H Q _ => ∃ (kv : V) (wa : Addr) (dv : V) (ks2 : List Kn) (ys : List Wy) (k : Kn), vs = [kv, .ref wa, dv] /\ RelD H kv (xbg ks2) /\ KWf ks2 /\ WaysAt H wa ys /\ RelD H dv k.d /\ (k.parts.map (·.1)).Nodup /\ k.parts.length <= 100 /\ ∀ u H', Same H H' -> optD H' u (xcg ks2 ys k) -> Q u H'
def xk8 : Sp := fun vs H Q _ => ∃ (fa sa ta : Addr) (kv1 kv2 : V) (r1 r2 : List V) (ks ks2 : List Kn) (tkv : List (Key × V)) (told : List Wy), vs = [.ref fa, .ref sa, .ref ta] /\ H fa = some (.tup (kv1 :: r1)) /\ H sa = some (.tup (kv2 :: r2)) /\ H ta = some (.dK tkv) /\ WAll H tkv told /\ told.length <= 100 /\ RelD H kv1 (xbg ks) /\ KWf ks /\ RelD H kv2 (xbg ks2) /\ KWf ks2 ∧
 ∀ r wa la kvs (ls : List Str) H', Same H H' -> H r = none -> H wa = none -> H la = none -> H' r = some (.tup [.ref wa, .ref la]) -> H' wa = some (.dK kvs) -> WAll H' kvs (xa1 ks2 ks told) -> H' la = some (.lst (ls.map V.str)) -> ls.length <= 100 -> Q (.ref r) H'
section
variable {P : Program} {w : World} {K : PySem.W.Frag} {mg : Str -> Option Value} {base : Heap} {n m : Nat}
theorem xcc (T : Tx K mg) : DefIs P w K mg base (n + 1) "goes_to" ["ways", "kind"] xfe := by
 refine DefIs.of T.d_goes_to sc_goes_to ?_ ?_ <;> walk_at "i"
 ·obtain ⟨_, _, _, rfl, _⟩ := h
  rfl
 obtain ⟨a, ys, x, rfl, ⟨kvs, hd, hw⟩, q⟩ := h
 have nd := sc_goes_to.nd
 have hu := xc2 hr
 refine ⟨_, (zpn (xao (pR xas (pv 1) pS (nM _)) (zpo (xae pS)) pQ)
   (zpn (xao (xfi (xnu hu (pv 1) (pv 0))) (zpo (xae (xag xaf (xb4 hu (pv 0) (pv 1) (fun _ _ => rfl)) pI (fun _ _ => rfl)))) pQ)
   (zpo (xae xcf)))), ?_⟩
 unfold xal at q
 refine ⟨_, rfl, rfl, _, rfl, ite2 (fun c => ?_) (fun c => ?_)⟩
 ·have e : x = S "num" := V.str.inj (of_decide_eq_true c)
  rw [if_pos e] at q
  exact q
 ·have e : ¬ x = S "num" := fun z => c (zDT (congrArg V.str z))
  rw [if_neg e] at q
  have hv := hw.val (x := x)
  cases hy : wyAt ys x with
  | none =>
   rw [hy] at q
   have h0 := hv.1 hy
   refine ⟨_, rfl, _, rfl, a, _, rfl, DGet.rd (k := Sum.inr x) hd, _, rfl, xmk (by rw [h0]; rfl) ?_⟩
   exact q
  | some y =>
   rw [hy] at q
   obtain ⟨v, h1, h2⟩ := hv.2 y hy
   refine ⟨_, rfl, _, rfl, a, _, rfl, DGet.rd (k := Sum.inr x) hd, _, rfl, xmj (by rw [h1]; rfl) ?_⟩
   obtain ⟨b, us, rfl, hb, v0, _, rfl, r0, v1, _, rfl, r1, rfl⟩ := h2
   obtain rfl : v0 = .str y.2.1 := r0
   have g : DGet H a (.str x) (some (.ref b)) := by
    have := DGet.rd (k := Sum.inr x) hd
    rw [h1] at this
    exact this
   exact ⟨_, rfl, _, rfl, a, _, rfl, g, b, _, _, _, rfl, rfl, SqT.of hb, rfl, q⟩
theorem xdm (T : Tx K mg) (spc : Sp) (D_parts_of : DefIs P w K mg base n "parts_of" ["kinds", "K"] xbk) (D_sort_of : DefIs P w K mg base n "sort_of" ["kinds", "K"] xbz) (D_nought_term : DefIs P w K mg base n "nought_term" ["kinds", "kind"] spc) (hspc : ∀ j, m = j + 1 -> spc = spNu nuT j) :
  DefIs P w K mg base (n + 1) "nought_term" ["kinds", "kind"] (spNu nuT m) := by
 refine DefIs.of T.d_nought_term sc_nought_term ?_ ?_ <;> walk_at "i"
 ·obtain ⟨_, _, _, rfl, _⟩ := h
  rfl
 obtain ⟨v, ks, x, rfl, hk, wf, hin, q⟩ := h
 have nd := sc_nought_term.nd
 refine ⟨_, (zpn (xao (pR xas (pv 1) pS (nM _)) (zpo (xae (xan (pc pS (pc pI pN zso) zso)))) pQ)
   (zpn (xah (i := 2) nd rfl (by walk_at "o") (pd D_parts_of hr (pc (pv 0) (pc (pv 1) pN zsn) zsn)))
   (zpn (xao (pR xas (pd D_sort_of hr (pc (pv 0) (pc (pv 1) pN zsn) zsn)) pS (nM _)) (zpo (xae (xan (pc pS (pc (pv 1) (pc (xar xau rfl T.z_tuple PyProof.Rows.boot_tuple (pc (xba ["part", "kinds"] [none, some 0] rfl (by kernel_rfl) (xa4 (pv 2)) (fun _ _ _ _ => (xaa (i := 0) (by show List.Nodup (["part", "kinds"] : List Str); decide +kernel) rfl (Or.inl rfl))) (fun _ _ _ _ => xa8) (fun _ _ _ _ => (pd D_nought_term hr (pc (pv 1) (pc (xag (xbt (K := K) rfl) (pv 0) pI (fun _ _ => rfl)) pN ss) zsn)))) pN xbj)) pN zsc) zsn) zso)))) pQ)
   (zpo (xae (xan (pc pS (pc (pv 1) (pc (xag xaf (xag xaf (pv 2) pI (fun _ _ => rfl)) pI (fun _ _ => rfl)) (pc (pd D_nought_term hr (pc (pv 0) (pc (xag xaf (xag xaf (pv 2) pI (fun _ _ => rfl)) pI (fun _ _ => rfl)) pN ss) zsn)) pN zsc) ss) zsn) zso))))))), ?_⟩
 rcases hin.nu wf with ⟨rfl, _, e, _⟩ | ⟨j, k, rfl, hkx, hn, hm, hp, hne, hcase⟩
 ·refine ⟨_, rfl, rfl, _, rfl, iteKT (by walk_at "k") ?_⟩
  refine ⟨(by walk_at "s"), fun t ht => ?_⟩
  rw [e] at q
  exact q _ _ (Same.new ht _) ⟨t, _, rfl, ups, _, _, rfl, rfl, _, _, rfl, rfl, rfl⟩
 ·have D' := hspc j rfl
  subst D'
  refine ⟨_, rfl, rfl, _, rfl, iteKF (zDF fun z => hne (V.str.inj z)) ?_⟩
  refine ⟨_, rfl, _, rfl, v, ks, x, rfl, wf.ksAt hk, fun u H1 s1 r1 => ?_⟩
  rw [hkx] at r1
  obtain ⟨a, us, rfl, ha, hus⟩ := r1
  have hl := hus.length
  rw [zLM] at hl
  have h5 := wf.pts k hm
  refine ⟨_, rfl, _, rfl, v, ks, x, rfl, wf.ksAt (hk.same s1 _), ?_⟩
  rw [hkx]
  rcases hcase with ⟨hc, e, _⟩ | ⟨hc, p, r, er, e, _⟩
  ·refine ⟨rfl, _, rfl, iteKT (zDT (by show V.str k.sort = _; rw [xbm hc]; rfl)) ?_⟩
   refine ⟨_, rfl, _, rfl, a, rfl, ⟨_, SqT.of ha⟩, ?_⟩
   refine xcp (j := 0) (xs := us) (fun i ys H' => Same H1 H' /\ RelDs H' ys ((k.parts.take i).map fun p => nuT (j + 1) ks p.2)) (by rfl) ⟨Same.refl _, rfl⟩ (xat (by omega)) (fun i ys H' _ p => SqT.of (p.1 _ _ ha)) ?_ ?_
   ·rintro i y ys H' hy hly ⟨sm, hys⟩
    obtain ⟨d, hd, rd⟩ := hus.get hy
    rw [zGM] at hd
    obtain ⟨p, hp', rfl⟩ := zMS hd
    obtain ⟨b, ws, rfl, hb, _, _, rfl, rfl, _, _, rfl, rfl, rfl⟩ := rd
    have hi : i < us.length := (zES hy).1
    refine ⟨_, rfl, _, rfl, b, _, _, _, rfl, rfl, SqT.of (sm _ _ hb), rfl, _, ks, p.2, rfl, hk.same (s1.trans sm) _, wf, hp p (zMG hp'), fun u H2 s2 r2 => nxt hi hly ⟨sm.trans s2, ?_⟩⟩
    rw [List.take_add_one, hp', List.map_append]
    exact (hys.same s2 _).append ⟨u, [], rfl, r2, rfl⟩
   ·rintro ys H' hly ⟨sm, hys⟩ D hD
    rw [zTL (by omega)] at hys
    refine ⟨D, ys, rfl, .inl ⟨SqL.of ups, fun l' hl' => ⟨(by walk_at "s"), fun t ht => ?_⟩⟩⟩
    have s2 := Same.new hD (.lst ys)
    have s3 := Same.new hl' (.tup ys)
    have s4 := Same.new ht (.tup [.str (S "rec"), .str x, .ref l'])
    rw [e] at q
    exact q _ _ (s1.trans (sm.trans (s2.trans (s3.trans s4)))) ⟨t, _, rfl, ups, _, _, rfl, rfl, _, _, rfl, rfl, _, _, rfl, ⟨l', ys, rfl, s4 _ _ ups, hys.same (s2.trans (s3.trans s4)) _⟩, rfl⟩
  ·refine ⟨rfl, _, rfl, iteKF (zDF (by show ¬ V.str k.sort = _; rw [xbn hc]; decide +kernel)) ?_⟩
   rw [er] at hus
   obtain ⟨vp, rest, rfl, rp, _⟩ := hus
   obtain ⟨b, ws, rfl, hb, _, _, rfl, rfl, _, _, rfl, rfl, rfl⟩ := rp
   have hSa : SqT K H1 a (.ref b :: rest) := SqT.of ha
   have at0 : atI (V.ref b :: rest) 0 = some (.ref b) := xap (j := 0) rfl
   refine ⟨_, rfl, _, rfl, a, _, _, _, rfl, rfl, hSa, at0, b, _, _, _, rfl, rfl, SqT.of hb, rfl, ?_⟩
   refine ⟨_, rfl, _, rfl, a, _, _, _, rfl, rfl, hSa, at0, b, _, _, _, rfl, rfl, SqT.of hb, rfl, ?_⟩
   refine ⟨_, ks, p.2, rfl, hk.same s1 _, wf, hp p (by rw [er]; simp), fun u H2 s2 r2 => ⟨(by walk_at "s"), fun t ht => ?_⟩⟩
   have s3 := Same.new ht (.tup [.str (S "tag"), .str x, .str p.1, u])
   rw [e] at q
   exact q _ _ (s1.trans (s2.trans s3)) ⟨t, _, rfl, ups, _, _, rfl, rfl, _, _, rfl, rfl, _, _, rfl, rfl, _, _, rfl, r2.same s3 _, rfl⟩
theorem xi5 (T : Tx K mg) : ∀ m, DefIs P w K mg base (m + 2) "nought_term" ["kinds", "kind"] (spNu nuT m)
 | 0 => xdm (n := 1) T (fun _ _ _ _ => False) (xa0 T) (xbc T) (DefIs.none T.d_nought_term fun _ _ _ _ h => h) (fun j e => by cases e)
 | m + 1 => xdm (n := m + 2) T (spNu nuT m) (xa0 T) (xbc T) (xi5 T m) (fun j e => by cases e; rfl)
theorem xei (T : Tx K mg) (D_goes_to : DefIs P w K mg base n "goes_to" ["ways", "kind"] xfe) (D_nought_term : DefIs P w K mg base n "nought_term" ["kinds", "kind"] (spNu nuT 6)) : DefIs P w K mg base (n + 1) "terms_by_rules" ["kinds", "ways", "olds", "news"] xh1 := by
 refine DefIs.of T.d_terms_by_rules sc_terms_by_rules ?_ ?_ <;> walk_at "i"
 ·obtain ⟨_, _, _, _, _, _, _, _, rfl, _⟩ := h
  rfl
 obtain ⟨kv, wa, ov, nv, ks2, ys, os, ps, rfl, hkv, wf2, hw, ho, hv, hnd, hl, hl2, hin, q⟩ := h
 have nd := sc_terms_by_rules.nd
 have hu := xc2 hr
 obtain ⟨oa, ous, rfl, hoa, hou⟩ := ho
 obtain ⟨na, nus, rfl, hna, hnu⟩ := hv
 have hnl := hnu.length
 rw [zLM] at hnl
 refine ⟨_, (zpn (xah (i := 4) nd rfl (by walk_at "o") (xar (xen rfl) rfl T.z_dict PyProof.Rows.boot_dict (pc (pv 2) pN zsn)))
   (zpn (xah (i := 5) nd rfl (by walk_at "o") (xbs pN))
   (zpn (xbo PassesOwn.never rfl (xa4 (pv 3)) (xbb rfl (xab (xaa (i := 6) nd rfl (by walk_at "o")) (xab (xaa (i := 7) nd rfl (by walk_at "o")) xaq)))
   (zpo (xao (xfi (xdx hu (pv 6) (pv 4))) (zpo (xaz (xev PySem.F.plainAttrs_list PySem.F.slot_list_append PySem.F.type_list_append xb1 (pv 5) (pc (pd D_nought_term hr (pc (pv 0) (pc (pv 7) pN zsn) zsn)) pN zsc)))) (zpo (xao (pR xas (pd D_goes_to hr (pc (pv 1) (pc (xb4 hu (pv 4) (pv 6) (fun _ _ => rfl)) pN ss) zsn)) (pv 7) (nM _)) (zpo (xaz (xev PySem.F.plainAttrs_list PySem.F.slot_list_append PySem.F.type_list_append xb1 (pv 5) (pc (xan (pc pS (pc (pv 6) pN zsn) zso)) pN sT)))) (zpo (xae xcf)))))))
   (zpo (xae (xar xau rfl T.z_tuple PyProof.Rows.boot_tuple (pc (pv 5) pN zsn))))))), ?_⟩
 refine ⟨_, rfl, oa, ous, bKV os, rfl, hoa, xdy hou, fun dp hdp => ?_⟩
 have y1 := Same.new hdp (.dK (xav [] (bKV os)))
 refine ⟨(by walk_at "s"), fun l hl' => ?_⟩
 have y2 := Same.new hl' (.lst [])
 have ne1 : dp ≠ l := neN ups hl'
 have nl : H l = none := xd0 (y1) hl'
 refine ⟨_, rfl, na, rfl, ⟨_, SqT.of (y2 _ _ (y1 _ _ hna))⟩, ?_⟩
 refine xb5 (xs := nus) (fun i σ H' => ∃ o6 o7 us, σ = [some kv, some (.ref wa), some (.ref oa), some (.ref na), some (.ref dp), some (.ref l), o6, o7] /\ Same H H' /\ H' dp = some (.dK (xav [] (bKV os))) /\ H' l = some (.lst us) /\ RelDs H' us ((ps.take i).map (tmQ ks2 os)) /\ (ps.take i).all (okQ ys os) = true) ⟨none, none, [], rfl, y1.trans y2, y2 _ _ ups, ups, rfl, rfl⟩ (fun i σ H' _ p => ?_) ?_ ?_
 ·obtain ⟨_, _, _, _, sm, _⟩ := p
  exact SqT.of (sm _ _ hna)
 ·rintro i v σ H' hv ⟨o6, o7, us, rfl, sm, hd, hll, hus, hall⟩
  obtain ⟨d, hd', rd⟩ := (hnu.same sm _).get hv
  rw [zGM] at hd'
  obtain ⟨pr, hpr, rfl⟩ := zMS hd'
  obtain ⟨b, ws, rfl, hb, _, _, rfl, rfl, _, _, rfl, rfl, rfl⟩ := rd
  have hpm := zMG hpr
  have hval := xmr hnd pr.1
  have hlen := hus.length
  rw [zLM, List.length_take] at hlen
  have g : DGet H' dp (.str pr.1) ((xc7 os pr.1).map V.str) := by
   have := DGet.k (H := H') (a := dp) (k := Sum.inr pr.1) hd
   rw [hval] at this
   exact this
  have fin : ∀ (z : Addr) (dz : D) (H3 : Hp), Same H' H3 -> RelD H3 (.ref z) dz -> okQ ys os pr = true -> tmQ ks2 os pr = dz -> ∃ o6 o7 us', [some kv, some (.ref wa), some (.ref oa), some (.ref na), some (.ref dp), some (.ref l), some (.str pr.1), some (.str pr.2)] = [some kv, some (.ref wa), some (.ref oa), some (.ref na), some (.ref dp), some (.ref l), o6, o7] /\ Same H (upd H3 l (.lst (us ++ [.ref z]))) /\ upd H3 l (.lst (us ++ [.ref z])) dp = some (.dK (xav [] (bKV os))) /\ upd H3 l (.lst (us ++ [.ref z])) l = some (.lst us') /\ RelDs (upd H3 l (.lst (us ++ [.ref z]))) us' ((ps.take (i + 1)).map (tmQ ks2 os)) /\ (ps.take (i + 1)).all (okQ ys os) = true := by
   intro z dz H3 s3 rz hok htm
   have tp := xa2 (s3 _ _ hll) (.lst (us ++ [.ref z]))
   refine ⟨_, _, us ++ [.ref z], rfl, xgz (sm.trans s3) nl _, by rw [xaw ne1]; exact s3 _ _ hd, ups, ?_, ?_⟩
   ·rw [List.take_add_one, hpr]
    show RelDs _ _ ((ps.take i ++ [pr]).map _)
    rw [List.map_append]
    have hb1 : RelDs H3 [.ref z] [tmQ ks2 os pr] := ⟨_, [], rfl, by rw [htm]; exact rz, rfl⟩
    exact ((hus.same s3 _).append hb1).tups tp _
   ·rw [List.take_add_one, hpr]
    show (ps.take i ++ [pr]).all _ = true
    rw [List.all_append, hall, List.all_cons, hok]
    rfl
  refine ⟨b, _, rfl, SqT.of hb, rfl, _, _, rfl, _, _, rfl, rfl, ?_⟩
  cases hown : xc7 os pr.1 with
  | none =>
   rw [hown] at g
   refine ⟨_, rfl, _, rfl, dp, _, rfl, g, _, rfl, iteT ?_⟩
   refine ⟨_, rfl, .inl ⟨rfl, _, SqL.of hll⟩, _, rfl, _, rfl, kv, ks2, pr.2, rfl, hkv.same sm _, wf2, hin pr hpm, fun u H3 s3 ru => ?_⟩
   obtain ⟨z, rfl⟩ : ∃ z, u = .ref z := nu_ref wf2 (hin pr hpm) ru
   refine ⟨l, us, _, rfl, rfl, s3 _ _ hll, xat (by omega), ?_⟩
   exact fin z _ H3 s3 ru (by unfold okQ; rw [hown]) (by unfold tmQ; rw [hown])
  | some k =>
   rw [hown] at g
   refine ⟨_, rfl, _, rfl, dp, _, rfl, g, _, rfl, iteF ?_⟩
   refine ⟨_, rfl, _, rfl, _, rfl, dp, _, rfl, g, wa, ys, k, rfl, hw.same sm, ?_⟩
   refine ⟨_, rfl, xpo _ _, _, rfl, ?_⟩
   by_cases hg : xal ys k = some pr.2
   ·refine iteKT (zDT (optV_eq.mpr hg)) ?_
    refine ⟨_, rfl, .inl ⟨rfl, _, SqL.of hll⟩, _, rfl, (by walk_at "s"), fun t ht => ⟨l, us, _, rfl, rfl, (Same.new ht _) _ _ hll, xat (by omega), ?_⟩⟩
    exact fin t (tBox pr.1) _ (Same.new ht _) ⟨t, _, rfl, ups, _, _, rfl, rfl, _, _, rfl, rfl, rfl⟩ (by unfold okQ; rw [hown]; exact zDT hg) (by unfold tmQ; rw [hown])
   ·refine iteKF (zDF fun z => hg (optV_eq.mp z)) ?_
    refine q _ _ sm ?_
    unfold xgt
    rw [if_neg]
    ·rfl
    ·intro z
     have := List.all_eq_true.mp z pr hpm
     unfold okQ at this
     rw [hown] at this
     exact hg (of_decide_eq_true this)
 ·rintro σ H' ⟨o6, o7, us, rfl, sm, hd, hll, hus, hall⟩
  rw [zTL (by omega)] at hus hall
  refine ⟨_, rfl, l, us, rfl, .inl ⟨SqL.of hll, fun t ht => ?_⟩⟩
  have y3 := Same.new ht (.tup us)
  refine q _ _ (sm.trans y3) ?_
  unfold xgt
  rw [if_pos hall]
  exact ⟨t, us, rfl, ups, hus.same y3 _⟩
theorem xex (T : Tx K mg) (D_goes_to : DefIs P w K mg base n "goes_to" ["ways", "kind"] xfe) (D_parts_of : DefIs P w K mg base n "parts_of" ["kinds", "K"] xbk) : DefIs P w K mg base (n + 1) "tags_by_rules" ["kinds", "ways", "kind"] xk7 := by
 refine DefIs.of T.d_tags_by_rules sc_tags_by_rules ?_ ?_ <;> walk_at "i"
 ·obtain ⟨_, _, _, _, _, _, _, rfl, _⟩ := h
  rfl
 obtain ⟨kv, wa, dv, ks2, ys, k, k2, rfl, hk, hw, hdv, hkx, hnd, hl2, hl, q⟩ := h
 have nd := sc_tags_by_rules.nd
 have hu := xc2 hr
 obtain ⟨da, _, rfl, hda, _, _, rfl, rfl, _, _, rfl, rfl, pv', _, rfl, ⟨pa, pus, rfl, hpa, hpu⟩, rfl⟩ := hdv
 have hpl := hpu.length
 rw [zLM] at hpl
 refine ⟨_, (zpn (xah (i := 3) nd rfl (by walk_at "o") (xag xaf (pv 2) pI (fun _ _ => rfl)))
   (zpn (xah (i := 4) nd rfl (by walk_at "o") (xar (xen rfl) rfl T.z_dict PyProof.Rows.boot_dict (pc (pd D_parts_of hr (pc (pv 0) (pc (pv 3) pN zsn) zsn)) pN zsc)))
   (zpn (xbo PassesOwn.never rfl (xa4 (xag xaf (pv 2) pI (fun _ _ => rfl))) (xbb rfl (xab (xaa (i := 5) nd rfl (by walk_at "o")) (xab (xaa (i := 6) nd rfl (by walk_at "o")) xaq)))
   (zpo (xao (PW.pt (xfh (xfi (xdx hu (pv 5) (pv 4))) (xep (pR xeg (xb4 hu (pv 4) (pv 5) (fun _ _ => rfl)) (pd D_goes_to hr (pc (pv 1) (pc (pv 6) pN zsn) zsn)) (nM _))))) (zpo (xae xcf)) pQ)))
   (zpo (xae (xar xau rfl T.z_tuple PyProof.Rows.boot_tuple (pc (xba ["tag", "inner", "K"] [none, none, some 3] rfl (by kernel_rfl) (xa4 (xag xaf (pv 2) pI (fun _ _ => rfl))) (fun _ _ _ _ => (xbp (K := K) (n := 2) rfl rfl (xab (xaa (i := 0) (by show List.Nodup (["tag", "inner", "K"] : List Str); decide +kernel) rfl (Or.inl rfl)) (xab (xaa (i := 1) (by show List.Nodup (["tag", "inner", "K"] : List Str); decide +kernel) rfl (Or.inl rfl)) xaq)))) (fun _ _ _ _ => xa8) (fun _ _ _ _ => (xan (pc (pv 0) (pc (xan (pc pS (pc (pv 2) (pc (pv 0) (pc (xan (pc pS (pc pS pN zso) zso)) pN sT) zsn) zsn) zso)) pN sT) zsn)))) pN xbj))))))), ?_⟩
 refine ⟨_, rfl, da, _, _, _, rfl, rfl, SqT.of hda, rfl, ?_⟩
 refine ⟨_, rfl, _, rfl, kv, ks2, k.name, rfl, hk, fun u H1 s1 ru => ?_⟩
 rw [hkx] at ru
 obtain ⟨ta, tus, rfl, hta, htu⟩ := ru
 refine ⟨ta, tus, bKV k2.parts, rfl, hta, xdy htu, fun dp hdp => ?_⟩
 have y1 := Same.new hdp (.dK (xav [] (bKV k2.parts)))
 have s2 := s1.trans y1
 have hda2 := s2 _ _ hda
 have hpa2 := s2 _ _ hpa
 have hd2 : upd H1 dp (.dK (xav [] (bKV k2.parts))) dp = some (.dK (xav [] (bKV k2.parts))) := ups
 have hpu2 := hpu.same s2 _
 have hw2 := hw.same s2
 generalize upd H1 dp (.dK (xav [] (bKV k2.parts))) = H2 at s2 hda2 hpa2 hd2 hpu2 hw2 ⊢
 refine ⟨_, rfl, da, _, _, _, rfl, rfl, SqT.of hda2, rfl, pa, rfl, ⟨_, SqT.of hpa2⟩, ?_⟩
 refine xb5 (xs := pus) (fun i σ H' => ∃ o5 o6, σ = [some kv, some (.ref wa), some (.ref da), some (.str k.name), some (.ref dp), o5, o6] /\ H' = H2 /\ (k.parts.take i).all (okT ys k2.parts) = true) ⟨none, none, rfl, rfl, rfl⟩ (fun i σ H' _ p => by obtain ⟨_, _, _, rfl, _⟩ := p; exact SqT.of hpa2) ?_ ?_
 ·rintro i v σ H' hv ⟨o5, o6, rfl, rfl, hall⟩
  obtain ⟨d, hd', rd⟩ := hpu2.get hv
  rw [zGM] at hd'
  obtain ⟨pr, hpr, rfl⟩ := zMS hd'
  obtain ⟨b, ws, rfl, hb, _, _, rfl, rfl, _, _, rfl, rfl, rfl⟩ := rd
  have hpm := zMG hpr
  have hval := xmr hnd pr.1
  have g : DGet H' dp (.str pr.1) ((xc7 k2.parts pr.1).map V.str) := by
   have := DGet.k (H := H') (a := dp) (k := Sum.inr pr.1) hd2
   rw [hval] at this
   exact this
  have bad : okT ys k2.parts pr = false -> Q .non H' := fun hb0 => by
   refine q _ _ s2 ?_
   unfold xmz
   rw [if_neg]
   ·rfl
   ·intro z
    have := List.all_eq_true.mp z pr hpm
    rw [hb0] at this
    cases this
  refine ⟨b, _, rfl, SqT.of hb, rfl, _, _, rfl, _, _, rfl, rfl, ?_⟩
  cases hown : xc7 k2.parts pr.1 with
  | none =>
   rw [hown] at g
   refine ⟨_, rfl, _, rfl, dp, _, rfl, g, _, rfl, iteT ?_⟩
   exact iteT (bad (by unfold okT; rw [hown]))
  | some gk =>
   rw [hown] at g
   refine ⟨_, rfl, _, rfl, dp, _, rfl, g, _, rfl, iteF ?_⟩
   refine ⟨_, rfl, _, rfl, dp, _, rfl, g, _, rfl, _, rfl, wa, ys, pr.2, rfl, hw2, ?_⟩
   refine ⟨xnm _ _, _, rfl, ?_⟩
   by_cases hg : xal ys pr.2 = some gk
   ·refine xsf (by rw [hg]; rfl) ⟨_, _, rfl, rfl, ?_⟩
    rw [List.take_add_one, hpr]
    show (k.parts.take i ++ [pr]).all _ = true
    rw [List.all_append, hall, List.all_cons]
    have : okT ys k2.parts pr = true := by unfold okT; rw [hown]; exact zDT hg
    rw [this]
    rfl
   ·refine xp9 (fun z => hg (optV_eq.mp z.symm)) (bad ?_)
    unfold okT
    rw [hown]
    exact zDF hg
 ·rintro σ H' ⟨o5, o6, rfl, rfl, hall⟩
  rw [zTL (by omega)] at hall
  refine ⟨_, rfl, da, _, _, _, rfl, rfl, SqT.of hda2, rfl, pa, rfl, ⟨_, SqT.of hpa2⟩, ?_⟩
  refine xa7 (xs := pus) (fun i zs H3 => Same H' H3 /\ zs.length = i /\ RelDs H3 zs ((k.parts.take i).map fun p => .tup [.str p.1, tTag k.name p.1 (tBox (S "it"))])) ⟨Same.refl _, rfl, rfl⟩ (xat (by omega)) (fun i zs H3 _ p => SqT.of (p.1 _ _ hpa2)) ?_ ?_
  ·rintro i y zs H3 hy hi hly ⟨sm, hzl, hzs⟩
   obtain ⟨d, hd', rd⟩ := (hpu2.same sm _).get hy
   rw [zGM] at hd'
   obtain ⟨pr, hpr, rfl⟩ := zMS hd'
   obtain ⟨b, ws, rfl, hb, _, _, rfl, rfl, _, _, rfl, rfl, rfl⟩ := rd
   refine ⟨b, _, rfl, SqT.of hb, rfl, _, _, rfl, _, _, rfl, rfl, ext2 rfl rfl, xdu ?_⟩
   refine ⟨_, rfl, _, rfl, _, rfl, (by walk_at "s"), fun t1 ht1 => ⟨(by walk_at "s"), fun t2 ht2 => ⟨(by walk_at "s"), fun t3 ht3 => ?_⟩⟩⟩
   have y1 := Same.new ht1 (.tup [.str (S "box"), .str (S "it")])
   have y2 := Same.new ht2 (.tup [.str (S "tag"), .str k.name, .str pr.1, .ref t1])
   have y3 := Same.new ht3 (.tup [.str pr.1, .ref t2])
   have y23 := y2.trans y3
   have y := y1.trans y23
   refine nxtG hi hly ⟨sm.trans y, by rw [List.length_append, List.length_singleton, hzl], ?_⟩
   rw [List.take_add_one, hpr]
   show RelDs _ _ ((k.parts.take i ++ [pr]).map _)
   rw [List.map_append]
   exact (hzs.same y _).append ⟨_, [], rfl, ⟨t3, _, rfl, ups, _, _, rfl, rfl, _, _, rfl, ⟨t2, _, rfl, y3 _ _ ups, _, _, rfl, rfl, _, _, rfl, rfl, _, _, rfl, rfl, _, _, rfl, ⟨t1, _, rfl, y23 _ _ ups, _, _, rfl, rfl, _, _, rfl, rfl, rfl⟩, rfl⟩, rfl⟩, rfl⟩
  ·rintro zs H3 hly ⟨sm, hzl, hzs⟩ D hD
   rw [zTL (by omega)] at hzs
   have y1 := Same.new hD (.lst zs)
   refine ⟨D, zs, rfl, .inl ⟨SqL.of ups, fun t ht => ?_⟩⟩
   have y2 := Same.new ht (.tup zs)
   have y := y1.trans y2
   refine q _ _ (s2.trans (sm.trans y)) ?_
   unfold xmz
   rw [if_pos hall]
   exact ⟨t, zs, rfl, ups, hzs.same y _⟩
theorem xfq (T : Tx K mg) (D_sort_of : DefIs P w K mg base n "sort_of" ["kinds", "K"] xbz) (D_parts_of : DefIs P w K mg base n "parts_of" ["kinds", "K"] xbk) (D_tags_by_rules : DefIs P w K mg base n "tags_by_rules" ["kinds", "ways", "kind"] xk7) (D_terms_by_rules : DefIs P w K mg base n "terms_by_rules" ["kinds", "ways", "olds", "news"] xh1) : DefIs P w K mg base (n + 1) "how_by_rules" ["kinds", "ways", "kind"] xs7 := by
 refine DefIs.of T.d_how_by_rules sc_how_by_rules ?_ ?_ <;> walk_at "i"
 ·obtain ⟨_, _, _, _, _, _, rfl, _⟩ := h
  rfl
 obtain ⟨kv, wa, dv, ks2, ys, k, rfl, hkv, wf2, hw, hdv, hnd, hl, q⟩ := h
 have nd := sc_how_by_rules.nd
 have hk := wf2.ksAt hkv
 have hdv' := hdv
 obtain ⟨da, _, rfl, hda, _, _, rfl, rfl, _, _, rfl, rfl, pv', _, rfl, hpv, rfl⟩ := hdv'
 refine ⟨_, (zpn (xah (i := 3) nd rfl (by walk_at "o") (xag xaf (pv 2) pI (fun _ _ => rfl)))
   (zpn (xao (pR xeg (pd D_sort_of hr (pc (pv 0) (pc (pv 3) pN zsn) zsn)) (xag xaf (pv 2) pI (fun _ _ => rfl)) (nM _)) (zpo (xae xcf)) pQ)
   (zpn (xao (pR xas (xag xaf (pv 2) pI (fun _ _ => rfl)) pS (nM _)) (zpo (xae (pd D_tags_by_rules hr (pc (pv 0) (pc (pv 1) (pc (pv 2) pN zsn) zsn) zsn)))) pQ)
   (zpn (xah (i := 4) nd rfl (by walk_at "o") (pd D_terms_by_rules hr (pc (pv 0) (pc (pv 1) (pc (xag xaf (pv 2) pI (fun _ _ => rfl)) (pc (pd D_parts_of hr (pc (pv 0) (pc (pv 3) pN zsn) zsn)) pN zsc) ss) zsn) zsn)))
   (zpn (xao (pR xip (pv 4) xcf (nM _)) (zpo (xae xcf)) pQ)
   (zpo (xae (xan (pc pS (pc (pv 3) (pc (pv 4) pN zsn) zsn) zso))))))))), ?_⟩
 refine ⟨_, rfl, da, _, _, _, rfl, rfl, SqT.of hda, rfl, ?_⟩
 refine ⟨_, rfl, _, rfl, kv, ks2, k.name, rfl, hk, ?_⟩
 unfold xcg at q
 cases hkx : kAt ks2 k.name with
 | none =>
  rw [hkx] at q
  exact ⟨_, rfl, da, _, _, _, rfl, rfl, SqT.of hda, rfl, rfl, _, rfl, xp9 (fun z => by cases z) (q _ _ (Same.refl _) rfl)⟩
 | some k2 =>
  rw [hkx] at q
  have hm2 := List.mem_of_find?_eq_some hkx
  have h52 := wf2.pts k2 hm2
  by_cases hrc : k2.rc = k.rc
  ·have hss : k2.sort = k.sort := by unfold Kn.sort; rw [hrc]
   refine ⟨_, rfl, da, _, _, _, rfl, rfl, SqT.of hda, rfl, rfl, _, rfl, xsf (by show V.str k2.sort = V.str k.sort; rw [hss]) ?_⟩
   change ∀ u H', Same H H' -> optD H' u (if k2.rc = k.rc then _ else _) -> Q u H' at q
   rw [if_pos hrc] at q
   cases hc : k.rc with
   | false =>
    rw [if_neg (by rw [hc]; decide)] at q
    refine ⟨_, rfl, da, _, _, _, rfl, rfl, SqT.of hda, rfl, rfl, _, rfl, iteKT (zDT (by rw [xbn hc]; rfl)) ?_⟩
    exact ⟨_, rfl, _, rfl, _, rfl, kv, wa, _, ks2, ys, k, k2, rfl, hk, hw, hdv, hkx, wf2.pnd k2 hm2, by omega, hl, q⟩
   | true =>
    rw [if_pos hc] at q
    refine ⟨_, rfl, da, _, _, _, rfl, rfl, SqT.of hda, rfl, rfl, _, rfl, iteKF (zDF (by rw [xbm hc]; decide +kernel)) ?_⟩
    refine ⟨_, rfl, _, rfl, _, rfl, da, _, _, _, rfl, rfl, SqT.of hda, rfl, _, rfl, _, rfl, kv, ks2, k.name, rfl, hk, fun u H1 s1 ru => ?_⟩
    rw [hkx] at ru
    refine ⟨kv, wa, _, u, ks2, ys, k.parts, k2.parts, rfl, hkv.same s1 _, wf2, hw.same s1, hpv.same s1 _, ru, hnd, hl, by omega, fun p hp => xq2 wf2 hm2 hp, fun u2 H2 s2 ru2 => ?_⟩
    unfold xgt at ru2
    by_cases ha : k2.parts.all (okQ ys k.parts) = true
    ·rw [if_pos ha] at q ru2
     obtain ⟨b, us, rfl, hb, hus⟩ := id ru2
     refine ⟨_, rfl, rfl, _, rfl, iteF ?_⟩
     refine ⟨_, rfl, _, rfl, (by walk_at "s"), fun t ht => ?_⟩
     have y := Same.new ht (.tup [.str (S "rec"), .str k.name, .ref b])
     exact q _ _ (s1.trans (s2.trans y)) ⟨t, _, rfl, ups, _, _, rfl, rfl, _, _, rfl, rfl, _, _, rfl, (show RelD H2 _ (D.tup (k2.parts.map (tmQ ks2 k.parts))) from ru2).same y _, rfl⟩
    ·rw [if_neg ha] at q ru2
     obtain rfl : u2 = .non := ru2
     exact ⟨_, rfl, rfl, _, rfl, iteT (q _ _ (s1.trans s2) rfl)⟩
  ·have hss : ¬ k2.sort = k.sort := fun z => hrc (by
    unfold Kn.sort at z
    cases h1 : k2.rc <;> cases h2 : k.rc
    ·rfl
    ·rw [h1, h2] at z; exact absurd z (by walk_at "k")
    ·rw [h1, h2] at z; exact absurd z (by walk_at "k")
    ·rfl)
   change ∀ u H', Same H H' -> optD H' u (if k2.rc = k.rc then _ else _) -> Q u H' at q
   rw [if_neg hrc] at q
   exact ⟨_, rfl, da, _, _, _, rfl, rfl, SqT.of hda, rfl, rfl, _, rfl, xp9 (fun z => hss (V.str.inj z)) (q _ _ (Same.refl _) rfl)⟩
theorem xi0 (T : Tx K mg) (D_how_by_rules : DefIs P w K mg base n "how_by_rules" ["kinds", "ways", "kind"] xs7) : DefIs P w K mg base (n + 1) "made_ways" ["first", "second", "told"] xk8 := by
 refine DefIs.of T.d_made_ways sc_made_ways ?_ ?_ <;> walk_at "i"
 ·obtain ⟨_, _, _, _, _, _, _, _, _, _, _, rfl, _⟩ := h
  rfl
 obtain ⟨fa, sa, ta, kv1, kv2, r1, r2, ks, ks2, tkv, told, rfl, hfa, hsa, hta, htw, htl, hk1, wf, hk2, wf2, q⟩ := h
 have nd := sc_made_ways.nd
 have hu := xc2 hr
 have hk1' := hk1
 obtain ⟨ka, kus, rfl, hka, hku⟩ := hk1'
 have hkl := hku.length
 rw [zLM] at hkl
 have hfew := wf.few
 refine ⟨_, (zpn (xah (i := 3) nd rfl (by walk_at "o") (xar xgm rfl T.z_dict PyProof.Rows.boot_dict (pc (pv 2) pN zsn)))
   (zpn (xah (i := 4) nd rfl (by walk_at "o") (xbs pN))
   (zpn (xbo PassesOwn.never rfl (xa4 (xag xaf (pv 0) pI (fun _ _ => rfl))) (xaa (i := 5) nd rfl (by walk_at "o"))
   (zpn (xah (i := 6) nd rfl (by walk_at "o") (xag xaf (pv 5) pI (fun _ _ => rfl)))
   (zpo (xao (xfi (xdx hu (pv 6) (pv 3))) (zpn (xah (i := 7) nd rfl (by walk_at "o") (pd D_how_by_rules hr (pc (xag xaf (pv 1) pI (fun _ _ => rfl)) (pc (pv 3) (pc (pv 5) pN zsn) zsn) ss)))
   (zpo (xao (pR xip (pv 7) xcf (nM _)) (zpo (xaz (xev PySem.F.plainAttrs_list PySem.F.slot_list_append PySem.F.type_list_append xb1 (pv 4) (pc (pv 6) pN zsn)))) (zpo (xj7 hu (pv 3) (pv 6) (xan (pc (pv 6) (pc (pv 7) pN zsn) zsn)) rfl))))) pQ))))
   (zpo (xae (xan (pc (pv 3) (pc (pv 4) pN zsn) zsn))))))), ?_⟩
 refine ⟨_, rfl, ta, tkv, rfl, hta, fun wa hwa => ?_⟩
 have y1 := Same.new hwa (.dK tkv)
 refine ⟨(by walk_at "s"), fun la hla => ?_⟩
 have y2 := Same.new hla (.lst [])
 have wl : wa ≠ la := neN ups hla
 have nla : H la = none := xd0 y1 hla
 have y12 := y1.trans y2
 refine ⟨_, rfl, fa, _, _, _, rfl, rfl, SqT.of (y12 _ _ hfa), xap (j := 0) rfl, ka, rfl, ⟨_, SqT.of (y12 _ _ hka)⟩, ?_⟩
 refine xb5 (xs := kus) (fun i σ H' => ∃ o5 o6 o7 kvs, ∃ ls : List Str, σ = [some (.ref fa), some (.ref sa), some (.ref ta), some (.ref wa), some (.ref la), o5, o6, o7] /\ Same H H' /\ H' wa = some (.dK kvs) /\ WAll H' kvs (xa1 ks2 (ks.take i) told) /\ H' la = some (.lst (ls.map V.str)) /\ ls.length <= i)
  ⟨none, none, none, tkv, [], rfl, y12, y2 _ _ ups, htw.tups fun b us e => y12 _ _ e, ups, Nat.le_refl _⟩ (fun i σ H' _ p => ?_) ?_ ?_
 ·obtain ⟨_, _, _, _, _, _, sm, _⟩ := p
  exact SqT.of (sm _ _ hka)
 ·rintro i v σ H' hv ⟨o5, o6, o7, kvs, ls, rfl, sm, hw, hwl, hll, hlsl⟩
  obtain ⟨d, hd', rd⟩ := (hku.same sm _).get hv
  rw [zGM] at hd'
  obtain ⟨k, hk, rfl⟩ := zMS hd'
  have hkm := zMG hk
  have rd' := rd
  obtain ⟨da, _, rfl, hda, _, _, rfl, rfl, _, _, rfl, rfl, pv', _, rfl, hpv, rfl⟩ := rd'
  have hil : i < ks.length := (zES hk).1
  have hlen := hwl.len
  have hwn : kvs.length <= 200 := by
   have h1 := xhd (ks2 := ks2) (ks := ks.take i) (ys := told)
   rw [List.length_take] at h1
   omega
  rw [xe9 hk, xda]
  refine ⟨_, rfl, da, _, _, _, rfl, rfl, SqT.of hda, rfl, ?_⟩
  have hv' := hwl.val (x := k.name)
  unfold xdj
  cases hny : wyAt (xa1 ks2 (ks.take i) told) k.name with
  | some y =>
   obtain ⟨v, h1, h2⟩ := hv'.2 y hny
   have g0 : DGet H' wa (.str k.name) (some v) := by
    have := DGet.k (H := H') (a := wa) (k := Sum.inr k.name) hw
    rw [h1] at this
    exact this
   exact ⟨_, rfl, _, rfl, wa, _, rfl, g0, _, rfl, iteF ⟨_, _, _, kvs, ls, rfl, sm, hw, hwl, hll, by omega⟩⟩
  | none =>
   have hnv : valV kvs (Sum.inr k.name : Key) = none := hv'.1 hny
   have g0 : DGet H' wa (.str k.name) none := by
    have := DGet.k (H := H') (a := wa) (k := Sum.inr k.name) hw
    rw [hnv] at this
    exact this
   refine ⟨_, rfl, _, rfl, wa, _, rfl, g0, _, rfl, iteT ?_⟩
   refine ⟨_, rfl, sa, _, _, _, rfl, rfl, SqT.of (sm _ _ hsa), xap (j := 0) rfl, _, rfl, _, rfl, kv2, wa, _, ks2, _, k, rfl, hk2.same sm _, wf2, ⟨kvs, .inl hw, hwl⟩, rd, wf.pnd k hkm, by have := wf.pts k hkm; omega, fun u H1 s1 ru => ?_⟩
   cases hb : xcg ks2 (xa1 ks2 (ks.take i) told) k with
   | none =>
    rw [hb] at ru
    obtain rfl : u = .non := ru
    refine ⟨_, rfl, rfl, _, rfl, iteT ?_⟩
    have hll1 := s1 _ _ hll
    refine ⟨_, rfl, .inl ⟨rfl, _, SqL.of hll1⟩, _, rfl, la, _, _, rfl, rfl, hll1, xat (by rw [zLM]; omega), ?_⟩
    have tp := xa2 hll1 (.lst (ls.map V.str ++ [.str k.name]))
    refine ⟨_, _, _, kvs, ls ++ [k.name], rfl, xgz (sm.trans s1) nla _, by rw [xaw wl]; exact s1 _ _ hw, (hwl.tups fun b us e => s1 _ _ e).tups tp, by rw [List.map_append]; exact ups, by rw [List.length_append, List.length_singleton]; omega⟩
   | some d =>
    rw [hb] at ru
    have ru' : RelD H1 u d := ru
    obtain ⟨hb', rfl⟩ : ∃ b, u = .ref b := xsh hb ru'
    refine ⟨_, rfl, rfl, _, rfl, iteF ?_⟩
    refine ⟨_, rfl, _, rfl, (by walk_at "s"), fun t ht => ?_⟩
    have y := Same.new ht (.tup [.str k.name, .ref hb'])
    have s3 := s1.trans y
    have hw3 := s3 _ _ hw
    refine ⟨_, rfl, _, rfl, wa, _, rfl, DPut.k (k := Sum.inr k.name) hw3 (xat (by omega)), ?_⟩
    rw [xnp hnv]
    have tp := xhk hw3 (.dK (kvs ++ [(Sum.inr k.name, .ref t)]))
    have hway : RelD (upd H1 t (.tup [.str k.name, .ref hb'])) (.ref t) (wyD (k.name, k.name, d)) := ⟨t, _, rfl, ups, _, _, rfl, rfl, _, _, rfl, ru'.same y _, rfl⟩
    refine ⟨_, _, _, _, ls, rfl, xgz (sm.trans s3) hwa _, ups, ((hwl.tups fun b us e => s3 _ _ e).snoc (kv := (Sum.inr k.name, .ref t)) (y := (k.name, k.name, d)) ⟨rfl, hway⟩).tups tp, ?_, by omega⟩
    rw [xaw (Ne.symm wl)]
    exact s3 _ _ hll
 ·rintro σ H' ⟨o5, o6, o7, kvs, ls, rfl, sm, hw, hwl, hll, hlsl⟩
  rw [zTL (by omega)] at hwl
  refine ⟨_, rfl, _, rfl, (by walk_at "s"), fun r hr' => ?_⟩
  have y := Same.new hr' (.tup [.ref wa, .ref la])
  exact q r wa la kvs ls _ (sm.trans y) (xd0 sm hr') hwa nla ups (y _ _ hw) (hwl.tups fun b us e => y _ _ e) (y _ _ hll) (by omega)
theorem xsc (T : Tx K mg) : DefIs P w K mg base 30 "made_ways" ["first", "second", "told"] xk8 :=
 xi0 (n := 29) T (xfq (n := 28) T (xbc T) (xa0 T) (xex (n := 27) T (xcc T) (xa0 T)) (xei (n := 27) T (xcc T) ((xi5 T 6).mono (by omega))))
theorem xtg {H H' : Hp} {f a : Addr} {p q : Int} {u : List (Key × V)} (hf : H f = some (.lst [.int p, .int q])) (h : Rd H a (.dK u)) (F : Fed f H H') : Rd H' a (.dK u) := by
 rcases h with h | ⟨o, h⟩
 ·exact .inl (F.1 _ _ h fun e => by rw [e, hf] at h; cases h)
 ·exact .inr ⟨o, F.1 _ _ h fun e => by rw [e, hf] at h; cases h⟩
theorem xky {H H' : Hp} {f a : Addr} {p q : Int} {ys : List Wy} (hf : H f = some (.lst [.int p, .int q])) (h : WaysAt H a ys) (F : Fed f H H') : WaysAt H' a ys := by
 obtain ⟨kvs, h1, h2⟩ := h
 exact ⟨kvs, xtg hf h1 F, h2.tups (xai ⟨p, q, hf⟩ F)⟩
theorem xfk {ys : List Wy} {ps : List (Str × Str)} {p : Str × Str} : xbl ys (ps ++ [p]) = xbl ys ps ++ (match xal ys p.2 with | some g => [(p.1, g)] | none => []) := by
 unfold xbl
 rw [List.filterMap_append]
 congr 1
 rw [List.filterMap_cons]
 cases xal ys p.2 <;> rfl
theorem it_nb (j : Nat) : S "it" ≠ byN j := fun e => by
 have := congrArg L e
 unfold byN at this
 rw [xc3, show L (S "it") = [105, 116] by walk_at "k"] at this
 simp at this
theorem xra {H : Hp} {f : Addr} {p q : Int} {kv : V} {bl : Addr} {us : List V} {ks2 : List Kn} {bs : List (Str × Str)} (hf : H f = some (.lst [.int p, .int q])) (hk : RelD H kv (xbg ks2)) (wf : KWf ks2) (nb : PNB ks2) (hbl : H bl = some (.lst us)) (hus : RelDs H us (bs.map xbu)) (nd : (bs.map (·.1)).Nodup) (hl : bs.length <= 20) (hn : ∀ b ∈ bs, NoBy b.1) (hg : ∀ b ∈ bs, KIn ks2 6 b.2) : TIn H f kv (.ref bl) ks2 bs 3 :=
 ⟨⟨p, q, hf⟩, hk, wf, nb, ⟨bl, us, rfl, hbl, hus, fun e => by
  rw [e, hf] at hbl
  have e2 := Option.some.inj hbl
  injection e2 with e3
  rw [<- e3] at hus
  cases bs with
  | nil =>
   have : [V.int p, V.int q] = [] := hus
   cases this
  | cons b bs =>
   obtain ⟨v, r, e4, h1, _⟩ := hus
   injection e4 with e5 _
   rw [<- e5] at h1
   obtain ⟨_, _, e6, _⟩ := h1
   cases e6⟩, nd, by omega, fun b hb j _ => hn b hb j, hg⟩
def xro : Sp := fun vs H Q _ => ∃ (f fa wa : Addr) (kv1 kv2 : V) (r1 : List V) (p q : Int) (ks ks2 : List Kn) (ys : List Wy) (k : Kn), vs = [.ref f, .ref fa, kv2, .ref wa, .str k.name] /\ H f = some (.lst [.int p, .int q]) /\ H fa = some (.tup (kv1 :: r1)) /\ RelD H kv1 (xbg ks) /\ KWf ks /\ RelD H kv2 (xbg ks2) /\ KWf ks2 /\ PNB ks2 /\ WaysAt H wa ys /\ kAt ks k.name = some k /\ (∀ p ∈ k.parts, NoBy p.1) /\ (∀ x g, xal ys x = some g -> KIn ks2 6 g) ∧
 ∀ t g d H', Fed f H H' -> RelD H' (.ref t) (.tup [.str g, d]) -> KIn ks2 6 g -> HowOk ks2 ys k g d -> Q (.ref t) H'
theorem xr3 (T : Tx K mg) (Dl_sort_of : DefIs P w K mg base n "_law_sort_of" ["_law_kinds_here", "_law_kind"] xcv) (Dl_any_kind : DefIs P w K mg base n "_law_any_kind" ["_law_feed_here", "_law_kinds_here"] xpm) (D_goes_to : DefIs P w K mg base n "goes_to" ["ways", "kind"] xfe) (Dl_new_term : DefIs P w K mg base n "_law_new_term" ["_law_feed_here", "_law_kinds_here", "_law_boxes", "_law_kind"] xm8) : DefIs P w K mg base (n + 1) "_law_way" ["_law_feed_here", "_law_first", "_law_kinds_here", "_law_ways", "_law_name"] xro := by
 refine DefIs.of T.dl_way scl_way ?_ ?_ <;> walk_at "i"
 ·obtain ⟨_, _, _, _, _, _, _, _, _, _, _, _, rfl, _⟩ := h
  rfl
 obtain ⟨f', fa, wa, kv1, kv2, r1, p0, q0, ks, ks2, ys, k, rfl, hf, hfa, hk1, wf, hk2, wf2, pnb, hw, hkx, hnb, hgo, q⟩ := h
 have nd := scl_way.nd
 have hkm := List.mem_of_find?_eq_some hkx
 have h5 := wf.pts k hkm
 have hpnd := wf.pnd k hkm
 refine ⟨_, (zpn (xcb (pd Dl_sort_of hr (pc (xag xaf (pv 1) pI (fun _ _ => rfl)) (pc (pv 4) pN zsn) ss)) (xbb rfl (xab (xaa (i := 5) nd rfl (by walk_at "o")) (xab (xaa (i := 6) nd rfl (by walk_at "o")) xaq))))
   (zpn (xah (i := 7) nd rfl (by walk_at "o") (pd Dl_any_kind hr (pc (pv 0) (pc (pv 2) pN zsn) zsn)))
   (zpn (xao (pR xas (pv 5) pS (nM _)) (zpn (xa9 (i := 8) ["_law_f", "_law_part", "_law_ways"] [none, none, some 3] rfl (by kernel_rfl) nd rfl (by walk_at "o") (xa4 (pv 6)) (fun _ _ _ _ => (xbp (K := K) (n := 2) rfl rfl (xab (xaa (i := 0) (by show List.Nodup (["_law_f", "_law_part", "_law_ways"] : List Str); decide +kernel) rfl (Or.inl rfl)) (xab (xaa (i := 1) (by show List.Nodup (["_law_f", "_law_part", "_law_ways"] : List Str); decide +kernel) rfl (Or.inl rfl)) xaq)))) (fun _ _ _ _ => (xcd (pR xg5 (pd D_goes_to hr (pc (pv 2) (pc (pv 1) pN zsn) zsn)) xcf (nM _)))) (fun _ _ _ _ => (xan (pc (pv 0) (pc (pd D_goes_to hr (pc (pv 2) (pc (pv 1) pN zsn) zsn)) pN zsc) zsn))))
   (zpo (xae (xan (pc (pv 7) (pc (pd Dl_new_term hr (pc (pv 0) (pc (pv 2) (pc (pv 8) (pc (pv 7) pN zsn) zsn) zsn) zsn)) pN zsc) zsn))))) pQ)
   (zpn (xah (i := 9) nd rfl (by walk_at "o") (xbs pN))
   (zpn (xbo PassesOwn.never rfl (xa4 (pv 6)) (xbb rfl (xab (xaa (i := 10) nd rfl (by walk_at "o")) (xab (xaa (i := 11) nd rfl (by walk_at "o")) xaq)))
   (zpn (xa9 (i := 8) ["_law_goes"] [none] rfl (by kernel_rfl) nd rfl (by walk_at "o") (xce (xbs (pc (pd D_goes_to hr (pc (pv 3) (pc (pv 11) pN zsn) zsn)) pN zsc))) (fun _ _ _ _ => (xaa (i := 0) (by show List.Nodup (["_law_goes"] : List Str); decide +kernel) rfl (Or.inl rfl))) (fun _ _ _ _ => (xcd (pR xg5 (pv 0) xcf (nM _)))) (fun _ _ _ _ => (xan (pc pS (pc (pv 0) pN zsn) zso))))
   (zpo (xaz (xev PySem.F.plainAttrs_list PySem.F.slot_list_append PySem.F.type_list_append xb1 (pv 9) (pc (xan (pc (pv 10) (pc (pd Dl_new_term hr (pc (pv 0) (pc (pv 2) (pc (pv 8) (pc (pv 7) pN zsn) zsn) zsn) zsn)) pN zsc) zsn)) pN sT))))))
   (zpo (xae (xan (pc (pv 7) (pc (xar xau rfl T.z_tuple PyProof.Rows.boot_tuple (pc (pv 9) pN zsn)) pN zsc) zsn))))))))), xaj fun R1 hR1 => ?_⟩
 refine ⟨_, rfl, fa, _, _, _, rfl, rfl, SqT.of hfa, xap (j := 0) rfl, _, rfl, kv1, ks, k.name, rfl, (wf.ksAt hk1).seq, fun t pv' H1 s1 ht rp => ?_⟩
 refine ⟨t, _, rfl, SqT.of ht, rfl, _, _, rfl, _, _, rfl, rfl, ?_⟩
 refine hR1 _ _ (xaj fun R2 hR2 => ?_)
 rw [hkx] at rp
 obtain ⟨pa, pus, rfl, hpa, hpu⟩ := rp
 have hpl := hpu.length
 rw [zLM] at hpl
 obtain ⟨ka2, kus2, rfl, hka2, hku2⟩ := id hk2
 have hss : xci (kAt ks k.name) = k.sort := by rw [hkx]; rfl
 refine ⟨_, rfl, _, rfl, f', ka2, p0, q0, kus2, ks2, rfl, s1 _ _ hf, .inr (s1 _ _ hka2), hku2.same s1 _, wf2.few, fun g H2 hg f2 => ?_⟩
 have hg6 := hg.mono wf2.few
 have F2 : Fed f' H H2 := ((Fed.refl hf).same s1).trans f2
 have tp2 := xai ⟨p0, q0, s1 _ _ hf⟩ f2
 have hpa2 := tp2 _ _ hpa
 have hpu2 := hpu.tups tp2 _
 have hw2 := xky (s1 _ _ hf) (hw.same s1) f2
 have hk22 := (hk2.same s1 _).tups tp2 _
 obtain ⟨p2, q2, h2⟩ := F2.2
 refine hR2 _ _ (xaj fun R3 hR3 => ?_)
 cases hc : k.rc with
 | true =>
  refine ⟨_, rfl, rfl, _, rfl, iteKT (zDT (by rw [hss, xbm hc]; rfl)) ?_⟩
  refine xaj fun R4 hR4 => ?_
  refine ⟨_, rfl, pa, rfl, ⟨_, SqT.of hpa2⟩, ?_⟩
  refine xa7 (xs := pus) (fun i zs H3 => Same H2 H3 /\ RelDs H3 zs ((xbl ys (k.parts.take i)).map xbu)) ⟨Same.refl _, rfl⟩ (xat (by omega)) (fun i zs H3 _ p => SqT.of (p.1 _ _ hpa2)) ?_ ?_
  ·rintro i y zs H3 hy hi hly ⟨sm, hzs⟩
   obtain ⟨d, hd', rd⟩ := (hpu2.same sm _).get hy
   rw [zGM] at hd'
   obtain ⟨pr, hpr, rfl⟩ := zMS hd'
   obtain ⟨b, ws, rfl, hb, _, _, rfl, rfl, _, _, rfl, rfl, rfl⟩ := rd
   have etk : xbl ys (k.parts.take (i + 1)) = xbl ys (k.parts.take i) ++ (match xal ys pr.2 with | some g => [(pr.1, g)] | none => []) := by
    rw [List.take_add_one, hpr]
    exact xfk
   refine ⟨b, _, rfl, SqT.of hb, rfl, _, _, rfl, _, _, rfl, rfl, ext2 rfl rfl, ?_⟩
   refine ⟨_, rfl, _, rfl, wa, ys, pr.2, rfl, hw2.same sm, ?_⟩
   cases hgp : xal ys pr.2 with
   | none =>
    rw [hgp] at etk
    refine ⟨rfl, _, rfl, iteF (nxtN hi hly ⟨sm, ?_⟩)⟩
    rw [etk, List.append_nil]
    exact hzs
   | some g' =>
    rw [hgp] at etk
    refine ⟨rfl, _, rfl, iteT ?_⟩
    refine ⟨_, rfl, _, rfl, _, rfl, wa, ys, pr.2, rfl, hw2.same sm, ?_⟩
    rw [hgp]
    refine ⟨(by walk_at "s"), fun t2 ht2 => ?_⟩
    have y1 := Same.new ht2 (.tup [.str pr.1, .str g'])
    refine nxtG hi hly ⟨sm.trans y1, ?_⟩
    rw [etk, List.map_append]
    exact (hzs.same y1 _).append ⟨_, [], rfl, ⟨t2, _, rfl, ups, _, _, rfl, rfl, _, _, rfl, rfl, rfl⟩, rfl⟩
  rintro zs H3 hly ⟨sm, hzs⟩ D hD
  rw [zTL (by omega)] at hzs
  have sD := Same.new hD (.lst zs)
  have s3 := sm.trans sD
  have hol := xdz (ys := ys) (ps := k.parts)
  refine hR4 _ _ ?_
  refine ⟨_, rfl, _, rfl, _, rfl, _, rfl, _, rfl, f', .ref ka2, .ref D, ks2, xbl ys k.parts, g, rfl, xra (s3 _ _ h2) (hk22.same s3 _) wf2 pnb ups (hzs.same sD _) (xee hpnd) (by omega) (fun b hb => ?_) (fun b hb => ?_), hg6, fun a d H4 f4 ra hb => ⟨(by walk_at "s"), fun t4 ht4 => ?_⟩⟩
  ·obtain ⟨p, hp, e, _⟩ := xfl hb
   rw [<- e]
   exact hnb p hp
  ·obtain ⟨p, hp, _, e⟩ := xfl hb
   exact hgo _ _ e
  have st := Same.new ht4 (.tup [.str g, .ref a])
  exact q _ g d _ (((F2.same s3).trans f4).same st) ⟨t4, _, rfl, ups, _, _, rfl, rfl, _, _, rfl, ra.same st _, rfl⟩ hg6 (.inl ⟨hc, hb.up (by omega)⟩)
 | false =>
  refine ⟨_, rfl, rfl, _, rfl, iteKF (zDF (by rw [hss, xbn hc]; decide +kernel)) ?_⟩
  refine hR3 _ _ (xaj fun R5 hR5 => ?_)
  refine ⟨(by walk_at "s"), fun al hal => ?_⟩
  refine hR5 _ _ (xaj fun R6 hR6 => ?_)
  have s3 := Same.new hal (.lst [])
  have alf : al ≠ f' := Ne.symm (neN h2 hal)
  have hpa3 := s3 _ _ hpa2
  have F3 := F2.same s3
  have hw3 := hw2.same s3
  have hk23 := hk22.same s3 _
  have h3 := s3 _ _ h2
  have hpu3 := hpu2.same s3 _
  have hal3 : upd H2 al (.lst []) al = some (.lst []) := ups
  generalize upd H2 al (.lst []) = H3 at s3 hpa3 F3 hw3 hk23 h3 hpu3 hal3 ⊢
  refine ⟨_, rfl, pa, rfl, ⟨_, SqT.of hpa3⟩, ?_⟩
  refine xb5 (xs := pus) (fun i σ H' => ∃ (ws : List V) (es : List (Str × D)) (o8 o10 o11 : Option V), σ = [some (.ref f'), some (.ref fa), some (.ref ka2), some (.ref wa), some (.str k.name), some (.str (xci (kAt ks k.name))), some (.ref pa), some (.str g), o8, some (.ref al), o10, o11] /\ Fed f' H2 H' /\ H' al = some (.lst ws) /\ RelDs H' ws (es.map dPr) /\ es.map (·.1) = (k.parts.take i).map (·.1) /\ ∀ (j : Nat) e p, es[j]? = some e -> k.parts[j]? = some p -> TmB ks2 22 (xbl ys [(S "it", p.2)]) e.2 g)
   ⟨[], [], none, none, none, rfl, (Fed.refl h2).same s3, hal3, rfl, rfl, fun j e p he => by simp at he⟩ (fun i σ H' _ p => ?_) ?_ ?_
  ·obtain ⟨_, _, _, _, _, _, F, _⟩ := p
   exact SqT.of (xai ⟨p2, q2, h2⟩ F _ _ hpa2)
  ·rintro i vv σ H4 hvv ⟨ws, es, o8, o10, o11, rfl, F4, hws, rws, hes, hall⟩
   have tp4 := xai ⟨p2, q2, h2⟩ F4
   obtain ⟨d, hd', rd⟩ := (hpu2.tups tp4 _).get hvv
   rw [zGM] at hd'
   obtain ⟨pr, hpr, rfl⟩ := zMS hd'
   obtain ⟨b, wz, rfl, hb, _, _, rfl, rfl, _, _, rfl, rfl, rfl⟩ := rd
   have hi : i < k.parts.length := (zES hpr).1
   have hel : es.length = i := by
    have := congrArg List.length hes
    rw [zLM, zLM, List.length_take] at this
    omega
   have hwl := rws.length
   rw [zLM] at hwl
   have hw4 := xky h2 hw2 F4
   obtain ⟨p4, q4, h4⟩ := F4.2
   refine ⟨b, _, rfl, SqT.of hb, rfl, _, _, rfl, _, _, rfl, rfl, xaj fun R7 hR7 => ?_⟩
   refine ⟨_, rfl, _, rfl, wa, ys, pr.2, rfl, hw4, (by walk_at "s"), fun l0 hl0 => ?_⟩
   have y0 := Same.new hl0 (.lst [optV (xal ys pr.2)])
   refine ⟨l0, rfl, ⟨_, SqL.of ups⟩, ?_⟩
   have hl0' : upd H4 l0 (.lst [optV (xal ys pr.2)]) l0 = some (.lst [optV (xal ys pr.2)]) := ups
   generalize upd H4 l0 (.lst [optV (xal ys pr.2)]) = H40 at y0 hl0' ⊢
   refine xcu (xs := [optV (xal ys pr.2)]) (fun i2 zs H5 => Same H40 H5 /\ RelDs H5 zs ((xbl ys ([(S "it", pr.2)].take i2)).map xbu)) ⟨Same.refl _, rfl⟩ (xat (by show 1 <= 4000000; decide)) (fun i2 zs H5 _ p => SqL.of (p.1 _ _ hl0')) ?_ ?_
   ·rintro i2 y zs H5 hy hi2 hly ⟨sm, hzs⟩
    have h0 : i2 = 0 := by
     have : i2 < 1 := hi2
     omega
    subst h0
    have ey : y = optV (xal ys pr.2) := by
     simp at hy
     exact hy.symm
    subst ey
    obtain rfl : zs = [] := hzs
    refine ⟨xds rfl, ?_⟩
    have etk : xbl ys ([(S "it", pr.2)].take (0 + 1)) = (match xal ys pr.2 with | some g => [(S "it", g)] | none => []) := by
     have := xfk (ys := ys) (ps := []) (p := (S "it", pr.2))
     rw [List.nil_append] at this
     exact this
    cases hgp : xal ys pr.2 with
    | none =>
     rw [hgp] at etk
     refine ⟨_, rfl, rfl, _, rfl, iteF (nxtN hi2 hly ⟨sm, ?_⟩)⟩
     rw [etk]
     rfl
    | some g' =>
     rw [hgp] at etk
     refine ⟨_, rfl, rfl, _, rfl, iteT ?_⟩
     refine ⟨_, rfl, (by walk_at "s"), fun t2 ht2 => ?_⟩
     have y1 := Same.new ht2 (.tup [.str (S "it"), .str g'])
     refine nxtG hi2 hly ⟨sm.trans y1, ?_⟩
     rw [etk]
     exact ⟨_, [], rfl, ⟨t2, _, rfl, ups, _, _, rfl, rfl, _, _, rfl, rfl, rfl⟩, rfl⟩
   rintro zs H5 hly ⟨sm, hzs⟩ D hD
   have hzs' : RelDs H5 zs ((xbl ys [(S "it", pr.2)]).map xbu) := hzs
   have sD := Same.new hD (.lst zs)
   have s5 := y0.trans (sm.trans sD)
   have hol := xdz (ys := ys) (ps := [(S "it", pr.2)])
   refine hR7 _ _ ?_
   refine ⟨_, rfl, .inl ⟨rfl, _, SqL.of (s5 _ _ hws)⟩, _, rfl, _, rfl, _, rfl, _, rfl, _, rfl, f', .ref ka2, .ref D, ks2, xbl ys [(S "it", pr.2)], g, rfl, xra (s5 _ _ h4) ((hk22.tups tp4 _).same s5 _) wf2 pnb ups (hzs'.same sD _) (xee (by simp)) (by simp at hol; omega) (fun b hb => ?_) (fun b hb => ?_), hg6, fun a d H6 f6 ra hb => ⟨(by walk_at "s"), fun t4 ht4 => ?_⟩⟩
   ·obtain ⟨p, hp, e, _⟩ := xfl hb
    rw [<- e, zMO hp]
    exact it_nb
   ·obtain ⟨p, hp, _, e⟩ := xfl hb
    exact hgo _ _ e
   have st := Same.new ht4 (.tup [.str pr.1, .ref a])
   have hws6 := st _ _ (f6.1 _ _ (s5 _ _ hws) alf)
   have rws6 := ((rws.same s5 _).tups (xai ⟨p4, q4, s5 _ _ h4⟩ f6) _).same st _
   refine ⟨al, ws, _, rfl, rfl, hws6, xat (by omega), ?_⟩
   refine ⟨_, es ++ [(pr.1, d)], _, _, _, rfl, ?_, ups, ?_, ?_, fun j e p he hp => ?_⟩
   ·exact Fed.put ((F4.same s5).trans (f6.same st)) hal alf _
   ·rw [List.map_append]
    exact (rws6.tups (xa2 hws6 _) _).append ⟨_, [], rfl, ⟨t4, _, rfl, xa2 hws6 _ _ _ ups, _, _, rfl, rfl, _, _, rfl, (ra.same st _).tups (xa2 hws6 _) _, rfl⟩, rfl⟩
   ·rw [List.map_append, hes, List.take_add_one, hpr, List.map_append]
    rfl
   ·rw [List.getElem?_append] at he
    split at he
    ·exact hall j e p he hp
    ·have hj : j = i := by
      have := (zES he).1
      simp at this
      omega
     subst hj
     rw [hel, Nat.sub_self] at he
     cases he
     rw [hpr] at hp
     cases hp
     exact hb.up (by omega)
  ·rintro σ H4 ⟨ws, es, o8, o10, o11, rfl, F4, hws, rws, hes, hall⟩
   rw [zTL (by omega)] at hes
   refine hR6 _ _ ?_
   refine ⟨_, rfl, _, rfl, al, ws, rfl, .inl ⟨SqL.of hws, fun t4 ht4 => ⟨(by walk_at "s"), fun t5 ht5 => ?_⟩⟩⟩
   have y1 := Same.new ht4 (.tup ws)
   have y2 := Same.new ht5 (.tup [.str g, .ref t4])
   exact q _ g (.tup (es.map dPr)) _ ((F2.trans F4).same (y1.trans y2)) ⟨t5, _, rfl, ups, _, _, rfl, rfl, _, _, rfl, ⟨t4, ws, rfl, y2 _ _ ups, rws.same (y1.trans y2) _⟩, rfl⟩ hg6 (.inr ⟨hc, es, rfl, hes, hall⟩)
theorem xq1 (Pq : Hp -> Prop) {R : Hp -> Prop} {A : Prop} (h : (∀ H, Pq H -> R H) -> A) (r : ∀ H, Pq H -> R H) : A := h r
def xm5 : Sp := fun vs H Q _ => ∃ (f fa : Addr) (kv1 kv2 : V) (r1 : List V) (p q : Int) (ks ks2 : List Kn), vs = [.ref f, .ref fa, kv2] /\ H f = some (.lst [.int p, .int q]) /\ H fa = some (.tup (kv1 :: r1)) /\ RelD H kv1 (xbg ks) /\ KWf ks /\ PNB ks /\ RelD H kv2 (xbg ks2) /\ KWf ks2 /\ PNB ks2 ∧
 ∀ r ta wa tkv kvs told H', Fed f H H' -> H' r = some (.tup [.ref ta, .ref wa]) -> H' ta = some (.dK tkv) -> WAll H' tkv told -> H' wa = some (.dK kvs) -> WAll H' kvs (xa1 ks2 ks told) -> xgo ks ks2 told -> (told.map (·.1)).Nodup -> told.length <= 6 -> Q (.ref r) H'
theorem xpx (T : Tx K mg) (Dl_take : DefIs P w K mg base n "_law_take" ["_law_feed_here", "_law_many"] xb9) (D_made_ways : DefIs P w K mg base n "made_ways" ["first", "second", "told"] xk8) (Dl_way : DefIs P w K mg base n "_law_way" ["_law_feed_here", "_law_first", "_law_kinds_here", "_law_ways", "_law_name"] xro) : DefIs P w K mg base (n + 1) "_law_told" ["_law_feed_here", "_law_first", "_law_kinds_here"] xm5 := by
 refine DefIs.of T.dl_told scl_told ?_ ?_ <;> walk_at "i"
 ·obtain ⟨_, _, _, _, _, _, _, _, _, rfl, _⟩ := h
  rfl
 obtain ⟨f', fa, kv1, kv2, r1, p0, q0, ks, ks2, rfl, hf, hfa, hk1, wf, pnb1, hk2, wf2, pnb2, q⟩ := h
 have nd := scl_told.nd
 have hu := xc2 hr
 have hfew := wf.few
 obtain ⟨ka, kus, rfl, hka, hku⟩ := id hk1
 have hkl := hku.length
 rw [zLM] at hkl
 refine ⟨_, (zpn (xah (i := 3) nd rfl (by walk_at "o") xpu)
   (zpn (xbo PassesOwn.never rfl (xa4 (xag xaf (pv 1) pI (fun _ _ => rfl))) (xbb rfl (xab (xaa (i := 4) nd rfl (by walk_at "o")) (xab (xaa (i := 5) nd rfl (by walk_at "o")) (xab (xaa (i := 6) nd rfl (by walk_at "o")) xaq))))
   (zpn (xcb (pd D_made_ways hr (pc (pv 1) (pc (xan (pc (pv 2) (pc (xan pN) (pc (xan pN) pN sT) sT) zsn)) (pc (pv 3) pN zsn) sT) zsn)) (xbb rfl (xab (xaa (i := 7) nd rfl (by walk_at "o")) (xab (xaa (i := 8) nd rfl (by walk_at "o")) xaq))))
   (zpo (xao (PW.pt (xfh (PW.pt (xcl (pR xiq (pv 4) (pv 8) (by with_unfolding_all rfl)) (xb3 (pR xas (pd Dl_take hr (pc (pv 0) (pc pI pN zso) zsn)) pI (nM _))))) (xep (pR xas (pd Dl_take hr (pc (pv 0) (pc pI pN zso) zsn)) pI (nM _))))) (zpo (xj7 hu (pv 3) (pv 4) (pd Dl_way hr (pc (pv 0) (pc (pv 1) (pc (pv 2) (pc (pv 7) (pc (pv 4) pN zsn) zsn) zsn) zsn) zsn)) rfl)) pQ))))
   (zpo (xae (xan (pc (pv 3) (pc (xag xaf (pd D_made_ways hr (pc (pv 1) (pc (xan (pc (pv 2) (pc (xan pN) (pc (xan pN) pN sT) sT) zsn)) (pc (pv 3) pN zsn) sT) zsn)) pI (fun _ _ => rfl)) pN ss) zsn)))))), xaj fun R1 hR1 => ?_⟩
 refine fun ta hta => ?_
 refine hR1 _ _ (xaj fun R2 hR2 => ?_)
 have s0 := Same.new hta (.dK [])
 have taf : ta ≠ f' := Ne.symm (neN hf hta)
 refine ⟨_, rfl, fa, _, _, _, rfl, rfl, SqT.of (s0 _ _ hfa), xap (j := 0) rfl, ka, rfl, ⟨_, SqT.of (s0 _ _ hka)⟩, ?_⟩
 refine xb5 (xs := kus) (fun i σ H' => ∃ (tkv : List (Key × V)) (told : List Wy) (o4 o5 o6 o7 o8 : Option V), σ = [some (.ref f'), some (.ref fa), some kv2, some (.ref ta), o4, o5, o6, o7, o8] /\ Fed f' H H' /\ H' ta = some (.dK tkv) /\ WAll H' tkv told /\ xgo ks ks2 told /\ (∀ z ∈ told, ∃ j k, j < i /\ ks[j]? = some k /\ k.name = z.1) /\ (told.map (·.1)).Nodup /\ told.length <= i)
  ⟨[], [], none, none, none, none, none, rfl, (Fed.refl hf).same s0, ups, trivial, (fun _ h => nomatch h), (fun _ h => nomatch h), List.nodup_nil, Nat.le_refl _⟩ (fun i σ H' _ p => ?_) ?_ ?_
 ·obtain ⟨_, _, _, _, _, _, _, _, F, _⟩ := p
  exact SqT.of (xai ⟨p0, q0, hf⟩ F _ _ hka)
 ·rintro i vv σ H1 hvv ⟨tkv, told, o4, o5, o6, o7, o8, rfl, F, hta1, htw, htok, hbef, hnd, htl⟩
  have tp := xai ⟨p0, q0, hf⟩ F
  obtain ⟨d, hd, rd⟩ := (hku.tups tp _).get hvv
  rw [zGM] at hd
  obtain ⟨k, hk, rfl⟩ := zMS hd
  obtain ⟨b, _, rfl, hb, _, _, rfl, rfl, v2, _, rfl, e2, v3, _, rfl, r3, rfl⟩ := rd
  have hi : i < ks.length := (zES hk).1
  have hkm := zMG hk
  refine ⟨b, _, rfl, SqT.of hb, rfl, _, _, rfl, _, _, rfl, _, _, rfl, rfl, xaj fun R3 hR3 => ?_⟩
  obtain ⟨p1, q1, h1⟩ := F.2
  have hfa1 := tp _ _ hfa
  have hk11 := hk1.tups tp _
  have hk21 := hk2.tups tp _
  refine ⟨_, rfl, _, rfl, (by walk_at "s"), fun e1 he1 => ⟨(by walk_at "s"), fun e2' he2 => ⟨(by walk_at "s"), fun sa hsa => ?_⟩⟩⟩
  have y := (Same.new he1 (.tup [])).trans ((Same.new he2 (.tup [])).trans (Same.new hsa (.tup [kv2, .ref e1, .ref e2'])))
  refine ⟨_, rfl, fa, sa, ta, .ref ka, kv2, r1, [.ref e1, .ref e2'], ks, ks2, tkv, told, rfl, y _ _ hfa1, ups, y _ _ hta1, htw.tups fun b us e => y _ _ e, by omega, hk11.same y _, wf, hk21.same y _, wf2, fun r wa la kvs ls H3 s3 nr nwa nla hr3 hwa3 hww hla3 hls => ?_⟩
  refine ⟨r, _, rfl, SqT.of hr3, rfl, _, _, rfl, _, _, rfl, rfl, ?_⟩
  refine hR3 _ _ ?_
  have s13 := y.trans s3
  have F3 := F.same s13
  have hta3 := s13 _ _ hta1
  have htw3 := htw.tups fun b us e => s13 _ _ e
  have h3 := s13 _ _ h1
  have right := xgg wf wf2 htok
  have stay : ∀ H', Fed f' H3 H' -> Fed f' H H' /\ H' ta = some (.dK tkv) /\ WAll H' tkv told /\ xgo ks ks2 told /\ (∀ z ∈ told, ∃ j k, j < i + 1 /\ ks[j]? = some k /\ k.name = z.1) /\ (told.map (·.1)).Nodup /\ told.length <= i + 1 := fun H' f' => ⟨F3.trans f', f'.1 _ _ hta3 taf, htw3.tups (xai ⟨p1, q1, h3⟩ f'), htok, fun z hz => by
   obtain ⟨j, k, hj, h'⟩ := hbef z hz
   exact ⟨j, k, by omega, h'⟩, hnd, by omega⟩
  apply xq1 (Fed f' H3)
  ·intro key
   apply xq1 (Fed f' H3)
   ·intro key2
    refine ⟨_, rfl, _, rfl, la, _, rfl, .inl (SqL.of hla3), rfl, xct _, _, rfl, ?_⟩
    rw [if_neg (by decide)]
    refine ite2 (fun c1 => ?_) (fun c1 => iteF ?_)
    ·refine ⟨_, rfl, f', p1, q1, _, rfl, h3, by decide, by decide, fun ra H4 ra0 ra1 f4 => ⟨rfl, _, rfl, ite2 (fun c2 => iteT (key H4 f4)) (fun c2 => key2 H4 f4)⟩⟩
    ·generalize eH : H3 = H4
     exact key2 H4 (by rw [<- eH]; exact Fed.refl h3)
   intro H4 f4
   obtain ⟨p4, q4, h4⟩ := f4.2
   refine ⟨_, rfl, f', p4, q4, _, rfl, h4, by decide, by decide, fun ra H5 ra0 ra1 f5 => ⟨rfl, _, rfl, ite2 (fun c2 => key H5 (f4.trans f5)) (fun c2 => ?_)⟩⟩
   obtain ⟨g1, g2, g3, g4, g5, g6, g7⟩ := stay H5 (f4.trans f5)
   exact ⟨tkv, told, _, _, _, _, _, rfl, g1, g2, g3, g4, g5, g6, g7⟩
  intro H4 f4
  obtain ⟨p4, q4, h4⟩ := f4.2
  obtain ⟨F4, hta4, htw4, _, _, _, _⟩ := stay H4 f4
  have tp4 := xai ⟨p0, q0, hf⟩ F4
  have hwa4 : H4 wa = some (.dK kvs) := f4.1 _ _ hwa3 fun e => by rw [e, h3] at hwa3; cases hwa3
  have hww4 := hww.tups (xai ⟨p1, q1, h3⟩ f4)
  refine ⟨_, rfl, _, rfl, _, rfl, _, rfl, _, rfl, f', fa, wa, .ref ka, kv2, r1, p4, q4, ks, ks2, xa1 ks2 ks told, k, rfl, h4, tp4 _ _ hfa, hk1.tups tp4 _, wf, hk2.tups tp4 _, wf2, pnb2, ⟨kvs, .inl hwa4, hww4⟩, xc1 wf.nd hkm, pnb1 k hkm, fun x g hg => xgi right hg, fun t g d' H5 f5 rt hg hh => ?_⟩
  have hta5 := f5.1 _ _ hta4 taf
  have htw5 := htw4.tups (xai ⟨p4, q4, h4⟩ f5)
  have hlen := htw.len
  have hnone : wyAt told k.name = none := by
   unfold wyAt
   refine List.find?_eq_none.mpr fun z hz c => ?_
   obtain ⟨j, k', hj, hk', e⟩ := hbef z hz
   have := xcz wf.nd hk' hk (e.trans (of_decide_eq_true c))
   omega
  have hnv : valV tkv (Sum.inr k.name : Key) = none := (htw5.val (x := k.name)).1 hnone
  refine ⟨_, rfl, _, rfl, ta, _, rfl, DPut.k (k := Sum.inr k.name) hta5 (xat (by omega)), ?_⟩
  rw [xnp hnv]
  have tpD := xhk hta5 (.dK (tkv ++ [(Sum.inr k.name, .ref t)]))
  refine ⟨_, told ++ [(k.name, g, d')], _, _, _, _, _, rfl, Fed.put (F4.trans f5) hta taf _, ups, ?_, xhu wf hk rfl htok hbef ⟨hg, hh⟩, fun z hz => ?_, ?_, by rw [List.length_append, List.length_singleton]; omega⟩
  ·exact (htw5.snoc (kv := (Sum.inr k.name, .ref t)) (y := (k.name, g, d')) ⟨rfl, rt⟩).tups tpD
  ·rcases zMA hz with hz | hz
   ·obtain ⟨j, k', hj, h'⟩ := hbef z hz
    exact ⟨j, k', by omega, h'⟩
   ·rw [zMO hz]
    exact ⟨i, k, by omega, hk, rfl⟩
  ·rw [List.map_append]
   refine List.nodup_append.mpr ⟨hnd, by simp, fun a ha b hb e => ?_⟩
   obtain ⟨z, hz, rfl⟩ := List.mem_map.mp ha
   have hb' : b = k.name := by simpa using hb
   exact xho hnone z hz (by rw [e, hb'])
 ·rintro σ H1 ⟨tkv, told, o4, o5, o6, o7, o8, rfl, F, hta1, htw, htok, hbef, hnd, htl⟩
  have tp := xai ⟨p0, q0, hf⟩ F
  refine hR2 _ _ ?_
  refine ⟨_, rfl, _, rfl, _, rfl, (by walk_at "s"), fun e1 he1 => ⟨(by walk_at "s"), fun e2' he2 => ⟨(by walk_at "s"), fun sa hsa => ?_⟩⟩⟩
  have y := (Same.new he1 (.tup [])).trans ((Same.new he2 (.tup [])).trans (Same.new hsa (.tup [kv2, .ref e1, .ref e2'])))
  refine ⟨_, rfl, fa, sa, ta, .ref ka, kv2, r1, [.ref e1, .ref e2'], ks, ks2, tkv, told, rfl, y _ _ (tp _ _ hfa), ups, y _ _ hta1, htw.tups fun b us e => y _ _ e, by omega, (hk1.tups tp _).same y _, wf, (hk2.tups tp _).same y _, wf2, fun r wa la kvs ls H3 s3 nr nwa nla hr3 hwa3 hww hla3 hls => ?_⟩
  refine ⟨r, _, _, _, rfl, rfl, SqT.of hr3, xap (j := 0) rfl, (by walk_at "s"), fun t ht => ?_⟩
  have z := Same.new ht (.tup [.ref ta, .ref wa])
  have s13 := y.trans (s3.trans z)
  exact q t ta wa tkv kvs told _ (F.same s13) ups (s13 _ _ hta1) (htw.tups fun b us e => s13 _ _ e) (z _ _ hwa3) (hww.tups fun b us e => z _ _ e) htok hnd (by omega)
def envB (bs : List (Str × Str)) : En := fun y => (bs.find? fun b => decide (b.1 = y)).map fun b => D.str b.2
theorem xsk {bs : List (Str × Str)} (nd : (bs.map (·.1)).Nodup) {p : Str × Str} (hp : p ∈ bs) : envB bs p.1 = some (.str p.2) := by
 unfold envB
 obtain ⟨i, hi, e⟩ := List.mem_iff_getElem.mp hp
 rw [xbr (f := fun r : Str × Str => r.1) (xs := bs) (i := i) (a := p) nd (by rw [<- e]; exact zGA hi)]
 rfl
theorem xqf {bs : List (Str × Str)} {y : Str} (h : ∀ b ∈ bs, b.1 ≠ y) : envB bs y = none := by
 unfold envB
 rw [List.find?_eq_none.mpr fun b hb => by simpa using h b hb]
 rfl
theorem xsl {H : Hp} {p : Addr} {bs : List (Str × Str)} (nd : (bs.map (·.1)).Nodup) (hp : H p = some (.dK (xav [] (bKV bs)))) : EnAt H p bs.length (envB bs) := by
 refine ⟨_, hp, ?_, fun y => ⟨fun e => ?_, fun d e => ?_⟩⟩
 ·have := xbq (bKV bs) []
  unfold bKV at this ⊢
  rw [zLM] at this
  simpa using this
 ·unfold envB at e
  have h := List.find?_eq_none.mp (Option.map_eq_none_iff.mp e)
  rw [xgs (bs := bs) fun b hb => by simpa using h b hb]
  rfl
 ·unfold envB at e
  obtain ⟨b, hb, rfl⟩ := zMS e
  have h1 : b.1 = y := by
   have := List.find?_some hb
   exact of_decide_eq_true this
  refine ⟨.str b.2, ?_, rfl⟩
  rw [<- h1]
  exact xk2 nd (List.mem_of_find?_eq_some hb) []
theorem xhj {ks : List Kn} {bs : List (Str × Str)} (nd : (bs.map (·.1)).Nodup) : FitK ks bs (envB bs) := ⟨fun p hp => xsk nd hp, fun z _ h => xqf h⟩
theorem xrd {ks : List Kn} {n : Nat} {bs : List (Str × Str)} {d : D} {x : Str} (nd : (bs.map (·.1)).Nodup) (h : TmB ks n bs d x) : ∃ hd r, d = .tup (.str hd :: r) := by
 rcases xse (h.2 _ (xhj nd)) with ⟨a, rs, e⟩ | ⟨hd, r, e, _⟩
 ·exact ⟨_, _, e⟩
 ·exact ⟨hd, r, e⟩
def HowB (H : Hp) (hv : V) (b : Bool) : Prop := (b = true /\ ∃ hd r, RelD H hv (.tup (.str hd :: r))) \/ (b = false /\ ∃ es : List (Str × D), es ≠ [] /\ RelD H hv (.tup (es.map dPr)))
def xnf : Sp := fun vs H Q _ => ∃ (wa a : Addr) (us : List V) (ys : List Wy) (ps : List (Str × Str)), vs = [.ref wa, .ref a] /\ WaysAt H wa ys /\ (H a = some (.lst us) \/ H a = some (.tup us)) /\ RelDs H us (ps.map xbu) /\ (ps.map (·.1)).Nodup /\ ps.length <= 100 ∧
 ∀ dp H', Same H H' -> H dp = none -> EnAt H' dp (xbl ys ps).length (envB (xbl ys ps)) -> Q (.ref dp) H'
def xm6 : Sp := fun vs H Q _ => ∃ (kv : V) (ks : List Kn) (x : Str), vs = [kv, .str x] /\ KsAt H kv ks /\ (x ≠ S "num" -> ∃ k, kAt ks x = some k) /\ Q .non H
def xqt : Sp := fun vs H Q _ => ∃ (fa sa : Addr) (kv1 kv2 : V) (r1 r2 : List V) (ks ks2 : List Kn) (x x2 : Str) (k : Kn), vs = [.ref fa, .ref sa, .str x, .str x2] /\ H fa = some (.tup (kv1 :: r1)) /\ H sa = some (.tup (kv2 :: r2)) /\ KsAt H kv1 ks /\ KsAt H kv2 ks2 /\ kAt ks x = some k /\ (x2 ≠ S "num" -> ∃ k, kAt ks2 x2 = some k) /\ Q .non H
def xqr : Sp := fun vs H Q _ => ∃ (fa : Addr) (kv1 : V) (r1 : List V) (ks ks2 : List Kn) (ys : List Wy) (hv : V) (k : Kn) (g : Str) (d : D), vs = [.ref fa, .str k.name, hv] /\ H fa = some (.tup (kv1 :: r1)) /\ KsAt H kv1 ks /\ kAt ks k.name = some k /\ k.parts.length <= 100 /\ (k.parts.map (·.1)).Nodup /\ (k.rc = false -> k.parts ≠ []) /\ RelD H hv d /\ HowOk ks2 ys k g d /\ ∀ H', Same H H' -> Q .non H'
def xk9 : Sp := fun vs H Q _ => ∃ (hv : V) (b : Bool), vs = [hv] /\ HowB H hv b /\ Q (.bl b) H
def xm7 : Sp := fun vs H Q _ => ∃ (fa sa wa : Addr) (kv1 kv2 : V) (r1 r2 : List V) (ks ks2 : List Kn) (ys : List Wy) (k : Kn) (g : Str) (d : D), vs = [.ref fa, .ref sa, .ref wa, .str k.name] /\ H fa = some (.tup (kv1 :: r1)) /\ H sa = some (.tup (kv2 :: r2)) /\ KsAt H kv1 ks /\ KsAt H kv2 ks2 /\ KL ks2 /\ kAt ks k.name = some k /\ WaysAt H wa ys /\ wyAt ys k.name = some (k.name, g, d) ∧
 (k.parts.map (·.1)).Nodup /\ k.parts.length <= 100 /\ HowOk ks2 ys k g d /\ ∀ H', Same H H' -> Q .non H'
def xna : Sp := fun vs H Q _ => ∃ (fa sa wa : Addr) (kv1 kv2 : V) (r1 r2 : List V) (kvs : List (Key × V)) (ks ks2 : List Kn) (ys : List Wy), vs = [.ref fa, .ref sa, .ref wa] /\ H fa = some (.tup (kv1 :: r1)) /\ H sa = some (.tup (kv2 :: r2)) /\ RelD H kv1 (xbg ks) /\ KWf ks /\ RelD H kv2 (xbg ks2) /\ KWf ks2 /\ KL ks2 /\ H wa = some (.dK kvs) /\ WAll H kvs ys /\ (ys.map (·.1)).Nodup /\ (∀ y ∈ ys, xgn ks ks2 ys y) /\ ∀ H', Same H H' -> Q (.bl true) H'
theorem xow : ∀ ys : List Str, eqVs (ys.map V.str) (ys.map V.str) = true
 | [] => rfl
 | y :: ys => by
  show (eqV (.str y) (.str y) && eqVs (ys.map V.str) (ys.map V.str)) = true
  rw [xow ys, show eqV (V.str y) (V.str y) = true from by show decide _ = true; exact zDT rfl]
  rfl
theorem xqe {H : Hp} {a : Addr} {kvs : List (Key × V)} (o : HO) (ha : H a = some (.dK kvs)) : ∀ b vs, H b = some (.tup vs) -> upd H a o b = some (.tup vs) := xhk ha o
theorem xg9 (T : Tx K mg) (D_goes_to : DefIs P w K mg base n "goes_to" ["ways", "kind"] xfe) : DefIs P w K mg base (n + 1) "boxes_over" ["ways", "parts"] xnf := by
  refine DefIs.of T.d_boxes_over sc_boxes_over ?_ ?_ <;> walk_at "i"
  · obtain ⟨_, _, _, _, _, rfl, _⟩ := h
    rfl
  obtain ⟨wa, a, us, ys, ps, rfl, hw, ha, hus, hnd, hl, q⟩ := h
  have nd := sc_boxes_over.nd
  have hul := hus.length
  rw [zLM] at hul
  have hnd2 := xee (ys := ys) hnd
  have hol := xdz (ys := ys) (ps := ps)
  refine ⟨_, (zpo (xae (xar (xdh rfl) rfl T.z_dict PyProof.Rows.boot_dict (pc (xba ["x", "kind", "ways"] [none, none, some 0] rfl (by kernel_rfl) (xru (xce (pv 1)) (xa4 (pv 1))) (fun _ _ _ _ => (xbp (K := K) (n := 2) rfl rfl (xab (xaa (i := 0) (by show List.Nodup (["x", "kind", "ways"] : List Str); decide +kernel) rfl (Or.inl rfl)) (xab (xaa (i := 1) (by show List.Nodup (["x", "kind", "ways"] : List Str); decide +kernel) rfl (Or.inl rfl)) xaq)))) (fun _ _ _ _ => (xcd (pR xg5 (pd D_goes_to hr (pc (pv 2) (pc (pv 1) pN zsn) zsn)) xcf (nM _)))) (fun _ _ _ _ => (xan (pc (pv 0) (pc (pd D_goes_to hr (pc (pv 2) (pc (pv 1) pN zsn) zsn)) pN zsc) zsn)))) pN xbj)))), ?_⟩
  rcases ha with ha | ha
  case' inl =>
    refine .inl ⟨_, rfl, a, rfl, ⟨_, SqL.of ha⟩, ?_⟩
    refine xcu (xs := us) (fun i zs H3 => Same H H3 /\ RelDs H3 zs ((xbl ys (ps.take i)).map xbu)) ⟨Same.refl _, rfl⟩ (xat (by omega)) (fun i zs H3 _ p => SqL.of (p.1 _ _ ha)) ?_ ?_
  case' inr =>
    refine .inr ⟨_, rfl, a, rfl, ⟨_, SqT.of ha⟩, ?_⟩
    refine xa7 (xs := us) (fun i zs H3 => Same H H3 /\ RelDs H3 zs ((xbl ys (ps.take i)).map xbu)) ⟨Same.refl _, rfl⟩ (xat (by omega)) (fun i zs H3 _ p => SqT.of (p.1 _ _ ha)) ?_ ?_
  all_goals first
    | (rintro i y zs H3 hy hi hly ⟨sm, hzs⟩
       obtain ⟨d, hd', rd⟩ := (hus.same sm _).get hy
       rw [zGM] at hd'
       obtain ⟨pr, hpr, rfl⟩ := zMS hd'
       obtain ⟨b, ws, rfl, hb, _, _, rfl, rfl, _, _, rfl, rfl, rfl⟩ := rd
       have etk : xbl ys (ps.take (i + 1)) = xbl ys (ps.take i) ++ (match xal ys pr.2 with | some g => [(pr.1, g)] | none => []) := by
         rw [List.take_add_one, hpr]
         exact xfk
       refine ⟨b, _, rfl, SqT.of hb, rfl, _, _, rfl, _, _, rfl, rfl, ext2 rfl rfl, ?_⟩
       refine ⟨_, rfl, _, rfl, wa, ys, pr.2, rfl, hw.same sm, ?_⟩
       cases hgp : xal ys pr.2 with
       | none =>
         rw [hgp] at etk
         refine ⟨rfl, _, rfl, iteF (nxtN hi hly ⟨sm, ?_⟩)⟩
         rw [etk, List.append_nil]
         exact hzs
       | some g =>
         rw [hgp] at etk
         refine ⟨rfl, _, rfl, iteT ?_⟩
         refine ⟨_, rfl, _, rfl, _, rfl, wa, ys, pr.2, rfl, hw.same sm, ?_⟩
         rw [hgp]
         refine ⟨(by walk_at "s"), fun t ht => ?_⟩
         have y1 := Same.new ht (.tup [.str pr.1, .str g])
         refine nxtG hi hly ⟨sm.trans y1, ?_⟩
         rw [etk, List.map_append]
         exact (hzs.same y1 _).append ⟨_, [], rfl, ⟨t, _, rfl, ups, _, _, rfl, rfl, _, _, rfl, rfl, rfl⟩, rfl⟩)
    | (rintro zs H3 hly ⟨sm, hzs⟩ D hD
       rw [zTL (by omega)] at hzs
       have y1 := Same.new hD (.lst zs)
       refine ⟨D, zs, bKV (xbl ys ps), rfl, ups, xdy (hzs.same y1 _), fun dp hdp => ?_⟩
       have y2 := Same.new hdp (.dK (xav [] (bKV (xbl ys ps))))
       exact q dp _ (sm.trans (y1.trans y2)) (xd0 (sm.trans y1) hdp) (xsl hnd2 ups))
theorem xg6 (T : Tx K mg) (D_sort_of : DefIs P w K mg base n "sort_of" ["kinds", "K"] xbz) : DefIs P w K mg base (n + 1) "need_there" ["kinds", "kind"] xm6 := by
 refine DefIs.of T.d_need_there sc_need_there ?_ ?_ <;> walk_at "i"
 ·obtain ⟨_, _, _, rfl, _⟩ := h
  rfl
 obtain ⟨kv, ks, x, rfl, hk, hkx, q⟩ := h
 have nd := sc_need_there.nd
 refine ⟨_, (zpo (xao (PW.pt (xcl (pR xeg (pv 1) pS (nM _)) (xb3 (pR xip (pd D_sort_of hr (pc (pv 0) (pc (pv 1) pN zsn) zsn)) xcf (nM _))))) (zpo xbh) pQ)), ?_⟩
 refine ⟨_, rfl, rfl, _, rfl, ?_⟩
 by_cases hx : x = S "num"
 ·exact xsf (by rw [hx]; rfl) (iteF q)
 ·obtain ⟨k, hkk⟩ := hkx hx
  refine xp9 (fun z => hx (V.str.inj z)) ?_
  refine ⟨_, rfl, _, rfl, kv, ks, x, rfl, hk, ?_⟩
  rw [hkk]
  exact ⟨rfl, _, rfl, iteF q⟩
theorem xi3 (T : Tx K mg) (D_sort_of : DefIs P w K mg base n "sort_of" ["kinds", "K"] xbz) (D_need_there : DefIs P w K mg base n "need_there" ["kinds", "kind"] xm6) : DefIs P w K mg base (n + 1) "look_ends" ["first", "second", "K", "K2"] xqt := by
 refine DefIs.of T.d_look_ends sc_look_ends ?_ ?_ <;> walk_at "i"
 ·obtain ⟨_, _, _, _, _, _, _, _, _, _, _, rfl, _⟩ := h
  rfl
 obtain ⟨fa, sa, kv1, kv2, r1, r2, ks, ks2, x, x2, k, rfl, hfa, hsa, hk1, hk2, hx, hx2, q⟩ := h
 have nd := sc_look_ends.nd
 refine ⟨_, (zpn (xao (pR xip (pd D_sort_of hr (pc (xag xaf (pv 0) pI (fun _ _ => rfl)) (pc (pv 2) pN zsn) ss)) xcf (nM _)) (zpo xbh) pQ)
   (zpo (xaz (pd D_need_there hr (pc (xag xaf (pv 1) pI (fun _ _ => rfl)) (pc (pv 3) pN zsn) ss))))), ?_⟩
 refine ⟨_, rfl, fa, _, _, _, rfl, rfl, SqT.of hfa, xap (j := 0) rfl, _, rfl, kv1, ks, x, rfl, hk1, ?_⟩
 rw [hx]
 refine ⟨rfl, _, rfl, iteF ?_⟩
 exact ⟨_, rfl, sa, _, _, _, rfl, rfl, SqT.of hsa, xap (j := 0) rfl, _, rfl, kv2, ks2, x2, rfl, hk2, hx2, q⟩
theorem xme (T : Tx K mg) : DefIs P w K mg base (n + 1) "is_term" ["how"] xk9 := by
 refine DefIs.of T.d_is_term xl8 ?_ ?_ <;> walk_at "i"
 ·obtain ⟨_, _, rfl, _⟩ := h
  rfl
 obtain ⟨hv, b, rfl, hh, q⟩ := h
 refine ⟨_, (zpo (xae (xfj (xcw xdr (xak xad rfl T.z_len PySem.boot_len (pc (pv 0) pN zsn)) pI (nM _)) (xij (xak xch rfl T.z_isinstance PyProof.Rows.boot_isinstance (pc (xag xaf (pv 0) pI (fun _ _ => rfl)) (pc (xik T.z_str PyProof.Rows.boot_str) pN zsn) ss)))))), ?_⟩
 rcases hh with ⟨rfl, hd, r, hh⟩ | ⟨rfl, es, hne, hh⟩
 ·obtain ⟨a, us, rfl, ha, v0, vr, rfl, r0, _⟩ := hh
  obtain rfl : v0 = .str hd := r0
  have hlt : decide (((V.str hd :: vr).length : Int) > 0) = true := zDT (by rw [List.length_cons]; omega)
  refine ⟨_, rfl, a, _, rfl, .inr (SqT.of ha), _, _, rfl, rfl, _, rfl, xmj hlt ?_⟩
  exact ⟨_, rfl, a, _, _, _, rfl, rfl, SqT.of ha, xap (j := 0) rfl, _, _, _, _, _, rfl, fun u hu' => hu', TyOf.str _, rfl, q⟩
 ·obtain ⟨a, us, rfl, ha, hus⟩ := hh
  have hul := hus.length
  rw [zLM] at hul
  have hpos : 0 < us.length := by
   rw [hul]
   exact List.length_pos_iff.mpr hne
  obtain ⟨u0, hu0⟩ : ∃ u0, us[0]? = some u0 := ⟨us[0], zGA hpos⟩
  obtain ⟨d0, hd0, rd0⟩ := hus.get hu0
  rw [zGM] at hd0
  obtain ⟨p0, hp0, rfl⟩ := zMS hd0
  obtain ⟨b0, ws0, rfl, hb0, _⟩ := rd0
  have hlt : decide ((us.length : Int) > 0) = true := zDT (by omega)
  refine ⟨_, rfl, a, _, rfl, .inr (SqT.of ha), _, _, rfl, rfl, _, rfl, xmj hlt ?_⟩
  exact ⟨_, rfl, a, _, _, _, rfl, rfl, SqT.of ha, xap (j := 0) hu0, _, _, _, _, _, rfl, fun u hu' => hu', TyOf.tup hb0, rfl, q⟩
theorem xi2 (T : Tx K mg) (D_is_term : DefIs P w K mg base n "is_term" ["how"] xk9) (D_sort_of : DefIs P w K mg base n "sort_of" ["kinds", "K"] xbz) (D_parts_of : DefIs P w K mg base n "parts_of" ["kinds", "K"] xbk) : DefIs P w K mg base (n + 1) "look_form" ["first", "K", "how"] xqr := by
 refine DefIs.of T.d_look_form sc_look_form ?_ ?_ <;> walk_at "i"
 ·obtain ⟨_, _, _, _, _, _, _, _, _, _, rfl, _⟩ := h
  rfl
 obtain ⟨fa, kv1, r1, ks, ks2, ys, hv, k, gg, d, rfl, hfa, hk1, hkx, hl, hpnd, hne, hh, how, q⟩ := h
 have nd := sc_look_form.nd
 have hu := xc2 hr
 refine ⟨_, (zpn (xao (pR xas (pd D_sort_of hr (pc (xag xaf (pv 0) pI (fun _ _ => rfl)) (pc (pv 1) pN zsn) ss)) pS (nM _)) (zpo (xah (i := 3) nd rfl (by walk_at "o") (pd D_is_term hr (pc (pv 2) pN zsn)))) (zpo (xah (i := 3) nd rfl (by walk_at "o") (xfj (xqv (pd D_is_term hr (pc (pv 2) pN zsn))) (xij (xcw (op_eqL (Nat.lt_of_succ_lt hu)) (xba ["each"] [none] rfl (by kernel_rfl) (xa4 (pv 2)) (fun _ _ _ _ => (xaa (i := 0) (by show List.Nodup (["each"] : List Str); decide +kernel) rfl (Or.inl rfl))) (fun _ _ _ _ => xa8) (fun _ _ _ _ => (xag (xbt (K := K) rfl) (pv 0) pI (fun _ _ => rfl)))) (xba ["part"] [none] rfl (by kernel_rfl) (xa4 (pd D_parts_of hr (pc (xag xaf (pv 0) pI (fun _ _ => rfl)) (pc (pv 1) pN zsn) ss))) (fun _ _ _ _ => (xaa (i := 0) (by show List.Nodup (["part"] : List Str); decide +kernel) rfl (Or.inl rfl))) (fun _ _ _ _ => xa8) (fun _ _ _ _ => (xag (xbt (K := K) rfl) (pv 0) pI (fun _ _ => rfl)))) (nM _)))))))
   (zpo (xao (xih (xig (pv 3))) (zpo xbh) pQ))), ?_⟩
 refine ⟨_, rfl, fa, _, _, _, rfl, rfl, SqT.of hfa, xap (j := 0) rfl, _, rfl, kv1, ks, k.name, rfl, hk1, ?_⟩
 rw [hkx]
 rcases how with ⟨hc, htm⟩ | ⟨hc, es, rfl, hes, _⟩
 ·obtain ⟨hd, r, rfl⟩ := xrd (xee hpnd) htm
  refine ⟨rfl, _, rfl, iteKT (zDT (by show V.str k.sort = _; rw [xbm hc]; rfl)) ?_⟩
  refine ⟨_, rfl, hv, true, rfl, .inl ⟨rfl, hd, r, hh⟩, ?_⟩
  exact ⟨_, rfl, _, rfl, iteF (q _ (Same.refl _))⟩
 ·have hene : es ≠ [] := fun e => by
   rw [e] at hes
   exact hne hc (List.map_eq_nil_iff.mp (show k.parts.map (·.1) = [] from hes.symm))
  have hh0 := hh
  obtain ⟨a, us, rfl, ha, hus⟩ := hh
  have hul := hus.length
  rw [zLM] at hul
  have hel : es.length = k.parts.length := by
   have := congrArg List.length hes
   rwa [zLM, zLM] at this
  refine ⟨rfl, _, rfl, iteKF (zDF (by show ¬ V.str k.sort = _; rw [xbn hc]; decide +kernel)) ?_⟩
  refine ⟨_, rfl, _, false, rfl, .inr ⟨rfl, es, hene, hh0⟩, ?_⟩
  refine ⟨_, rfl, _, rfl, iteT ?_⟩
  refine ⟨_, rfl, a, rfl, ⟨_, SqT.of ha⟩, ?_⟩
  refine xcp (j := 0) (xs := us) (fun i zs H' => H' = H /\ zs = ((es.take i).map (·.1)).map V.str) (by rfl) ⟨rfl, rfl⟩ (xat (by omega)) (fun i zs H' _ p => by obtain ⟨rfl, _⟩ := p; exact SqT.of ha) ?_ ?_
  ·rintro i x zs H' hx hly ⟨rfl, rfl⟩
   obtain ⟨d, hd, rd⟩ := hus.get hx
   rw [zGM] at hd
   obtain ⟨pr, hpr, rfl⟩ := zMS hd
   obtain ⟨b, _, rfl, hb, v0, _, rfl, r0, v1, _, rfl, _, rfl⟩ := rd
   obtain rfl : v0 = .str pr.1 := r0
   have hi : i < us.length := (zES hx).1
   refine ⟨_, rfl, b, _, _, _, rfl, rfl, SqT.of hb, rfl, nxt hi hly ⟨rfl, ?_⟩⟩
   rw [List.take_add_one, hpr]
   simp
  rintro zs H' hly ⟨rfl, rfl⟩ D1 hD1
  rw [zTL (by omega), hes]
  have y1 := Same.new hD1 (.lst ((k.parts.map (·.1)).map V.str))
  refine ⟨_, rfl, fa, _, _, _, rfl, rfl, SqT.of (y1 _ _ hfa), xap (j := 0) rfl, _, rfl, kv1, ks, k.name, rfl, hk1.same y1, fun u H2 s2 ru => ?_⟩
  rw [hkx] at ru
  obtain ⟨c, cs, rfl, hcc, hcs⟩ := ru
  have hcl := hcs.length
  rw [zLM] at hcl
  refine ⟨c, rfl, ⟨_, SqT.of hcc⟩, ?_⟩
  refine xcp (j := 0) (xs := cs) (fun i zs H' => H' = H2 /\ zs = ((k.parts.take i).map (·.1)).map V.str) (by rfl) ⟨rfl, rfl⟩ (xat (by omega)) (fun i zs H' _ p => by obtain ⟨rfl, _⟩ := p; exact SqT.of hcc) ?_ ?_
  ·rintro i x zs H' hx hly ⟨rfl, rfl⟩
   obtain ⟨d, hd, rd⟩ := hcs.get hx
   rw [zGM] at hd
   obtain ⟨pr, hpr, rfl⟩ := zMS hd
   obtain ⟨b, _, rfl, hb, v0, _, rfl, r0, v1, _, rfl, _, rfl⟩ := rd
   obtain rfl : v0 = .str pr.1 := r0
   have hi : i < cs.length := (zES hx).1
   refine ⟨_, rfl, b, _, _, _, rfl, rfl, SqT.of hb, rfl, nxt hi hly ⟨rfl, ?_⟩⟩
   rw [List.take_add_one, hpr]
   simp
  rintro zs H' hly ⟨rfl, rfl⟩ D2 hD2
  rw [zTL (by omega)]
  have y2 := Same.new hD2 (.lst ((k.parts.map (·.1)).map V.str))
  refine ⟨D1, D2, _, _, rfl, rfl, SqL.of ((s2.trans y2) _ _ ups), SqL.of ups, xct _, xct _, ?_⟩
  rw [xow]
  exact ⟨_, rfl, _, rfl, iteF (q _ (y1.trans (s2.trans y2)))⟩
theorem xg7 (T : Tx K mg) (D_sort_of : DefIs P w K mg base n "sort_of" ["kinds", "K"] xbz) (D_parts_of : DefIs P w K mg base n "parts_of" ["kinds", "K"] xbk) (D_boxes_over : DefIs P w K mg base n "boxes_over" ["ways", "parts"] xnf) (D_need_kind : DefIs P w K mg base n "need_kind" ["kinds", "term", "boxes", "kind"] (xb2 (KdL 22) 100)) : DefIs P w K mg base (n + 1) "look_terms" ["first", "second", "ways", "K"] xm7 := by
 refine DefIs.of T.d_look_terms sc_look_terms ?_ ?_ <;> walk_at "i"
 ·obtain ⟨_, _, _, _, _, _, _, _, _, _, _, _, _, rfl, _⟩ := h
  rfl
 obtain ⟨fa, sa, wa, kv1, kv2, r1, r2, ks, ks2, ys, k, gg, d, rfl, hfa, hsa, hk1, hk2, hKL, hkx, hw, hwy, hnd, hl, how, q⟩ := h
 have nd := sc_look_terms.nd
 have hu := xc2 hr
 obtain ⟨kvs, hd, hwl⟩ := id hw
 obtain ⟨v, h1, h2⟩ := (hwl.val (x := k.name)).2 _ hwy
 obtain ⟨b, _, rfl, hb, v0, _, rfl, r0, hv, _, rfl, hh, rfl⟩ := h2
 obtain rfl : v0 = .str gg := r0
 have hh' : RelD H hv d := hh
 have g : DGet H wa (.str k.name) (some (.ref b)) := by
  have := DGet.rd (k := Sum.inr k.name) hd
  rw [h1] at this
  exact this
 refine ⟨_, (zpn (xah (i := 4) nd rfl (by walk_at "o") (xag xaf (xb4 hu (pv 2) (pv 3) (fun _ _ => rfl)) pI (fun _ _ => rfl)))
   (zpn (xah (i := 5) nd rfl (by walk_at "o") (xag xaf (xb4 hu (pv 2) (pv 3) (fun _ _ => rfl)) pI (fun _ _ => rfl)))
   (zpn (xah (i := 6) nd rfl (by walk_at "o") (pd D_parts_of hr (pc (xag xaf (pv 0) pI (fun _ _ => rfl)) (pc (pv 3) pN zsn) ss)))
   (zpo (xao (pR xas (pd D_sort_of hr (pc (xag xaf (pv 0) pI (fun _ _ => rfl)) (pc (pv 3) pN zsn) ss)) pS (nM _)) (zpo (xaz (pd D_need_kind hr (pc (xag xaf (pv 1) pI (fun _ _ => rfl)) (pc (pv 5) (pc (pd D_boxes_over hr (pc (pv 2) (pc (pv 6) pN zsn) zsn)) (pc (pv 4) pN zsn) zsc) zsn) ss)))) (zpo (xbo PassesOwn.never rfl (xle rfl T.z_zip (pc (pv 6) (pc (pv 5) pN zsn) zsn)) (xbb rfl (xab (xaa (i := 7) nd rfl (by walk_at "o")) (xab (xaa (i := 8) nd rfl (by walk_at "o")) xaq)))
   (zpo (xaz (pd D_need_kind hr (pc (xag xaf (pv 1) pI (fun _ _ => rfl)) (pc (xag xaf (pv 8) pI (fun _ _ => rfl)) (pc (pd D_boxes_over hr (pc (pv 2) (pc (xbs (pc (xan (pc pS (pc (xag xaf (pv 7) pI (fun _ _ => rfl)) pN ss) zso)) pN sT)) pN xpk) zsn)) (pc (pv 4) pN zsn) zsc) ss) ss))))))))))), ?_⟩
 refine ⟨_, rfl, _, rfl, wa, _, rfl, g, b, _, _, _, rfl, rfl, SqT.of hb, rfl, ?_⟩
 refine ⟨_, rfl, _, rfl, wa, _, rfl, g, b, _, _, _, rfl, rfl, SqT.of hb, rfl, ?_⟩
 refine ⟨_, rfl, fa, _, _, _, rfl, rfl, SqT.of hfa, xap (j := 0) rfl, _, rfl, kv1, ks, k.name, rfl, hk1, fun u H1 s1 ru => ?_⟩
 rw [hkx] at ru
 obtain ⟨c, cs, rfl, hc, hcs⟩ := ru
 have hcl := hcs.length
 rw [zLM] at hcl
 refine ⟨_, rfl, fa, _, _, _, rfl, rfl, SqT.of (s1 _ _ hfa), xap (j := 0) rfl, _, rfl, kv1, ks, k.name, rfl, hk1.same s1, ?_⟩
 rw [hkx]
 have hol := xdz (ys := ys) (ps := k.parts)
 rcases how with ⟨hrc, htm⟩ | ⟨hrc, es, rfl, hes, htm⟩
 ·refine ⟨rfl, _, rfl, iteKT (zDT (by show V.str k.sort = _; rw [xbm hrc]; rfl)) ?_⟩
  refine ⟨_, rfl, sa, _, _, _, rfl, rfl, SqT.of (s1 _ _ hsa), xap (j := 0) rfl, _, rfl, _, rfl, _, rfl, wa, c, cs, ys, k.parts, rfl, hw.same s1, .inr hc, hcs, hnd, hl, fun dp H2 s2 _ en => ?_⟩
  exact ⟨_, rfl, kv2, hv, dp, ks2, d, _, gg, rfl, hk2.same (s1.trans s2), hh'.same (s1.trans s2) _, en.mono (by omega), ⟨hKL, htm.2 _ (xhj (xee hnd))⟩, fun H3 s3 => q _ (s1.trans (s2.trans s3))⟩
 ·refine ⟨rfl, _, rfl, iteKF (zDF (by show ¬ V.str k.sort = _; rw [xbn hrc]; decide +kernel)) ?_⟩
  obtain ⟨ha, hs, rfl, hha, hhs⟩ := hh'
  have hhl := hhs.length
  rw [zLM] at hhl
  have hel : es.length = k.parts.length := by
   have := congrArg List.length hes
   rwa [zLM, zLM] at this
  refine ⟨_, rfl, _, rfl, c, ha, rfl, ⟨_, SqT.of hc⟩, ⟨_, SqT.of (s1 _ _ hha)⟩, ?_⟩
  refine xou (xs := cs) (ys := hs) (by omega) (fun i σ H' => ∃ o7 o8, σ = [some (.ref fa), some (.ref sa), some (.ref wa), some (.str k.name), some (.str gg), some (.ref ha), some (.ref c), o7, o8] /\ Same H1 H') ⟨none, none, rfl, Same.refl _⟩ (fun i σ H' _ p => ?_) ?_ ?_
  ·obtain ⟨_, _, _, sm⟩ := p
   exact ⟨SqT.of (sm _ _ hc), SqT.of ((s1.trans sm) _ _ hha)⟩
  ·rintro i x y σ H' pt hx hy ⟨o7, o8, rfl, sm⟩ hpt
   obtain ⟨dp, hdp, rdp⟩ := hcs.get hx
   rw [zGM] at hdp
   obtain ⟨pr, hpr, rfl⟩ := zMS hdp
   obtain ⟨de, hde, rde⟩ := hhs.get hy
   rw [zGM] at hde
   obtain ⟨er, her, rfl⟩ := zMS hde
   obtain ⟨b2, _, rfl, hb2, _, _, rfl, rfl, _, _, rfl, rfl, rfl⟩ := rdp
   obtain ⟨tb, _, rfl, htb, t0, _, rfl, _, t1, _, rfl, ht1, rfl⟩ := rde
   have hpm := zMG hpr
   have htm1 := htm i er pr her hpr
   have sn := Same.new hpt (.tup [.ref b2, .ref tb])
   have s2 := sm.trans sn
   have s12 := s1.trans s2
   refine ⟨pt, _, rfl, SqT.of ups, rfl, _, _, rfl, _, _, rfl, rfl, ?_⟩
   refine ⟨_, rfl, sa, _, _, _, rfl, rfl, SqT.of (s12 _ _ hsa), xap (j := 0) rfl, _, rfl, tb, _, _, _, rfl, rfl, SqT.of (s12 _ _ htb), rfl, ?_⟩
   refine ⟨_, rfl, _, rfl, b2, _, _, _, rfl, rfl, SqT.of (s2 _ _ hb2), rfl, (by walk_at "s"), fun t ht => ⟨(by walk_at "s"), fun l hl' => ?_⟩⟩
   have y1 := Same.new ht (.tup [.str (S "it"), .str pr.2])
   have y2 := Same.new hl' (.lst [.ref t])
   have y := y1.trans y2
   have s3 := s12.trans y
   have hol1 := xdz (ys := ys) (ps := [(S "it", pr.2)])
   refine ⟨wa, l, _, ys, [(S "it", pr.2)], rfl, hw.same s3, .inl ups, ⟨_, [], rfl, ⟨t, _, rfl, y2 _ _ ups, _, _, rfl, rfl, _, _, rfl, rfl, rfl⟩, rfl⟩, by simp, by simp, fun dp H4 s4 _ en => ?_⟩
   have ht1' : RelD H t1 er.2 := ht1
   refine ⟨_, rfl, kv2, _, dp, ks2, _, _, gg, rfl, hk2.same (s3.trans s4), ht1'.same (s3.trans s4) _, en.mono (by simp at hol1; omega), ⟨hKL, htm1.2 _ (xhj (xee (by simp)))⟩, fun H5 s5 => ⟨_, _, rfl, s2.trans (y.trans (s4.trans s5))⟩⟩
  ·rintro σ H' ⟨o7, o8, rfl, sm⟩
   exact q _ (s1.trans sm)
theorem xi1 (T : Tx K mg) (D_look_ends : DefIs P w K mg base n "look_ends" ["first", "second", "K", "K2"] xqt) (D_look_form : DefIs P w K mg base n "look_form" ["first", "K", "how"] xqr) (D_look_terms : DefIs P w K mg base n "look_terms" ["first", "second", "ways", "K"] xm7) : DefIs P w K mg base (n + 1) "look_ways" ["first", "second", "ways"] xna := by
 refine DefIs.of T.d_look_ways sc_look_ways ?_ ?_ <;> walk_at "i"
 ·obtain ⟨_, _, _, _, _, _, _, _, _, _, _, rfl, _⟩ := h
  rfl
 obtain ⟨fa, sa, wa, kv1, kv2, r1, r2, kvs, ks, ks2, ys, rfl, hfa, hsa, hk1, wf, hk2, wf2, hKL, hwa, hwl, hynd, hright, q⟩ := h
 have nd := sc_look_ways.nd
 have hu := xc2 hr
 have turn : ∀ (HB H' : Hp) (o : Obj), Same H HB -> Same (upd HB wa (.frz o (.dK kvs))) H' -> ∀ (i : Nat) (kv : Key × V), kvs[i]? = some kv -> ∃ (k : Kn) (g : Str) (d : D) (b : Addr) (hv : V), k ∈ ks /\ kv.1 = Sum.inr k.name /\ H' b = some (.tup [.str g, hv]) /\ RelD H' hv d /\ DGet H' wa (.str k.name) (some (.ref b)) /\ H' fa = some (.tup (kv1 :: r1)) /\ H' sa = some (.tup (kv2 :: r2)) /\ KsAt H' kv1 ks /\ KsAt H' kv2 ks2 /\ WaysAt H' wa ys /\ H' wa = some (.frz o (.dK kvs)) /\ wyAt ys k.name = some (k.name, g, d) /\ KIn ks2 6 g /\ HowOk ks2 ys k g d := by
  intro HB H' o sB sm i kv hi
  have tp0 : ∀ b vs, H b = some (.tup vs) -> H' b = some (.tup vs) := fun b vs e => sm _ _ (xqe (.frz o (.dK kvs)) (sB _ _ hwa) b vs (sB _ _ e))
  have hf := sm _ _ (ups (H := HB) (a := wa) (o := .frz o (.dK kvs)))
  have hwl' := hwl.tups tp0
  obtain ⟨y, hy, e1, e2⟩ := hwl'.get hi
  have hym := zMG hy
  obtain ⟨k, hk, hg, how⟩ := hright y hym
  have hn := xkl hk
  have hkm := List.mem_of_find?_eq_some hk
  have hrd : Rd H' wa (.dK kvs) := .inr ⟨o, hf⟩
  have hws := xhn hynd hym
  obtain ⟨v, h1, h2⟩ := (hwl'.val (x := y.1)).2 _ hws
  obtain ⟨b, _, rfl, hb, v0, _, rfl, r0, hv, _, rfl, hh, rfl⟩ := h2
  obtain rfl : v0 = .str y.2.1 := r0
  refine ⟨k, y.2.1, y.2.2, b, hv, hkm, by rw [hn]; exact e1, hb, hh, ?_, tp0 _ _ hfa, tp0 _ _ hsa, wf.ksAt (hk1.tups tp0 _), wf2.ksAt (hk2.tups tp0 _), ⟨kvs, hrd, hwl'⟩, hf, by rw [hn]; exact hws, hg, how⟩
  have := DGet.rd (k := Sum.inr y.1) hrd
  rw [h1] at this
  rw [hn]
  exact this
 have back : ∀ (HB H' : Hp) (o : Obj), Same H HB -> Same (upd HB wa (.frz o (.dK kvs))) H' -> Same H (upd H' wa (.dK kvs)) := fun HB H' o sB sm b u hb => by
  by_cases e : b = wa
  ·subst e
   rw [hwa] at hb
   cases hb
   exact ups
  ·rw [xaw e]
   exact sm _ _ (by rw [xaw e]; exact sB _ _ hb)
 have there : ∀ g, KIn ks2 6 g -> g ≠ S "num" -> ∃ k, kAt ks2 g = some k := fun g hg hne => by
  rcases hg.look wf2 with ⟨e, _⟩ | ⟨j, k, _, e, _⟩
  ·exact absurd e hne
  ·exact ⟨k, e⟩
 refine ⟨_, (zpn (xj6 (xbo PassesOwn.never rfl (xj8 (pv 2)) (xaa (i := 3) nd rfl (by walk_at "o"))
   (zpo (xaz (pd D_look_ends hr (pc (pv 0) (pc (pv 1) (pc (pv 3) (pc (xag xaf (xb4 hu (pv 2) (pv 3) (fun _ _ => rfl)) pI (fun _ _ => rfl)) pN ss) zsn) zsn) zsn))))))
   (zpn (xj6 (xbo PassesOwn.never rfl (xj8 (pv 2)) (xaa (i := 3) nd rfl (by walk_at "o"))
   (zpo (xaz (pd D_look_form hr (pc (pv 0) (pc (pv 3) (pc (xag xaf (xb4 hu (pv 2) (pv 3) (fun _ _ => rfl)) pI (fun _ _ => rfl)) pN ss) zsn) zsn))))))
   (zpn (xj6 (xbo PassesOwn.never rfl (xj8 (pv 2)) (xaa (i := 3) nd rfl (by walk_at "o"))
   (zpo (xaz (pd D_look_terms hr (pc (pv 0) (pc (pv 1) (pc (pv 2) (pc (pv 3) pN zsn) zsn) zsn) zsn))))))
   (zpo (xae xf5))))), ?_⟩
 refine ⟨_, rfl, wa, kvs, rfl, hwa, fun o nz => ?_⟩
 refine xhg (fun i σ H' => ∃ o3, σ = [some (.ref fa), some (.ref sa), some (.ref wa), o3] /\ Same (upd H wa (.frz o (.dK kvs))) H') ⟨none, rfl, Same.refl _⟩ (fun i σ H' _ p => by obtain ⟨_, _, sm⟩ := p; exact sm _ _ ups) ?_ ?_
 ·rintro i kv σ H' hi ⟨o3, rfl, sm⟩
  obtain ⟨k, gg, d, b, hv, hkm, e1, hb, hh, g, hfa', hsa', hk1', hk2', hw', hf, hwy, hgg, how⟩ := turn H H' o (Same.refl _) sm i kv hi
  rw [e1]
  refine ⟨_, rfl, _, rfl, _, rfl, _, rfl, _, rfl, wa, _, rfl, g, b, _, _, _, rfl, rfl, SqT.of hb, rfl, ?_⟩
  exact ⟨fa, sa, kv1, kv2, r1, r2, ks, ks2, k.name, gg, k, rfl, hfa', hsa', hk1', hk2', xc1 wf.nd hkm, there gg hgg, _, rfl, sm⟩
 rintro σ H1 ⟨o3, rfl, sm1⟩
 refine ⟨wa, o, kvs, sm1 _ _ ups, nz, ?_⟩
 have sB := back H H1 o (Same.refl _) sm1
 generalize upd H1 wa (.dK kvs) = HB at sB ⊢
 refine ⟨_, rfl, wa, kvs, rfl, sB _ _ hwa, fun o nz => ?_⟩
 refine xhg (fun i σ H' => ∃ o3, σ = [some (.ref fa), some (.ref sa), some (.ref wa), o3] /\ Same (upd HB wa (.frz o (.dK kvs))) H') ⟨_, rfl, Same.refl _⟩ (fun i σ H' _ p => by obtain ⟨_, _, sm⟩ := p; exact sm _ _ ups) ?_ ?_
 ·rintro i kv σ H' hi ⟨o3, rfl, sm⟩
  obtain ⟨k, gg, d, b, hv, hkm, e1, hb, hh, g, hfa', hsa', hk1', hk2', hw', hf, hwy, hgg, how⟩ := turn HB H' o sB sm i kv hi
  rw [e1]
  refine ⟨_, rfl, _, rfl, _, rfl, _, rfl, wa, _, rfl, g, b, _, _, _, rfl, rfl, SqT.of hb, rfl, ?_⟩
  exact ⟨fa, kv1, r1, ks, ks2, ys, hv, k, gg, d, rfl, hfa', hk1', xc1 wf.nd hkm, by have := wf.pts k hkm; omega, wf.pnd k hkm, wf.alt k hkm, hh, how, fun H'' s' => ⟨_, rfl, sm.trans s'⟩⟩
 rintro σ H2 ⟨o3', rfl, sm2⟩
 refine ⟨wa, o, kvs, sm2 _ _ ups, nz, ?_⟩
 have sC := back HB H2 o sB sm2
 generalize upd H2 wa (.dK kvs) = HC at sC ⊢
 refine ⟨_, rfl, wa, kvs, rfl, sC _ _ hwa, fun o nz => ?_⟩
 refine xhg (fun i σ H' => ∃ o3, σ = [some (.ref fa), some (.ref sa), some (.ref wa), o3] /\ Same (upd HC wa (.frz o (.dK kvs))) H') ⟨_, rfl, Same.refl _⟩ (fun i σ H' _ p => by obtain ⟨_, _, sm⟩ := p; exact sm _ _ ups) ?_ ?_
 ·rintro i kv σ H' hi ⟨o3, rfl, sm⟩
  obtain ⟨k, gg, d, b, hv, hkm, e1, hb, hh, g, hfa', hsa', hk1', hk2', hw', hf, hwy, hgg, how⟩ := turn HC H' o sC sm i kv hi
  rw [e1]
  exact ⟨_, rfl, _, rfl, _, rfl, _, rfl, fa, sa, wa, kv1, kv2, r1, r2, ks, ks2, ys, k, gg, d, rfl, hfa', hsa', hk1', hk2', hKL, xc1 wf.nd hkm, hw', hwy, wf.pnd k hkm, by have := wf.pts k hkm; omega, how, fun H'' s' => ⟨_, rfl, sm.trans s'⟩⟩
 rintro σ H3 ⟨o3'', rfl, sm3⟩
 refine ⟨wa, o, kvs, sm3 _ _ ups, nz, ?_⟩
 exact q _ (back HC H3 o sC sm3)
def vKV (bs : List (Str × V)) : List (Key × V) := bs.map fun b => (Sum.inr b.1, b.2)
def envP (ds : List (Str × D)) : En := fun y => (ds.find? fun q => decide (q.1 = y)).map fun q => q.2
def NV (H : Hp) : List (Str × V) -> List (Str × D) -> Prop
 | [], [] => True
 | b :: bs, q :: ds => (b.1 = q.1 /\ RelD H b.2 q.2) /\ NV H bs ds
 | _, _ => False
theorem xd8 {y : Str} : ∀ (bs : List (Str × V)) (acc : List (Key × V)), (∀ b ∈ bs, b.1 ≠ y) -> valV (xav acc (vKV bs)) (Sum.inr y) = valV acc (Sum.inr y)
 | [], acc, _ => rfl
 | b :: bs, acc, h => by
  show valV (xav (putK acc (Sum.inr b.1) b.2) (vKV bs)) (Sum.inr y) = _
  rw [xd8 bs _ fun c hc => h c (by simp [hc]), xdv, if_neg fun e => h b (by simp) (Sum.inr.inj e).symm]
theorem xe5 : ∀ (bs : List (Str × V)) (acc : List (Key × V)), (bs.map (·.1)).Nodup -> ∀ p ∈ bs, valV (xav acc (vKV bs)) (Sum.inr p.1) = some p.2
 | [], acc, _, p, hp => nomatch hp
 | b :: bs, acc, nd, p, hp => by
  rw [List.map_cons, List.nodup_cons] at nd
  show valV (xav (putK acc (Sum.inr b.1) b.2) (vKV bs)) (Sum.inr p.1) = _
  rcases List.mem_cons.mp hp with rfl | hp
  ·rw [xd8 bs _ fun c hc e => nd.1 (by rw [<- e]; exact List.mem_map_of_mem hc), xdv, if_pos rfl]
  ·exact xe5 bs _ nd.2 p hp
theorem NV.names {H : Hp} : ∀ {bs : List (Str × V)} {ds : List (Str × D)}, NV H bs ds -> bs.map (·.1) = ds.map (·.1)
 | [], [], _ => rfl
 | b :: bs, q :: ds, h => by rw [List.map_cons, List.map_cons, h.1.1, NV.names h.2]
theorem NV.of {H : Hp} : ∀ {bs : List (Str × V)} {ds : List (Str × D)}, NV H bs ds -> ∀ q ∈ ds, ∃ b ∈ bs, b.1 = q.1 /\ RelD H b.2 q.2
 | [], [], _, q, hq => nomatch hq
 | b :: bs, q' :: ds, h, q, hq => by
  rcases List.mem_cons.mp hq with rfl | hq
  ·exact ⟨b, by simp, h.1⟩
  ·obtain ⟨c, hc, e⟩ := NV.of h.2 q hq
   exact ⟨c, by simp [hc], e⟩
theorem NV.tups {H H' : Hp} (s : ∀ b us, H b = some (.tup us) -> H' b = some (.tup us)) : ∀ {bs : List (Str × V)} {ds : List (Str × D)}, NV H bs ds -> NV H' bs ds
 | [], [], _ => trivial
 | b :: bs, q :: ds, h => ⟨⟨h.1.1, h.1.2.tups s _⟩, NV.tups s h.2⟩
theorem xe1 {H : Hp} : ∀ {us : List V} {ds : List (Str × D)}, RelDs H us (ds.map dPr) -> ∃ bs, PairsV H us (vKV bs) /\ NV H bs ds
 | us, [], h => by rw [show us = [] from h]; exact ⟨[], trivial, trivial⟩
 | us, q :: ds, ⟨v, r, e, h1, h2⟩ => by
  subst e
  obtain ⟨a, ws, rfl, ha, v0, _, rfl, r0, v1, _, rfl, r1, rfl⟩ := h1
  obtain rfl : v0 = .str q.1 := r0
  obtain ⟨bs, g1, g2⟩ := xe1 h2
  exact ⟨(q.1, v1) :: bs, ⟨⟨a, rfl, ha⟩, g1⟩, ⟨rfl, r1⟩, g2⟩
theorem xoz {ds : List (Str × D)} (nd : (ds.map (·.1)).Nodup) {q : Str × D} (hq : q ∈ ds) : envP ds q.1 = some q.2 := by
 unfold envP
 obtain ⟨i, hi, e⟩ := List.mem_iff_getElem.mp hq
 rw [xbr (f := fun r : Str × D => r.1) (xs := ds) (i := i) (a := q) nd (by rw [<- e]; exact zGA hi)]
 rfl
theorem xn2 {H : Hp} {bs : List (Str × V)} {ds : List (Str × D)} (h : NV H bs ds) (nd : (ds.map (·.1)).Nodup) {q : Str × D} (hq : q ∈ ds) : ∃ v, valV (xav [] (vKV bs)) (Sum.inr q.1 : Key) = some v /\ RelD H v q.2 := by
 obtain ⟨b, hb, e1, e2⟩ := h.of q hq
 refine ⟨b.2, ?_, e2⟩
 rw [<- e1]
 exact xe5 bs [] (by rw [h.names]; exact nd) b hb
theorem nv_en {H : Hp} {dp : Addr} {bs : List (Str × V)} {ds : List (Str × D)} (h : NV H bs ds) (nd : (ds.map (·.1)).Nodup) (hp : H dp = some (.dK (xav [] (vKV bs)))) : EnAt H dp ds.length (envP ds) := by
 refine ⟨_, hp, ?_, fun y => ⟨fun e => ?_, fun d e => ?_⟩⟩
 ·have h1 := xbq (vKV bs) []
  have h2 := congrArg List.length h.names
  rw [zLM, zLM] at h2
  unfold vKV at h1 ⊢
  rw [zLM] at h1
  simp at h1
  omega
 ·unfold envP at e
  have h' := List.find?_eq_none.mp (Option.map_eq_none_iff.mp e)
  rw [xd8 bs [] fun b hb z => ?_]
  ·rfl
  ·have hm : b.1 ∈ ds.map (·.1) := by rw [<- h.names]; exact List.mem_map_of_mem hb
   obtain ⟨q, hq, eq⟩ := List.mem_map.mp hm
   exact absurd (zDT (eq.trans z)) (h' q hq)
 ·unfold envP at e
  obtain ⟨q, hq, rfl⟩ := zMS e
  have h1 : q.1 = y := by
   have := List.find?_some hq
   exact of_decide_eq_true this
  rw [<- h1]
  exact xn2 h nd (List.mem_of_find?_eq_some hq)
def SmOk (ks ks2 : List Kn) (ys : List Wy) (Sm : Str -> Prop) : Prop := ∀ x k, Sm x -> kAt ks x = some k -> wyAt ys x = some (x, x, howD k) /\ kAt ks2 x = some k /\ ∀ p ∈ k.parts, Sm p.2
structure TC (H : Hp) (fa sa wa : Addr) (kv1 kv2 : V) (r1 r2 : List V) (ks ks2 : List Kn) (ys : List Wy) : Prop where
 f : H fa = some (.tup (kv1 :: r1))
 s : H sa = some (.tup (kv2 :: r2))
 k1 : RelD H kv1 (xbg ks)
 wf : KWf ks
 k2 : RelD H kv2 (xbg ks2)
 wf2 : KWf ks2
 w : WaysAt H wa ys
 rt : ∀ y ∈ ys, xgn ks ks2 ys y
theorem TC.same {H H' : Hp} {fa sa wa : Addr} {kv1 kv2 : V} {r1 r2 : List V} {ks ks2 : List Kn} {ys : List Wy} (h : TC H fa sa wa kv1 kv2 r1 r2 ks ks2 ys) (y : Same H H') : TC H' fa sa wa kv1 kv2 r1 r2 ks ks2 ys := ⟨y _ _ h.f, y _ _ h.s, h.k1.same y _, h.wf, h.k2.same y _, h.wf2, h.w.same y, h.rt⟩
def spTd (m : Nat) : Sp := fun vs H Q _ => ∃ (fa sa wa : Addr) (kv1 kv2 : V) (r1 r2 : List V) (ks ks2 : List Kn) (ys : List Wy) (Sm : Str -> Prop) (x g : Str) (v : V) (d : D), vs = [.ref fa, .ref sa, .ref wa, .str x, v] /\ TC H fa sa wa kv1 kv2 r1 r2 ks ks2 ys /\ SmOk ks ks2 ys Sm /\ KIn ks m x /\ xal ys x = some g /\ RelD H v d /\ Vk ks x d /\ ∀ u d' H', Same H H' -> RelD H' u d' -> Vk ks2 g d' -> (Sm x -> d' = d) -> Q u H'
def spTB (m : Nat) : Sp := fun vs H Q _ => ∃ (fa sa wa : Addr) (kv1 kv2 : V) (r1 r2 : List V) (ks ks2 : List Kn) (ys : List Wy) (Sm : Str -> Prop) (pa da : Addr) (us : List V) (es : List ((Str × Str) × D)) (kvs : List (Key × V)), vs = [.ref fa, .ref sa, .ref wa, .ref pa, .ref da] /\ TC H fa sa wa kv1 kv2 r1 r2 ks ks2 ys /\ SmOk ks ks2 ys Sm /\ H pa = some (.tup us) /\ RelDs H us (es.map fun e => xbu e.1) /\ (es.map fun e => e.1.1).Nodup /\ es.length <= 100 ∧
 (∀ e ∈ es, KIn ks m e.1.2 /\ Vk ks e.1.2 e.2) /\ H da = some (.dK kvs) /\ (∀ e ∈ es, ∃ v, valV kvs (Sum.inr e.1.1 : Key) = some v /\ RelD H v e.2) /\ ∀ dp env H', Same H H' -> EnAt H' dp es.length env -> FitB ks2 (xbl ys (es.map (·.1))) env -> (∀ e ∈ es, Sm e.1.2 -> env e.1.1 = some e.2) -> Q (.ref dp) H'
theorem xl0 {α β γ : Type} {R : γ -> β -> Prop} {f : α -> γ} : ∀ {ps : List α} {ws : List β}, ps.length = ws.length -> (∀ e ∈ ps.zip ws, R (f e.1) e.2) -> All2 R (ps.map f) ws
 | [], [], _, _ => All2.nil
 | p :: ps, v :: ws, hl, h => All2.cons (h (p, v) (by simp)) (xl0 (by simpa using hl) fun e he => h e (by simp [he]))
theorem xe4 {α β : Type} : ∀ {ps : List α} {ws : List β}, ps.length = ws.length -> (ps.zip ws).map (·.1) = ps
 | [], [], _ => rfl
 | p :: ps, v :: ws, hl => by
  rw [List.zip_cons_cons, List.map_cons, xe4 (by simpa using hl)]
theorem xqn {α β : Type} {ps : List α} {ws : List β} {e : α × β} (he : e ∈ ps.zip ws) : ∃ i : Nat, ps[i]? = some e.1 /\ ws[i]? = some e.2 := by
 obtain ⟨i, hi, e'⟩ := List.mem_iff_getElem.mp he
 have h2 := List.getElem?_zip_eq_some.mp (show (ps.zip ws)[i]? = some e by rw [<- e']; exact zGA hi)
 exact ⟨i, h2⟩
theorem xj2 {ks ks2 : List Kn} {ys : List Wy} {Sm : Str -> Prop} (wf : KWf ks) (h : SmOk ks ks2 ys Sm) {m : Nat} {x : Str} (hx : KIn ks m x) (hs : Sm x) : xal ys x = some x := by
 rcases hx.look wf with ⟨rfl, _⟩ | ⟨j, k, _, hk, hn, hm, _⟩
 ·exact xb7 _
 ·unfold xal
  by_cases c : x = S "num"
  ·rw [if_pos c, c]
  ·rw [if_neg c, (h x k hs hk).1]
   rfl
def RE (ks2 : List Kn) (ys : List Wy) (Sm : Str -> Prop) (e : (Str × Str) × D) (q : Str × D) : Prop := q.1 = e.1.1 /\ (∃ g, xal ys e.1.2 = some g /\ Vk ks2 g q.2) /\ (Sm e.1.2 -> q.2 = e.2)
theorem xlb {ks2 : List Kn} {ys : List Wy} {Sm : Str -> Prop} : ∀ {es : List ((Str × Str) × D)} {ds : List (Str × D)}, All2 (RE ks2 ys Sm) es ds -> ds.map (·.1) = es.map fun e => e.1.1
 | _, _, .nil => rfl
 | _, _, .cons h t => by rw [List.map_cons, List.map_cons, xlb t, h.1]
theorem xhl {α β : Type} {R : α -> β -> Prop} : ∀ {as : List α} {bs : List β}, All2 R as bs -> ∀ a ∈ as, ∃ b ∈ bs, R a b
 | _, _, .nil, a, h => nomatch h
 | _, _, .cons h t, a, ha => by
  rcases List.mem_cons.mp ha with rfl | ha
  ·exact ⟨_, by simp, h⟩
  ·obtain ⟨b, hb, r⟩ := xhl t a ha
   exact ⟨b, by simp [hb], r⟩
theorem xfp (T : Tx K mg) (D_goes_to : DefIs P w K mg base n "goes_to" ["ways", "kind"] xfe) (D_turned : DefIs P w K mg base n "turned" ["first", "second", "ways", "kind", "value"] (spTd m)) : DefIs P w K mg base (n + 1) "turned_boxes" ["first", "second", "ways", "parts", "values"] (spTB m) := by
 refine DefIs.of T.d_turned_boxes sc_turned_boxes ?_ ?_ <;> walk_at "i"
 ·obtain ⟨_, _, _, _, _, _, _, _, _, _, _, _, _, _, _, _, rfl, _⟩ := h
  rfl
 obtain ⟨fa, sa, wa, kv1, kv2, r1, r2, ks, ks2, ys, Sm, pa, da, us, es, kvs, rfl, tc, hsm, hpa, hus, hnd, hl, hes, hda, hval, q⟩ := h
 have nd := sc_turned_boxes.nd
 have hu := xc2 hr
 have hul := hus.length
 rw [zLM] at hul
 refine ⟨_, (zpn (xa9 (i := 5) ["part", "ways"] [none, some 2] rfl (by kernel_rfl) nd rfl (by walk_at "o") (xa4 (pv 3)) (fun _ _ _ _ => (xaa (i := 0) (by show List.Nodup (["part", "ways"] : List Str); decide +kernel) rfl (Or.inl rfl))) (fun _ _ _ _ => (xcd (pR xg5 (pd D_goes_to hr (pc (pv 1) (pc (xag (xbt (K := K) rfl) (pv 0) pI (fun _ _ => rfl)) pN ss) zsn)) xcf (nM _)))) (fun _ _ _ _ => (pv 0)))
   (zpo (xae (xar (xdh rfl) rfl T.z_dict PyProof.Rows.boot_dict (pc (xba ["x", "kind", "first", "second", "ways", "values"] [none, none, some 0, some 1, some 2, some 4] rfl (by kernel_rfl) (xce (pv 5)) (fun _ _ _ _ => (xbp (K := K) (n := 2) rfl rfl (xab (xaa (i := 0) (by show List.Nodup (["x", "kind", "first", "second", "ways", "values"] : List Str); decide +kernel) rfl (Or.inl rfl)) (xab (xaa (i := 1) (by show List.Nodup (["x", "kind", "first", "second", "ways", "values"] : List Str); decide +kernel) rfl (Or.inl rfl)) xaq)))) (fun _ _ _ _ => xa8) (fun _ _ _ _ => (xan (pc (pv 0) (pc (pd D_turned hr (pc (pv 2) (pc (pv 3) (pc (pv 4) (pc (pv 1) (pc (xb4 hu (pv 5) (pv 0) (fun _ _ => rfl)) pN ss) zsn) zsn) zsn) zsn)) pN zsc) zsn)))) pN xbj))))), ?_⟩
 refine ⟨_, rfl, pa, rfl, ⟨_, SqT.of hpa⟩, ?_⟩
 refine xa7 (xs := us) (fun i zs H3 => H3 = H /\ RelDs H zs (((es.take i).filter fun e => (xal ys e.1.2).isSome).map fun e => xbu e.1)) ⟨rfl, rfl⟩ (xat (by omega)) (fun i zs H3 _ p => by obtain ⟨rfl, _⟩ := p; exact SqT.of hpa) ?_ ?_
 ·rintro i y zs H3 hy hi hly ⟨eH, hzs⟩
  subst eH
  have hy0 := hus.get hy
  obtain ⟨d, hd', rd⟩ := hy0
  rw [zGM] at hd'
  obtain ⟨e, he, rfl⟩ := zMS hd'
  have rd0 := rd
  obtain ⟨b, ws, rfl, hb, _, _, rfl, rfl, _, _, rfl, rfl, rfl⟩ := rd
  have tk : (es.take (i + 1)).filter (fun e => (xal ys e.1.2).isSome) = (es.take i).filter (fun e => (xal ys e.1.2).isSome) ++ (if (xal ys e.1.2).isSome = true then [e] else []) := by
   rw [List.take_add_one, he]
   show (es.take i ++ [e]).filter _ = _
   rw [List.filter_append, List.filter_cons]
   cases (xal ys e.1.2).isSome <;> rfl
  refine ⟨xds rfl, ?_⟩
  refine ⟨_, rfl, _, rfl, b, _, _, _, rfl, rfl, SqT.of hb, rfl, wa, _, e.1.2, rfl, tc.w, ?_⟩
  cases hg : xal ys e.1.2 with
  | none =>
   refine ⟨rfl, _, rfl, iteF (nxtN hi hly ⟨rfl, ?_⟩)⟩
   rw [tk, hg]
   show RelDs _ _ ((_ ++ []).map _)
   rw [List.append_nil]
   exact hzs
  | some g =>
   refine ⟨rfl, _, rfl, iteT ⟨_, rfl, nxtG hi hly ⟨rfl, ?_⟩⟩⟩
   rw [tk, hg]
   show RelDs _ _ ((_ ++ [e]).map _)
   rw [List.map_append]
   exact hzs.append ⟨_, [], rfl, rd0, rfl⟩
 rintro zs H3 hly ⟨eH, hzs⟩ L hL
 subst eH
 rw [zTL (by omega)] at hzs
 have hfl := List.length_filter_le (fun e : (Str × Str) × D => (xal ys e.1.2).isSome) es
 have hef : ∀ e ∈ es.filter fun e => (xal ys e.1.2).isSome, e ∈ es /\ (xal ys e.1.2).isSome = true := fun e he => List.mem_filter.mp he
 have hfi : ∀ e ∈ es, (xal ys e.1.2).isSome = true -> e ∈ es.filter fun e => (xal ys e.1.2).isSome := fun e he h => List.mem_filter.mpr ⟨he, h⟩
 have hfnd : ((es.filter fun e => (xal ys e.1.2).isSome).map fun e => e.1.1).Nodup := hnd.sublist (List.filter_sublist.map _)
 generalize es.filter (fun e => (xal ys e.1.2).isSome) = es2 at hzs hfl hef hfi hfnd
 have hzl := hzs.length
 rw [zLM] at hzl
 have y0 := Same.new hL (.lst zs)
 have tc0 := tc.same y0
 refine ⟨_, rfl, L, rfl, ⟨_, SqL.of ups⟩, ?_⟩
 refine xcu (xs := zs) (fun i ts H4 => Same (upd H3 L (.lst zs)) H4 /\ ∃ ds : List (Str × D), RelDs H4 ts (ds.map dPr) /\ All2 (RE ks2 ys Sm) (es2.take i) ds) ⟨Same.refl _, [], rfl, .nil⟩ (xat (by omega)) (fun i ts H4 _ p => SqL.of (p.1 _ _ ups)) ?_ ?_
 ·rintro i y ts H4 hy hi hly ⟨sm, ds, hts, hall⟩
  have s04 := y0.trans sm
  obtain ⟨d, hd', rd⟩ := (hzs.same s04 _).get hy
  rw [zGM] at hd'
  obtain ⟨e, he, rfl⟩ := zMS hd'
  have hem := zMG he
  obtain ⟨hee, hsome⟩ := hef e hem
  obtain ⟨g', hg'⟩ := Option.isSome_iff_exists.mp hsome
  obtain ⟨b, ws, rfl, hb, _, _, rfl, rfl, _, _, rfl, rfl, rfl⟩ := rd
  obtain ⟨v, hv1, hv2⟩ := hval e hee
  have g : DGet H4 da (.str e.1.1) (some v) := by
   have := DGet.k (H := H4) (a := da) (k := Sum.inr e.1.1) (s04 _ _ hda)
   rw [hv1] at this
   exact this
  refine ⟨b, _, rfl, SqT.of hb, rfl, _, _, rfl, _, _, rfl, rfl, ext2 rfl rfl, xdu ?_⟩
  refine ⟨_, rfl, _, rfl, _, rfl, _, rfl, _, rfl, _, rfl, _, rfl, da, _, rfl, g, ?_⟩
  refine ⟨fa, sa, wa, kv1, kv2, r1, r2, ks, ks2, ys, Sm, e.1.2, g', v, e.2, rfl, tc.same s04, hsm, (hes e hee).1, hg', hv2.same s04 _, (hes e hee).2, fun u d' H5 s5 ru hvk hsame => ⟨(by walk_at "s"), fun t ht => ?_⟩⟩
  have y6 := Same.new ht (.tup [.str e.1.1, u])
  refine nxtG hi hly ⟨sm.trans (s5.trans y6), ds ++ [(e.1.1, d')], ?_, ?_⟩
  ·rw [List.map_append]
   exact ((hts.same s5 _).same y6 _).append ⟨_, [], rfl, ⟨t, _, rfl, ups, _, _, rfl, rfl, _, _, rfl, ru.same y6 _, rfl⟩, rfl⟩
  ·rw [List.take_add_one, he]
   exact xf3 hall ⟨rfl, ⟨g', hg', hvk⟩, hsame⟩
 ·rintro ts H4 hly ⟨sm, ds, hts, hall⟩ D hD
  rw [zTL (by omega)] at hall
  have y1 := Same.new hD (.lst ts)
  obtain ⟨bs, hp, hn⟩ := xe1 (hts.same y1 _)
  have hdl := hall.length
  have hdn := xlb hall
  have hdnd : (ds.map (·.1)).Nodup := by rw [hdn]; exact hfnd
  refine ⟨D, ts, vKV bs, rfl, ups, hp, fun dp hdp => ?_⟩
  have y2 := Same.new hdp (.dK (xav [] (vKV bs)))
  have en := nv_en (hn.tups fun b us e => y2 _ _ e) hdnd ups
  refine q dp _ _ (y0.trans (sm.trans (y1.trans y2))) (en.mono (by omega)) (fun b hb => ?_) fun e he hs => ?_
  ·obtain ⟨p, hp, e1, e2⟩ := xfl hb
   obtain ⟨e, he, rfl⟩ := List.mem_map.mp hp
   obtain ⟨qq, hq, h1, ⟨g2, hg2, hv2⟩, _⟩ := xhl hall e (hfi e he (by rw [e2]; rfl))
   rw [e2] at hg2
   cases hg2
   exact ⟨qq.2, by rw [<- e1, <- h1]; exact xoz hdnd hq, hv2⟩
  ·have hg := xj2 tc.wf hsm (hes e he).1 hs
   obtain ⟨qq, hq, h1, _, h3⟩ := xhl hall e (hfi e he (by rw [hg]; rfl))
   rw [<- h3 hs, <- h1]
   exact xoz hdnd hq
theorem xiw (T : Tx K mg) (spc : Sp) (D_sort_of : DefIs P w K mg base n "sort_of" ["kinds", "K"] xbz) (D_parts_of : DefIs P w K mg base n "parts_of" ["kinds", "K"] xbk) (D_part_kind : DefIs P w K mg base n "part_kind" ["kinds", "kind", "name"] xcr) (D_worth : DefIs P w K mg base n "worth" ["kinds", "term", "boxes"] (xc4 (fun ks => Ev ks 22) 100)) (D_turned_boxes : DefIs P w K mg base n "turned_boxes" ["first", "second", "ways", "parts", "values"] spc) (hspc : ∀ j, m = j + 1 -> spc = spTB j) : DefIs P w K mg base (n + 1) "turned" ["first", "second", "ways", "kind", "value"] (spTd m) := by
 refine DefIs.of T.d_turned sc_turned ?_ ?_ <;> walk_at "i"
 ·obtain ⟨_, _, _, _, _, _, _, _, _, _, _, _, _, _, _, rfl, _⟩ := h
  rfl
 obtain ⟨fa, sa, wa, kv1, kv2, r1, r2, ks, ks2, ys, Sm, x, g0, v, d, rfl, tc, hsm, hin, hgo, hv, hvk, q⟩ := h
 have nd := sc_turned.nd
 have hu := xc2 hr
 have wf := tc.wf
 refine ⟨_, (zpn (xao (pR xas (pv 3) pS (nM _)) (zpo (xae (pv 4))) pQ)
   (zpn (xah (i := 5) nd rfl (by walk_at "o") (xag xaf (xb4 hu (pv 2) (pv 3) (fun _ _ => rfl)) pI (fun _ _ => rfl)))
   (zpn (xah (i := 6) nd rfl (by walk_at "o") (pd D_parts_of hr (pc (xag xaf (pv 0) pI (fun _ _ => rfl)) (pc (pv 3) pN zsn) ss)))
   (zpn (xao (pR xas (pd D_sort_of hr (pc (xag xaf (pv 0) pI (fun _ _ => rfl)) (pc (pv 3) pN zsn) ss)) pS (nM _)) (zpn (xah (i := 7) nd rfl (by walk_at "o") (xar (xdh rfl) rfl T.z_dict PyProof.Rows.boot_dict (pc (xba ["part", "each"] [none, none] rfl (by kernel_rfl) (xle rfl T.z_zip (pc (pv 6) (pc (xag xaf (pv 4) pI (fun _ _ => rfl)) pN ss) zsn)) (fun _ _ _ _ => (xbp (K := K) (n := 2) rfl rfl (xab (xaa (i := 0) (by show List.Nodup (["part", "each"] : List Str); decide +kernel) rfl (Or.inl rfl)) (xab (xaa (i := 1) (by show List.Nodup (["part", "each"] : List Str); decide +kernel) rfl (Or.inl rfl)) xaq)))) (fun _ _ _ _ => xa8) (fun _ _ _ _ => (xan (pc (xag (xbt (K := K) rfl) (pv 0) pI (fun _ _ => rfl)) (pc (pv 1) pN zsn) ss)))) pN xbj)))
   (zpo (xae (pd D_worth hr (pc (xag xaf (pv 1) pI (fun _ _ => rfl)) (pc (pv 5) (pc (pd D_turned_boxes hr (pc (pv 0) (pc (pv 1) (pc (pv 2) (pc (pv 6) (pc (pv 7) pN zsn) zsn) zsn) zsn) zsn)) pN zsc) zsn) ss))))) pQ)
   (zpn (xah (i := 8) nd rfl (by walk_at "o") (xag xaf (pv 4) pI (fun _ _ => rfl)))
   (zpn (xah (i := 9) nd rfl (by walk_at "o") (xan (pc pS (pc (pd D_part_kind hr (pc (xag xaf (pv 0) pI (fun _ _ => rfl)) (pc (pv 3) (pc (pv 8) pN zsn) zsn) ss)) pN zsc) zso)))
   (zpo (xae (pd D_worth hr (pc (xag xaf (pv 1) pI (fun _ _ => rfl)) (pc (xb4 hu (xar (xen rfl) rfl T.z_dict PyProof.Rows.boot_dict (pc (pv 5) pN zsn)) (pv 8) (fun _ _ => rfl)) (pc (pd D_turned_boxes hr (pc (pv 0) (pc (pv 1) (pc (pv 2) (pc (xan (pc (pv 9) pN zsn)) (pc (xrx (xpr pS (xag xaf (pv 4) pI (fun _ _ => rfl)) xrt) rfl rfl (fun z => by cases z) (by decide)) pN xm3) sT) zsn) zsn) zsn)) pN zsc) ss) ss)))))))))), xaj fun R1 hR1 => ?_⟩
 rcases hin.look wf with ⟨rfl, hkx⟩ | ⟨j, k, rfl, hkx, hn, hm, hp⟩
 ·rw [xb7] at hgo
  cases hgo
  refine ⟨_, rfl, rfl, _, rfl, iteKT (zDT rfl) ?_⟩
  obtain ⟨i, hi, rfl⟩ := xe6 wf rfl hvk
  exact ⟨_, rfl, q _ _ _ (Same.refl _) hv (.num i hi) fun _ => rfl⟩
 ·have D' := hspc j rfl
  subst D'
  subst hn
  have hne := xcy (wf.nm k hm)
  refine ⟨_, rfl, rfl, _, rfl, iteKF (zDF fun z => hne (V.str.inj z)) ?_⟩
  obtain ⟨y, hy, hy1, hy2⟩ : ∃ y : Wy, wyAt ys k.name = some y /\ y.1 = k.name /\ y.2.1 = g0 := by
   unfold xal at hgo
   rw [if_neg hne] at hgo
   obtain ⟨y, hy, e⟩ := zMS hgo
   exact ⟨y, hy, (xjw hy).1, e⟩
  obtain ⟨k', hk', hgk, how⟩ := tc.rt y (xjw hy).2
  rw [hy1, hkx] at hk'
  cases hk'
  rw [hy2] at hgk how
  obtain ⟨kvs, hd, hwl⟩ := id tc.w
  obtain ⟨v', h1, h2⟩ := (hwl.val (x := k.name)).2 y hy
  obtain ⟨b, _, rfl, hb, v0, _, rfl, r0, hv', _, rfl, hh, rfl⟩ := h2
  obtain rfl : v0 = .str y.2.1 := r0
  change RelD H hv' y.2.2 at hh
  have hself : Sm k.name -> y = (k.name, k.name, howD k) := fun hs => by
   have := (hsm _ _ hs hkx).1
   rw [hy] at this
   exact Option.some.inj this
  have g : DGet H wa (.str k.name) (some (.ref b)) := by
   have := DGet.rd (k := Sum.inr k.name) hd
   rw [h1] at this
   exact this
  have hnd := wf.pnd k hm
  have h5 := wf.pts k hm
  refine hR1 _ _ (xaj fun R2 hR2 => ?_)
  refine ⟨_, rfl, _, rfl, wa, _, rfl, g, b, _, _, _, rfl, rfl, SqT.of hb, rfl, ?_⟩
  refine hR2 _ _ (xaj fun R3 hR3 => ?_)
  refine ⟨_, rfl, fa, _, _, _, rfl, rfl, SqT.of tc.f, xap (j := 0) rfl, _, rfl, kv1, ks, k.name, rfl, wf.ksAt tc.k1, fun u H1 s1 ru => ?_⟩
  rw [hkx] at ru
  obtain ⟨c, cs, rfl, hc, hcs⟩ := ru
  have hcl := hcs.length
  rw [zLM] at hcl
  have tc1 := tc.same s1
  refine hR3 _ _ (xaj fun R4 hR4 => ?_)
  refine ⟨_, rfl, fa, _, _, _, rfl, rfl, SqT.of tc1.f, xap (j := 0) rfl, _, rfl, kv1, ks, k.name, rfl, wf.ksAt tc1.k1, ?_⟩
  rw [hkx]
  rcases how with ⟨hrc, htm⟩ | ⟨hrc, es, ees, hes, htm⟩
  ·obtain ⟨ws, hwl', hws, rfl⟩ := xkz wf hkx hrc hvk
   obtain ⟨a, _, rfl, ha, v0, _, rfl, r0, v1, _, rfl, ⟨a1, us, rfl, hb1, hus⟩, rfl⟩ := hv
   have hul := hus.length
   refine ⟨rfl, _, rfl, iteKT (zDT (by show V.str k.sort = _; rw [xbm hrc]; rfl)) ?_⟩
   refine ⟨_, rfl, _, rfl, a, _, _, _, rfl, rfl, SqT.of (s1 _ _ ha), rfl, c, a1, rfl, ⟨_, SqT.of hc⟩, ⟨_, SqT.of (s1 _ _ hb1)⟩, ?_⟩
   refine xlu (xs := cs) (zs := us) (by omega) (fun i zs H' => Same H1 H' /\ zs.length = i /\ RelDs H' zs (((k.parts.zip ws).take i).map fun e => dPr (e.1.1, e.2))) ⟨Same.refl _, rfl, rfl⟩ (xat (by omega)) (fun i zs H' _ p => ⟨SqT.of (p.1 _ _ hc), SqT.of (p.1 _ _ (s1 _ _ hb1))⟩) ?_ ?_
   ·rintro i y z zs H' pp hy hz hi hly ⟨sm, hzl, hzs⟩ hpp
    obtain ⟨d1, hd1, rd⟩ := hcs.get hy
    rw [zGM] at hd1
    obtain ⟨pr, hpr, rfl⟩ := zMS hd1
    obtain ⟨b2, _, rfl, hb2, _, _, rfl, rfl, _, _, rfl, rfl, rfl⟩ := rd
    obtain ⟨e, he, re⟩ := hus.get hz
    have sp := Same.new hpp (.tup [.ref b2, z])
    have s3 := sm.trans sp
    refine ⟨pp, _, rfl, SqT.of ups, rfl, _, _, rfl, _, _, rfl, rfl, ext2 rfl rfl, xdu ?_⟩
    refine ⟨_, rfl, b2, _, _, _, rfl, rfl, SqT.of (s3 _ _ hb2), rfl, _, rfl, (by walk_at "s"), fun t ht => ?_⟩
    have y6 := Same.new ht (.tup [.str pr.1, z])
    refine nxtG hi hly ⟨s3.trans y6, by rw [List.length_append, List.length_singleton, hzl], ?_⟩
    rw [List.take_add_one, show (k.parts.zip ws)[i]? = some (pr, e) from List.getElem?_zip_eq_some.mpr ⟨hpr, he⟩]
    show RelDs _ _ (((k.parts.zip ws).take i ++ [(pr, e)]).map _)
    rw [List.map_append]
    exact ((hzs.same sp _).same y6 _).append ⟨_, [], rfl, ⟨t, _, rfl, ups, _, _, rfl, rfl, _, _, rfl, re.same (s1.trans (s3.trans y6)) _, rfl⟩, rfl⟩
   ·rintro zs H' hly ⟨sm, hzl, hzs⟩ LD hD
    have hzw : (k.parts.zip ws).length = k.parts.length := by rw [List.length_zip]; omega
    rw [zTL (by omega)] at hzs
    have y1 := Same.new hD (.lst zs)
    have hzs' : RelDs H' zs (((k.parts.zip ws).map fun e => (e.1.1, e.2)).map dPr) := by rw [List.map_map]; exact hzs
    have hnd' : (((k.parts.zip ws).map fun e => (e.1.1, e.2)).map (·.1)).Nodup := by
     rw [List.map_map]
     have : (k.parts.zip ws).map ((fun q : Str × D => q.1) ∘ fun e => (e.1.1, e.2)) = ((k.parts.zip ws).map (·.1)).map (·.1) := by rw [List.map_map]; rfl
     rw [this, xe4 hwl'.symm]
     exact hnd
    obtain ⟨bs, hp', hnv⟩ := xe1 (hzs'.same y1 _)
    refine ⟨LD, zs, vKV bs, rfl, ups, hp', fun dp hdp => ?_⟩
    have y2 := Same.new hdp (.dK (xav [] (vKV bs)))
    have hnv2 := hnv.tups fun b us e => y2 _ _ e
    have s4 := sm.trans (y1.trans y2)
    have s14 := s1.trans s4
    have tc4 := tc.same s14
    have hc4 := s4 _ _ hc
    have hcs4 := hcs.same s4 _
    have hdp4 : upd (upd H' LD (.lst zs)) dp (.dK (xav [] (vKV bs))) dp = some (.dK (xav [] (vKV bs))) := ups
    generalize upd (upd H' LD (.lst zs)) dp (.dK (xav [] (vKV bs))) = H4 at s4 s14 tc4 hc4 hcs4 hdp4 hnv2 ⊢
    refine ⟨_, rfl, sa, _, _, _, rfl, rfl, SqT.of tc4.s, xap (j := 0) rfl, _, rfl, _, rfl, _, rfl, _, rfl, _, rfl, _, rfl, ?_⟩
    refine ⟨fa, sa, wa, kv1, kv2, r1, r2, ks, ks2, ys, Sm, c, dp, cs, k.parts.zip ws, _, rfl, tc4, hsm, hc4, ?_, ?_, by omega, fun e he => ?_, hdp4, fun e he => ?_, fun dp2 env H5 s5 en hfit hse => ?_⟩
    ·have : (k.parts.zip ws).map (fun e => xbu e.1) = ((k.parts.zip ws).map (·.1)).map xbu := by rw [List.map_map]; rfl
     rw [this, xe4 hwl'.symm]
     exact hcs4
    ·have : (k.parts.zip ws).map (fun e => e.1.1) = ((k.parts.zip ws).map (·.1)).map (·.1) := by rw [List.map_map]; rfl
     rw [this, xe4 hwl'.symm]
     exact hnd
    ·obtain ⟨i, hi1, hi2⟩ := xqn he
     exact ⟨hp e.1 (zMG hi1), hws i _ _ hi2 hi1⟩
    ·exact xn2 (q := (e.1.1, e.2)) hnv2 hnd' (List.mem_map_of_mem (f := fun e : (Str × Str) × D => (e.1.1, e.2)) he)
    have s15 := s14.trans s5
    rw [xe4 hwl'.symm] at hfit
    obtain ⟨val, hev, hvv, hvs⟩ : ∃ val, Ev ks2 22 env y.2.2 val /\ Vk ks2 g0 val /\ (Sm k.name -> val = .tup [.str k.name, .tup ws]) := by
     by_cases hs : Sm k.name
     ·have ey := hself hs
      obtain ⟨_, hk2, hps⟩ := hsm _ _ hs hkx
      have eg : g0 = k.name := by rw [<- hy2, ey]
      refine ⟨.tup [.str k.name, .tup ws], ?_, ?_, fun _ => rfl⟩
      ·rw [ey]
       show Ev ks2 22 env (howD k) _
       unfold howD
       rw [if_pos hrc]
       refine .inr (.inr (.inl ⟨_, _, _, by rw [zLM]; omega, xl0 hwl'.symm fun e he => ?_, rfl, rfl⟩))
       obtain ⟨i, hi1, hi2⟩ := xqn he
       exact xlp _ _ _ _ (xkr (.inr ⟨e.1.1, hse e he (hps e.1 (zMG hi1)), rfl⟩))
      ·rw [eg]
       refine .rc hk2 hrc hwl' fun i w p hw hp' => ?_
       have hpm := zMG hp'
       have hez : (p, w) ∈ k.parts.zip ws := zMG (i := i) (List.getElem?_zip_eq_some.mpr ⟨hp', hw⟩)
       have henv := hse _ hez (hps p hpm)
       have hgp := xj2 wf hsm (hp p hpm) (hps p hpm)
       obtain ⟨v9, h9, h10⟩ := hfit (p.1, p.2) (xg4 hpm hgp)
       rw [henv] at h9
       cases h9
       exact h10
     ·obtain ⟨val, h1, h2⟩ := htm.1 env hfit
      exact ⟨val, xlp _ _ _ _ h1, h2, fun z => absurd z hs⟩
    refine ⟨kv2, hv', dp2, ks2, y.2.2, env, val, rfl, (tc.wf2.ksAt tc4.k2).same s5, hh.same s15 _, en.mono (by omega), hev, fun u H6 s6 ru => q u val _ (s15.trans s6) ru hvv hvs⟩
  ·obtain ⟨p0, hp0, d0, hvk0, rfl⟩ := xk0 wf hkx hrc hvk
   obtain ⟨a, _, rfl, ha, v0, _, rfl, r0, v1, _, rfl, r1', v2, _, rfl, r2', rfl⟩ := hv
   obtain rfl : v1 = .str p0.1 := r1'
   refine ⟨rfl, _, rfl, iteKF (zDF (by show ¬ V.str k.sort = _; rw [xbn hrc]; decide +kernel)) ?_⟩
   refine hR4 _ _ (xaj fun R5 hR5 => ?_)
   refine ⟨_, rfl, a, _, _, _, rfl, rfl, SqT.of (s1 _ _ ha), rfl, ?_⟩
   refine hR5 _ _ (xaj fun R6 hR6 => ?_)
   refine ⟨_, rfl, fa, _, _, _, rfl, rfl, SqT.of tc1.f, xap (j := 0) rfl, _, rfl, _, rfl, kv1, ks, k.name, k, p0.1, p0.2, rfl, wf.ksAt tc1.k1, hkx, xg2 hnd hp0, fun H2 s2 => ⟨(by walk_at "s"), fun t ht => ?_⟩⟩
   have y1 := Same.new ht (.tup [.str (Str.ofString "it"), .str p0.2])
   have s12 := s1.trans (s2.trans y1)
   have tc2 := tc.same s12
   have ht2 : upd H2 t (.tup [.str (Str.ofString "it"), .str p0.2]) t = some (.tup [.str (Str.ofString "it"), .str p0.2]) := ups
   generalize upd H2 t (.tup [.str (Str.ofString "it"), .str p0.2]) = H3 at s12 tc2 ht2 ⊢
   have hh3 := hh.same s12 _
   rw [ees] at hh3
   obtain ⟨ha0, hs, rfl, hha, hhs⟩ := hh3
   have hnd2 : (es.map (·.1)).Nodup := by rw [hes]; exact hnd
   obtain ⟨i0, hi0, ei0⟩ := List.mem_iff_getElem.mp hp0
   have hel : es.length = k.parts.length := by
    have := congrArg List.length hes
    rwa [zLM, zLM] at this
   obtain ⟨e0, he0⟩ : ∃ e0, es[i0]? = some e0 := ⟨es[i0]'(by omega), zGA _⟩
   have hp0' : k.parts[i0]? = some p0 := by rw [<- ei0]; exact zGA hi0
   have hn0 : e0.1 = p0.1 := by
    have h9 : (es.map (·.1))[i0]? = some e0.1 := by rw [zGM, he0]; rfl
    rw [hes, zGM, hp0'] at h9
    exact (Option.some.inj h9).symm
   have htm0 := htm i0 e0 p0 he0 hp0'
   obtain ⟨bs, hp', hnv⟩ := xe1 hhs
   refine hR6 _ _ ?_
   refine ⟨_, rfl, sa, _, _, _, rfl, rfl, SqT.of tc2.s, xap (j := 0) rfl, _, rfl, ha0, hs, vKV bs, rfl, hha, hp', fun dq hdq => ?_⟩
   have y2 := Same.new hdq (.dK (xav [] (vKV bs)))
   obtain ⟨tv, hv1, hv2⟩ := xn2 (q := e0) hnv hnd2 (zMG he0)
   rw [hn0] at hv1
   have gq : DGet (upd H3 dq (.dK (xav [] (vKV bs)))) dq (.str p0.1) (some tv) := by
    have := DGet.k (H := upd H3 dq (.dK (xav [] (vKV bs)))) (a := dq) (k := Sum.inr p0.1) ups
    rw [hv1] at this
    exact this
   refine ⟨_, rfl, dq, _, rfl, gq, _, rfl, _, rfl, _, rfl, _, rfl, (by walk_at "s"), fun t4 ht4 => fun dv hdv => ?_⟩
   have y3 := Same.new ht4 (.tup [.ref t])
   have y4 := Same.new hdv (.dK [])
   have s14 := s12.trans (y2.trans y3)
   refine ⟨_, rfl, a, _, _, _, rfl, rfl, SqT.of (y4 _ _ (s14 _ _ ha)), rfl, ups, [(Sum.inr (S "it"), v2)], rfl, by simp, ?_⟩
   rw [xrc]
   have y5 := Same.new hdv (.dK (xav [] [(Sum.inr (S "it"), v2)]))
   have s35 := y2.trans (y3.trans y5)
   have s15 := s12.trans s35
   refine ⟨fa, sa, wa, kv1, kv2, r1, r2, ks, ks2, ys, Sm, t4, dv, [.ref t], [((S "it", p0.2), d0)], _, rfl, tc.same s15, hsm, y5 _ _ ups, ⟨_, [], rfl, ⟨t, _, rfl, s35 _ _ ht2, _, _, rfl, rfl, _, _, rfl, rfl, rfl⟩, rfl⟩, by simp, by simp, fun e he => ?_, ups, fun e he => ?_, fun dp2 env H6 s6 en hfit hse => ?_⟩
   ·rw [zMO he]
    exact ⟨hp p0 hp0, hvk0⟩
   ·rw [zMO he]
    refine ⟨v2, ?_, r2'.same s15 _⟩
    exact xe5 [(S "it", v2)] [] (by simp) (S "it", v2) (by simp)
   have s16 := s15.trans s6
   have hfit' : FitB ks2 (xbl ys [(S "it", p0.2)]) env := hfit
   obtain ⟨val, hev, hvv, hvs⟩ : ∃ val, Ev ks2 22 env e0.2 val /\ Vk ks2 g0 val /\ (Sm k.name -> val = .tup [.str k.name, .str p0.1, d0]) := by
    by_cases hs : Sm k.name
    ·have ey := hself hs
     obtain ⟨_, hk2, hps⟩ := hsm _ _ hs hkx
     have eg : g0 = k.name := by rw [<- hy2, ey]
     have henv := hse ((S "it", p0.2), d0) (by simp) (hps p0 hp0)
     have ed : e0.2 = tTag k.name p0.1 (tBox (S "it")) := by
      have h8 : y.2.2 = howD k := by rw [ey]
      rw [ees] at h8
      unfold howD at h8
      rw [if_neg (by rw [hrc]; decide)] at h8
      have h9 := D.tup.inj h8
      have h10 : (es.map dPr)[i0]? = some (dPr e0) := by rw [zGM, he0]; rfl
      rw [h9, zGM, hp0'] at h10
      have h11 := D.tup.inj (Option.some.inj h10)
      exact ((List.cons.inj (List.cons.inj h11).2).1).symm
     refine ⟨.tup [.str k.name, .str p0.1, d0], ?_, ?_, fun _ => rfl⟩
     ·rw [ed]
      exact .inr (.inr (.inr (.inr (.inl ⟨_, _, _, d0, .inl (.inr ⟨S "it", henv, rfl⟩), rfl, rfl⟩))))
     ·rw [eg]
      have hgp := xj2 wf hsm (hp p0 hp0) (hps p0 hp0)
      obtain ⟨v9, h9, h10⟩ := hfit' (S "it", p0.2) (xg4 (p := (S "it", p0.2)) (by simp) hgp)
      rw [henv] at h9
      cases h9
      exact .al hk2 hrc hp0 h10
    ·obtain ⟨val, h1, h2⟩ := htm0.1 env hfit'
     exact ⟨val, xlp _ _ _ _ h1, h2, fun z => absurd z hs⟩
   exact ⟨kv2, tv, dp2, ks2, _, env, val, rfl, tc.wf2.ksAt (tc.same s16).k2, hv2.same (s35.trans s6) _, en.mono (by simp), hev, fun u H7 s7 ru => q u val _ (s16.trans s7) ru hvv hvs⟩
theorem xht (T : Tx K mg) : ∀ m, DefIs P w K mg base (2 * m + 60) "turned" ["first", "second", "ways", "kind", "value"] (spTd m)
 | 0 => xiw (n := 59) T (fun _ _ _ _ => False) (xbc T) (xa0 T) (xcn T (xa0 T)) ((xgr T 22 100 (by omega)).mono (by omega)) (DefIs.none T.d_turned_boxes fun _ _ _ _ h => h) (fun j e => by cases e)
 | m + 1 => xiw (n := 2 * m + 61) T (spTB m) (xbc T) (xa0 T) (xcn T (xa0 T)) ((xgr T 22 100 (by omega)).mono (by omega)) (xfp (n := 2 * m + 60) T (xcc T) (xht T m)) (fun j e => by cases e; rfl)
end
end K44
end
section
set_option maxHeartbeats 400000
namespace M
open PySem L2
def eqJ (e : D -> D -> Bool) (ds es : List D) (j : Nat) : Bool := match ds[j]?, es[j]? with
 | some d, some f => e d f
 | _, _ => true
def eqL (e : D -> D -> Bool) (ds es : List D) : Bool := (List.range (min ds.length es.length)).all (eqJ e ds es) && ds.length == es.length
section
variable {X : Cx} {pins : List (Addr × Obj)} {σ : St} {H : Hp} {s : Shared}
def Cmp (H : Hp) (s : Shared) (n : Nat) (e : D -> D -> Bool) (d f : D) : Prop := ∀ (x y : V) (u v : Value) (A : Around), RelD H x d -> RelD H y f -> RelV x u -> RelV y v -> A.units + n < cLine -> SeqAt.EqAt A s u v (e d f)
def eqS : D -> D -> Bool
 | .str a, .str b => a == b
 | _, _ => false
theorem xo7 (a b : Str) (n : Nat) : Cmp H s n eqS (.str a) (.str b) := fun x y u v A hx hy ru rv _ => by
 cases hx
 cases hy
 obtain ⟨t, rfl⟩ := ru
 obtain ⟨t', rfl⟩ := rv
 exact SeqAt.EqAt.str_str (A := A) (s := s) a t b t'
theorem xo6 (I : Inv X pins σ H s) {n : Nat} {e : D -> D -> Bool} {ds es : List D} (hc : ∀ (j : Nat) d f, ds[j]? = some d -> es[j]? = some f -> Cmp H s n e d f) (hin : ∀ x, RelDs H x ds -> RelDs H x es -> eqL e ds es = true) {x y : V} {u v : Value} {A : Around} (hx : RelD H x (.tup ds)) (hy : RelD H y (.tup es)) (ru : RelV x u) (rv : RelV y v) (hA : A.units + (n + 1) < cLine) : SeqAt.EqAt A s u v (eqL e ds es) := by
 obtain ⟨a, vs, rfl, ha, rvs⟩ := hx
 obtain ⟨b, ws, rfl, hb, rws⟩ := hy
 obtain rfl : u = .ref a := ru
 obtain rfl : v = .ref b := rv
 by_cases hab : a = b
 ·subst hab
  rw [ha] at hb
  cases hb
  rw [hin _ rvs rws]
  exact SeqAt.EqAt.same _
 ·obtain ⟨its, r1, p1, _⟩ := I.tuple (SqT.of (K := X.K) ha)
  obtain ⟨its2, r2, p2, _⟩ := I.tuple (SqT.of (K := X.K) hb)
  have l1 := r1.length
  have l2 := r2.length
  have l3 := rvs.length
  have l4 := rws.length
  have := SeqAt.EqAt.of_refs hab (SeqAt.RcAt.tuples (A := A) (e := eqJ e ds es) p1 p2 (by omega) fun j h1 h2 => ?_)
  ·have e' : ((List.range (min its.toArray.size its2.toArray.size)).all (eqJ e ds es) && its.toArray.size == its2.toArray.size) = eqL e ds es := by
    unfold eqL
    rw [show its.toArray.size = ds.length by simp only [List.size_toArray]; omega, show its2.toArray.size = es.length by simp only [List.size_toArray]; omega]
   rw [e'] at this
   exact this
  ·obtain ⟨x1, e1, q1⟩ := xes r1 h1
   obtain ⟨x2, e2, q2⟩ := xes r2 h2
   obtain ⟨d1, f1, g1⟩ := rvs.get e1
   obtain ⟨d2, f2, g2⟩ := rws.get e2
   have ej : eqJ e ds es j = e d1 d2 := by unfold eqJ; rw [f1, f2]
   rw [ej]
   exact hc j d1 d2 f1 f2 _ _ _ _ _ g1 g2 q1 q2 (by show A.units + 1 + n < cLine; omega)
theorem xhi {e : D -> D -> Bool} {ds : List D} (h : ∀ d ∈ ds, e d d = true) : eqL e ds ds = true := by
 unfold eqL
 rw [Bool.and_eq_true]
 refine ⟨List.all_eq_true.mpr fun j hj => ?_, beq_self_eq_true _⟩
 unfold eqJ
 cases q : ds[j]? with
 | none => rfl
 | some d => exact h d (zMG q)
theorem xq6 {e : D -> D -> Bool} {ds es : List D} (h : eqL e ds es = true) : ds.length = es.length /\ ∀ (j : Nat) d f, ds[j]? = some d -> es[j]? = some f -> e d f = true := by
 unfold eqL at h
 rw [Bool.and_eq_true] at h
 have hl := eq_of_beq h.2
 refine ⟨hl, fun j d f h1 h2 => ?_⟩
 have hj : j < ds.length := (zES h1).1
 have := List.all_eq_true.mp h.1 j (by rw [List.mem_range]; omega)
 unfold eqJ at this
 rw [h1, h2] at this
 exact this
def eqP : D -> D -> Bool
 | .tup ds, .tup es => eqL eqS ds es
 | _, _ => false
def eqPs : D -> D -> Bool
 | .tup ds, .tup es => eqL eqP ds es
 | _, _ => false
theorem xlr (a : Str) : eqS (.str a) (.str a) = true := beq_self_eq_true a
theorem xin (p : Str × Str) : ∀ (j : Nat) d, [D.str p.1, D.str p.2][j]? = some d -> ∃ a, d = .str a := fun j d h => by
 have hm := zMG h
 rcases List.mem_cons.mp hm with rfl | hm
 ·exact ⟨_, rfl⟩
 ·rw [zMO hm]
  exact ⟨_, rfl⟩
theorem xhh (p : Str × Str) : eqP (xbu p) (xbu p) = true := xhi fun d hd => by
 rcases List.mem_cons.mp hd with rfl | hd
 ·exact xlr _
 ·rw [zMO hd]
  exact xlr _
theorem eqP_of {p q : Str × Str} (h : eqP (xbu p) (xbu q) = true) : p = q := by
 have h2 := (xq6 (show eqL eqS [.str p.1, .str p.2] [.str q.1, .str q.2] = true from h)).2
 have e1 := eq_of_beq (show (p.1 == q.1) = true from h2 0 _ _ rfl rfl)
 have e2 := eq_of_beq (show (p.2 == q.2) = true from h2 1 _ _ rfl rfl)
 exact Prod.ext e1 e2
theorem xqj (I : Inv X pins σ H s) (p q : Str × Str) (n : Nat) : Cmp H s (n + 1) eqP (xbu p) (xbu q) := fun x y u v A hx hy ru rv hA => by
 refine xo6 (n := n) (e := eqS) I (fun j d f h1 h2 => ?_) (fun x h1 h2 => ?_) hx hy ru rv hA
 ·obtain ⟨a, rfl⟩ := xin p j d h1
  obtain ⟨b, rfl⟩ := xin q j f h2
  exact xo7 a b n
 ·obtain ⟨_, _, rfl, rfl, _, _, rfl, rfl, rfl⟩ := h1
  obtain ⟨v1, r1, e, g1, v2, r2, e', g2, g3⟩ := h2
  have a1 : V.str p.1 = V.str q.1 := by
   have : v1 = V.str q.1 := g1
   rw [<- this]
   exact (List.cons.inj e).1
  have a2 : V.str p.2 = V.str q.2 := by
   have : v2 = V.str q.2 := g2
   rw [<- this]
   have h9 := (List.cons.inj e).2
   rw [e'] at h9
   exact (List.cons.inj h9).1
  have : p = q := Prod.ext (V.str.inj a1) (V.str.inj a2)
  subst this
  exact xhh p
theorem xo8 (I : Inv X pins σ H s) (ps qs : List (Str × Str)) (n : Nat) : Cmp H s (n + 2) eqPs (xbf ps) (xbf qs) := fun x y u v A hx hy ru rv hA => by
 refine xo6 (n := n + 1) (e := eqP) I (fun j d f h1 h2 => ?_) (fun x h1 h2 => ?_) hx hy ru rv hA
 ·rw [zGM] at h1 h2
  obtain ⟨p, _, rfl⟩ := zMS h1
  obtain ⟨q, _, rfl⟩ := zMS h2
  exact xqj I p q n
 ·rw [xil h1 h2]
  exact xhi fun d hd => by
   obtain ⟨p, _, rfl⟩ := List.mem_map.mp hd
   exact xhh p
theorem eqPs_iff {ps qs : List (Str × Str)} : eqPs (xbf ps) (xbf qs) = true ↔ ps = qs := by
 refine ⟨fun h => ?_, fun h => ?_⟩
 ·obtain ⟨hl, hj⟩ := xq6 (show eqL eqP (ps.map xbu) (qs.map xbu) = true from h)
  rw [zLM, zLM] at hl
  refine List.ext_getElem? fun j => ?_
  cases h1 : ps[j]? with
  | none =>
   have := List.getElem?_eq_none_iff.mp h1
   rw [List.getElem?_eq_none_iff.mpr (by omega)]
  | some p =>
   have hjl := (zES h1).1
   obtain ⟨q, h2⟩ : ∃ q, qs[j]? = some q := ⟨qs[j]'(by omega), zGA _⟩
   rw [h2, eqP_of (hj j (xbu p) (xbu q) (by rw [zGM, h1]; rfl) (by rw [zGM, h2]; rfl))]
 ·subst h
  exact xhi fun d hd => by
   obtain ⟨p, _, rfl⟩ := List.mem_map.mp hd
   exact xhh p
def rNeKd : R2 := fun x y H Q => ∃ (s1 s2 : Str) (ps qs : List (Str × Str)), RelD H x (.tup [.str s1, xbf ps]) /\ RelD H y (.tup [.str s2, xbf qs]) /\ Q (.bl (!(decide (s1 = s2) && decide (ps = qs)))) H
theorem xr1 (hu : X.A.units + 200 < cLine) : OpR X (compareOp .NotEq) rNeKd := by
 intro pins s σ H x y v u Q I rx ry h
 obtain ⟨s1, s2, ps, qs, hx, hy, q⟩ := h
 obtain ⟨a, vs, rfl, ha, rvs⟩ := hx
 obtain ⟨b, ws, rfl, hb, rws⟩ := hy
 obtain rfl : v = .ref a := rx
 obtain rfl : u = .ref b := ry
 obtain ⟨its, r1, p1, _⟩ := I.tuple (SqT.of (K := X.K) ha)
 obtain ⟨its2, r2, p2, _⟩ := I.tuple (SqT.of (K := X.K) hb)
 have l1 := r1.length
 have l2 := r2.length
 have l3 : vs.length = 2 := rvs.length
 have l4 : ws.length = 2 := rws.length
 refine PySem.EqBoolInt.of_rcne (SeqAt.RcNeAt.tuples (e := fun j => if j = 0 then decide (s1 = s2) else decide (ps = qs)) p1 p2 (by omega) fun j h1 h2 => ?_) ⟨.bl (!(decide (s1 = s2) && decide (ps = qs))), H, I, ?_, q⟩
 ·obtain ⟨x1, e1, q1⟩ := xes r1 h1
  obtain ⟨x2, e2, q2⟩ := xes r2 h2
  obtain ⟨d1, f1, g1⟩ := rvs.get e1
  obtain ⟨d2, f2, g2⟩ := rws.get e2
  have hj : j < 2 := (zES f1).1
  have hj' : j = 0 \/ j = 1 := by omega
  rcases hj' with rfl | rfl
  ·cases f1
   cases f2
   rw [if_pos rfl]
   have e : eqS (.str s1) (.str s2) = decide (s1 = s2) := by
    show (s1 == s2) = _
    by_cases c : s1 = s2
    ·rw [c, beq_self_eq_true, zDT rfl]
    ·rw [zDF c, beq_eq_false_iff_ne.mpr c]
   rw [<- e]
   exact xo7 (H := H) (s := s) s1 s2 10 _ _ _ _ _ g1 g2 q1 q2 (by show X.A.units + 1 + 10 < cLine; omega)
  ·cases f1
   cases f2
   rw [if_neg (by decide)]
   have e : eqPs (xbf ps) (xbf qs) = decide (ps = qs) := by
    by_cases c : ps = qs
    ·rw [zDT c]
     exact eqPs_iff.mpr c
    ·rw [zDF c]
     exact Bool.eq_false_iff.mpr fun z => c (eqPs_iff.mp z)
   rw [<- e]
   exact xo8 I ps qs 10 _ _ _ _ _ g1 g2 q1 q2 (by show X.A.units + 1 + (10 + 2) < cLine; omega)
 ·have e : ((List.range (min its.toArray.size its2.toArray.size)).all (fun j => if j = 0 then decide (s1 = s2) else decide (ps = qs)) && its.toArray.size == its2.toArray.size) = (decide (s1 = s2) && decide (ps = qs)) := by
   rw [show its.toArray.size = 2 by simp only [List.size_toArray]; omega, show its2.toArray.size = 2 by simp only [List.size_toArray]; omega]
   show ((List.range 2).all _ && true) = _
   rw [Bool.and_true]
   show (decide (s1 = s2) && (decide (ps = qs) && true)) = _
   rw [Bool.and_true]
  rw [e]
  rfl
end
end M
end
section
namespace K44
open PySem L2 M
seal L2.PE L2.PA L2.PS L2.PSs L2.PT L2.PW L2.PI L2.PG L2.PJ L2.PTs
def xnc (m : Nat) : Sp := fun vs H Q _ => ∃ (kv v : V) (ks : List Kn) (x : Str) (e : D), vs = [kv, .str x, v] /\ RelD H kv (xbg ks) /\ KWf ks /\ KIn ks m x /\ RelD H v e /\ Vk ks x e /\ ∀ H', Same H H' -> Q (.bl true) H'
def xh2 (m : Nat) : Sp := fun vs H Q _ => ∃ (kv1 kv2 : V) (ta : Addr) (ks ks2 : List Kn) (told : List Wy) (x : Str), vs = [kv1, kv2, .ref ta, .str x] /\ RelD H kv1 (xbg ks) /\ KWf ks /\ RelD H kv2 (xbg ks2) /\ KWf ks2 /\ WaysAt H ta told /\ KIn ks m x /\ ∀ H', Same H H' -> Q (.bl (xec ks ks2 told (m + 1) x)) H'
theorem xml {ps : List (Str × Str)} (nd : (ps.map (·.1)).Nodup) {p0 : Str × Str} (h : p0 ∈ ps) : ((ps.filter fun p => decide (p.1 = p0.1)).map fun p => V.str p.2) = [V.str p0.2] := by
 induction ps with
 | nil => exact nomatch h
 | cons p ps ih =>
  rw [List.map_cons, List.nodup_cons] at nd
  rw [List.filter_cons]
  by_cases c : p.1 = p0.1
  ·rw [if_pos (zDT c)]
   have hn : ps.filter (fun p => decide (p.1 = p0.1)) = [] := List.filter_eq_nil_iff.mpr fun r hr z => nd.1 (by rw [c, <- of_decide_eq_true z]; exact List.mem_map_of_mem hr)
   rw [hn]
   rcases List.mem_cons.mp h with h | h
   ·rw [h]
    rfl
   ·exact absurd (by rw [c]; exact List.mem_map_of_mem h) nd.1
  ·rw [if_neg (by rw [zDF c]; decide)]
   rcases List.mem_cons.mp h with h | h
   ·exact absurd (by rw [h]) c
   ·exact ih nd.2 h
section
variable {P : Program} {w : World} {K : PySem.W.Frag} {mg : Str -> Option Value} {base : Heap} {n m : Nat}
theorem xiu (T : Tx K mg) (spc : Sp) (Dl_sort_of : DefIs P w K mg base n "_law_sort_of" ["_law_kinds_here", "_law_kind"] xcv) (Dl_is_of : DefIs P w K mg base n "_law_is_of" ["_law_kinds_here", "_law_kind", "_law_value_here"] spc) (hspc : ∀ j, m = j + 1 -> spc = xnc j) :
  DefIs P w K mg base (n + 1) "_law_is_of" ["_law_kinds_here", "_law_kind", "_law_value_here"] (xnc m) := by
 refine DefIs.of T.dl_is_of scl_is_of ?_ ?_ <;> walk_at "i"
 ·obtain ⟨_, _, _, _, _, rfl, _⟩ := h
  rfl
 obtain ⟨kv, v, ks, x, e, rfl, hk, wf, hin, hv, hvk, q⟩ := h
 have nd := scl_is_of.nd
 have hu := xc2 hr
 refine ⟨_, (zpn (xcb (pd Dl_sort_of hr (pc (pv 0) (pc (pv 1) pN zsn) zsn)) (xbb rfl (xab (xaa (i := 3) nd rfl (by walk_at "o")) (xab (xaa (i := 4) nd rfl (by walk_at "o")) xaq))))
   (zpn (xao (pR xas (pv 3) pS (nM _)) (zpo (xae (xfj (xak xch rfl T.z_isinstance PyProof.Rows.boot_isinstance (pc (pv 2) (pc (xik T.z_int PyProof.Rows.boot_int) pN zsn) zsn)) (xfj (xqv (xak xch rfl T.z_isinstance PyProof.Rows.boot_isinstance (pc (pv 2) (pc (xik T.z_bool PyProof.Rows.boot_bool) pN zsn) zsn))) (xij (xpv xtp xfm pI (pv 2) (xam xnw pI pI))))))) pQ)
   (zpn (xao (PW.pt (xfh (xih (xig (xak xch rfl T.z_isinstance PyProof.Rows.boot_isinstance (pc (pv 2) (pc (xik T.z_tuple PyProof.Rows.boot_tuple) pN zsn) zsn)))) (xfh (pR xfm (xak xad rfl T.z_len PySem.boot_len (pc (pv 2) pN zsn)) pI (nM _)) (xep (pR xeg (xag xaf (pv 2) pI (fun _ _ => rfl)) (pv 1) (nM _)))))) (zpo (xae xf5)) pQ)
   (zpn (xao (pR xas (pv 3) pS (nM _)) (zpn (xa9 (i := 5) ["_law_t", "_law_part", "_law_value_here"] [none, none, some 2] rfl (by kernel_rfl) nd rfl (by walk_at "o") (xa4 (pv 4)) (fun _ _ _ _ => (xbp (K := K) (n := 2) rfl rfl (xab (xaa (i := 0) (by show List.Nodup (["_law_t", "_law_part", "_law_value_here"] : List Str); decide +kernel) rfl (Or.inl rfl)) (xab (xaa (i := 1) (by show List.Nodup (["_law_t", "_law_part", "_law_value_here"] : List Str); decide +kernel) rfl (Or.inl rfl)) xaq)))) (fun _ _ _ _ => (xcd (pR xas (pv 0) (xag (xbt (K := K) rfl) (pv 2) pI (fun _ _ => rfl)) (nM _)))) (fun _ _ _ _ => (pv 1)))
   (zpo (xae (xfj (xcw xas (xak xad rfl T.z_len PySem.boot_len (pc (pv 2) pN zsn)) pI (nM _)) (xfj (xcw xas (xak xad rfl T.z_len PySem.boot_len (pc (pv 5) pN zsn)) pI (nM _)) (xij (pd Dl_is_of hr (pc (pv 0) (pc (xag iL (pv 5) pI (fun _ _ => rfl)) (pc (xag xaf (pv 2) pI (fun _ _ => rfl)) pN ss) ss) zsn)))))))) pQ)
   (zpn (xao (PW.pt (xfh (pR xeg (xak xad rfl T.z_len PySem.boot_len (pc (pv 2) pN zsn)) pI (nM _)) (xfh (xih (xig (xak xch rfl T.z_isinstance PyProof.Rows.boot_isinstance (pc (xag xaf (pv 2) pI (fun _ _ => rfl)) (pc (xik T.z_tuple PyProof.Rows.boot_tuple) pN zsn) ss)))) (xep (pR xeg (xak xad rfl T.z_len PySem.boot_len (pc (xag xaf (pv 2) pI (fun _ _ => rfl)) pN ss)) (xak xad rfl T.z_len PySem.boot_len (pc (pv 4) pN zsn)) (nM _)))))) (zpo (xae xf5)) pQ)
   (zpo (xae (xak (xly rfl) rfl T.z_all PyProof.Rows.boot_all (pc (xba ["_law_inner", "_law_f", "_law_part", "_law_kinds_here"] [none, none, none, some 0] rfl (by kernel_rfl) (xle rfl T.z_zip (pc (pv 4) (pc (xag xaf (pv 2) pI (fun _ _ => rfl)) pN ss) zsn)) (fun _ _ _ _ => (xbp (K := K) (n := 2) rfl rfl (xab (xbp (K := K) (n := 2) rfl rfl (xab (xaa (i := 1) (by show List.Nodup (["_law_inner", "_law_f", "_law_part", "_law_kinds_here"] : List Str); decide +kernel) rfl (Or.inl rfl)) (xab (xaa (i := 2) (by show List.Nodup (["_law_inner", "_law_f", "_law_part", "_law_kinds_here"] : List Str); decide +kernel) rfl (Or.inl rfl)) xaq))) (xab (xaa (i := 0) (by show List.Nodup (["_law_inner", "_law_f", "_law_part", "_law_kinds_here"] : List Str); decide +kernel) rfl (Or.inl rfl)) xaq)))) (fun _ _ _ _ => xa8) (fun _ _ _ _ => (pd Dl_is_of hr (pc (pv 3) (pc (pv 2) (pc (pv 0) pN zsn) zsn) zsn)))) pN xbj))))))))), xaj fun R1 hR1 => ?_⟩
 refine ⟨_, rfl, _, rfl, kv, ks, x, rfl, (wf.ksAt hk).seq, fun t pv' H1 s1 ht rp => ?_⟩
 refine ⟨t, _, rfl, SqT.of ht, rfl, _, _, rfl, _, _, rfl, rfl, ?_⟩
 refine hR1 _ _ (xaj fun R2 hR2 => ?_)
 rcases hin.look wf with ⟨rfl, hkx⟩ | ⟨j, k, rfl, hkx, hn, hm, hp⟩
 ·obtain ⟨i, hi, rfl⟩ := xe6 wf rfl hvk
  obtain rfl : v = .int i := hv
  refine ⟨_, rfl, rfl, _, rfl, iteKT (zDT (by rw [hkx]; rfl)) ?_⟩
  have q' := q _ s1
  have e : decide (i < 2 ^ 32) = true := zDT (by have := hi.2; omega)
  rw [<- e] at q'
  refine ⟨_, rfl, _, _, _, _, _, rfl, fun u hu' => hu', TyOf.int _, rfl, _, rfl, iteT ?_⟩
  refine ⟨_, rfl, _, _, _, _, _, rfl, fun u hu' => hu', TyOf.int _, rfl, _, rfl, _, rfl, iteT ?_⟩
  exact ⟨_, rfl, _, _, rfl, rfl, _, rfl, xmj (zDT hi.1) ⟨_, _, rfl, rfl, ⟨by decide, by decide, by decide⟩, _, _, rfl, rfl, q'⟩⟩
 ·have D' := hspc j rfl
  subst D'
  have hss : xci (kAt ks x) = k.sort := by rw [hkx]; rfl
  have hns : ¬ V.str (xci (kAt ks x)) = V.str (S "num") := by
   rw [hss]
   cases hc : k.rc with
   | true => rw [xbm hc]; decide +kernel
   | false => rw [xbn hc]; decide +kernel
  refine ⟨_, rfl, rfl, _, rfl, iteKF (zDF hns) ?_⟩
  refine hR2 _ _ (xaj fun R3 hR3 => ?_)
  rw [hkx] at rp
  obtain ⟨c, zs, rfl, hc, hzs⟩ := rp
  have hzl := hzs.length
  rw [zLM] at hzl
  have h5 := wf.pts k hm
  cases hrc : k.rc with
  | true =>
   obtain ⟨ws, hwl, hws, rfl⟩ := xkz wf hkx hrc hvk
   obtain ⟨a, _, rfl, ha, v0, _, rfl, r0, v1, _, rfl, ⟨a1, us, rfl, hb1, hus⟩, rfl⟩ := hv
   obtain rfl : v0 = .str x := r0
   have hul := hus.length
   have ha1 := s1 _ _ ha
   have hb2 := s1 _ _ hb1
   refine ⟨_, rfl, _, _, _, _, _, rfl, fun u hu' => hu', TyOf.tup ha1, rfl, _, rfl, iteF ?_⟩
   refine ⟨_, rfl, a, _, rfl, .inr (SqT.of ha1), _, _, rfl, rfl, _, rfl, xmk (by rfl) ?_⟩
   refine ⟨_, rfl, a, _, _, _, rfl, rfl, SqT.of ha1, rfl, _, rfl, rfl, _, rfl, xkn rfl ?_⟩
   refine hR3 _ _ (xaj fun R4 hR4 => ?_)
   refine ⟨_, rfl, rfl, _, rfl, iteKF (zDF (by rw [hss, xbm hrc]; decide +kernel)) ?_⟩
   refine hR4 _ _ (xaj fun R5 hR5 => ?_)
   refine ⟨_, rfl, a, _, rfl, .inr (SqT.of ha1), rfl, _, rfl, xkn rfl ?_⟩
   refine ⟨_, rfl, a, _, _, _, rfl, rfl, SqT.of ha1, rfl, _, _, _, _, _, rfl, fun u hu' => hu', TyOf.tup hb2, rfl, _, rfl, iteF ?_⟩
   refine ⟨_, rfl, a, _, _, _, rfl, rfl, SqT.of ha1, rfl, a1, _, rfl, .inr (SqT.of hb2), _, rfl, c, _, rfl, .inr (SqT.of hc), rfl, _, rfl, xmk (by rw [zDT (by rw [hul, hzl, hwl])]; rfl) ?_⟩
   refine hR5 _ _ ?_
   refine ⟨_, rfl, _, rfl, a, _, _, _, rfl, rfl, SqT.of ha1, rfl, c, a1, rfl, ⟨_, SqT.of hc⟩, ⟨_, SqT.of hb2⟩, ?_⟩
   refine xlu (xs := zs) (zs := us) (by omega) (fun i ys H' => Same H1 H' /\ ∃ bs : List Bool, ys = bs.map V.bl /\ bs.all id = true) ⟨Same.refl _, [], rfl, rfl⟩ (xat (by omega)) (fun i ys H' _ p => ⟨SqT.of (p.1 _ _ hc), SqT.of (p.1 _ _ hb2)⟩) ?_ ?_
   ·rintro i y z ys H' pp hy hz hi hly ⟨sm, bs, rfl, hbs⟩ hpp
    obtain ⟨d, hd, rd⟩ := hzs.get hy
    rw [zGM] at hd
    obtain ⟨pr, hpr, rfl⟩ := zMS hd
    obtain ⟨b, ws', rfl, hb, _, _, rfl, rfl, _, _, rfl, rfl, rfl⟩ := rd
    obtain ⟨e, he, re⟩ := hus.get hz
    have sp := Same.new hpp (.tup [.ref b, z])
    have s3 := sm.trans sp
    refine ⟨pp, _, rfl, SqT.of ups, rfl, _, _, rfl, b, _, rfl, SqT.of (s3 _ _ hb), rfl, _, _, rfl, _, _, rfl, rfl, _, _, rfl, rfl, ext3 rfl rfl rfl, xdu ?_⟩
    refine ⟨_, rfl, _, rfl, _, rfl, kv, z, ks, pr.2, e, rfl, hk.same (s1.trans s3) _, wf, hp pr (zMG hpr), re.same (s1.trans s3) _, hws i e pr he hpr, fun H3 s4 => nxtG hi hly ⟨s3.trans s4, bs ++ [true], by rw [List.map_append]; rfl, ?_⟩⟩
    rw [List.all_append, hbs]
    rfl
   ·rintro ys H' hly ⟨sm, bs, rfl, hbs⟩ D hD
    have q' := q _ (s1.trans (sm.trans (Same.new hD (.lst (bs.map V.bl)))))
    rw [<- hbs] at q'
    exact ⟨D, _, rfl, SqL.of ups, q'⟩
  | false =>
   obtain ⟨p0, hp0, d0, hvk0, rfl⟩ := xk0 wf hkx hrc hvk
   obtain ⟨a, _, rfl, ha, v0, _, rfl, r0, v1, _, rfl, r1, v2, _, rfl, r2, rfl⟩ := hv
   obtain rfl : v0 = .str x := r0
   obtain rfl : v1 = .str p0.1 := r1
   have ha1 := s1 _ _ ha
   have hnd := wf.pnd k hm
   refine ⟨_, rfl, _, _, _, _, _, rfl, fun u hu' => hu', TyOf.tup ha1, rfl, _, rfl, iteF ?_⟩
   refine ⟨_, rfl, a, _, rfl, .inr (SqT.of ha1), _, _, rfl, rfl, _, rfl, xmk (by rfl) ?_⟩
   refine ⟨_, rfl, a, _, _, _, rfl, rfl, SqT.of ha1, rfl, _, rfl, rfl, _, rfl, xkn rfl ?_⟩
   refine hR3 _ _ (xaj fun R4 hR4 => ?_)
   refine ⟨_, rfl, rfl, _, rfl, iteKT (zDT (by rw [hss, xbn hrc]; rfl)) ?_⟩
   refine ⟨_, rfl, c, rfl, ⟨_, SqT.of hc⟩, ?_⟩
   refine xa7 (xs := zs) (fun i ys H' => H' = H1 /\ ys = ((k.parts.take i).filter fun p => decide (p.1 = p0.1)).map fun p => V.str p.2) ⟨rfl, rfl⟩ (xat (by omega)) (fun i ys H' _ p => by obtain ⟨rfl, _⟩ := p; exact SqT.of hc) ?_ ?_
   ·rintro i y ys H' hy hi hly ⟨eH, rfl⟩
    obtain ⟨d, hd, rd⟩ := hzs.get hy
    rw [zGM] at hd
    obtain ⟨pr, hpr, rfl⟩ := zMS hd
    obtain ⟨b, ws', rfl, hb, _, _, rfl, rfl, _, _, rfl, rfl, rfl⟩ := rd
    have tk : (k.parts.take (i + 1)).filter (fun p => decide (p.1 = p0.1)) = (k.parts.take i).filter (fun p => decide (p.1 = p0.1)) ++ (if decide (pr.1 = p0.1) = true then [pr] else []) := by
     rw [List.take_add_one, hpr]
     show (k.parts.take i ++ [pr]).filter _ = _
     rw [List.filter_append, List.filter_cons]
     cases decide (pr.1 = p0.1) <;> rfl
    rw [eH]
    refine ⟨b, _, rfl, SqT.of hb, rfl, _, _, rfl, _, _, rfl, rfl, ext2 rfl rfl, ?_⟩
    refine ⟨_, rfl, _, rfl, a, _, _, _, rfl, rfl, SqT.of ha1, rfl, rfl, _, rfl, ?_⟩
    by_cases hpx : pr.1 = p0.1
    ·refine iteKT (zDT (by rw [hpx])) ⟨_, rfl, nxtG hi hly ⟨rfl, ?_⟩⟩
     rw [tk, if_pos (zDT hpx), List.map_append]
     rfl
    ·refine iteKF (zDF fun z => hpx (V.str.inj z)) (nxtN hi hly ⟨rfl, ?_⟩)
     rw [tk, if_neg (by rw [zDF hpx]; decide), List.append_nil]
   ·rintro ys H' hly ⟨eH, rfl⟩ D hD
    rw [zTL (by omega), xml hnd hp0]
    rw [eH] at hD ⊢
    have sD := Same.new hD (.lst [.str p0.2])
    refine ⟨_, rfl, a, _, rfl, .inr (SqT.of (sD _ _ ha1)), rfl, _, rfl, iteT ?_⟩
    refine ⟨_, rfl, D, _, rfl, .inl (SqL.of ups), rfl, _, rfl, iteT ?_⟩
    refine ⟨_, rfl, _, rfl, D, _, _, _, rfl, rfl, SqL.of ups, rfl, _, rfl, a, _, _, _, rfl, rfl, SqT.of (sD _ _ ha1), rfl, ?_⟩
    have s2 := s1.trans sD
    exact ⟨kv, v2, ks, p0.2, d0, rfl, hk.same s2 _, wf, hp p0 hp0, r2.same s2 _, hvk0, fun H3 s5 => q _ (s2.trans s5)⟩
theorem xlo (T : Tx K mg) : ∀ m, DefIs P w K mg base (m + 3) "_law_is_of" ["_law_kinds_here", "_law_kind", "_law_value_here"] (xnc m)
 | 0 => xiu (n := 2) T (fun _ _ _ _ => False) (xa3 T) (DefIs.none T.dl_is_of fun _ _ _ _ h => h) (fun j e => by cases e)
 | m + 1 => xiu (n := m + 3) T (xnc m) (xa3 T) (xlo T m) (fun j e => by cases e; rfl)
theorem xli (T : Tx K mg) (spc : Sp) (Dl_sort_of : DefIs P w K mg base n "_law_sort_of" ["_law_kinds_here", "_law_kind"] xcv) (Dl_same : DefIs P w K mg base n "_law_same" ["_law_kinds_here", "_law_more", "_law_told_here", "_law_kind"] spc) (hspc : ∀ j, m = j + 1 -> spc = xh2 j) :
  DefIs P w K mg base (n + 1) "_law_same" ["_law_kinds_here", "_law_more", "_law_told_here", "_law_kind"] (xh2 m) := by
 refine DefIs.of T.dl_same scl_same ?_ ?_ <;> walk_at "i"
 ·obtain ⟨_, _, _, _, _, _, _, rfl, _⟩ := h
  rfl
 obtain ⟨kv1, kv2, ta, ks, ks2, told, x, rfl, hk1, wf, hk2, wf2, hta, hin, q⟩ := h
 have nd := scl_same.nd
 have hu := xc2 hr
 have hu2 := xq3 hr
 refine ⟨_, (zpn (xcb (pd Dl_sort_of hr (pc (pv 0) (pc (pv 3) pN zsn) zsn)) (xbb rfl (xab (xaa (i := 4) nd rfl (by walk_at "o")) (xab (xaa (i := 5) nd rfl (by walk_at "o")) xaq))))
   (zpn (xao (pR xas (pv 4) pS (nM _)) (zpo (xae xf5)) pQ)
   (zpn (xao (PW.pt (xfh (xfi (xnu hu (pv 3) (pv 2))) (xep (pR (xr1 hu2) (xan (pc (pv 4) (pc (pv 5) pN zsn) zsn)) (pd Dl_sort_of hr (pc (pv 1) (pc (pv 3) pN zsn) zsn)) (nM _))))) (zpo (xae xf5)) pQ)
   (zpo (xae (xak (xly rfl) rfl T.z_all PyProof.Rows.boot_all (pc (xba ["_law_name", "_law_part", "_law_kinds_here", "_law_more", "_law_told_here"] [none, none, some 0, some 1, some 2] rfl (by kernel_rfl) (xa4 (pv 5)) (fun _ _ _ _ => (xbp (K := K) (n := 2) rfl rfl (xab (xaa (i := 0) (by show List.Nodup (["_law_name", "_law_part", "_law_kinds_here", "_law_more", "_law_told_here"] : List Str); decide +kernel) rfl (Or.inl rfl)) (xab (xaa (i := 1) (by show List.Nodup (["_law_name", "_law_part", "_law_kinds_here", "_law_more", "_law_told_here"] : List Str); decide +kernel) rfl (Or.inl rfl)) xaq)))) (fun _ _ _ _ => xa8) (fun _ _ _ _ => (pd Dl_same hr (pc (pv 2) (pc (pv 3) (pc (pv 4) (pc (pv 1) pN zsn) zsn) zsn) zsn)))) pN xbj))))))), ?_⟩
 refine ⟨_, rfl, _, rfl, kv1, ks, x, rfl, (wf.ksAt hk1).seq, fun t pv' H1 s1 ht rp => ?_⟩
 refine ⟨t, _, rfl, SqT.of ht, rfl, _, _, rfl, _, _, rfl, rfl, ?_⟩
 rcases hin.look wf with ⟨rfl, hkx⟩ | ⟨j, k, rfl, hkx, hn, hm, hp⟩
 ·refine ⟨_, rfl, rfl, _, rfl, iteKT (zDT (by rw [hkx]; rfl)) ?_⟩
  have q' := q _ s1
  unfold xec at q'
  rw [hkx] at q'
  exact q'
 ·have D' := hspc j rfl
  subst D'
  have hss : xci (kAt ks x) = k.sort := by rw [hkx]; rfl
  have hns : ¬ V.str (xci (kAt ks x)) = V.str (S "num") := by
   rw [hss]
   cases hc : k.rc with
   | true => rw [xbm hc]; decide +kernel
   | false => rw [xbn hc]; decide +kernel
  refine ⟨_, rfl, rfl, _, rfl, iteKF (zDF hns) ?_⟩
  have q' : ∀ H', Same H H' -> Q (.bl ((wyAt told x).isNone && eqK (kAt ks2 x) k && k.parts.all fun p => xec ks ks2 told (j + 1) p.2)) H' := fun H' s' => by
   have := q H' s'
   unfold xec at this
   rw [hkx] at this
   exact this
  have rp0 := rp
  rw [hkx] at rp
  obtain ⟨c, zs, rfl, hc, hzs⟩ := rp
  have hzl := hzs.length
  rw [zLM] at hzl
  have h5 := wf.pts k hm
  have hta1 := hta.same s1
  obtain ⟨kvs, hd, hw⟩ := id hta1
  have hv := hw.val (x := x)
  have hget := DGet.rd (k := Sum.inr x) hd
  cases hy : wyAt told x with
  | some y =>
   obtain ⟨v, g1, _⟩ := hv.2 y hy
   refine ⟨_, rfl, _, rfl, ta, _, rfl, hget, _, rfl, xmj (by rw [g1]; rfl) (iteT ?_)⟩
   have := q' _ s1
   rw [hy] at this
   exact this
  | none =>
   refine ⟨_, rfl, _, rfl, ta, _, rfl, hget, _, rfl, xmk (by rw [hv.1 hy]; rfl) ?_⟩
   refine ⟨_, rfl, _, rfl, (by walk_at "s"), fun t2 ht2 => ?_⟩
   have y2 := Same.new ht2 (.tup [.str (xci (kAt ks x)), .ref c])
   have s2 := s1.trans y2
   refine ⟨_, rfl, _, rfl, kv2, ks2, x, rfl, (wf2.ksAt (hk2.same s2 _)).seq, fun t3 pv3 H3 s3 ht3 rp3 => ?_⟩
   have hpd : ∃ qs, xim (kAt ks2 x) = xbf qs /\ ((decide (k.sort = xci (kAt ks2 x)) && decide (k.parts = qs)) = eqK (kAt ks2 x) k) := by
    cases hk2x : kAt ks2 x with
    | none =>
     refine ⟨[], rfl, ?_⟩
     have : ¬ k.sort = xci none := fun z => hns (by rw [hss, z]; rfl)
     rw [zDF this]
     rfl
    | some k2 =>
     refine ⟨k2.parts, rfl, ?_⟩
     show (decide (k.sort = k2.sort) && decide (k.parts = k2.parts)) = (decide (k2.rc = k.rc) && decide (k2.parts = k.parts))
     have e1 : decide (k.sort = k2.sort) = decide (k2.rc = k.rc) := by
      unfold Kn.sort
      cases k.rc <;> cases k2.rc <;> decide +kernel
     have e2 : decide (k.parts = k2.parts) = decide (k2.parts = k.parts) := by
      by_cases c9 : k.parts = k2.parts
      ·rw [zDT c9, zDT c9.symm]
      ·rw [zDF c9, zDF fun z => c9 z.symm]
     rw [e1, e2]
   obtain ⟨qs, epd, eeq⟩ := hpd
   rw [epd] at rp3
   have s23 := y2.trans s3
   have hleft : RelD H3 (.ref t2) (.tup [.str k.sort, xbf k.parts]) := ⟨t2, _, rfl, s3 _ _ ups, _, _, rfl, by rw [hss]; rfl, _, _, rfl, ⟨c, zs, rfl, s23 _ _ hc, hzs.same s23 _⟩, rfl⟩
   have hrite : RelD H3 (.ref t3) (.tup [.str (xci (kAt ks2 x)), xbf qs]) := ⟨t3, _, rfl, ht3, _, _, rfl, rfl, _, _, rfl, rp3, rfl⟩
   refine ⟨k.sort, xci (kAt ks2 x), k.parts, qs, hleft, hrite, _, rfl, ?_⟩
   rw [eeq]
   cases he : eqK (kAt ks2 x) k with
   | false =>
    refine iteT ?_
    have := q' _ (s1.trans s23)
    rw [hy, he] at this
    exact this
   | true =>
    refine iteF ?_
    refine ⟨_, rfl, c, rfl, ⟨_, SqT.of (s23 _ _ hc)⟩, ?_⟩
    refine xa7 (xs := zs) (fun i ys H' => Same H3 H' /\ ys = ((k.parts.take i).map fun p => xec ks ks2 told (j + 1) p.2).map V.bl) ⟨Same.refl _, rfl⟩ (xat (by omega)) (fun i ys H' _ p => SqT.of (p.1 _ _ (s23 _ _ hc))) ?_ ?_
    ·rintro i y ys H' hy' hi hly ⟨sm, rfl⟩
     obtain ⟨d, hd', rd⟩ := (hzs.same (s23.trans sm) _).get hy'
     rw [zGM] at hd'
     obtain ⟨pr, hpr, rfl⟩ := zMS hd'
     obtain ⟨b, ws', rfl, hb, _, _, rfl, rfl, _, _, rfl, rfl, rfl⟩ := rd
     have s4 := s1.trans (s23.trans sm)
     refine ⟨b, _, rfl, SqT.of hb, rfl, _, _, rfl, _, _, rfl, rfl, ext2 rfl rfl, xdu ?_⟩
     refine ⟨_, rfl, _, rfl, _, rfl, _, rfl, kv1, kv2, ta, ks, ks2, told, pr.2, rfl, hk1.same s4 _, wf, hk2.same s4 _, wf2, hta.same s4, hp pr (zMG hpr), fun H4 s5 => nxtG hi hly ⟨sm.trans s5, ?_⟩⟩
     rw [List.take_add_one, hpr, List.map_append, List.map_append]
     rfl
    ·rintro ys H' hly ⟨sm, rfl⟩ D hD
     rw [zTL (by omega)]
     have := q' _ (s1.trans (s23.trans (sm.trans (Same.new hD (.lst ((k.parts.map fun p => xec ks ks2 told (j + 1) p.2).map V.bl))))))
     rw [hy, he] at this
     have eall : (k.parts.map fun p => xec ks ks2 told (j + 1) p.2).all id = k.parts.all fun p => xec ks ks2 told (j + 1) p.2 := by rw [List.all_map]; rfl
     refine ⟨D, _, rfl, SqL.of ups, ?_⟩
     rw [eall]
     exact this
theorem xnn (T : Tx K mg) : ∀ m, DefIs P w K mg base (m + 3) "_law_same" ["_law_kinds_here", "_law_more", "_law_told_here", "_law_kind"] (xh2 m)
 | 0 => xli (n := 2) T (fun _ _ _ _ => False) (xa3 T) (DefIs.none T.dl_same fun _ _ _ _ h => h) (fun j e => by cases e)
 | m + 1 => xli (n := m + 3) T (xh2 m) (xa3 T) (xnn T m) (fun j e => by cases e; rfl)
def xdw (m : Nat) : Sp := fun vs H Q _ => ∃ (f : Addr) (kv : V) (p q : Int) (ks : List Kn) (x : Str), vs = [.ref f, kv, .str x] /\ H f = some (.lst [.int p, .int q]) /\ RelD H kv (xbg ks) /\ KWf ks /\ KIn ks m x /\ ∀ u d H', Fed f H H' -> RelD H' u d -> Vk ks x d -> Q u H'
theorem xir (T : Tx K mg) (spc : Sp) (Dl_sort_of : DefIs P w K mg base n "_law_sort_of" ["_law_kinds_here", "_law_kind"] xcv) (Dl_take : DefIs P w K mg base n "_law_take" ["_law_feed_here", "_law_many"] xb9) (Dl_number : DefIs P w K mg base n "_law_number" ["_law_feed_here"] xnb) (Dl_value : DefIs P w K mg base n "_law_value" ["_law_feed_here", "_law_kinds_here", "_law_kind"] spc) (hspc : ∀ j, m = j + 1 -> spc = xdw j) :
  DefIs P w K mg base (n + 1) "_law_value" ["_law_feed_here", "_law_kinds_here", "_law_kind"] (xdw m) := by
 refine DefIs.of T.dl_value scl_value ?_ ?_ <;> walk_at "i"
 ·obtain ⟨_, _, _, _, _, _, rfl, _⟩ := h
  rfl
 obtain ⟨f', kv, p, q0, ks, x, rfl, hf, hk, wf, hin, q⟩ := h
 have nd := scl_value.nd
 refine ⟨_, (zpn (xcb (pd Dl_sort_of hr (pc (pv 1) (pc (pv 2) pN zsn) zsn)) (xbb rfl (xab (xaa (i := 3) nd rfl (by walk_at "o")) (xab (xaa (i := 4) nd rfl (by walk_at "o")) xaq))))
   (zpn (xao (pR xas (pv 3) pS (nM _)) (zpo (xae (pd Dl_number hr (pc (pv 0) pN zsn)))) pQ)
   (zpn (xao (pR xas (pv 3) pS (nM _)) (zpo (xae (xan (pc (pv 2) (pc (xar xau rfl T.z_tuple PyProof.Rows.boot_tuple (pc (xba ["_law_name", "_law_part", "_law_feed_here", "_law_kinds_here"] [none, none, some 0, some 1] rfl (by kernel_rfl) (xa4 (pv 4)) (fun _ _ _ _ => (xbp (K := K) (n := 2) rfl rfl (xab (xaa (i := 0) (by show List.Nodup (["_law_name", "_law_part", "_law_feed_here", "_law_kinds_here"] : List Str); decide +kernel) rfl (Or.inl rfl)) (xab (xaa (i := 1) (by show List.Nodup (["_law_name", "_law_part", "_law_feed_here", "_law_kinds_here"] : List Str); decide +kernel) rfl (Or.inl rfl)) xaq)))) (fun _ _ _ _ => xa8) (fun _ _ _ _ => (pd Dl_value hr (pc (pv 2) (pc (pv 3) (pc (pv 1) pN zsn) zsn) zsn)))) pN xbj)) pN zsc) zsn)))) pQ)
   (zpn (xcb (xag xaf (pv 4) (pd Dl_take hr (pc (pv 0) (pc (xak xad rfl T.z_len PySem.boot_len (pc (pv 4) pN zsn)) pN zsc) zsn)) (fun _ _ => rfl)) (xbb rfl (xab (xaa (i := 5) nd rfl (by walk_at "o")) (xab (xaa (i := 6) nd rfl (by walk_at "o")) xaq))))
   (zpo (xae (xan (pc (pv 2) (pc (pv 5) (pc (pd Dl_value hr (pc (pv 0) (pc (pv 1) (pc (pv 6) pN zsn) zsn) zsn)) pN zsc) zsn) zsn)))))))), ?_⟩
 refine ⟨_, rfl, _, rfl, kv, ks, x, rfl, (wf.ksAt hk).seq, fun t pv' H1 s1 ht rp => ?_⟩
 refine ⟨t, _, rfl, SqT.of ht, rfl, _, _, rfl, _, _, rfl, rfl, ?_⟩
 have hf1 := s1 _ _ hf
 have F1 : Fed f' H H1 := (Fed.refl hf).same s1
 rcases hin.look wf with ⟨rfl, hkx⟩ | ⟨j, k, rfl, hkx, hn, hm, hp⟩
 ·refine ⟨_, rfl, rfl, _, rfl, iteKT (zDT (by rw [hkx]; rfl)) ?_⟩
  refine ⟨_, rfl, f', p, q0, rfl, hf1, fun r H2 hr2 f2 => ?_⟩
  exact q _ (.int r) _ (F1.trans f2) rfl (.num r hr2)
 ·have D' := hspc j rfl
  subst D'
  rw [hkx] at rp
  obtain ⟨a, us, rfl, ha, hus⟩ := rp
  have hl := hus.length
  rw [zLM] at hl
  have h5 := wf.pts k hm
  have hss : xci (kAt ks x) = k.sort := by rw [hkx]; rfl
  cases hc : k.rc with
  | false =>
   have hsA : k.sort = S "alt" := xbn hc
   refine ⟨_, rfl, rfl, _, rfl, iteKF (zDF (by rw [hss, hsA]; decide +kernel)) ?_⟩
   refine ⟨_, rfl, rfl, _, rfl, iteKF (zDF (by rw [hss, hsA]; decide +kernel)) ?_⟩
   have hne : k.parts.length ≠ 0 := fun e => wf.alt k hm hc (List.length_eq_zero_iff.mp e)
   refine ⟨_, rfl, _, rfl, _, rfl, a, _, rfl, .inr (SqT.of ha), f', p, q0, _, rfl, hf1, by omega, by omega, fun r H2 r0 r1 f2 => ?_⟩
   have tp2 := xai ⟨p, q0, hf1⟩ f2
   obtain ⟨i, rfl⟩ : ∃ i : Nat, r = (i : Int) := ⟨r.toNat, by omega⟩
   have hi : i < us.length := by omega
   have g1 : atI us (i : Int) = some us[i] := xap (zGA hi)
   obtain ⟨d, hd, rd⟩ := hus.get (zGA hi)
   rw [zGM] at hd
   obtain ⟨pr, hpr, rfl⟩ := zMS hd
   obtain ⟨b, ws, eu, hb, _, _, rfl, rfl, _, _, rfl, rfl, rfl⟩ := rd
   rw [eu] at g1
   have hmem := zMG hpr
   obtain ⟨p2, q2, hf2⟩ := f2.2
   have hk2 := (hk.same s1 _).tups tp2 _
   refine ⟨a, _, _, _, rfl, rfl, SqT.of (tp2 _ _ ha), g1, b, _, rfl, SqT.of (tp2 _ _ hb), rfl, _, _, rfl, _, _, rfl, rfl, ?_⟩
   refine ⟨_, rfl, _, rfl, _, rfl, _, rfl, _, rfl, f', kv, p2, q2, ks, pr.2, rfl, hf2, hk2, wf, hp pr hmem, fun u e H3 f3 ru he3 => ⟨(by walk_at "s"), fun t3 ht3 => ?_⟩⟩
   have s4 := Same.new ht3 (.tup [.str x, .str pr.1, u])
   exact q _ (.tup [.str x, .str pr.1, e]) _ ((F1.trans (f2.trans f3)).same s4) ⟨t3, _, rfl, ups, _, _, rfl, rfl, _, _, rfl, rfl, _, _, rfl, ru.same s4 _, rfl⟩ (.al hkx hc hmem he3)
  | true =>
   have hsR : k.sort = S "rec" := xbm hc
   refine ⟨_, rfl, rfl, _, rfl, iteKF (zDF (by rw [hss, hsR]; decide +kernel)) ?_⟩
   refine ⟨_, rfl, rfl, _, rfl, iteKT (zDT (by rw [hss, hsR]; rfl)) ?_⟩
   refine ⟨_, rfl, _, rfl, a, rfl, ⟨_, SqT.of ha⟩, ?_⟩
   refine xa7 (xs := us) (fun i ys H' => Fed f' H1 H' /\ ys.length = i /\ ∃ ds : List D, RelDs H' ys ds /\ ds.length = i /\ ∀ (i' : Nat) w' p', ds[i']? = some w' -> k.parts[i']? = some p' -> Vk ks p'.2 w') ⟨Fed.refl hf1, rfl, [], rfl, rfl, fun i' w' p' h => by simp at h⟩ (xat (by omega)) (fun i ys H' _ p' => SqT.of (xai ⟨p, q0, hf1⟩ p'.1 _ _ ha)) ?_ ?_
   ·rintro i y ys H' hy hi hly ⟨fm, hyl, ds, hys, hdl, hft⟩
    have tp := xai ⟨p, q0, hf1⟩ fm
    obtain ⟨d, hd, rd⟩ := hus.get hy
    rw [zGM] at hd
    obtain ⟨pr, hpr, rfl⟩ := zMS hd
    obtain ⟨b, ws, rfl, hb, _, _, rfl, rfl, _, _, rfl, rfl, rfl⟩ := rd
    obtain ⟨p2, q2, hf2⟩ := fm.2
    refine ⟨b, _, rfl, SqT.of (tp _ _ hb), rfl, _, _, rfl, _, _, rfl, rfl, ext2 rfl rfl, xdu ?_⟩
    refine ⟨_, rfl, _, rfl, _, rfl, f', kv, p2, q2, ks, pr.2, rfl, hf2, (hk.same s1 _).tups tp _, wf, hp pr (zMG hpr), fun u e H3 f3 ru he3 => nxtG hi hly ⟨fm.trans f3, by rw [List.length_append, List.length_singleton, hyl], ds ++ [e], ?_, by rw [List.length_append, List.length_singleton, hdl], fun i' w' p' hw hp' => ?_⟩⟩
    ·exact (hys.tups (xai ⟨p2, q2, hf2⟩ f3) _).append ⟨u, [], rfl, ru, rfl⟩
    ·by_cases hii : i' < ds.length
     ·rw [List.getElem?_append_left hii] at hw
      exact hft i' w' p' hw hp'
     ·have hlt := (zES hw).1
      rw [List.length_append, List.length_singleton] at hlt
      have e0 : i' = i := by omega
      subst e0
      rw [List.getElem?_append_right (by omega), hdl, Nat.sub_self] at hw
      simp at hw
      subst hw
      rw [hpr] at hp'
      cases hp'
      exact he3
   ·rintro ys H' hly ⟨fm, _, ds, hys, hdl, hft⟩ D hD
    refine ⟨D, ys, rfl, .inl ⟨SqL.of ups, fun l' hl' => ⟨(by walk_at "s"), fun t3 ht3 => ?_⟩⟩⟩
    have s2 := Same.new hD (.lst ys)
    have s3 := Same.new hl' (.tup ys)
    have s4 := Same.new ht3 (.tup [.str x, .ref l'])
    have s24 := s2.trans (s3.trans s4)
    exact q _ (.tup [.str x, .tup ds]) _ ((F1.trans fm).same s24) ⟨t3, _, rfl, ups, _, _, rfl, rfl, _, _, rfl, ⟨l', ys, rfl, s4 _ _ ups, hys.same s24 _⟩, rfl⟩ (.rc hkx hc (by omega) hft)
theorem xk1 (T : Tx K mg) : ∀ m, DefIs P w K mg base (m + 3) "_law_value" ["_law_feed_here", "_law_kinds_here", "_law_kind"] (xdw m)
 | 0 => xir (n := 2) T (fun _ _ _ _ => False) (xa3 T) (xcx T) (xeh T (xcx T)) (DefIs.none T.dl_value fun _ _ _ _ h => h) (fun j e => by cases e)
 | m + 1 => xir (n := m + 3) T (xdw m) (xa3 T) (xcx T) (xeh T (xcx T)) (xk1 T m) (fun j e => by cases e; rfl)
end
end K44
end
section
namespace L2
open PySem PySem.Spec PyProof.Rows
section
variable {X : Cx}
theorem xpa (hc : X.calm = true) : xdl X (.builtin "sum") (fun xs H Q => ∃ p, ∃ ns : List Int, xs = [.ref p] /\ SqL X.K H p (ns.map V.int) /\ Q (.int ns.sum) H) := by
 intro pins s σ H xs us Q I r h
 obtain ⟨p, ns, rfl, hq, q⟩ := h
 obtain ⟨u, rfl, ru⟩ := xd9 r
 cases ru
 obtain ⟨its, rv, pl, hz⟩ := I.list hq
 have hi := xej rv
 obtain ⟨xs, e⟩ := hi.allInts.items
 have hns : ns = xs.toList.map (·.1) := by rw [<- hi.numsOf, <- nums_intItems, <- e]
 have hl := pl.isList
 rw [e] at hl
 have hsz : xs.size = ns.length := by rw [hns, zLM, Array.length_toList]
 refine sum_intListG (I.ok.hd hc) hl fun h' tk t' k => ⟨.int ns.sum, H, I.kept k, ?_, q⟩
 refine ⟨t', ?_⟩
 rw [preSum_eq, <- hns, zTL (by omega)]
end
end L2
end
section
namespace K44
open PySem L2 M
seal L2.PE L2.PA L2.PS L2.PSs L2.PT L2.PW L2.PI L2.PG L2.PJ L2.PTs
theorem cut01 (ns : List Int) : cutV (ns.map V.int) none (some 1) = (ns.take 1).map V.int := by
 unfold cutV
 rw [HT.sIx_none, show ((1 : Int)) = ((1 : Nat) : Int) from rfl, HT.sIx_nat]
 cases ns with
 | nil => rfl
 | cons n ns => simp
theorem xhp {H : Hp} : ∀ {kvs : List (Key × V)} {ys : List Wy}, WAll H kvs ys -> (kvs.map fun kv => kV kv.1) = ys.map fun y => V.str y.1
 | [], [], _ => rfl
 | kv :: kvs, y :: ys, h => by
  rw [List.map_cons, List.map_cons, xhp h.2, h.1.1]
  rfl
theorem mergeV (Pq : V -> Hp -> Prop) {R : V -> Hp -> Prop} {A : Prop} (h : (∀ a H, Pq a H -> R a H) -> A) (r : ∀ a H, Pq a H -> R a H) : A := h r
def SmP (ks ks2 : List Kn) (told : List Wy) (x : Str) : Prop := ∃ m, KIn ks m x /\ xec ks ks2 told (m + 1) x = true
theorem xs8 {ks ks2 : List Kn} (wf : KWf ks) {told : List Wy} : SmOk ks ks2 (xa1 ks2 ks told) (SmP ks ks2 told) := fun x k ⟨m, hin, hs⟩ hk => by
 have h1 := (xie wf m x hin hs).2 k hk
 rcases hin.look wf with ⟨rfl, e⟩ | ⟨j, k', rfl, e, hn, hm, hp⟩
 ·rw [e] at hk; cases hk
 ·rw [e] at hk
  cases hk
  unfold xec at hs
  rw [e] at hs
  simp only [Bool.and_eq_true] at hs
  obtain ⟨⟨g1, g2⟩, g3⟩ := hs
  exact ⟨h1, (xoy e).mp g2, fun p hp' => ⟨j, hp p hp', List.all_eq_true.mp g3 p hp'⟩⟩
theorem xjh {nms : List Str} {ks : List Kn} (h : xqm nms ks) : KBes nms ks := ⟨h.1, h.2.1, fun k hk p hp => by
 have h9 := (h.2.2.2 k hk).2
 have h10 : p.1 ∈ k.parts.map (·.1) := List.mem_map_of_mem hp
 rw [h9] at h10
 exact List.mem_of_mem_drop (List.mem_of_mem_take (List.mem_of_mem_take h10))⟩
theorem kl_wf {ks : List Kn} (wf : KWf ks) : KL ks := fun k hk => by
 have h2 := (wf.nm k hk).le
 rw [Array.length_toList] at h2
 exact Nat.le_trans h2 (by decide)
theorem xss {ks ks2 : List Kn} (wf : KWf ks) {ys : List Wy} (right : ∀ y ∈ ys, xgn ks ks2 ys y) (nd : (ys.map (·.1)).Nodup) {r : Int} (h0 : 0 <= r) (h : r < 1 + (ys.length : Int)) : ∃ x g, atI ([V.str (Str.ofString "num")] ++ ys.map fun y => V.str y.1) r = some (.str x) /\ KIn ks 6 x /\ xal ys x = some g := by
 obtain ⟨i, rfl⟩ : ∃ i : Nat, r = (i : Int) := ⟨r.toNat, by omega⟩
 cases i with
 | zero => exact ⟨S "num", S "num", xap (j := 0) rfl, .inl rfl, xb7 _⟩
 | succ i =>
  have hi : i < ys.length := by omega
  obtain ⟨kk, hk, hg, _⟩ := right ys[i] (List.getElem_mem hi)
  refine ⟨ys[i].1, ys[i].2.1, xap (j := i + 1) ?_, xlm wf hk, ?_⟩
  ·show (V.str _ :: ys.map fun y => V.str y.1)[i + 1]? = _
   rw [List.getElem?_cons_succ, zGM, zGA hi]
   rfl
  ·unfold xal
   have hne : ¬ ys[i].1 = S "num" := fun e => by
    rw [e, wf.num] at hk
    cases hk
   rw [if_neg hne, xhn nd (List.getElem_mem hi)]
   rfl
def spLaw (K : PySem.W.Frag) : Sp := fun vs H Q _ => ∃ (a : Addr) (ns : List Int), vs = [.ref a] /\ SqL K H a (ns.map V.int) /\ ns.length <= 63 /\ ∀ H', Q (.bl true) H'
section
variable {P : Program} {w : World} {K : PySem.W.Frag} {mg : Str -> Option Value} {base : Heap} {n m : Nat}
theorem ok_law (T : Tx K mg) (Dl_feed : DefIs P w K mg base n "_law_feed" ["_law_script", "_law_k"] (xqs K)) (Dl_take : DefIs P w K mg base n "_law_take" ["_law_feed_here", "_law_many"] xb9) (Dl_names : DefIs P w K mg base n "_law_names" ["_law_cell", "_law_many"] xm9) (Dl_kinds : DefIs P w K mg base n "_law_kinds" ["_law_feed_here", "_law_names_here"] xnd) (Dl_value : DefIs P w K mg base n "_law_value" ["_law_feed_here", "_law_kinds_here", "_law_kind"] (xdw 6)) (Dl_beside : DefIs P w K mg base n "_law_beside" ["_law_feed_here", "_law_kinds_here", "_law_names_here"] xrp) (Dl_told : DefIs P w K mg base n "_law_told" ["_law_feed_here", "_law_first", "_law_kinds_here"] xm5) (Dl_is_of : DefIs P w K mg base n "_law_is_of" ["_law_kinds_here", "_law_kind", "_law_value_here"] (xnc 6)) (Dl_same : DefIs P w K mg base n "_law_same" ["_law_kinds_here", "_law_more", "_law_told_here", "_law_kind"] (xh2 6))
  (D_look_ways : DefIs P w K mg base n "look_ways" ["first", "second", "ways"] xna) (D_goes_to : DefIs P w K mg base n "goes_to" ["ways", "kind"] xfe) (D_turned : DefIs P w K mg base n "turned" ["first", "second", "ways", "kind", "value"] (spTd 6)) :
  DefIs P w K mg base (n + 1) "law" ["_law_script"] (spLaw K) := by
 refine DefIs.of T.d_law sc_law ?_ ?_ <;> walk_at "i"
 ·obtain ⟨_, _, rfl, _⟩ := h
  rfl
 obtain ⟨a, ns, rfl, hS, h63, k⟩ := h
 have nd := sc_law.nd
 have hu := xc2 hr
 have hu2 := xq3 hr
 refine ⟨_, (zpn (xah (i := 1) nd rfl (by walk_at "o") (pd Dl_names hr (pc (xam xbv (xak (xpa rfl) rfl T.z_sum PyProof.Rows.boot_sum (pc (xcm xfg (pv 0) xed (xcq pI)) pN ss)) pI) (pc pI pN zso) xax)))
   (zpn (xah (i := 2) nd rfl (by walk_at "o") (pd Dl_kinds hr (pc (pd Dl_feed hr (pc (pv 0) (pc pI pN zso) zsn)) (pc (pv 1) pN zsn) zsc)))
   (zpn (xah (i := 3) nd rfl (by walk_at "o") (xan (pc (pv 2) (pc (xan pN) (pc (xan pN) pN sT) sT) zsn)))
   (zpn (xah (i := 4) nd rfl (by walk_at "o") (pd Dl_feed hr (pc (pv 0) (pc pI pN zso) zsn)))
   (zpn (xah (i := 5) nd rfl (by walk_at "o") (pd Dl_beside hr (pc (pv 4) (pc (pv 2) (pc (pv 1) pN zsn) zsn) zsn)))
   (zpn (xao (pR xas (pd Dl_take hr (pc (pv 4) (pc pI pN zso) zsn)) pI (nM _)) (zpo (xah (i := 5) nd rfl (by walk_at "o") (pd Dl_kinds hr (pc (pv 4) (pc (pv 1) pN zsn) zsn)))) pQ)
   (zpn (xah (i := 6) nd rfl (by walk_at "o") (xan (pc (pv 5) (pc (xan pN) (pc (xan pN) pN sT) sT) zsn)))
   (zpn (xcb (pd Dl_told hr (pc (pd Dl_feed hr (pc (pv 0) (pc pI pN zso) zsn)) (pc (pv 3) (pc (pv 5) pN zsn) zsn) zsc)) (xbb rfl (xab (xaa (i := 7) nd rfl (by walk_at "o")) (xab (xaa (i := 8) nd rfl (by walk_at "o")) xaq))))
   (zpn (xao (pR xr0 (pd D_look_ways hr (pc (pv 3) (pc (pv 6) (pc (pv 8) pN zsn) zsn) zsn)) xf5 (nM _)) (zpo (xae xf5)) pQ)
   (zpn (xah (i := 9) nd rfl (by walk_at "o") (xam xfn (xbs (pc pS pN zso)) (xar (xmn rfl) rfl T.z_list PyProof.Rows.boot_list (pc (pv 8) pN zsn))))
   (zpn (xbo PassesOwn.never rfl (xnr rfl T.z_range (pc pI (pc (xak (xpd rfl) rfl T.z_max PyProof.Rows.boot_max (pc pI (pc (xak (xpb rfl) rfl T.z_min PyProof.Rows.boot_min (pc pI (pc (xak xad rfl T.z_len PySem.boot_len (pc (pv 0) pN zsn)) pN zsc) zso)) pN zsc) zso)) pN zsc) zso)) (xaa (i := 10) nd rfl (by walk_at "o"))
   (zpn (xah (i := 4) nd rfl (by walk_at "o") (pd Dl_feed hr (pc (pv 0) (pc (pv 10) pN zsn) zsn)))
   (zpn (xah (i := 11) nd rfl (by walk_at "o") (xag iL (pv 9) (pd Dl_take hr (pc (pv 4) (pc (xak xad rfl T.z_len PySem.boot_len (pc (pv 9) pN zsn)) pN zsc) zsn)) (fun _ _ => rfl)))
   (zpn (xah (i := 12) nd rfl (by walk_at "o") (pd Dl_value hr (pc (pv 4) (pc (pv 2) (pc (pv 11) pN zsn) zsn) zsn)))
   (zpn (xah (i := 13) nd rfl (by walk_at "o") (pd D_turned hr (pc (pv 3) (pc (pv 6) (pc (pv 8) (pc (pv 11) (pc (pv 12) pN zsn) zsn) zsn) zsn) zsn)))
   (zpn (xao (xih (xig (pd Dl_is_of hr (pc (pv 5) (pc (pd D_goes_to hr (pc (pv 8) (pc (pv 11) pN zsn) zsn)) (pc (pv 13) pN zsn) zsc) zsn)))) (zpo (xae xf5)) pQ)
   (zpo (xao (PW.pt (xcl (xig (pd Dl_same hr (pc (pv 2) (pc (pv 5) (pc (pv 7) (pc (pv 11) pN zsn) zsn) zsn) zsn))) (xb3 (pR (xto hu2) (pv 13) (pv 12) (nM _))))) (zpo (xae xf5)) pQ))))))))
   (zpo (xae xf5))))))))))))), xaj fun R1 hR1 => ?_⟩
 refine ⟨_, rfl, _, rfl, a, _, rfl, hS, fun c0 hc0 => ?_⟩
 rw [cut01]
 have s0 := Same.new hc0 (.lst ((ns.take 1).map V.int))
 refine ⟨c0, ns.take 1, rfl, SqL.of ups, _, _, rfl, rfl, ⟨by decide, by decide⟩, _, rfl, fun b H1 nms s1 hb0 hb hok hby => ?_⟩
 have s01 := s0.trans s1
 refine hR1 _ _ (xaj fun R2 hR2 => ?_)
 refine ⟨_, rfl, a, ns, 1, rfl, s01.seq hS, h63, by decide, fun r p q nr => ?_⟩
 have sr := Same.new nr (.lst [.int p, .int q])
 have br : b ≠ r := neN hb nr
 refine ⟨_, rfl, r, b, p, q, nms, rfl, ups, sr _ _ hb, hok, br, fun kv ks H2 f2 hk hK hfit => ?_⟩
 have hKo := hK
 obtain ⟨wf, h4, hkn, hKp⟩ := hK
 have sH2 : Same H1 H2 := Fed.back nr sr f2
 have hb2 := sH2 _ _ hb
 have s02 := s01.trans sH2
 obtain ⟨ka, kus, rfl, hka, hku⟩ := id hk
 refine hR2 _ _ (xaj fun R3 hR3 => ?_)
 refine ⟨_, rfl, (by walk_at "s"), fun e1 he1 => ⟨(by walk_at "s"), fun e2 he2 => ⟨(by walk_at "s"), fun fa hfa => ?_⟩⟩⟩
 have sF := (Same.new he1 (.tup [])).trans ((Same.new he2 (.tup [])).trans (Same.new hfa (.tup [.ref ka, .ref e1, .ref e2])))
 have hfa3 : upd (upd (upd H2 e1 (.tup [])) e2 (.tup [])) fa (.tup [.ref ka, .ref e1, .ref e2]) fa = some (.tup [.ref ka, .ref e1, .ref e2]) := ups
 have s03 := s02.trans sF
 have hb3 := sF _ _ hb2
 have hk3 := hk.same sF _
 clear sr f2 hfit
 generalize upd (upd (upd H2 e1 (.tup [])) e2 (.tup [])) fa (.tup [.ref ka, .ref e1, .ref e2]) = H3 at sF hfa3 s03 hb3 hk3 ⊢
 refine hR3 _ _ (xaj fun R4 hR4 => ?_)
 refine ⟨_, rfl, a, ns, 2, rfl, s03.seq hS, h63, by decide, fun r2 p2 q2 nr2 => ?_⟩
 have sr2 := Same.new nr2 (.lst [.int p2, .int q2])
 have br2 : b ≠ r2 := neN hb3 nr2
 refine hR4 _ _ ?_
 apply mergeV (fun mv H' => Same H3 H' /\ ∃ ks2, RelD H' mv (xbg ks2) /\ KBes nms ks2)
 ·intro key
  refine xaj fun R5 hR5 => ?_
  refine ⟨_, rfl, _, rfl, _, rfl, r2, b, .ref ka, p2, q2, ks, nms, rfl, ups, hk3.same sr2 _, hKo, sr2 _ _ hb3, hok, br2, fun mv ks2 H4 f4 rmv hbes => ?_⟩
  obtain ⟨p4, q4, h4'⟩ := f4.2
  refine hR5 _ _ (xaj fun R6 hR6 => ?_)
  refine ⟨_, rfl, r2, p4, q4, 3, rfl, h4', by decide, by decide, fun rr H5 rr0 rr1 f5 => ⟨rfl, _, rfl, ite2 (fun c1 => ?_) (fun c1 => hR6 _ _ (key _ _ ⟨Fed.back nr2 sr2 (f4.trans f5), ks2, rmv.tups (xai ⟨p4, q4, h4'⟩ f5) _, hbes⟩))⟩⟩
  have f45 := f4.trans f5
  obtain ⟨p5, q5, h5'⟩ := f5.2
  exact ⟨_, rfl, _, rfl, r2, b, p5, q5, nms, rfl, h5', f45.1 _ _ (sr2 _ _ hb3) br2, hok, br2, fun v ks3 H6 f6 rv hK3 _ => hR6 _ _ (key _ _ ⟨Fed.back nr2 sr2 (f45.trans f6), ks3, rv, xjh hK3⟩)⟩
 rintro mv H4 ⟨s34, ks2, hk2, wf2, hl2, hpn2⟩
 refine xaj fun R7 hR7 => ?_
 refine ⟨_, rfl, (by walk_at "s"), fun e3 he3 => ⟨(by walk_at "s"), fun e4 he4 => ⟨(by walk_at "s"), fun sa hsa => ?_⟩⟩⟩
 have sS := (Same.new he3 (.tup [])).trans ((Same.new he4 (.tup [])).trans (Same.new hsa (.tup [mv, .ref e3, .ref e4])))
 have hsa5 : upd (upd (upd H4 e3 (.tup [])) e4 (.tup [])) sa (.tup [mv, .ref e3, .ref e4]) sa = some (.tup [mv, .ref e3, .ref e4]) := ups
 have s35 := s34.trans sS
 have hk25 := hk2.same sS _
 generalize upd (upd (upd H4 e3 (.tup [])) e4 (.tup [])) sa (.tup [mv, .ref e3, .ref e4]) = H5 at sS hsa5 s35 hk25 ⊢
 have hfa5 := s35 _ _ hfa3
 have hk15 := hk3.same s35 _
 have pnb1 : PNB ks := fun kk hkk p hp => (hby _ ((xjh hKo).2.2 kk hkk p hp)).1
 have pnb2 : PNB ks2 := fun kk hkk p hp => (hby _ (hpn2 kk hkk p hp)).1
 refine hR7 _ _ (xaj fun R8 hR8 => ?_)
 refine ⟨_, rfl, a, ns, 3, rfl, (s03.trans s35).seq hS, h63, by decide, fun r3 p3 q3 nr3 => ?_⟩
 have sr3 := Same.new nr3 (.lst [.int p3, .int q3])
 refine ⟨_, rfl, _, rfl, r3, fa, .ref ka, mv, _, p3, q3, ks, ks2, rfl, ups, sr3 _ _ hfa5, hk15.same sr3 _, wf, pnb1, hk25.same sr3 _, wf2, pnb2, fun rr ta wa tkv kvs told H6 f6 hrr hta htw hwa hww htok htnd htl => ?_⟩
 have s56 : Same H5 H6 := Fed.back nr3 sr3 f6
 refine ⟨rr, _, rfl, SqT.of hrr, rfl, _, _, rfl, _, _, rfl, rfl, ?_⟩
 refine hR8 _ _ (xaj fun R9 hR9 => ?_)
 have right := xgg wf wf2 htok
 have hynd := xoe (ks2 := ks2) (ks := ks) htnd
 have hyl := xhd (ks2 := ks2) (ks := ks) (ys := told)
 refine ⟨_, rfl, _, rfl, _, rfl, fa, sa, wa, .ref ka, mv, _, _, kvs, ks, ks2, xa1 ks2 ks told, rfl, s56 _ _ hfa5, s56 _ _ hsa5, hk15.same s56 _, wf, hk25.same s56 _, wf2, kl_wf wf2, hwa, hww, hynd, right, fun H7 s67 => ⟨rfl, _, rfl, _, rfl, iteF ?_⟩⟩
 have s57 := s56.trans s67
 refine hR9 _ _ (xaj fun R10 hR10 => ?_)
 refine ⟨(by walk_at "s"), fun l3 hl3 => ?_⟩
 have y3 := Same.new hl3 (.lst [.str (Str.ofString "num")])
 refine ⟨_, rfl, wa, kvs, rfl, y3 _ _ (s67 _ _ hwa), fun l4 hl4 => ?_⟩
 rw [xhp hww]
 have y4 := Same.new hl4 (.lst ((xa1 ks2 ks told).map fun y => V.str y.1))
 refine ⟨l3, l4, _, _, rfl, rfl, y4 _ _ ups, ups, fits (by rw [zLM]; show 1 + _ <= _; omega), fun g hg => ?_⟩
 have y5 := Same.new hg (.lst ([.str (Str.ofString "num")] ++ (xa1 ks2 ks told).map fun y => V.str y.1))
 have hgD : upd (upd (upd H7 l3 (.lst [.str (Str.ofString "num")])) l4 (.lst ((xa1 ks2 ks told).map fun y => V.str y.1))) g (.lst ([.str (Str.ofString "num")] ++ (xa1 ks2 ks told).map fun y => V.str y.1)) g = some (.lst ([.str (Str.ofString "num")] ++ (xa1 ks2 ks told).map fun y => V.str y.1)) := ups
 have s7D := y3.trans (y4.trans y5)
 generalize upd (upd (upd H7 l3 (.lst [.str (Str.ofString "num")])) l4 (.lst ((xa1 ks2 ks told).map fun y => V.str y.1))) g (.lst ([.str (Str.ofString "num")] ++ (xa1 ks2 ks told).map fun y => V.str y.1)) = HD at hgD s7D ⊢
 have s6D := s67.trans s7D
 have s5D := s56.trans s6D
 have sHD := (s03.trans s35).trans s5D
 have tcD : TC HD fa sa wa (.ref ka) mv [.ref e1, .ref e2] [.ref e3, .ref e4] ks ks2 (xa1 ks2 ks told) := ⟨s5D _ _ hfa5, s5D _ _ hsa5, hk15.same s5D _, wf, hk25.same s5D _, wf2, ⟨kvs, .inl (s6D _ _ hwa), hww.tups fun b us e => s6D _ _ e⟩, right⟩
 have htD : WaysAt HD ta told := ⟨tkv, .inl (s6D _ _ hta), htw.tups fun b us e => s6D _ _ e⟩
 have hfew := wf.few
 refine hR10 _ _ (xaj fun R11 hR11 => ?_)
 refine ⟨_, rfl, a, _, rfl, .inl (sHD.seq hS), _, _, rfl, _, _, rfl, _, _, rfl, ⟨by decide, by decide, by split <;> split <;> omega, by split <;> split <;> omega⟩, ?_⟩
 refine xfv (fun i σ HX => ∃ o4 o10 o11 o12 o13, σ = [some (.ref a), some (.ref b), some (.ref ka), some (.ref fa), o4, some mv, some (.ref sa), some (.ref ta), some (.ref wa), some (.ref g), o10, o11, o12, o13] /\ Same HD HX) ⟨_, none, none, none, none, rfl, Same.refl _⟩ ?_ ?_
 ·rintro i σ HX hi ⟨o4, o10, o11, o12, o13, rfl, sX⟩
  refine xaj fun S1 hS1 => ?_
  refine ⟨_, rfl, _, rfl, a, ns, _, rfl, (sHD.trans sX).seq hS, h63, by omega, fun r5 p5 q5 nr5 => ?_⟩
  have sr5 := Same.new nr5 (.lst [.int p5, .int q5])
  have hgX := sr5 _ _ (sX _ _ hgD)
  have hgr : g ≠ r5 := neN (sX _ _ hgD) nr5
  have hgl : ([V.str (Str.ofString "num")] ++ (xa1 ks2 ks told).map fun y => V.str y.1).length = 1 + (xa1 ks2 ks told).length := by rw [List.length_append, zLM]; rfl
  refine hS1 _ _ (xaj fun S2 hS2 => ?_)
  refine ⟨_, rfl, _, rfl, _, rfl, g, _, rfl, .inl (SqL.of hgX), r5, p5, q5, _, rfl, ups, by rw [hgl]; omega, by rw [hgl]; omega, fun r6 H8 r60 r61 f8 => ?_⟩
  rw [hgl] at r61
  obtain ⟨x, gg, hx, hxin, hgo⟩ := xss wf right hynd r60 (by omega)
  refine ⟨g, _, _, _, rfl, rfl, SqL.of (f8.1 _ _ hgX hgr), hx, ?_⟩
  have s8 : Same HX H8 := Fed.back nr5 sr5 f8
  obtain ⟨p8, q8, h8⟩ := f8.2
  refine hS2 _ _ (xaj fun S3 hS3 => ?_)
  refine ⟨_, rfl, _, rfl, _, rfl, r5, .ref ka, p8, q8, ks, x, rfl, h8, tcD.k1.same (sX.trans s8) _, wf, hxin, fun u d H9 f9 ru hvk => ?_⟩
  have s9 : Same HX H9 := Fed.back nr5 sr5 (f8.trans f9)
  have hdp := xjx wf 6 _ _ hxin hvk
  refine hS3 _ _ (xaj fun S4 hS4 => ?_)
  refine ⟨_, rfl, _, rfl, _, rfl, _, rfl, _, rfl, fa, sa, wa, .ref ka, mv, _, _, ks, ks2, xa1 ks2 ks told, SmP ks ks2 told, x, gg, u, d, rfl, tcD.same (sX.trans s9), xs8 wf, hxin, hgo, ru, hvk, fun u2 d2 HA sA r2' hvk2 hsame => ?_⟩
  have sXA := s9.trans sA
  have tcA := tcD.same (sX.trans sXA)
  refine hS4 _ _ (xaj fun S5 hS5 => ?_)
  refine ⟨_, rfl, _, rfl, _, rfl, wa, xa1 ks2 ks told, x, rfl, tcA.w, ?_⟩
  rw [hgo]
  refine ⟨_, rfl, mv, u2, ks2, gg, d2, rfl, tcA.k2, wf2, xgi right hgo, r2', hvk2, fun HB sB => ⟨_, rfl, iteF ?_⟩⟩
  have sXB := sXA.trans sB
  have tcB := tcD.same (sX.trans sXB)
  refine hS5 _ _ ?_
  refine ⟨_, rfl, _, rfl, _, rfl, _, rfl, .ref ka, mv, ta, ks, ks2, told, x, rfl, tcB.k1, wf, tcB.k2, wf2, htD.same (sX.trans sXB), hxin, fun HC sC => ⟨_, rfl, ite2 (fun c1 => ?_) (fun c1 => iteF ?_)⟩⟩
  ·have ed := hsame ⟨6, hxin, c1⟩
   subst ed
   refine ⟨_, rfl, _, rfl, d2, r2'.same (sB.trans sC) _, ru.same (sA.trans (sB.trans sC)) _, by omega, _, rfl, iteF ?_⟩
   exact ⟨_, _, _, _, _, rfl, sX.trans (sXB.trans sC)⟩
  ·exact ⟨_, _, _, _, _, rfl, sX.trans (sXB.trans sC)⟩
 ·rintro σ HX ⟨o4, o10, o11, o12, o13, rfl, sX⟩
  refine hR11 _ _ ?_
  exact k HX
theorem law_is (T : Tx K mg) : DefIs P w K mg base 100 "law" ["_law_script"] (spLaw K) := by
 have take : ∀ k, DefIs P w K mg base (k + 1) "_law_take" ["_law_feed_here", "_law_many"] xb9 := fun k => xcx T
 have size : DefIs P w K mg base 28 "_law_size" ["_law_kinds_here", "_law_kind"] (xfd 6) := (xnj T 6 (by omega)).mono (by omega)
 have parts : DefIs P w K mg base 30 "_law_parts" ["_law_feed_here", "_law_kinds_here", "_law_sort", "_law_names_here"] xgv := xnx T (take 28) (size.mono (by omega))
 have made : DefIs P w K mg base 90 "made_ways" ["first", "second", "told"] xk8 := (xsc T).mono (by omega)
 have anyk : ∀ k, DefIs P w K mg base (k + 2) "_law_any_kind" ["_law_feed_here", "_law_kinds_here"] xpm := fun k => xiv T (take k)
 have nk : DefIs P w K mg base 96 "need_kind" ["kinds", "term", "boxes", "kind"] (xb2 (KdL 22) 100) := xeq (n := 95) T (KdL 22) ((xoj T 22 100 (by omega)).mono (by omega)) (xc8 T)
 have look : DefIs P w K mg base 99 "look_ways" ["first", "second", "ways"] xna := xi1 (n := 98) T (xi3 (n := 97) T (xbc T) (xg6 (n := 96) T (xbc T))) (xi2 (n := 97) T (xme T) (xbc T) (xa0 T)) (xg7 (n := 97) T (xbc T) (xa0 T) (xg9 (n := 96) T (xcc T)) (nk.mono (by omega)))
 have way : DefIs P w K mg base 90 "_law_way" ["_law_feed_here", "_law_first", "_law_kinds_here", "_law_ways", "_law_name"] xro := xr3 (n := 89) T (xa3 T) (anyk 87) (xcc T) ((xkg T).mono (by omega))
 have told : DefIs P w K mg base 91 "_law_told" ["_law_feed_here", "_law_first", "_law_kinds_here"] xm5 := xpx (n := 90) T (take 89) made way
 have bes : DefIs P w K mg base 40 "_law_beside" ["_law_feed_here", "_law_kinds_here", "_law_names_here"] xrp := xmb (n := 39) T (take 38) (xew (n := 38) T (take 37) (anyk 36)) (parts.mono (by omega)) (size.mono (by omega))
 exact ok_law (n := 99) T (xpz T) (take 98) (xny T) ((xnz T (take 29) parts).mono (by omega)) ((xk1 T 6).mono (by omega)) (bes.mono (by omega)) (told.mono (by omega)) ((xlo T 6).mono (by omega)) ((xnn T 6).mono (by omega)) look (xcc T) ((xht T 6).mono (by omega))
end
end K44
end
namespace PySem.W.Fast
theorem tw10549308027735936644:0=0:=rfl
theorem tw10455398253680689350:0=0:=rfl
theorem tw7272685794009859083:0=0:=rfl
theorem tw4914193963732159512:0=0:=rfl
theorem tw5509967938717989391:0=0:=rfl
theorem tw1303762129943253946:0=0:=rfl
theorem tw18396067253718731954:0=0:=rfl
theorem tw13475726962187464660:0=0:=rfl
theorem tw10407894448818631937:0=0:=rfl
theorem tw154840788637892598:0=0:=rfl
theorem tw6752762688474856380:0=0:=rfl
theorem tw1180521208416280586:0=0:=rfl
theorem tw4405068884954009419:0=0:=rfl
theorem tw3958790466781841126:0=0:=rfl
theorem tw7837657104026078416:0=0:=rfl
theorem tw8770197646982066145:0=0:=rfl
theorem tw5807110871672285331:0=0:=rfl
theorem tw6179610475413156679:0=0:=rfl
theorem tw8504236152557754417:0=0:=rfl
theorem tw1243013560189304070:0=0:=rfl
theorem tw8038596063202095374:0=0:=rfl
theorem tw8206805224665186038:0=0:=rfl
theorem tw15343672461668633891:0=0:=rfl
theorem tw15101355915596086940:0=0:=rfl
theorem tw17157525711030045646:0=0:=rfl
theorem tw17914137398859908744:0=0:=rfl
theorem tw14908238296928391333:0=0:=rfl
theorem tw18243083801660551555:0=0:=rfl
theorem tw11415667257771929468:0=0:=rfl
theorem tw7989588306871898474:0=0:=rfl
theorem tw17917083170130837515:0=0:=rfl
theorem tw4563225005727139135:0=0:=rfl
theorem tw6304535039697632010:0=0:=rfl
theorem tw15035368587961831123:0=0:=rfl
theorem tw6630521271901466093:0=0:=rfl
theorem tw11468186070776366586:0=0:=rfl
theorem tw3045667556987618028:0=0:=rfl
theorem tw3313615310945817124:0=0:=rfl
theorem tw9656738177101828435:0=0:=rfl
theorem tw2273572162866771394:0=0:=rfl
theorem tw6302237446880040068:0=0:=rfl
theorem tw4863852855492026689:0=0:=rfl
theorem tw17884312246786996465:0=0:=rfl
theorem tw3841736289087163238:0=0:=rfl
theorem tw4411380848417727870:0=0:=rfl
theorem tw10477683239869776640:0=0:=rfl
theorem tw3784421785090326299:0=0:=rfl
theorem tw6815680586159286661:0=0:=rfl
theorem tw9562275868956093258:0=0:=rfl
theorem tw12392106473740686503:0=0:=rfl
theorem tw329910192098038254:0=0:=rfl
theorem tw17363708202969999197:0=0:=rfl
theorem tw3549859795471744721:0=0:=rfl
theorem tw7717623547369505551:0=0:=rfl
theorem tw9931598349280521799:0=0:=rfl
theorem tw6400930796677424144:0=0:=rfl
theorem tw10207100054032390865:0=0:=rfl
theorem tw7420273658824457122:0=0:=rfl
theorem tw3524095273442689426:0=0:=rfl
theorem tw7485609492663834788:0=0:=rfl
theorem tw1150858615909411986:0=0:=rfl
theorem tw13394023851555138349:0=0:=rfl
theorem tw16971418842769994499:0=0:=rfl
theorem tw5694750240645680370:0=0:=rfl
theorem tw15599351738937141039:0=0:=rfl
theorem tw7205270938998657871:0=0:=rfl
theorem tw2101663528826663623:0=0:=rfl
theorem tw6419347036291634882:0=0:=rfl
theorem tw1636419915398887429:0=0:=rfl
theorem tw2925785850378922043:0=0:=rfl
theorem tw9489143933955714391:0=0:=rfl
theorem tw17625040419904865144:0=0:=rfl
theorem tw2521446246376314984:0=0:=rfl
theorem tw17958697930525272466:0=0:=rfl
theorem tw8386192059791093261:0=0:=rfl
theorem tw2958131901478171139:0=0:=rfl
theorem tw4835369020802904294:0=0:=rfl
theorem tw8775971364291912962:0=0:=rfl
theorem tw16331670595637133409:0=0:=rfl
theorem tw6674866562324020781:0=0:=rfl
theorem tw9936289311875477224:0=0:=rfl
theorem tw1221125029958015443:0=0:=rfl
theorem tw17470042006632368312:0=0:=rfl
theorem tw17677528910429383935:0=0:=rfl
theorem tw6026245132622485485:0=0:=rfl
theorem tw12672190425475553167:0=0:=rfl
theorem tw5008115037566383917:0=0:=rfl
theorem tw14407729529619477846:0=0:=rfl
theorem tw13471367937437086083:0=0:=rfl
theorem tw2198316806266738443:0=0:=rfl
theorem tw15636573107024509804:0=0:=rfl
theorem tw9719804208169219860:0=0:=rfl
theorem tw13941324799197050565:0=0:=rfl
theorem tw7650234125025709280:0=0:=rfl
theorem tw10505575719530156225:0=0:=rfl
theorem tw8455389340951674983:0=0:=rfl
theorem tw3309920713949456084:0=0:=rfl
theorem tw15797446725985682344:0=0:=rfl
theorem tw11804200317805993600:0=0:=rfl
theorem tw6115626875150663055:0=0:=rfl
theorem tw12748997207053674853:0=0:=rfl
theorem tw10250929496323806773:0=0:=rfl
theorem tw6965116479415430826:0=0:=rfl
theorem tw12333669709438248635:0=0:=rfl
theorem tw6531603953323130203:0=0:=rfl
theorem tw3027115957324322521:0=0:=rfl
theorem tw18336293816377027849:0=0:=rfl
theorem tw2999666322989342152:0=0:=rfl
theorem tw3814638450702841813:0=0:=rfl
theorem tw1795342727572426806:0=0:=rfl
theorem tw10438584649297366855:0=0:=rfl
theorem tw3894619382482702555:0=0:=rfl
theorem tw7034863295161127272:0=0:=rfl
theorem tw9297724277021157683:0=0:=rfl
theorem tw12789008349418662634:0=0:=rfl
theorem tw6830263795583884228:0=0:=rfl
theorem tw7426215193130890742:0=0:=rfl
theorem tw2009187994880234714:0=0:=rfl
theorem tw7069353948461866067:0=0:=rfl
theorem tw11808000976515805549:0=0:=rfl
theorem tw8707882864669931894:0=0:=rfl
theorem tw6770110487599252244:0=0:=rfl
theorem tw15206533329858537800:0=0:=rfl
theorem tw8930538661077310448:0=0:=rfl
theorem tw4676626507668719819:0=0:=rfl
theorem tw10791353279451820827:0=0:=rfl
theorem tw11523338430358206189:0=0:=rfl
theorem tw7018806506067432228:0=0:=rfl
theorem tw6239350517304223137:0=0:=rfl
theorem tw3855008748001390925:0=0:=rfl
theorem tw6176023561946210389:0=0:=rfl
theorem tw15218631817183343450:0=0:=rfl
theorem tw16954210886280217661:0=0:=rfl
theorem tw10798056353515484994:0=0:=rfl
theorem tw8897472182004882820:0=0:=rfl
theorem tw13307393361784289862:0=0:=rfl
theorem tw13733781041882027077:0=0:=rfl
theorem tw14622778341465662653:0=0:=rfl
theorem tw10683814651104620112:0=0:=rfl
theorem tw10353111355817319711:0=0:=rfl
theorem tw11286241979052254499:0=0:=rfl
theorem tw4590047593584578606:0=0:=rfl
theorem tw13580677499247250695:0=0:=rfl
theorem tw7725664380741224969:0=0:=rfl
theorem tw737750279360339300:0=0:=rfl
theorem tw9428608028457668712:0=0:=rfl
theorem tw4208896512414508326:0=0:=rfl
theorem tw11835796212355137607:0=0:=rfl
theorem tw15821488725501339411:0=0:=rfl
theorem tw5150064081716032598:0=0:=rfl
theorem tw12325201537839359530:0=0:=rfl
theorem tw17556110221875729826:0=0:=rfl
theorem tw14350923159951362811:0=0:=rfl
theorem tw654666975376750285:0=0:=rfl
theorem tw13092931375269803103:0=0:=rfl
theorem tw17843223600004433649:0=0:=rfl
theorem tw3947417798647386723:0=0:=rfl
theorem tw15403637157517146672:0=0:=rfl
theorem tw19203489729780068:0=0:=rfl
theorem tw15985928965078444690:0=0:=rfl
theorem tw1234883340230137971:0=0:=rfl
theorem tw14706387900552718114:0=0:=rfl
theorem tw6864756619865948146:0=0:=rfl
theorem tw8171754265983834550:0=0:=rfl
theorem tw508891991962001160:0=0:=rfl
theorem tw8453618302440173790:0=0:=rfl
theorem tw12863047997228012080:0=0:=rfl
theorem tw6072087782749374969:0=0:=rfl
theorem tw17695237850037232139:0=0:=rfl
theorem tw17939124491530006922:0=0:=rfl
theorem tw12730776074871187565:0=0:=rfl
theorem tw13255999766521663405:0=0:=rfl
theorem tw15445071387437771894:0=0:=rfl
theorem tw16862123734636181066:0=0:=rfl
theorem tw7650294731058409918:0=0:=rfl
theorem tw4243629313589948953:0=0:=rfl
theorem tw17423965777210649453:0=0:=rfl
theorem tw7731587566553387304:0=0:=rfl
theorem tw7581736281665572319:0=0:=rfl
theorem tw2844408732170035643:0=0:=rfl
theorem tw7357922286272804079:0=0:=rfl
theorem tw1540233952705762219:0=0:=rfl
theorem tw13895570228542090646:0=0:=rfl
theorem tw7282984727889570077:0=0:=rfl
theorem tw1607052019596967818:0=0:=rfl
theorem tw12954503844414529623:0=0:=rfl
theorem tw6719387228187132923:0=0:=rfl
theorem tw5166045501657175806:0=0:=rfl
theorem tw7477495045382689387:0=0:=rfl
theorem tw14173567035822490887:0=0:=rfl
theorem tw12891382347565566508:0=0:=rfl
theorem tw15803066061230730952:0=0:=rfl
theorem tw12942106190697394458:0=0:=rfl
theorem tw2913092746540744981:0=0:=rfl
theorem tw17304836117194713986:0=0:=rfl
theorem tw12745834242437703489:0=0:=rfl
theorem tw6665177315858650982:0=0:=rfl
theorem tw10514302174565054073:0=0:=rfl
theorem tw2476725023298227024:0=0:=rfl
theorem tw1010953551487148672:0=0:=rfl
theorem tw1903862064837759278:0=0:=rfl
theorem tw13595659455856248880:0=0:=rfl
theorem tw17337365239525419797:0=0:=rfl
theorem tw16208341527909293887:0=0:=rfl
theorem tw226455034402320518:0=0:=rfl
theorem tw15566904094190035084:0=0:=rfl
theorem tw6874554099818116971:0=0:=rfl
theorem tw15398931401595580620:0=0:=rfl
theorem tw1750247449234624810:0=0:=rfl
theorem tw14514565157514574249:0=0:=rfl
theorem tw6394337565407510318:0=0:=rfl
theorem tw14905850689536522828:0=0:=rfl
theorem tw14574202075785365831:0=0:=rfl
theorem tw15678860432387026011:0=0:=rfl
theorem tw12159665308724357241:0=0:=rfl
theorem tw10936650507035839801:0=0:=rfl
theorem tw8236418142739489903:0=0:=rfl
theorem tw16683221702707587666:0=0:=rfl
theorem tw7347114993844894458:0=0:=rfl
theorem tw15582913368009964022:0=0:=rfl
theorem tw7160469111795135724:0=0:=rfl
theorem tw13597176262610476565:0=0:=rfl
theorem tw14554771670309792280:0=0:=rfl
theorem tw15370652781460183260:0=0:=rfl
theorem tw15881567759393735276:0=0:=rfl
theorem tw7725992170203820083:0=0:=rfl
theorem tw17550846483956873282:0=0:=rfl
theorem tw12337689216045628297:0=0:=rfl
theorem tw2501092244855385895:0=0:=rfl
theorem tw3149565015121714400:0=0:=rfl
theorem tw8802160827754212554:0=0:=rfl
theorem tw8513208523222392923:0=0:=rfl
theorem tw6579492441283870731:0=0:=rfl
theorem tw14970535471164288665:0=0:=rfl
theorem tw17947003150668488254:0=0:=rfl
theorem tw12340215289108523888:0=0:=rfl
theorem tw17072573056191184503:0=0:=rfl
theorem tw13438766891336571808:0=0:=rfl
theorem tw5031643175550281841:0=0:=rfl
theorem tw16894194059312198492:0=0:=rfl
theorem tw7694517633173350531:0=0:=rfl
theorem tw6192965597310124390:0=0:=rfl
theorem tw8189783935107494726:0=0:=rfl
theorem tw9031157998763883873:0=0:=rfl
theorem tw9254325465458616411:0=0:=rfl
theorem tw8992940706644495191:0=0:=rfl
theorem tw4031166170670922466:0=0:=rfl
theorem tw2426954600458299341:0=0:=rfl
theorem tw2210137074570931163:0=0:=rfl
theorem tw6672548699195948725:0=0:=rfl
theorem tw3676771701903946852:0=0:=rfl
theorem tw18155708616612629593:0=0:=rfl
theorem tw7125227977769083961:0=0:=rfl
theorem tw7388764912859914605:0=0:=rfl
theorem tw5325219432709026042:0=0:=rfl
theorem tw11582527715399614907:0=0:=rfl
theorem tw10837008816128556355:0=0:=rfl
theorem tw12150004646333698793:0=0:=rfl
theorem tw5033062716459856462:0=0:=rfl
theorem tw5688379862118917312:0=0:=rfl
theorem tw10883285006198005088:0=0:=rfl
theorem tw16608646813487986426:0=0:=rfl
theorem tw4902172542554038336:0=0:=rfl
theorem tw13915483452525684359:0=0:=rfl
theorem tw3023781442287280838:0=0:=rfl
theorem tw637145424668840102:0=0:=rfl
theorem tw11449635917936605485:0=0:=rfl
theorem tw852982411826784498:0=0:=rfl
theorem tw9536423635989117881:0=0:=rfl
theorem tw5958460967203970811:0=0:=rfl
theorem tw6854131627764443065:0=0:=rfl
theorem tw10846062924052852515:0=0:=rfl
theorem tw1946176702540604842:0=0:=rfl
theorem tw7075722983626442211:0=0:=rfl
theorem tw11106031210183557398:0=0:=rfl
theorem tw15529484140724221353:0=0:=rfl
theorem tw7854268094405337094:0=0:=rfl
theorem tw17644646420360830216:0=0:=rfl
theorem tw2118759280585045059:0=0:=rfl
theorem tw14006215703203074927:0=0:=rfl
theorem tw1128662039228631214:0=0:=rfl
theorem tw18024136319409333237:0=0:=rfl
theorem tw9903649316381893908:0=0:=rfl
theorem tw13556163261652984268:0=0:=rfl
theorem tw6633272652972472374:0=0:=rfl
theorem tw6928753822485841627:0=0:=rfl
theorem tw11258541871593097310:0=0:=rfl
theorem tw11304559360941389701:0=0:=rfl
theorem tw13710237302115573403:0=0:=rfl
theorem tw16173802227319427892:0=0:=rfl
theorem tw6245873381155616160:0=0:=rfl
theorem tw17922299931011239619:0=0:=rfl
theorem tw8448913446182179713:0=0:=rfl
theorem tw3263615690081386161:0=0:=rfl
theorem tw4052207499923827078:0=0:=rfl
theorem tw3213513155646348123:0=0:=rfl
theorem tw14328163427015633213:0=0:=rfl
theorem tw8285618763236513402:0=0:=rfl
theorem tw13149956837957580486:0=0:=rfl
theorem tw12040875850697567932:0=0:=rfl
theorem tw10376854807174132483:0=0:=rfl
theorem tw747832849724055906:0=0:=rfl
theorem tw9140892295673301861:0=0:=rfl
theorem tw6930835869864357048:0=0:=rfl
theorem tw14449167351314165874:0=0:=rfl
theorem tw17244445825880469522:0=0:=rfl
theorem tw2530947477546959136:0=0:=rfl
theorem tw2679775163263020587:0=0:=rfl
theorem tw10310341479575592084:0=0:=rfl
theorem tw9979199179325794048:0=0:=rfl
theorem tw4291615146158903058:0=0:=rfl
theorem tw6628207095495773243:0=0:=rfl
theorem tw15593394937619406461:0=0:=rfl
theorem tw16727790733653410988:0=0:=rfl
theorem tw10197281987439478086:0=0:=rfl
theorem tw16878042708462852388:0=0:=rfl
theorem tw18417844573866720126:0=0:=rfl
theorem tw9312039576977267858:0=0:=rfl
theorem tw9168259800777671997:0=0:=rfl
theorem tw13859133829556990963:0=0:=rfl
theorem tw1345673440583469813:0=0:=rfl
theorem tw13702293812240430659:0=0:=rfl
theorem tw12037061204896123016:0=0:=rfl
theorem tw15980956661592037304:0=0:=rfl
theorem tw4700696808755569955:0=0:=rfl
theorem tw4015447465702843240:0=0:=rfl
theorem tw11211531394738803604:0=0:=rfl
theorem tw10068487899917613306:0=0:=rfl
theorem tw1893126149786760701:0=0:=rfl
theorem tw8508767311136577360:0=0:=rfl
theorem tw6868837878305065459:0=0:=rfl
theorem tw3415503014918884659:0=0:=rfl
theorem tw8670490525755896268:0=0:=rfl
theorem tw396990759365343405:0=0:=rfl
theorem tw4695999719220390793:0=0:=rfl
theorem tw3043265568410896501:0=0:=rfl
theorem tw14406097177097575640:0=0:=rfl
end PySem.W.Fast
open PySem PySem.W PyProof.Rows
set_option maxRecDepth 100000 in
set_option maxHeartbeats 0 in
theorem PySem.Challenge.cw_swapstride_k44_whole_turned_is_of_its_ki_holds : PySem.Challenge.rw_swapstride_k44_whole_turned_is_of_its_ki.Holds := by
 w_on; o_law; k_head; (case hw => w_witness2)
 k_fill
 refine L2.walk_of (l := PySem.Challenge.rw_swapstride_k44_whole_turned_is_of_its_ki) (n := 63) (k := 100) (x := "_law_script") (CX := fun _ => L2.CX0) (sp := fun _ => K44.spLaw _) rfl (by decide) rfl ⟨rfl, by decide, by decide⟩ (fun w h Y => PySem.W.kIn_of Y) ?F (fun _ _ a ns hl _ hS => ⟨a, ns, rfl, hS, hl, fun _ => rfl⟩) fun _ _ _ _ _ z => z
 case F =>
  intro w mg fa h KX G hmg
  have d_need_once : L2.DefTx (L2.KOf KX) mg "need_once" K44.s_need_once ["names", "things"] := by
   walk_at "d"
  have d_sort_of : L2.DefTx (L2.KOf KX) mg "sort_of" K44.s_sort_of ["kinds", "K"] := by
   walk_at "d"
  have d_parts_of : L2.DefTx (L2.KOf KX) mg "parts_of" K44.s_parts_of ["kinds", "K"] := by
   walk_at "d"
  have d_need_there : L2.DefTx (L2.KOf KX) mg "need_there" K44.s_need_there ["kinds", "kind"] := by
   walk_at "d"
  have d_kind_of : L2.DefTx (L2.KOf KX) mg "kind_of" K44.s_kind_of ["kinds", "term", "boxes"] := by
   walk_at "d"
  have d_num_kind : L2.DefTx (L2.KOf KX) mg "num_kind" K44.s_num_kind ["n"] := by
   walk_at "d"
  have d_box_kind : L2.DefTx (L2.KOf KX) mg "box_kind" K44.s_box_kind ["x", "boxes"] := by
   walk_at "d"
  have d_op_kind : L2.DefTx (L2.KOf KX) mg "op_kind" K44.s_op_kind ["kinds", "term", "boxes"] := by
   walk_at "d"
  have d_rec_kind : L2.DefTx (L2.KOf KX) mg "rec_kind" K44.s_rec_kind ["kinds", "term", "boxes"] := by
   walk_at "d"
  have d_get_kind : L2.DefTx (L2.KOf KX) mg "get_kind" K44.s_get_kind ["kinds", "term", "boxes"] := by
   walk_at "d"
  have d_tag_kind : L2.DefTx (L2.KOf KX) mg "tag_kind" K44.s_tag_kind ["kinds", "term", "boxes"] := by
   walk_at "d"
  have d_case_kind : L2.DefTx (L2.KOf KX) mg "case_kind" K44.s_case_kind ["kinds", "term", "boxes"] := by
   walk_at "d"
  have d_arm_kind : L2.DefTx (L2.KOf KX) mg "arm_kind" K44.s_arm_kind ["kinds", "kind", "arm", "boxes"] := by
   walk_at "d"
  have d_if_kind : L2.DefTx (L2.KOf KX) mg "if_kind" K44.s_if_kind ["kinds", "term", "boxes"] := by
   walk_at "d"
  have d_need_kind : L2.DefTx (L2.KOf KX) mg "need_kind" K44.s_need_kind ["kinds", "term", "boxes", "kind"] := by
   walk_at "d"
  have d_need_same : L2.DefTx (L2.KOf KX) mg "need_same" K44.s_need_same ["found", "kind"] := by
   walk_at "d"
  have d_need_sort : L2.DefTx (L2.KOf KX) mg "need_sort" K44.s_need_sort ["kinds", "name", "sort"] := by
   walk_at "d"
  have d_kind_of_sort : L2.DefTx (L2.KOf KX) mg "kind_of_sort" K44.s_kind_of_sort ["kinds", "term", "boxes", "sort"] := by
   walk_at "d"
  have d_part_kind : L2.DefTx (L2.KOf KX) mg "part_kind" K44.s_part_kind ["kinds", "kind", "name"] := by
   walk_at "d"
  have d_need_tags : L2.DefTx (L2.KOf KX) mg "need_tags" K44.s_need_tags ["kinds", "kind", "arms"] := by
   walk_at "d"
  have d_with_box : L2.DefTx (L2.KOf KX) mg "with_box" K44.s_with_box ["boxes", "x", "thing"] := by
   walk_at "d"
  have d_nought_term : L2.DefTx (L2.KOf KX) mg "nought_term" K44.s_nought_term ["kinds", "kind"] := by
   walk_at "d"
  have d_goes_to : L2.DefTx (L2.KOf KX) mg "goes_to" K44.s_goes_to ["ways", "kind"] := by
   walk_at "d"
  have d_boxes_over : L2.DefTx (L2.KOf KX) mg "boxes_over" K44.s_boxes_over ["ways", "parts"] := by
   walk_at "d"
  have d_look_ways : L2.DefTx (L2.KOf KX) mg "look_ways" K44.s_look_ways ["first", "second", "ways"] := by
   walk_at "d"
  have d_look_ends : L2.DefTx (L2.KOf KX) mg "look_ends" K44.s_look_ends ["first", "second", "K", "K2"] := by
   walk_at "d"
  have d_look_form : L2.DefTx (L2.KOf KX) mg "look_form" K44.s_look_form ["first", "K", "how"] := by
   walk_at "d"
  have d_is_term : L2.DefTx (L2.KOf KX) mg "is_term" K44.s_is_term ["how"] := by
   walk_at "d"
  have d_look_terms : L2.DefTx (L2.KOf KX) mg "look_terms" K44.s_look_terms ["first", "second", "ways", "K"] := by
   walk_at "d"
  have d_made_ways : L2.DefTx (L2.KOf KX) mg "made_ways" K44.s_made_ways ["first", "second", "told"] := by
   walk_at "d"
  have d_how_by_rules : L2.DefTx (L2.KOf KX) mg "how_by_rules" K44.s_how_by_rules ["kinds", "ways", "kind"] := by
   walk_at "d"
  have d_terms_by_rules : L2.DefTx (L2.KOf KX) mg "terms_by_rules" K44.s_terms_by_rules ["kinds", "ways", "olds", "news"] := by
   walk_at "d"
  have d_tags_by_rules : L2.DefTx (L2.KOf KX) mg "tags_by_rules" K44.s_tags_by_rules ["kinds", "ways", "kind"] := by
   walk_at "d"
  have d_field : L2.DefTx (L2.KOf KX) mg "field" K44.s_field ["kinds", "value", "f"] := by
   walk_at "d"
  have d_worth : L2.DefTx (L2.KOf KX) mg "worth" K44.s_worth ["kinds", "term", "boxes"] := by
   walk_at "d"
  have d_op_worth : L2.DefTx (L2.KOf KX) mg "op_worth" K44.s_op_worth ["sign", "a", "b"] := by
   walk_at "d"
  have d_case_worth : L2.DefTx (L2.KOf KX) mg "case_worth" K44.s_case_worth ["kinds", "term", "boxes"] := by
   walk_at "d"
  have d_turned : L2.DefTx (L2.KOf KX) mg "turned" K44.s_turned ["first", "second", "ways", "kind", "value"] := by
   walk_at "d"
  have d_turned_boxes : L2.DefTx (L2.KOf KX) mg "turned_boxes" K44.s_turned_boxes ["first", "second", "ways", "parts", "values"] := by
   walk_at "d"
  have dl_feed : L2.DefTx (L2.KOf KX) mg "_law_feed" K44.sl_feed ["_law_script", "_law_k"] := by
   walk_at "d"
  have dl_take : L2.DefTx (L2.KOf KX) mg "_law_take" K44.sl_take ["_law_feed_here", "_law_many"] := by
   walk_at "d"
  have dl_names : L2.DefTx (L2.KOf KX) mg "_law_names" K44.sl_names ["_law_cell", "_law_many"] := by
   walk_at "d"
  have dl_number : L2.DefTx (L2.KOf KX) mg "_law_number" K44.sl_number ["_law_feed_here"] := by
   walk_at "d"
  have dl_sort_of : L2.DefTx (L2.KOf KX) mg "_law_sort_of" K44.sl_sort_of ["_law_kinds_here", "_law_kind"] := by
   walk_at "d"
  have dl_size : L2.DefTx (L2.KOf KX) mg "_law_size" K44.sl_size ["_law_kinds_here", "_law_kind"] := by
   walk_at "d"
  have dl_small : L2.DefTx (L2.KOf KX) mg "_law_small" K44.sl_small ["_law_kinds_here", "_law_kind"] := by
   walk_at "d"
  have dl_parts : L2.DefTx (L2.KOf KX) mg "_law_parts" K44.sl_parts ["_law_feed_here", "_law_kinds_here", "_law_sort", "_law_names_here"] := by
   walk_at "d"
  have dl_kinds : L2.DefTx (L2.KOf KX) mg "_law_kinds" K44.sl_kinds ["_law_feed_here", "_law_names_here"] := by
   walk_at "d"
  have dl_boxed : L2.DefTx (L2.KOf KX) mg "_law_boxed" K44.sl_boxed ["_law_feed_here", "_law_some"] := by
   walk_at "d"
  have dl_arms : L2.DefTx (L2.KOf KX) mg "_law_arms" K44.sl_arms ["_law_feed_here", "_law_kinds_here", "_law_boxes", "_law_parts_here", "_law_kind", "_law_room", "_law_deep"] := by
   walk_at "d"
  have dl_whole_term : L2.DefTx (L2.KOf KX) mg "_law_whole_term" K44.sl_whole_term ["_law_feed_here", "_law_kinds_here", "_law_boxes", "_law_kind", "_law_room", "_law_deep"] := by
   walk_at "d"
  have dl_term : L2.DefTx (L2.KOf KX) mg "_law_term" K44.sl_term ["_law_feed_here", "_law_kinds_here", "_law_boxes", "_law_kind", "_law_room", "_law_deep"] := by
   walk_at "d"
  have dl_new_term : L2.DefTx (L2.KOf KX) mg "_law_new_term" K44.sl_new_term ["_law_feed_here", "_law_kinds_here", "_law_boxes", "_law_kind"] := by
   walk_at "d"
  have dl_any_kind : L2.DefTx (L2.KOf KX) mg "_law_any_kind" K44.sl_any_kind ["_law_feed_here", "_law_kinds_here"] := by
   walk_at "d"
  have dl_beside_parts : L2.DefTx (L2.KOf KX) mg "_law_beside_parts" K44.sl_beside_parts ["_law_feed_here", "_law_kinds_here", "_law_sort", "_law_parts_here", "_law_names_here"] := by
   walk_at "d"
  have dl_beside : L2.DefTx (L2.KOf KX) mg "_law_beside" K44.sl_beside ["_law_feed_here", "_law_kinds_here", "_law_names_here"] := by
   walk_at "d"
  have dl_way : L2.DefTx (L2.KOf KX) mg "_law_way" K44.sl_way ["_law_feed_here", "_law_first", "_law_kinds_here", "_law_ways", "_law_name"] := by
   walk_at "d"
  have dl_told : L2.DefTx (L2.KOf KX) mg "_law_told" K44.sl_told ["_law_feed_here", "_law_first", "_law_kinds_here"] := by
   walk_at "d"
  have dl_value : L2.DefTx (L2.KOf KX) mg "_law_value" K44.sl_value ["_law_feed_here", "_law_kinds_here", "_law_kind"] := by
   walk_at "d"
  have dl_is_of : L2.DefTx (L2.KOf KX) mg "_law_is_of" K44.sl_is_of ["_law_kinds_here", "_law_kind", "_law_value_here"] := by
   walk_at "d"
  have dl_same : L2.DefTx (L2.KOf KX) mg "_law_same" K44.sl_same ["_law_kinds_here", "_law_more", "_law_told_here", "_law_kind"] := by
   walk_at "d"
  have d_law : L2.DefTx (L2.KOf KX) mg "law" K44.s_law ["_law_script"] := by
   walk_at "d"
  have g_WIDE : ∃ t, mg "WIDE" = some (.int 4294967296 t) := by
   refine' L2.gint_mk KX G ?a
   (case a => k_is)
  have z_all : mg "all" = none := by
   refine' PySem.W.mg_none_of KX G ?a
   (case a => k_is)
  have z_bool : mg "bool" = none := by
   refine' PySem.W.mg_none_of KX G ?a
   (case a => k_is)
  have z_dict : mg "dict" = none := by
   refine' PySem.W.mg_none_of KX G ?a
   (case a => k_is)
  have z_int : mg "int" = none := by
   refine' PySem.W.mg_none_of KX G ?a
   (case a => k_is)
  have z_isinstance : mg "isinstance" = none := by
   refine' PySem.W.mg_none_of KX G ?a
   (case a => k_is)
  have z_len : mg "len" = none := by
   refine' PySem.W.mg_none_of KX G ?a
   (case a => k_is)
  have z_list : mg "list" = none := by
   refine' PySem.W.mg_none_of KX G ?a
   (case a => k_is)
  have z_max : mg "max" = none := by
   refine' PySem.W.mg_none_of KX G ?a
   (case a => k_is)
  have z_min : mg "min" = none := by
   refine' PySem.W.mg_none_of KX G ?a
   (case a => k_is)
  have z_range : mg "range" = none := by
   refine' PySem.W.mg_none_of KX G ?a
   (case a => k_is)
  have z_set : mg "set" = none := by
   refine' PySem.W.mg_none_of KX G ?a
   (case a => k_is)
  have z_str : mg "str" = none := by
   refine' PySem.W.mg_none_of KX G ?a
   (case a => k_is)
  have z_sum : mg "sum" = none := by
   refine' PySem.W.mg_none_of KX G ?a
   (case a => k_is)
  have z_tuple : mg "tuple" = none := by
   refine' PySem.W.mg_none_of KX G ?a
   (case a => k_is)
  have z_zip : mg "zip" = none := by
   refine' PySem.W.mg_none_of KX G ?a
   (case a => k_is)
  have T : K44.Tx (L2.KOf KX) mg := ⟨d_need_once, d_sort_of, d_parts_of, d_need_there, d_kind_of, d_num_kind, d_box_kind, d_op_kind, d_rec_kind, d_get_kind, d_tag_kind, d_case_kind, d_arm_kind, d_if_kind, d_need_kind, d_need_same, d_need_sort, d_kind_of_sort, d_part_kind, d_need_tags, d_with_box, d_nought_term, d_goes_to, d_boxes_over, d_look_ways, d_look_ends, d_look_form, d_is_term, d_look_terms, d_made_ways, d_how_by_rules, d_terms_by_rules, d_tags_by_rules, d_field, d_worth, d_op_worth, d_case_worth, d_turned, d_turned_boxes, dl_feed, dl_take, dl_names, dl_number, dl_sort_of, dl_size, dl_small, dl_parts, dl_kinds, dl_boxed, dl_arms, dl_whole_term, dl_term, dl_new_term, dl_any_kind, dl_beside_parts, dl_beside, dl_way, dl_told, dl_value, dl_is_of, dl_same, d_law, g_WIDE, z_all, z_bool, z_dict, z_int, z_isinstance, z_len, z_list, z_max, z_min, z_range, z_set, z_str, z_sum, z_tuple, z_zip⟩
  exact L2.law_top d_law hmg fun base => K44.law_is T
