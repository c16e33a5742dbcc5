import PyProof.Rows.All
import Wide.All
import OpenK.AllK
import Wide.FinOn
import Lean
import PyProof.EqAt
import PyProof.EqKinds
import PyProof.TupleCall
import PyProof.ZipIter
import PyProof.ListNew
import PyProof.TupleIter
import PyProof.WalksMore
import KE.KIntText
import PyProof.Rows.EqBoolInt
import PyProof.Rows.ZipGen
import PySem.Str
import PyProof.StrLawsTight
import PyProof.StrLawsIdx
import PyProof.StrLawsIn
import PyProof.Rows.SetFrom
import KE.KDictSum
import PyProof.Rows.SortWalk
import PyProof.NeKinds
import KE.KDictList
import KE.KRevIter
import PyProof.EnumMake
import PyProof.Rows.EnumRows
import PyProof.ExcInit
import PyProof.InstStoreFacts
import PyProof.ExcArgsOwn
import PyProof.ExcAttrAll.ValueError
import PyProof.ExcBaseAll.ValueError
import PyProof.ConsumeWalk
import PyProof.AttrMissHeap
import KE.KItemsList
import KE.KEqDict
import PyProof.StationsW
import PyProof.RulesAs
import PyProof.NsDelKeeps
import PySem.Challenge.RW_swapstride_k18_terms_refused
set_option Elab.async false
set_option linter.all false
set_option maxRecDepth 100000
set_option maxHeartbeats 4000000
local macro_rules | `(tactic| walk_at "o") => `(tactic| first | exact Or.inl rfl | exact Or.inr rfl)
local macro_rules | `(tactic| walk_at "q") => `(tactic| exact ⟨rfl, rfl, rfl, by decide +kernel, rfl, by decide +kernel, by decide +kernel⟩)
local macro_rules | `(tactic| walk_at "k") => `(tactic| decide +kernel)
local macro_rules | `(tactic| walk_at "c") => `(tactic| ((case a => k_is); (case l => k_is); (case c => k_is); (case k => k_is)))
set_option hygiene false in
local macro_rules | `(tactic| walk_at "d") => `(tactic| (dsimp only [L2.KOf]; refine' L2.deftx_mk KX G ?a ?l ?c ?k ?b; (case a => k_is); (case l => k_is); (case c => k_is); (case k => k_is); (case b => first | exact (fun _ _ _ _ _ _ us hl => match us, hl with | [_], _ => rfl) | exact (fun _ _ _ _ _ _ us hl => match us, hl with | [_, _], _ => rfl) | exact (fun _ _ _ _ _ _ us hl => match us, hl with | [_, _, _], _ => rfl) | exact (fun _ _ _ _ _ _ us hl => match us, hl with | [_, _, _, _], _ => rfl) | exact (fun _ _ _ _ _ _ us hl => match us, hl with | [_, _, _, _, _], _ => rfl) | exact (fun _ _ _ _ _ _ us hl => match us, hl with | [_, _, _, _, _, _], _ => rfl) | exact (fun _ _ _ _ _ _ us hl => match us, hl with | [_, _, _, _, _, _, _], _ => rfl))))
set_option hygiene false in
local macro_rules | `(tactic| walk_at "i") => `(tactic| first | intro f cdv A outer s H vs Q E hr h | intro vs H Q E h)
local macro_rules | `(tactic| walk_at "s") => `(tactic| first | (show 2 ≤ PySem.sizeLine; decide) | (show 3 ≤ PySem.sizeLine; decide) | (show 1 ≤ PySem.sizeLine; decide) | (show 0 ≤ PySem.sizeLine; decide) | (show 4 ≤ PySem.sizeLine; decide) | (show 5 ≤ PySem.sizeLine; decide) | (show 6 ≤ PySem.sizeLine; decide) | (show 8 ≤ PySem.sizeLine; decide))
namespace L2
open PySem PySem.Spec PyProof.Rows
abbrev Key := Sum Int Str
def keyIs : Key -> Value -> Bool
 | .inl k, v => Value.isInt k v
 | .inr x, v => Value.isStrOf x v
def keyH (w : World) : Key -> Int
 | .inl k => hashInt k
 | .inr x => hashStr w x
theorem xa3 : ∀ {k : Key} {v : Value}, keyIs k v = true -> (∃ i t, k = Sum.inl i /\ v = Value.int i t) \/ (∃ x t, k = Sum.inr x /\ v = Value.str x t)
 | .inl i, v, h => by
  obtain ⟨t, e⟩ := Value.isInt_shape (k := i) (v := v) h
  exact .inl ⟨i, t, rfl, e⟩
 | .inr x, v, h => by
  obtain ⟨t, e⟩ := Value.isStrOf_shape (x := x) (v := v) h
  exact .inr ⟨x, t, rfl, e⟩
theorem keyIs_int (i : Int) (t : Tok) : keyIs (.inl i) (.int i t) = true := by simp [keyIs, Value.isInt]
theorem keyIs_str (x : Str) (t : Tok) : keyIs (.inr x) (.str x t) = true := by simp [keyIs, Value.isStrOf]
theorem key_ll (a b : Int) : decide ((Sum.inl a : Key) = Sum.inl b) = (a == b) := by
 by_cases e : a = b
 ·subst e; simp
 ·have h : ¬ (Sum.inl a : Key) = Sum.inl b := fun q => e (Sum.inl.inj q)
  rw [decide_eq_false h]
  exact (beq_eq_false_iff_ne.mpr e).symm
theorem key_rr (a b : Str) : decide ((Sum.inr a : Key) = Sum.inr b) = decide (a = b) := by
 by_cases e : a = b
 ·subst e; simp
 ·have h : ¬ (Sum.inr a : Key) = Sum.inr b := fun q => e (Sum.inr.inj q)
  rw [decide_eq_false h, decide_eq_false e]
theorem key_lr (a : Int) (b : Str) : decide ((Sum.inl a : Key) = Sum.inr b) = false := decide_eq_false (fun q => nomatch q)
theorem key_rl (a : Str) (b : Int) : decide ((Sum.inr a : Key) = Sum.inl b) = false := decide_eq_false (fun q => nomatch q)
def xbb (prog : Program) (w : World) : PySem.KeyKind prog w Key where
 is := keyIs
 hash := keyH w
 inj := fun v a b ha hb => by
  rcases xa3 ha with ⟨i, t, rfl, rfl⟩ | ⟨x, t, rfl, rfl⟩
  ·rcases xa3 hb with ⟨j, u, rfl, e⟩ | ⟨y, u, rfl, e⟩
   ·injection e with e1 _; rw [e1]
   ·exact nomatch e
  ·rcases xa3 hb with ⟨j, u, rfl, e⟩ | ⟨y, u, rfl, e⟩
   ·exact nomatch e
   ·injection e with e1 _; rw [e1]
 byValue := fun k v h => by
  rcases xa3 h with ⟨i, t, rfl, rfl⟩ | ⟨x, t, rfl, rfl⟩ <;> rfl
 pyHash := fun hv h => by
  rcases xa3 hv with ⟨i, t, rfl, rfl⟩ | ⟨x, t, rfl, rfl⟩
  ·exact wpAny_pyHash_int h
  ·exact wpAny_pyHash_str h
 eqBool := fun hu hv h => by
  rcases xa3 hu with ⟨i, t, rfl, rfl⟩ | ⟨x, t, rfl, rfl⟩
  ·rcases xa3 hv with ⟨j, u, rfl, rfl⟩ | ⟨y, u, rfl, rfl⟩
   ·rw [key_ll] at h; exact wpAny_eqBool_int h
   ·rw [key_lr] at h; exact SeqAt.EqAt.int_str i t y u _ _ _ _ h
  ·rcases xa3 hv with ⟨j, u, rfl, rfl⟩ | ⟨y, u, rfl, rfl⟩
   ·rw [key_rl] at h; exact SeqAt.EqAt.str_int x t j u _ _ _ _ h
   ·rw [key_rr] at h; exact wpAny_eqBool_str h
 «strs» := fun k x t v h => by
  rcases xa3 h with ⟨i, u, rfl, e⟩ | ⟨y, u, rfl, e⟩
  ·exact nomatch e
  ·injection e with e1 _
   subst e1
   cases v <;> rfl
theorem mixKind_int (prog : Program) (w : World) (i : Int) (t : Tok) : (xbb prog w).is (.inl i) (.int i t) = true := keyIs_int i t
theorem mixKind_str (prog : Program) (w : World) (x : Str) (t : Tok) : (xbb prog w).is (.inr x) (.str x t) = true := keyIs_str x t
end L2
namespace L2
open PySem PySem.Spec PyProof.Rows
inductive V where
 | non | bl (b : Bool) | int (i : Int) | str (x : Str) | byt (b : Array UInt8) | flt (b : UInt64) | ref (a : Addr) | ty (n : String)
 deriving DecidableEq
def RelV : V -> Value -> Prop
 | .non, u => u = Value.none
 | .bl b, u => u = Value.bool b
 | .int i, u => ∃ t, u = Value.int i t
 | .str x, u => ∃ t, u = Value.str x t
 | .byt b, u => ∃ t, u = Value.bytes b t
 | .flt b, u => ∃ t, u = Value.float b t
 | .ref a, u => u = Value.ref a
 | .ty n, u => u = Value.type n
abbrev Vals : List V -> List Value -> Prop := Paired RelV
theorem Vals.length {xs : List V} {us : List Value} (r : Vals xs us) : xs.length = us.length := Paired.length r
theorem Vals.get : ∀ {xs : List V} {us : List Value} {i : Nat} {x : V}, Vals xs us -> xs[i]? = some x -> ∃ u, us[i]? = some u /\ RelV x u
 | _, _, _, _, .nil, e => by simp at e
 | _, _, 0, _, .cons r _, e => by simp at e; subst e; exact ⟨_, rfl, r⟩
 | _, _, i + 1, x, .cons _ t, e => by
  obtain ⟨u, h1, h2⟩ := Vals.get (i := i) (x := x) t (by simpa using e)
  exact ⟨u, by simpa using h1, h2⟩
theorem Vals.set {x : V} {u : Value} (r : RelV x u) : ∀ {xs : List V} {us : List Value} (i : Nat), Vals xs us -> Vals (xs.set i x) (us.set i u)
 | _, _, _, .nil => .nil
 | _, _, 0, .cons _ t => .cons r t
 | _, _, i + 1, .cons q t => .cons q (Vals.set r i t)
theorem Vals.append : ∀ {xs ys : List V} {us ws : List Value}, Vals xs us -> Vals ys ws -> Vals (xs ++ ys) (us ++ ws)
 | _, _, _, _, .nil, s => s
 | _, _, _, _, .cons r t, s => .cons r (Vals.append t s)
theorem Vals.take : ∀ {xs : List V} {us : List Value} (n : Nat), Vals xs us -> Vals (xs.take n) (us.take n)
 | _, _, 0, _ => .nil
 | _, _, _ + 1, .nil => .nil
 | _, _, n + 1, .cons r t => .cons r (Vals.take n t)
theorem Vals.drop : ∀ {xs : List V} {us : List Value} (n : Nat), Vals xs us -> Vals (xs.drop n) (us.drop n)
 | _, _, 0, r => r
 | _, _, _ + 1, .nil => .nil
 | _, _, n + 1, .cons _ t => Vals.drop n t
def RelO : Option V -> Option Value -> Prop
 | some v, some u => RelV v u
 | none, none => True
 | _, _ => False
def KV {κ : Type} : List (κ × V) -> List (κ × Value) -> Prop := Paired fun (p : κ × V) (q : κ × Value) => p.1 = q.1 /\ RelV p.2 q.2
def kV : Key -> V
 | .inl i => .int i
 | .inr x => .str x
inductive HO where
 | lst (xs : List V)
 | tup (xs : List V)
 | dK (kvs : List (Key × V)) | dT (kvs : List (List Key × V))
 | set (S : Int -> Bool) (n : Nat)
 | ins (C dx : Addr) (fs : List (Str × V))
 | own (x : Addr)
 | xd (fs : List (Str × V))
 | met (f x : Addr)
 | rng (lo hi : Int)
 | frz (o : Obj) (u : HO)
 | tbl (ps : Array Value)
 | ext (φ : Heap -> Prop)
abbrev Hp := Addr -> Option HO
def upd (H : Hp) (a : Addr) (o : HO) : Hp := fun b => if b = a then some o else H b
theorem ups {H : Hp} {a : Addr} {o : HO} : upd H a o a = some o := by unfold upd; rw [if_pos rfl]
theorem xar {H : Hp} {a b : Addr} {o : HO} (h : b ≠ a) : upd H a o b = H b := by unfold upd; rw [if_neg h]
theorem ne_of {H : Hp} {a b : Addr} {o u : HO} (h : H a = some o) (h' : H b = some u) (d : o ≠ u) : a ≠ b := by
 intro e; subst e; rw [h] at h'; exact d (Option.some.inj h')
theorem neN {H : Hp} {a b : Addr} {o : HO} (h : H a = some o) (h' : H b = none) : a ≠ b := by
 intro e; subst e; rw [h] at h'; cases h'
section
variable (P : Program) (w : World)
def ObjOk (H : Hp) (h : Heap) (a : Addr) : HO -> Prop
 | .lst xs => xs.length <= sizeLine /\ ∃ (its : List Value) (n : Nat), Vals xs its /\ h.get? a = some { cls := .type "list", data := .seq its.toArray n }
 | .tup xs => xs.length <= sizeLine /\ ∃ its : List Value, Vals xs its /\ IsTup h a its.toArray
 | .dK kvs => kvs.length <= sizeLine /\ (a == sysModules) = false /\ ∃ vs, KV kvs vs /\ h.DictOf (xbb P w) a vs
 | .dT kvs => kvs.length <= sizeLine /\ (a == sysModules) = false /\ ∃ xs : List (List Key × Addr × Value),
   Paired (fun (p : List Key × V) (q : List Key × Addr × Value) => p.1 = q.1 /\ H q.2.1 = some (.tup (p.1.map kV)) /\ RelV p.2 q.2.2) kvs xs ∧
   ∃ o es ep, h.get? a = some o /\ o.ExactDict /\ o.data = .dict es ep /\ es.toList = xs.map (entryOfKey (tupleKind (xbb P w))) /\ (xs.map (·.1)).Nodup
 | .set S n => h.SetOf (intKind P w) a S n
 | .ins C dx fs => H dx = some (.own a) /\ fs.length <= 1000 /\ dx ≠ a /\ h.get? a = some (PySem.W.instObj C dx) ∧
   ∃ mA, h.Ns1 dx mA /\ (∀ f, RelO (fs.lookup f) (mA f)) /\ PySem.Within mA (fs.map (·.1))
 | .own _ => ∃ o, h.get? a = some o
 | .xd fs => ∃ mA, h.Ns1 a mA /\ ∀ f, RelO (fs.lookup f) (mA f)
 | .rng lo hi => ∃ t u v, h.get? a = some { cls := .type "range", data := .fields #[.int lo t, .int hi u, .int 1 v] }
 | .frz o u => h.get? a = some o /\ ObjOk H h a u
 | .tbl ps => h.get? a = some { cls := .none, data := .fields ps }
 | .met f x => h.get? a = some (PySem.W.methodObj (.ref f) (.ref x))
 | .ext φ => φ h /\ (∃ o, h.get? a = some o) /\ ∀ h1 h2 : Heap, φ h1 -> (∀ o, h1.get? a = some o -> h2.get? a = some o) -> φ h2
def HOk (H : Hp) (h : Heap) : Prop := ∀ a o, H a = some o -> ObjOk P w H h a o
end
section
variable {P : Program} {w : World} {H H' : Hp} {h h' : Heap} {a : Addr} {o : HO}
theorem ObjOk.lt (x : ObjOk P w H h a o) : a < h.objs.size := by
 cases o with
 | lst xs => obtain ⟨_, _, _, _, e⟩ := x; exact Heap.lt_size e
 | tup xs => obtain ⟨_, _, _, p⟩ := x; exact p.lt
 | dK kvs => obtain ⟨_, _, _, _, o, _, _, e, _⟩ := x; exact Heap.lt_size e
 | dT kvs => obtain ⟨_, _, _, _, o, _, _, e, _⟩ := x; exact Heap.lt_size e
 | set S n => obtain ⟨o, _, _, _, e, _⟩ := x; exact Heap.lt_size e
 | ins C dx fs => obtain ⟨_, _, _, e, _⟩ := x; exact Heap.lt_size e
 | own y => obtain ⟨_, e⟩ := x; exact Heap.lt_size e
 | xd fs => obtain ⟨_, ⟨_, _, _, e, _⟩, _⟩ := x; exact Heap.lt_size e
 | rng lo hi => obtain ⟨_, _, _, e⟩ := x; exact Heap.lt_size e
 | frz ob u => obtain ⟨e, _⟩ := x; exact Heap.lt_size e
 | tbl ps => exact Heap.lt_size (show h.get? a = some _ from x)
 | met f y => exact Heap.lt_size (show h.get? a = some _ from x)
 | ext φ => obtain ⟨_, ⟨_, e⟩, _⟩ := x; exact Heap.lt_size e
theorem Paired.mapP {α β : Type} {F G : α -> β -> Prop} : ∀ {l₁ : List α} {l₂ : List β}, Paired F l₁ l₂ -> (∀ a b, F a b -> G a b) -> Paired G l₁ l₂
 | _, _, .nil, _ => .nil
 | _, _, .cons r t, f => .cons (f _ _ r) (Paired.mapP t f)
theorem ObjOk.stay (x : ObjOk P w H h a o) (k : ∀ b u, (b = a \/ H b = some (.own a)) -> h.get? b = some u -> h'.get? b = some u)
  (ho : ∀ b, H b = some (.own a) -> H' b = some (.own a)) (ht : ∀ b xs, H b = some (.tup xs) -> H' b = some (.tup xs)) : ObjOk P w H' h' a o := by
 induction o with
 | lst xs => obtain ⟨z, its, n, r, e⟩ := x; exact ⟨z, its, n, r, k _ _ (.inl rfl) e⟩
 | tup xs => obtain ⟨z, its, r, ob, e, c⟩ := x; exact ⟨z, its, r, ob, k _ _ (.inl rfl) e, c⟩
 | dK kvs => obtain ⟨z, y, vs, r, ob, es, ep, e, c⟩ := x; exact ⟨z, y, vs, r, ob, es, ep, k _ _ (.inl rfl) e, c⟩
 | dT kvs =>
  obtain ⟨z, y, xs, r, ob, es, ep, e, c⟩ := x
  exact ⟨z, y, xs, Paired.mapP r fun p q z => ⟨z.1, ht _ _ z.2.1, z.2.2⟩, ob, es, ep, k _ _ (.inl rfl) e, c⟩
 | set S n => obtain ⟨ob, es, ep, t, e, c⟩ := x; exact ⟨ob, es, ep, t, k _ _ (.inl rfl) e, c⟩
 | ins C dx fs =>
  obtain ⟨d, z, ne, e, mA, ⟨od, es, ep, e2, c⟩, r⟩ := x
  exact ⟨ho _ d, z, ne, k _ _ (.inl rfl) e, mA, ⟨od, es, ep, k _ _ (.inr d) e2, c⟩, r⟩
 | own y => obtain ⟨ob, e⟩ := x; exact ⟨ob, k _ _ (.inl rfl) e⟩
 | xd fs => obtain ⟨mA, ⟨od, es, ep, e, c⟩, r⟩ := x; exact ⟨mA, ⟨od, es, ep, k _ _ (.inl rfl) e, c⟩, r⟩
 | rng lo hi => obtain ⟨t, u, v, e⟩ := x; exact ⟨t, u, v, k _ _ (.inl rfl) e⟩
 | frz ob u ih => obtain ⟨e, q⟩ := x; exact ⟨k _ _ (.inl rfl) e, ih q⟩
 | tbl ps =>
  have e : h.get? a = some { cls := .none, data := .fields ps } := x
  show h'.get? a = some { cls := .none, data := .fields ps }
  exact k a _ (.inl rfl) e
 | met f y =>
  have e : h.get? a = some (PySem.W.methodObj (.ref f) (.ref y)) := x
  show h'.get? a = some (PySem.W.methodObj (.ref f) (.ref y))
  exact k a _ (.inl rfl) e
 | ext φ => obtain ⟨p, ⟨o, e⟩, st⟩ := x; exact ⟨st _ _ p fun o q => k _ _ (.inl rfl) q, ⟨o, k _ _ (.inl rfl) e⟩, st⟩
theorem HOk.lt (x : HOk P w H h) (e : H a = some o) : a < h.objs.size := (x a o e).lt
theorem HOk.fresh (x : HOk P w H h) (e : h.objs.size <= a) : H a = none := by
 cases q : H a with
 | none => rfl
 | some u => exact absurd (Nat.lt_of_lt_of_le (x.lt q) e) (Nat.lt_irrefl _)
theorem HOk.kept (x : HOk P w H h) (k : ∀ b u, h.get? b = some u -> h'.get? b = some u) : HOk P w H h' := fun a o e =>
 (x a o e).stay (fun b u _ q => k b u q) (fun _ q => q) fun _ _ q => q
theorem HOk.laid (x : HOk P w H h) (k : ∀ b u, h.get? b = some u -> h'.get? b = some u) (hp : h.objs.size <= a) (new : ObjOk P w (upd H a o) h' a o) : HOk P w (upd H a o) h' := fun b u e => by
 have hn := x.fresh hp
 by_cases hb : b = a
 ·subst hb; rw [ups] at e; cases e; exact new
 ·rw [xar hb] at e
  exact (x b u e).stay (fun c v _ q => k c v q) (fun c q => by rw [xar (neN q hn)]; exact q) fun c xs q => by rw [xar (neN q hn)]; exact q
end
def Rd (H : Hp) (a : Addr) (u : HO) : Prop := H a = some u \/ ∃ o, H a = some (.frz o u)
theorem Rd.ok {P : Program} {w : World} {H : Hp} {h : Heap} {a : Addr} {u : HO} (r : Rd H a u) (x : HOk P w H h) : ObjOk P w H h a u := by
 rcases r with r | ⟨o, r⟩
 ·exact x a u r
 ·obtain ⟨_, q⟩ := x a _ r
  exact q
def Mut : Option HO -> Prop
 | some (.lst _) => True
 | some (.dK _) => True
 | some (.dT _) => True
 | some (.set _ _) => True
 | some (.ins _ _ _) => True
 | some (.ext _) => True
 | _ => False
section
variable {P : Program} {w : World} {H : Hp} {h h' : Heap} {x e : Addr} {o' : HO}
theorem HOk.write (ok : HOk P w H h) (mu : Mut (H x)) (he : e = x \/ H e = some (.own x)) (k : ∀ b u, b ≠ e -> h.get? b = some u -> h'.get? b = some u) (heo : ∃ u, h'.get? e = some u)
  (new : ObjOk P w (upd H x o') h' x o') : HOk P w (upd H x o') h' := fun b u q => by
 have nown : ∀ c y, H c = some (.own y) -> c ≠ x := fun c y r z => by subst z; rw [r] at mu; exact mu
 have ntup : ∀ c xs, H c = some (.tup xs) -> c ≠ x := fun c xs r z => by subst z; rw [r] at mu; exact mu
 by_cases hb : b = x
 ·subst hb; rw [ups] at q; cases q; exact new
 ·rw [xar hb] at q
  by_cases hbe : b = e
  ·have q' : H b = some (.own x) := by
    rcases he with z | z
    ·exact absurd (hbe.trans z) hb
    ·rw [hbe]; exact z
   rw [q] at q'; cases q'
   obtain ⟨v, hv⟩ := heo
   exact ⟨v, by rw [hbe]; exact hv⟩
  ·refine (ok b u q).stay (fun c v hc r => k c v ?_ r) (fun c r => by rw [xar (nown c b r)]; exact r) fun c xs r => by rw [xar (ntup c xs r)]; exact r
   rcases hc with rfl | hc
   ·exact hbe
   ·rintro rfl
    rcases he with z | z
    ·exact nown c b hc z
    ·rw [hc] at z; cases z; exact hb rfl
end
structure Un (fs ex : List Addr) (H H' : Hp) (h h' : Heap) : Prop where
 keep : ∀ b o, h.get? b = some o -> H b = none -> b ∉ fs -> b ∉ ex -> h'.get? b = some o
 slot : ∀ b o, h.get? b = some o -> H b = none -> b ∈ fs -> b ∉ ex -> ∃ sl, h'.get? b = some { o with slots := sl }
 free : ∀ b o, h.get? b = some o -> H b = none -> b ∉ ex -> H' b = none
 there : ∀ b o, h.get? b = some o -> b ∉ ex -> ∃ o', h'.get? b = some o'
 tups : ∀ b xs, H b = some (.tup xs) -> H' b = some (.tup xs)
 frzs : ∀ b o u, H b = some (.frz o u) -> H' b = some (.frz o u)
 tbls : ∀ b ps, H b = some (.tbl ps) -> ∃ more, H' b = some (.tbl (ps ++ more))
section
variable {fs fs' ex ex' : List Addr} {H H1 H2 : Hp} {h h1 h2 h' : Heap} {a x e : Addr} {o : HO}
theorem Un.any (u : Un fs ex H H1 h h1) {b : Addr} {ob : Obj} (q : h.get? b = some ob) (n : H b = none) (hx : b ∉ ex) : ∃ sl, h1.get? b = some { ob with slots := sl } := by
 by_cases hb : b ∈ fs
 ·exact u.slot b ob q n hb hx
 ·exact ⟨ob.slots, u.keep b ob q n hb hx⟩
theorem Un.kept (k : ∀ b u, h.get? b = some u -> h'.get? b = some u) : Un fs ex H H h h' :=
 ⟨fun b ob q _ _ _ => k b ob q, fun b ob q _ _ _ => ⟨ob.slots, k b ob q⟩, fun _ _ _ n _ => n, fun b ob q _ => ⟨ob, k b ob q⟩, fun _ _ q => q, fun _ _ _ q => q, fun _ ps q => ⟨#[], by rw [q]; simp⟩⟩
theorem Un.refl : Un fs ex H H h h := Un.kept fun _ _ q => q
theorem Un.laid (k : ∀ b u, h.get? b = some u -> h'.get? b = some u) (hp : h.objs.size <= a) (hn : H a = none) : Un fs ex H (upd H a o) h h' where
 keep := fun b u q _ _ _ => k b u q
 slot := fun b u q _ _ _ => ⟨u.slots, k b u q⟩
 free := fun b u q n _ => by rw [xar (Nat.ne_of_lt (Nat.lt_of_lt_of_le (Heap.lt_size q) hp))]; exact n
 there := fun b u q _ => ⟨u, k b u q⟩
 tups := fun b xs q => by rw [xar (neN q hn)]; exact q
 frzs := fun b u xs q => by rw [xar (neN q hn)]; exact q
 tbls := fun b ps q => ⟨#[], by rw [xar (neN q hn), q]; simp⟩
theorem Un.write (mu : Mut (H x)) (he : e = x \/ H e = some (.own x)) (k : ∀ b u, b ≠ e -> h.get? b = some u -> h'.get? b = some u) (heo : ∃ u, h'.get? e = some u) : Un fs ex H (upd H x o) h h' := by
 have hx : ∀ b, H b = none -> b ≠ x := fun b n z => by subst z; rw [n] at mu; exact mu
 have hb : ∀ b, H b = none -> b ≠ e := fun b n z => by
  subst z
  rcases he with r | r
  ·exact hx b n r
  ·rw [n] at r; cases r
 have hm : ∀ b u, H b = some u -> ¬ Mut (some u) -> b ≠ x := fun b u q nm z => by subst z; rw [q] at mu; exact nm mu
 refine ⟨fun b u q n _ _ => k b u (hb b n) q, fun b u q n _ _ => ⟨u.slots, k b u (hb b n) q⟩, fun b u q n _ => by rw [xar (hx b n)]; exact n, fun b u q _ => ?_,
  fun b xs q => by rw [xar (hm b _ q fun z => z)]; exact q, fun b u xs q => by rw [xar (hm b _ q fun z => z)]; exact q, fun b ps q => ⟨#[], by rw [xar (hm b _ q fun z => z), q]; simp⟩⟩
 by_cases hbe : b = e
 ·subst hbe; exact heo
 ·exact ⟨u, k b u hbe q⟩
end
def trk (h : Heap) (H : Hp) : List Addr := (List.range h.objs.size).filter fun a => (H a).isSome
def hidT (h : Heap) (H : Hp) : Heap := PySem.W.hideAll h (trk h H)
theorem hidT_size (h : Heap) (H : Hp) : (hidT h H).objs.size = h.objs.size := PySem.W.hideAll_size _ _
theorem hidT_get {h : Heap} {H : Hp} {b : Addr} {o : Obj} (e : h.get? b = some o) (n : H b = none) : (hidT h H).get? b = some o :=
 PySem.W.hideAll_get _ e fun hm => by
  have q : (H b).isSome = true := (List.mem_filter.mp hm).2
  rw [n] at q; simp at q
theorem of_hidT {h : Heap} {H : Hp} {b : Addr} {o : Obj} (e : (hidT h H).get? b = some o) : h.get? b = some o /\ H b = none := by
 have e' : h.get? b = some o := PySem.W.of_hideAll (trk h H) e
 refine ⟨e', ?_⟩
 cases q : H b with
 | none => rfl
 | some x =>
  have hm : b ∈ trk h H := List.mem_filter.mpr ⟨List.mem_range.mpr (Heap.lt_size e'), by simp [q]⟩
  have z : (hidT h H).get? b = none := PySem.W.hideAll_none (trk h H) hm
  rw [z] at e; cases e
end L2
namespace L2
open PySem PySem.Spec PyProof.Rows
structure Mod (K : PySem.W.Frag) (mg : Str -> Option Value) (base : Heap) : Prop where
 kin : K.In base
 glob : base.Ns mainGlobals mg
 blt : ∃ mb, base.Ns builtinsNs mb /\ ∀ x : Str, x ≠ "__name__" -> mb x = bootBuiltins x
 nolimit : base.NoLimit
structure Cx where
 prog : Program
 w : World
 K : PySem.W.Frag
 mg : Str -> Option Value
 base : Heap
 A : Around
 N : List Str
 s₀ : Shared
 H₀ : Hp
 env : Env
 outer : List Env
 stack : List Env
 ex : List Addr
 fn : Str -> Bool
 calm : Bool
 pn : List (Addr × Obj)
 xe : Value -> Shared -> Prop
def frs (l : List Env) : List Addr := l.filterMap (·.frame)
abbrev Cx.fs (X : Cx) : List Addr := frs X.outer
def Vis (sc : Scope) (x : Str) : Prop := sc.names.lookup x = some .local \/ sc.names.lookup x = some .cell \/ sc.names.lookup x = some .free
def Loc (sc : Scope) (x : Str) : Prop := sc.names.lookup x = some .local \/ sc.names.lookup x = some .cell
def Look (env : Env) (h : Heap) (m : Str -> Option Value) (x : Str) (u : Value) : Prop :=
 (env.kindOf x = some .local /\ m x = some u) \/ ((env.kindOf x = some .cell \/ env.kindOf x = some .free) /\ ∃ c, env.cells.lookup x = some c /\ h.IsCell c (some u))
structure Cx.Ok (X : Cx) : Prop where
 mod : Mod X.K X.mg X.base
 kind : X.env.scope.kind = .function
 glob : X.env.globals = mainGlobals
 blt : X.env.builtins = builtinsNs
 above : X.s₀.heap.objs.size <= X.env.locals
 inj : ∀ x y c, X.env.cells.lookup x = some c -> X.env.cells.lookup y = some c -> x = y
 has : ∀ x, (X.env.kindOf x = some .cell \/ X.env.kindOf x = some .free) -> ∃ c, X.env.cells.lookup x = some c
 cab : ∀ x c, X.fn x = true -> X.env.cells.lookup x = some c -> X.s₀.heap.objs.size <= c
 hd : X.calm = true -> X.A.handled = none
 frames : X.A.frames = some X.stack
 stk : X.stack = X.outer \/ (X.stack = X.env :: X.outer /\ X.env.frame = some X.env.locals)
 exf : ∀ b ∈ X.ex, b ≠ X.env.locals /\ ∀ x c, X.env.cells.lookup x = some c -> c ≠ b
 bs : ∀ b o, X.base.get? b = some o -> X.s₀.heap.get? b = some o /\ X.H₀ b = none
 bsz : X.base.objs.size <= X.s₀.heap.objs.size
 noex : ∀ b o, X.base.get? b = some o -> b ∉ X.ex
 exfs : ∀ b ∈ X.ex, b ∉ X.fs
 funs : X.s₀.heap.FunFrames X.base X.outer
 frf : ∀ b ∈ X.fs, X.H₀ b = none
structure Inv (X : Cx) (pins : List (Addr × Obj)) (σ : List (Option V)) (H : Hp) (s : Shared) : Prop where
 ok : X.Ok
 os : s.os = X.s₀.os
 bare : AllBare s.gens
 base : Un X.fs X.ex X.H₀ H X.s₀.heap s.heap
 loc : ∃ m, s.heap.Ns X.env.locals m /\ ∀ (i : Nat) (x : Str) (v : V), X.N[i]? = some x -> σ[i]? = some (some v) -> Vis X.env.scope x -> ∃ u, RelV v u /\ Look X.env s.heap m x u
 cell : ∀ x c, X.env.cells.lookup x = some c -> ∃ v, s.heap.IsCell c v
 free : H X.env.locals = none
 freeC : ∀ x c, X.env.cells.lookup x = some c -> H c = none
 pin : ∀ p ∈ X.pn ++ pins, s.heap.get? p.1 = some p.2 /\ H p.1 = none /\ p.1 ≠ X.env.locals /\ p.1 ∉ X.fs /\ ∀ v, p.2.data ≠ .cell v
 hok : HOk X.prog X.w H s.heap
 len : σ.length = X.N.length
section
variable {X : Cx} {pins : List (Addr × Obj)} {σ : List (Option V)} {H H' : Hp} {s : Shared} {h' : Heap}
theorem Cx.Ok.nofr (ok : X.Ok) {b : Addr} {o : Obj} (e : X.base.get? b = some o) : b ∉ X.fs := fun hb => by
 have := (ok.funs.mem hb).1
 rw [e] at this; cases this
theorem Inv.bs (I : Inv X pins σ H s) : ∀ b o, X.base.get? b = some o -> s.heap.get? b = some o /\ H b = none := fun b o e =>
 ⟨I.base.keep b o (I.ok.bs b o e).1 (I.ok.bs b o e).2 (I.ok.nofr e) (I.ok.noex b o e), I.base.free b o (I.ok.bs b o e).1 (I.ok.bs b o e).2 (I.ok.noex b o e)⟩
theorem Inv.bk (I : Inv X pins σ H s) : ∀ b o, X.base.get? b = some o -> s.heap.get? b = some o := fun b o e => (I.bs b o e).1
theorem Inv.mod (I : Inv X pins σ H s) : Mod X.K X.mg X.base := I.ok.mod
theorem Inv.kIn (I : Inv X pins σ H s) : X.K.In s.heap := I.ok.mod.kin.keeps I.bk
theorem Inv.lt (I : Inv X pins σ H s) : X.env.locals < s.heap.objs.size := let ⟨_, hn, _⟩ := I.loc; hn.lt
theorem Inv.sz (I : Inv X pins σ H s) : X.s₀.heap.objs.size <= s.heap.objs.size := Nat.le_trans I.ok.above (Nat.le_of_lt I.lt)
theorem Inv.nofs (I : Inv X pins σ H s) {a : Addr} (h : s.heap.objs.size <= a) : a ∉ X.fs := fun hb => by
 obtain ⟨_, o, ho, _⟩ := I.ok.funs.mem hb
 exact absurd (Nat.lt_of_lt_of_le (Heap.lt_size ho) (Nat.le_trans I.sz h)) (Nat.lt_irrefl _)
theorem Inv.cne (I : Inv X pins σ H s) : ∀ x c, X.env.cells.lookup x = some c -> c ≠ X.env.locals := fun x c e z => by
 obtain ⟨v, o, ho, hd⟩ := I.cell x c e
 obtain ⟨m, ⟨o', es, ep, ho', hd', _⟩, _⟩ := I.loc
 rw [z, ho'] at ho; cases ho; rw [hd'] at hd; cases hd
theorem Inv.funs (I : Inv X pins σ H s) : s.heap.FunFrames X.base X.outer := by
 have all : ∀ (l : List Env), (∀ b ∈ frs l, b ∈ X.fs) -> X.s₀.heap.FunFrames X.base l -> s.heap.FunFrames X.base l := by
  intro l
  induction l with
  | nil => intro _ _; trivial
  | cons env r ih =>
   intro hs hl
   obtain ⟨hk, ⟨L, o, hf, hn, ho, hd⟩, hr⟩ := hl
   have hL : L ∈ X.fs := hs L (by unfold frs; rw [List.filterMap_cons, hf]; exact List.mem_cons_self)
   obtain ⟨sl, e⟩ := I.base.slot L o ho (I.ok.frf L hL) hL fun z => I.ok.exfs L z hL
   exact ⟨hk, ⟨L, _, hf, hn, e, hd⟩, ih (fun b hb => hs b (by unfold frs; rw [List.filterMap_cons, hf]; exact List.mem_cons_of_mem _ hb)) hr⟩
 exact all X.outer (fun _ hb => hb) I.ok.funs
theorem Inv.stack (I : Inv X pins σ H s) : s.heap.FunFrames X.base X.stack := by
 rcases I.ok.stk with e | ⟨e, hf⟩
 ·rw [e]; exact I.funs
 ·rw [e]
  obtain ⟨m, hn, _⟩ := I.loc
  refine .cons (by rw [I.ok.kind]; decide) hf hn ?_ I.funs
  exact Heap.get?_none_of_le (Nat.le_trans I.ok.bsz I.ok.above)
theorem Inv.stkSub (I : Inv X pins σ H s) : ∀ b ∈ frs X.stack, b ∈ X.env.locals :: X.fs := fun b hb => by
 rcases I.ok.stk with e | ⟨e, hf⟩
 ·rw [e] at hb; exact List.mem_cons_of_mem _ hb
 ·rw [e] at hb
  unfold frs at hb
  rw [List.filterMap_cons, hf] at hb
  exact hb
theorem Inv.stkFree (I : Inv X pins σ H s) : ∀ b ∈ frs X.stack, H b = none := fun b hb => by
 rcases List.mem_cons.mp (I.stkSub b hb) with e | hb
 ·rw [e]; exact I.free
 ·obtain ⟨_, o, ho, _⟩ := I.ok.funs.mem hb
  exact I.base.free b o ho (I.ok.frf b hb) fun z => I.ok.exfs b z hb
theorem Inv.step {g' : Array GenState} {t' : Nat} {d' : Drawn} {ch : List Addr} (I : Inv X pins σ H s)
  (hch : ∀ b ∈ ch, (b ∈ X.ex \/ X.s₀.heap.objs.size <= b) /\ b ≠ X.env.locals /\ (∀ x c, X.env.cells.lookup x = some c -> c ≠ b) /\ ∀ p ∈ X.pn ++ pins, p.1 ≠ b)
  (keep : ∀ b o, b ≠ X.env.locals -> b ∉ X.fs -> b ∉ ch -> s.heap.get? b = some o -> H b = none -> h'.get? b = some o)
  (slot : ∀ b o, b ≠ X.env.locals -> b ∈ X.fs -> b ∉ ch -> s.heap.get? b = some o -> H b = none -> ∃ sl, h'.get? b = some { o with slots := sl }) (free : ∀ b o, b ∉ ch -> s.heap.get? b = some o -> H b = none -> H' b = none)
  (there : ∀ b o, b ∉ ch -> s.heap.get? b = some o -> ∃ o', h'.get? b = some o')
  (tups : ∀ b xs, H b = some (.tup xs) -> H' b = some (.tup xs)) (frzs : ∀ b o u, H b = some (.frz o u) -> H' b = some (.frz o u)) (tbls : ∀ b ps, H b = some (.tbl ps) -> ∃ more, H' b = some (.tbl (ps ++ more)))
  (ns : ∀ m, s.heap.Ns X.env.locals m -> h'.Ns X.env.locals m) (hok : HOk X.prog X.w H' h') (hg : AllBare g') :
  Inv X pins σ H' { s with heap := h', gens := g', drawn := d', toks := t' } := by
 have neL : ∀ b o, X.s₀.heap.get? b = some o -> b ≠ X.env.locals := fun b o e => Nat.ne_of_lt (Nat.lt_of_lt_of_le (Heap.lt_size e) I.ok.above)
 have neC : ∀ b o, X.s₀.heap.get? b = some o -> b ∉ X.ex -> b ∉ ch := fun b o e hx hb => by
  rcases (hch b hb).1 with z | z
  ·exact hx z
  ·exact absurd (Nat.lt_of_lt_of_le (Heap.lt_size e) z) (Nat.lt_irrefl _)
 have cellK : ∀ x c, X.env.cells.lookup x = some c -> ∀ v, s.heap.IsCell c v -> h'.IsCell c v := fun x c e v ⟨o, ho, hd⟩ => by
  have nch : c ∉ ch := fun z => (hch c z).2.2.1 x c e rfl
  by_cases hc : c ∈ X.fs
  ·obtain ⟨sl, q⟩ := slot c o (I.cne x c e) hc nch ho (I.freeC x c e)
   exact ⟨_, q, hd⟩
  ·exact ⟨o, keep c o (I.cne x c e) hc nch ho (I.freeC x c e), hd⟩
 refine ⟨I.ok, I.os, hg, ⟨fun b o e n hb hx => ?_, fun b o e n hb hx => ?_, fun b o e n hx => ?_, fun b o e hx => ?_, fun b xs e => tups b xs (I.base.tups b xs e), fun b o xs e => frzs b o xs (I.base.frzs b o xs e), fun b ps e => ?_⟩, ?_, fun x c e => ?_, ?_, fun x c e => ?_, fun p hp => ?_, hok, I.len⟩
 ·exact keep b o (neL b o e) hb (neC b o e hx) (I.base.keep b o e n hb hx) (I.base.free b o e n hx)
 ·obtain ⟨sl, e1⟩ := I.base.slot b o e n hb hx
  obtain ⟨sl', e2⟩ := slot b _ (neL b o e) hb (neC b o e hx) e1 (I.base.free b o e n hx)
  exact ⟨sl', e2⟩
 ·obtain ⟨o', e1⟩ := I.base.there b o e hx
  exact free b o' (neC b o e hx) e1 (I.base.free b o e n hx)
 ·obtain ⟨o', e1⟩ := I.base.there b o e hx
  exact there b o' (neC b o e hx) e1
 ·obtain ⟨m1, e1⟩ := I.base.tbls b ps e
  obtain ⟨m2, e2⟩ := tbls b _ e1
  exact ⟨m1 ++ m2, by rw [e2, Array.append_assoc]⟩
 ·obtain ⟨m, hn, hl⟩ := I.loc
  refine ⟨m, ns m hn, fun i x v e1 e2 e3 => ?_⟩
  obtain ⟨u, r, l⟩ := hl i x v e1 e2 e3
  refine ⟨u, r, ?_⟩
  rcases l with l | ⟨k, c, e, z⟩
  ·exact .inl l
  ·exact .inr ⟨k, c, e, cellK x c e _ z⟩
 ·obtain ⟨v, z⟩ := I.cell x c e
  exact ⟨v, cellK x c e v z⟩
 ·obtain ⟨m, ⟨o, _, _, ho, _⟩, _⟩ := I.loc
  exact free _ o (fun z => (hch _ z).2.1 rfl) ho I.free
 ·obtain ⟨v, o, ho, hd⟩ := I.cell x c e
  exact free c o (fun z => (hch c z).2.2.1 x c e rfl) ho (I.freeC x c e)
 ·obtain ⟨e, n, ne, nf, d⟩ := I.pin p hp
  have nch : p.1 ∉ ch := fun z => (hch p.1 z).2.2.2 p hp rfl
  exact ⟨keep p.1 p.2 ne nf nch e n, free p.1 p.2 nch e n, ne, nf, d⟩
theorem Inv.un {t' : Nat} (I : Inv X pins σ H s) (u : Un X.fs [] H H' s.heap h') (hok : HOk X.prog X.w H' h') : Inv X pins σ H' { s with heap := h', toks := t' } := by
 obtain ⟨m, ⟨o, es, ep, ho, r⟩, _⟩ := id I.loc
 obtain ⟨sl, hL⟩ := u.any ho I.free (by simp)
 exact I.step (g' := s.gens) (d' := s.drawn) (ch := []) (fun _ z => nomatch z) (fun b o _ hb _ e n => u.keep b o e n hb (by simp)) (fun b o _ hb _ e n => u.slot b o e n hb (by simp)) (fun b o _ e n => u.free b o e n (by simp)) (fun b o _ e => u.there b o e (by simp)) u.tups u.frzs u.tbls (fun m' hm => by
  obtain ⟨o', es', ep', ho', r'⟩ := hm
  rw [ho] at ho'; cases ho'
  exact ⟨_, es', ep', hL, r'⟩) hok I.bare
theorem Inv.call {g' : Array GenState} {t' : Nat} {d' : Drawn} {ch : List Addr} (I : Inv X pins σ H s) (u : Un (frs X.stack) ch H H' s.heap h') (hok : HOk X.prog X.w H' h') (hg : AllBare g')
  (hch : ∀ b ∈ ch, (b ∈ X.ex \/ X.s₀.heap.objs.size <= b) /\ b ≠ X.env.locals /\ (∀ x c, X.env.cells.lookup x = some c -> c ≠ b) /\ ∀ p ∈ X.pn ++ pins, p.1 ≠ b) :
  Inv X pins σ H' { s with heap := h', gens := g', drawn := d', toks := t' } := by
 obtain ⟨m, ⟨o, es, ep, ho, r⟩, _⟩ := id I.loc
 obtain ⟨sl, hL⟩ := u.any ho I.free fun z => (hch _ z).2.1 rfl
 exact I.step (ch := ch) hch (fun b o hL hb hc e n => u.keep b o e n (fun z => (List.mem_cons.mp (I.stkSub b z)).elim hL hb) hc) (fun b o _ _ hc e n => u.any e n hc) (fun b o hc e n => u.free b o e n hc) (fun b o hc e => u.there b o e hc) u.tups u.frzs u.tbls (fun m' hm => by
  obtain ⟨o', es', ep', ho', r'⟩ := hm
  rw [ho] at ho'; cases ho'
  exact ⟨_, es', ep', hL, r'⟩) hok hg
theorem Inv.turned {t' : Nat} {it : Addr} (I : Inv X pins σ H s) (k : ∀ b o, b ≠ it -> s.heap.get? b = some o -> h'.get? b = some o) (hn : H it = none) (hL : it ≠ X.env.locals)
  (h1 : it ∈ X.ex \/ X.s₀.heap.objs.size <= it) (h2 : ∀ x c, X.env.cells.lookup x = some c -> c ≠ it) (h3 : ∀ p ∈ X.pn ++ pins, p.1 ≠ it) : Inv X pins σ H { s with heap := h', toks := t' } := by
 have nit : ∀ b u, H b = some u -> b ≠ it := fun b u e z => by rw [z, hn] at e; cases e
 refine I.step (g' := s.gens) (d' := s.drawn) (ch := [it]) (fun b hb => ?_) (fun b o _ _ hc e _ => k b o (fun z => hc (by simp [z])) e) (fun b o _ _ hc e _ => ⟨o.slots, k b o (fun z => hc (by simp [z])) e⟩) (fun _ _ _ _ n => n)
  (fun b o hc e => ⟨o, k b o (fun z => hc (by simp [z])) e⟩) (fun _ _ e => e) (fun _ _ _ e => e) (fun b ps e => ⟨#[], by rw [e]; simp⟩) (fun m hm => ?_) (fun b u e => ?_) I.bare
 ·have e : b = it := by simpa using hb
  subst e
  exact ⟨h1, hL, h2, h3⟩
 ·obtain ⟨o, es, ep, ho, r⟩ := hm
  exact ⟨o, es, ep, k _ o (Ne.symm hL) ho, r⟩
 ·refine (I.hok b u e).stay (fun c v hc q => k c v ?_ q) (fun _ q => q) fun _ _ q => q
  rcases hc with z | z
  ·rw [z]; exact nit b u e
  ·exact nit c _ z
theorem Inv.tok (I : Inv X pins σ H s) (t : Nat) : Inv X pins σ H { s with toks := t } := I.un (h' := s.heap) (t' := t) Un.refl I.hok
theorem Inv.kept {t' : Nat} (I : Inv X pins σ H s) (k : ∀ b u, s.heap.get? b = some u -> h'.get? b = some u) : Inv X pins σ H { s with heap := h', toks := t' } := I.un (Un.kept k) (I.hok.kept k)
theorem Inv.laid {a : Addr} {o : HO} {t' : Nat} (I : Inv X pins σ H s) (k : ∀ b u, s.heap.get? b = some u -> h'.get? b = some u) (hp : s.heap.objs.size <= a) (new : ObjOk X.prog X.w (upd H a o) h' a o) :
  Inv X pins σ (upd H a o) { s with heap := h', toks := t' } := I.un (Un.laid k hp (I.hok.fresh hp)) (I.hok.laid k hp new)
theorem Inv.write {x e : Addr} {o : HO} {t' : Nat} (I : Inv X pins σ H s) (mu : Mut (H x)) (he : e = x \/ H e = some (.own x)) (k : ∀ b u, b ≠ e -> s.heap.get? b = some u -> h'.get? b = some u) (heo : ∃ u, h'.get? e = some u)
  (new : ObjOk X.prog X.w (upd H x o) h' x o) : Inv X pins σ (upd H x o) { s with heap := h', toks := t' } := I.un (Un.write mu he k heo) (I.hok.write mu he k heo new)
theorem Inv.weak {σ' : List (Option V)} (I : Inv X pins σ H s) (hl : σ'.length = σ.length) (w : ∀ (i : Nat) v, σ'[i]? = some (some v) -> σ[i]? = some (some v)) : Inv X pins σ' H s :=
 ⟨I.ok, I.os, I.bare, I.base, let ⟨m, hn, hl'⟩ := I.loc; ⟨m, hn, fun i x v e1 e2 e3 => hl' i x v e1 (w i v e2) e3⟩, I.cell, I.free, I.freeC, I.pin, I.hok, hl.trans I.len⟩
theorem Inv.pins_of {pins' : List (Addr × Obj)} (I : Inv X pins σ H s) (h : ∀ p ∈ pins', s.heap.get? p.1 = some p.2 /\ H p.1 = none /\ p.1 ≠ X.env.locals /\ p.1 ∉ X.fs /\ ∀ v, p.2.data ≠ .cell v) : Inv X pins' σ H s :=
 ⟨I.ok, I.os, I.bare, I.base, I.loc, I.cell, I.free, I.freeC, fun p hp => (List.mem_append.mp hp).elim (fun z => I.pin p (List.mem_append_left _ z)) (h p), I.hok, I.len⟩
theorem nodup_ix {N : List Str} (hN : N.Nodup) {i j : Nat} {x : Str} (a : N[i]? = some x) (b : N[j]? = some x) : i = j := by
 obtain ⟨h1, e1⟩ := List.getElem?_eq_some_iff.mp a
 obtain ⟨h2, e2⟩ := List.getElem?_eq_some_iff.mp b
 exact (List.getElem_inj hN).mp (e1.trans e2.symm)
theorem store_ok2 {M : Model} {A : Around} {E : Value -> Shared -> Prop} {i : Nat} {x : Str} {v : V} {u : Value} {Q : Unit -> Shared -> Prop} (I : Inv X pins σ H s) (hN : X.N.Nodup) (hi : X.N[i]? = some x) (hx : Loc X.env.scope x) (r : RelV v u)
  (h : ∀ s', Inv X pins (σ.set i (some v)) H s' -> (∃ a, Heap.SameBut a s.heap s'.heap /\ (a = X.env.locals \/ X.env.cells.lookup x = some a)) -> Q () s') (hf : X.fn x = true \/ X.env.scope.names.lookup x = some .local := by first | exact .inl rfl | exact .inr rfl | assumption) : wpAny M A (storeName X.env x u) Q E s := by
 obtain ⟨m, hn, hl⟩ := id I.loc
 have hcls : (X.env.scope.kind == .class || (X.env.scope.kind == .module && X.env.locals != X.env.globals)) = false := by rw [I.ok.kind]; rfl
 have hiσ : i < σ.length := by rw [I.len]; exact (List.getElem?_eq_some_iff.mp hi).1
 have cne := I.cne
 have tracked : ∀ {a : Addr} {h' : Heap}, (∃ o, s.heap.get? a = some o /\ H a = none) -> Heap.SameBut a s.heap h' -> HOk X.prog X.w H h' := fun {a h'} ha hs b ob e => by
  obtain ⟨_, _, hfree⟩ := ha
  refine (I.hok b ob e).stay (fun c w' hc q => (hs.2 c ?_).trans q) (fun _ q => q) fun _ _ q => q
  rintro rfl
  rcases hc with rfl | hc
  ·rw [hfree] at e; cases e
  ·rw [hfree] at hc; cases hc
 rcases hx with hk | hk
 ·refine wpAny_storeName_local hk hn (fun h' hn' hs => ?_) hcls
  obtain ⟨oL, _, _, hoL, _⟩ := id hn
  refine h _ ⟨I.ok, I.os, I.bare, ⟨fun b o e n hb hx => ?_, fun b o e n hb hx => ?_, I.base.free, fun b o e hx => ?_, I.base.tups, I.base.frzs, I.base.tbls⟩, ⟨_, hn', fun j y v' e1 e2 e3 => ?_⟩, fun y c e => ?_, I.free, I.freeC, fun p hp => ?_, tracked ⟨oL, hoL, I.free⟩ hs, by simpa using I.len⟩ ⟨_, hs, .inl rfl⟩
  ·exact (hs.2 b (Nat.ne_of_lt (Nat.lt_of_lt_of_le (Heap.lt_size e) I.ok.above))).trans (I.base.keep b o e n hb hx)
  ·obtain ⟨sl, e1⟩ := I.base.slot b o e n hb hx
   exact ⟨sl, (hs.2 b (Nat.ne_of_lt (Nat.lt_of_lt_of_le (Heap.lt_size e) I.ok.above))).trans e1⟩
  ·obtain ⟨o', e1⟩ := I.base.there b o e hx
   exact ⟨o', (hs.2 b (Nat.ne_of_lt (Nat.lt_of_lt_of_le (Heap.lt_size e) I.ok.above))).trans e1⟩
  ·by_cases hj : j = i
   ·subst hj
    rw [hi] at e1; cases e1
    rw [List.getElem?_set_self hiσ] at e2
    cases e2
    exact ⟨u, r, .inl ⟨hk, by simp⟩⟩
   ·rw [List.getElem?_set_ne (Ne.symm hj)] at e2
    obtain ⟨u', r', q⟩ := hl j y v' e1 e2 e3
    refine ⟨u', r', ?_⟩
    rcases q with ⟨k, e⟩ | ⟨k, c, e, z⟩
    ·refine .inl ⟨k, ?_⟩
     have : y ≠ x := fun e => hj (nodup_ix hN e1 (e ▸ hi))
     simp [this, e]
    ·exact .inr ⟨k, c, e, z.sameBut hs (cne y c e)⟩
  ·obtain ⟨w', z⟩ := I.cell y c e
   exact ⟨w', z.sameBut hs (cne y c e)⟩
  ·obtain ⟨e, n, ne, nf, d⟩ := I.pin p hp
   exact ⟨(hs.2 p.1 ne).trans e, n, ne, nf, d⟩
 ·have hfn : X.fn x = true := by
   rcases hf with z | z
   ·exact z
   ·rw [z] at hk; cases hk
  obtain ⟨c, hc⟩ := I.ok.has x (.inl hk)
  obtain ⟨w', z⟩ := I.cell x c hc
  refine wpAny_storeName_cell I.ok.kind hk hc z (fun h' hc' hs => ?_)
  obtain ⟨oc, hoc, hocd⟩ := id z
  refine h { s with heap := h' } ⟨I.ok, I.os, I.bare, ⟨fun b o e n hb hx => ?_, fun b o e n hb hx => ?_, I.base.free, fun b o e hx => ?_, I.base.tups, I.base.frzs, I.base.tbls⟩, ⟨m, hn.sameBut hs (Ne.symm (cne x c hc)), fun j y v' e1 e2 e3 => ?_⟩, fun y c' e => ?_, I.free, I.freeC, fun p hp => ?_, tracked ⟨oc, hoc, I.freeC x c hc⟩ hs, by simpa using I.len⟩ ⟨c, hs, .inr hc⟩
  ·exact (hs.2 b (Nat.ne_of_lt (Nat.lt_of_lt_of_le (Heap.lt_size e) (I.ok.cab x c hfn hc)))).trans (I.base.keep b o e n hb hx)
  ·obtain ⟨sl, e1⟩ := I.base.slot b o e n hb hx
   exact ⟨sl, (hs.2 b (Nat.ne_of_lt (Nat.lt_of_lt_of_le (Heap.lt_size e) (I.ok.cab x c hfn hc)))).trans e1⟩
  ·obtain ⟨o', e1⟩ := I.base.there b o e hx
   exact ⟨o', (hs.2 b (Nat.ne_of_lt (Nat.lt_of_lt_of_le (Heap.lt_size e) (I.ok.cab x c hfn hc)))).trans e1⟩
  ·by_cases hj : j = i
   ·subst hj
    rw [hi] at e1; cases e1
    rw [List.getElem?_set_self hiσ] at e2
    cases e2
    exact ⟨u, r, .inr ⟨.inl hk, c, hc, hc'⟩⟩
   ·rw [List.getElem?_set_ne (Ne.symm hj)] at e2
    obtain ⟨u', r', q⟩ := hl j y v' e1 e2 e3
    refine ⟨u', r', ?_⟩
    rcases q with q | ⟨k, c', e, z'⟩
    ·exact .inl q
    ·refine .inr ⟨k, c', e, z'.sameBut hs ?_⟩
     rintro rfl
     exact hj (nodup_ix hN e1 (I.ok.inj _ _ _ e hc ▸ hi))
  ·by_cases hcc : c' = c
   ·subst hcc; exact ⟨_, hc'⟩
   ·obtain ⟨w2, z2⟩ := I.cell y c' e
    exact ⟨w2, z2.sameBut hs hcc⟩
  ·obtain ⟨e, n, ne, nf, d⟩ := I.pin p hp
   refine ⟨(hs.2 p.1 ?_).trans e, n, ne, nf, d⟩
   intro q
   rw [q, hoc] at e
   have q' : oc = p.2 := Option.some.inj e
   exact d w' (by rw [<- q']; exact hocd)
theorem store_ok {M : Model} {A : Around} {E : Value -> Shared -> Prop} {i : Nat} {x : Str} {v : V} {u : Value} {Q : Unit -> Shared -> Prop} (I : Inv X pins σ H s) (hN : X.N.Nodup) (hi : X.N[i]? = some x) (hx : Loc X.env.scope x) (r : RelV v u)
  (h : ∀ s', Inv X pins (σ.set i (some v)) H s' -> Q () s') (hf : X.fn x = true \/ X.env.scope.names.lookup x = some .local := by first | exact .inl rfl | exact .inr rfl | assumption) : wpAny M A (storeName X.env x u) Q E s :=
 store_ok2 I hN hi hx r (fun s' I' _ => h s' I') hf
theorem Inv.call' {s' : Shared} {ch : List Addr} (I : Inv X pins σ H s) (ho : s'.os = s.os) (u : Un (frs X.stack) ch H H' s.heap s'.heap) (hok : HOk X.prog X.w H' s'.heap) (hg : AllBare s'.gens)
  (hch : ∀ b ∈ ch, (b ∈ X.ex \/ X.s₀.heap.objs.size <= b) /\ b ≠ X.env.locals /\ (∀ x c, X.env.cells.lookup x = some c -> c ≠ b) /\ ∀ p ∈ X.pn ++ pins, p.1 ≠ b) : Inv X pins σ H' s' := by
 obtain ⟨h', g', d', t', o'⟩ := s'
 have e : o' = s.os := ho
 subst e
 exact I.call (g' := g') (t' := t') (d' := d') u hok hg hch
end
abbrev XK := Value -> Option Addr -> Hp -> Prop
abbrev St := List (Option V)
abbrev VK := V -> Hp -> Prop
abbrev TE := St -> Hp -> VK -> Prop
abbrev TT := St -> Hp -> (Bool -> Hp -> Prop) -> Prop
abbrev TA := St -> Hp -> (List V -> Hp -> Prop) -> Prop
structure Ends where
 nx : St -> Hp -> Prop
 rt : VK
 bk : St -> Hp -> Prop := fun _ _ => False
 ct : St -> Hp -> Prop := fun _ _ => False
abbrev TS := Ends -> St -> Hp -> Prop
def EP (X : Cx) (pins : List (Addr × Obj)) (σ : St) (Q : VK) (u : Value) (s' : Shared) : Prop := ∃ v H', Inv X pins σ H' s' /\ RelV v u /\ Q v H'
def TP (X : Cx) (pins : List (Addr × Obj)) (σ : St) (Q : Bool -> Hp -> Prop) (b : Bool) (s' : Shared) : Prop := ∃ H', Inv X pins σ H' s' /\ Q b H'
def AP (X : Cx) (pins : List (Addr × Obj)) (σ : St) (Q : List V -> Hp -> Prop) (us : List Value) (s' : Shared) : Prop := ∃ vs H', Inv X pins σ H' s' /\ Vals vs us /\ Q vs H'
def SP (X : Cx) (pins : List (Addr × Obj)) (D : Ends) (f : Flow) (s' : Shared) : Prop :=
 match f with
 | .next => ∃ σ' H', Inv X pins σ' H' s' /\ D.nx σ' H'
 | .brk => ∃ σ' H', Inv X pins σ' H' s' /\ D.bk σ' H'
 | .cont => ∃ σ' H', Inv X pins σ' H' s' /\ D.ct σ' H'
 | .ret u => ∃ v σ' H', Inv X pins σ' H' s' /\ RelV v u /\ D.rt v H'
def PE (X : Cx) (e : Expr) (t : TE) : Prop :=
 ∀ (pins : List (Addr × Obj)) (s : Shared) (σ : St) (H : Hp) (Q : VK), Inv X pins σ H s -> t σ H Q -> wpAny (model X.prog X.w) X.A (eval e X.env) (EP X pins σ Q) X.xe s
def PT (X : Cx) (e : Expr) (t : TT) : Prop :=
 ∀ (pins : List (Addr × Obj)) (s : Shared) (σ : St) (H : Hp) (Q : Bool -> Hp -> Prop), Inv X pins σ H s -> t σ H Q -> wpAny (model X.prog X.w) X.A (isTrue e X.env (eval e X.env)) (TP X pins σ Q) X.xe s
def PW (X : Cx) (e : Expr) (t : TT) : Prop :=
 ∀ (whole : Sem Value) (pins : List (Addr × Obj)) (s : Shared) (σ : St) (H : Hp) (Q : Bool -> Hp -> Prop), Inv X pins σ H s -> t σ H Q -> wpAny (model X.prog X.w) X.A (isTrue e X.env whole) (TP X pins σ Q) X.xe s
theorem PW.pt {X : Cx} {e : Expr} {t : TT} (h : PW X e t) : PT X e t := h _
def PA (X : Cx) (es : List Expr) (t : TA) : Prop :=
 ∀ (pos : Pos) (pins : List (Addr × Obj)) (s : Shared) (σ : St) (H : Hp) (Q : List V -> Hp -> Prop), Inv X pins σ H s -> t σ H Q -> wpAny (model X.prog X.w) X.A (spliced (backTo pos (starEach es X.env))) (AP X pins σ Q) X.xe s
def PS (X : Cx) (st : Stmt) (t : TS) : Prop :=
 ∀ (pins : List (Addr × Obj)) (s : Shared) (σ : St) (H : Hp) (D : Ends), Inv X pins σ H s -> t D σ H -> wpAny (model X.prog X.w) X.A (exec st X.env) (SP X pins D) X.xe s
def PSs (X : Cx) (st : List Stmt) (t : TS) : Prop :=
 ∀ (pins : List (Addr × Obj)) (s : Shared) (σ : St) (H : Hp) (D : Ends), Inv X pins σ H s -> t D σ H -> wpAny (model X.prog X.w) X.A (execs st X.env) (SP X pins D) X.xe s
theorem thn {α : Type} {t : Sem α} {Q Q' : α -> Shared -> Prop} {M : Model} {A : Around} {E : Value -> Shared -> Prop} {s : Shared} (h : wpAny M A t Q E s) (hQ : ∀ a s, Q a s -> Q' a s) : wpAny M A t Q' E s := wpAny_mono h hQ fun _ _ x => x
end L2
namespace L2
open PySem PySem.Spec PyProof.Rows
section
variable {X : Cx}
def tVar (i : Nat) : TE := fun σ H Q => ∃ v, σ[i]? = some (some v) /\ Q v H
def tC (v : V) : TE := fun _ H Q => Q v H
theorem pe_var {i : Nat} {x : Str} {pos : Pos} (hN : X.N[i]? = some x) (hv : Vis X.env.scope x) (hd : (x == ("__debug__" : Str)) = false := by decide) (hcd : (x == ("__classdict__" : Str)) = false := by decide) : PE X (.Name x pos) (tVar i) := by
 intro pins s σ H Q I h
 obtain ⟨v, e, h⟩ := h
 obtain ⟨m, hn, hl⟩ := I.loc
 obtain ⟨u, r, l⟩ := hl i x v hN e hv
 have fin : EP X pins σ Q u s := ⟨v, H, I, r, h⟩
 rcases l with ⟨hk, hm⟩ | ⟨hk, c, hc, hcell⟩
 ·exact wpAny_Name (wpAny_loadName_local I.ok.kind hk hn hm fin) hd
 ·rcases hk with hk | hk
  ·exact wpAny_Name (wpAny_loadName_cell I.ok.kind hk hc hcell fin) hd
  ·exact wpAny_Name (wpAny_loadName_free I.ok.kind hk hc hcell fin hcd) hd
theorem pI {i j pos} : PE X (.Constant (.int i) j pos) (tC (.int i)) := fun _ _ _ H _ I h => wpAny_Constant_int ⟨.int i, H, I.tok _, ⟨_, rfl⟩, h⟩
theorem pe_bl {b j pos} : PE X (.Constant (.bool b) j pos) (tC (.bl b)) := fun _ _ _ H _ I h => Constant_bool ⟨.bl b, H, I, rfl, h⟩
theorem pe_non {j pos} : PE X (.Constant .none j pos) (tC .non) := fun _ _ _ H _ I h => Constant_none ⟨.non, H, I, rfl, h⟩
theorem pS {x j pos} : PE X (.Constant (.str x) j pos) (tC (.str x)) := fun _ _ _ H _ I h => Calls.Constant_str ⟨.str x, H, I.tok _, ⟨_, rfl⟩, h⟩
def Gl (X : Cx) (x : Str) : Prop := X.env.kindOf x = some .globalImplicit
theorem ld_glob {E : Value -> Shared -> Prop} {pins : List (Addr × Obj)} {s : Shared} {σ : St} {H : Hp} {x : Str} {u : Value} {pos : Pos} {Q : Value -> Shared -> Prop} (I : Inv X pins σ H s) (hg : Gl X x) (hm : X.mg x = some u) (h : Q u s)
  (hd : (x == ("__debug__" : Str)) = false := by decide) : wpAny (model X.prog X.w) X.A (eval (.Name x pos) X.env) Q E s :=
 Calls.Name_function_global I.ok.kind hg (Calls.loadGlobal_global (by rw [I.ok.glob]; exact I.mod.glob.keeps I.bk) hm h) hd
theorem ld_blt {E : Value -> Shared -> Prop} {pins : List (Addr × Obj)} {s : Shared} {σ : St} {H : Hp} {x : Str} {u : Value} {pos : Pos} {Q : Value -> Shared -> Prop} (I : Inv X pins σ H s) (hg : Gl X x) (hm : X.mg x = none) (hv : bootBuiltins x = some u) (h : Q u s)
  (hn : x ≠ "__name__" := by decide) (hd : (x == ("__debug__" : Str)) = false := by decide) : wpAny (model X.prog X.w) X.A (eval (.Name x pos) X.env) Q E s := by
 obtain ⟨mb, h1, h2⟩ := I.mod.blt
 exact Calls.Name_function_global I.ok.kind hg (Calls.loadGlobal_builtin (by rw [I.ok.glob]; exact I.mod.glob.keeps I.bk) hm (by rw [I.ok.blt]; exact h1.keeps I.bk) ((h2 x hn).trans hv) h) hd
theorem pe_glob {x : Str} {v : V} {u : Value} {pos : Pos} (hg : Gl X x) (hm : X.mg x = some u) (r : RelV v u) (hd : (x == ("__debug__" : Str)) = false := by decide) : PE X (.Name x pos) (tC v) :=
 fun _ _ _ H _ I h => ld_glob I hg hm ⟨v, H, I, r, h⟩ hd
theorem pe_bltn {x : Str} {v : V} {u : Value} {pos : Pos} (hg : Gl X x) (hm : X.mg x = none) (hv : bootBuiltins x = some u) (r : RelV v u) (hn : x ≠ "__name__" := by decide) (hd : (x == ("__debug__" : Str)) = false := by decide) : PE X (.Name x pos) (tC v) :=
 fun _ _ _ H _ I h => ld_blt I hg hm hv ⟨v, H, I, r, h⟩ hn hd
variable {a b : Expr} {ta tb : TE} {pos : Pos}
def PC (X : Cx) (op : CmpOp) (a b : Expr) (t : TE) : Prop :=
 ∀ (pins : List (Addr × Obj)) (s : Shared) (σ : St) (H : Hp) (Q : VK), Inv X pins σ H s -> t σ H Q ->
  wpAny (model X.prog X.w) X.A (eval a X.env) (fun v s₁ => wpAny (model X.prog X.w) X.A (eval b X.env) (fun u s₂ => wpAny (model X.prog X.w) X.A (compareOp op v u) (EP X pins σ Q) X.xe s₂) X.xe s₁) X.xe s
def tB (t : TE) : TT := fun σ H Q => t σ H fun x H1 => ∃ c, x = .bl c /\ Q c H1
theorem pt_cmp {op : CmpOp} {t : TE} (h : PC X op a b t) (h1 : behindInMarks op b = false := by first | exact nobehind _ (by decide) (by decide) | rfl) : PT X (.Compare a [op] [b] pos) (tB t) := by
 intro pins s σ H Q I hw
 refine wpAny_isTrue_Compare1 (thn (h pins s σ H _ I hw) fun v s1 h1 => thn h1 fun u s2 h2 => thn h2 fun c s3 ⟨x, H1, I1, r1, q1⟩ => ?_) h1
 obtain ⟨d, rfl, q⟩ := q1
 cases r1
 exact wpAny_truthy_bool ⟨H1, I1, q⟩
variable {tA tB' : TT} {rest : List Expr}
def tAnd (t u : TT) : TT := fun σ H Q => t σ H fun c H1 => if c = true then u σ H1 Q else Q false H1
def tOr (t u : TT) : TT := fun σ H Q => t σ H fun c H1 => if c = true then Q true H1 else u σ H1 Q
def tNot (t : TT) : TT := fun σ H Q => t σ H fun c H1 => Q (!c) H1
theorem pw_and1 (ha : PT X a tA) : PW X (.BoolOp .And [a] pos) tA := by
 intro wh pins s σ H Q I h
 refine isTrue_and (thn (ha pins s σ H Q I h) fun c s1 e => ?_)
 cases c with
 | true => exact isTrue_and_nil e
 | false => exact e
theorem pw_or1 (ha : PT X a tA) : PW X (.BoolOp .Or [a] pos) tA := by
 intro wh pins s σ H Q I h
 refine isTrue_or (thn (ha pins s σ H Q I h) fun c s1 e => ?_)
 cases c with
 | false => exact isTrue_or_nil e
 | true => exact e
theorem pw_and (ha : PT X a tA) (hb : PW X (.BoolOp .And (b :: rest) pos) tB') : PW X (.BoolOp .And (a :: b :: rest) pos) (tAnd tA tB') := by
 intro wh pins s σ H Q I h
 refine isTrue_and (thn (ha pins s σ H _ I h) fun c s1 ⟨H1, I1, q1⟩ => ?_)
 cases c with
 | true => exact hb wh pins s1 σ H1 Q I1 q1
 | false => exact ⟨H1, I1, q1⟩
theorem pw_or (ha : PT X a tA) (hb : PW X (.BoolOp .Or (b :: rest) pos) tB') : PW X (.BoolOp .Or (a :: b :: rest) pos) (tOr tA tB') := by
 intro wh pins s σ H Q I h
 refine isTrue_or (thn (ha pins s σ H _ I h) fun c s1 ⟨H1, I1, q1⟩ => ?_)
 cases c with
 | true => exact ⟨H1, I1, q1⟩
 | false => exact hb wh pins s1 σ H1 Q I1 q1
theorem pt_not (ha : PT X a tA) : PT X (.UnaryOp .Not a pos) (tNot tA) := by
 intro pins s σ H Q I h
 exact isTrue_not (ha pins s σ H (fun c H1 => Q (!c) H1) I h)
def tAndV (ta tb : TE) : TE := fun σ H Q => ta σ H fun x H1 => ∃ c, x = .bl c /\ if c = true then tb σ H1 Q else Q (.bl false) H1
def tOrV (ta tb : TE) : TE := fun σ H Q => ta σ H fun x H1 => ∃ c, x = .bl c /\ if c = true then Q (.bl true) H1 else tb σ H1 Q
def tNotV (ta : TE) : TE := fun σ H Q => ta σ H fun x H1 => ∃ c, x = .bl c /\ Q (.bl (!c)) H1
theorem pe_one {op} {t : TE} (h : PE X a t) : PE X (.BoolOp op [a] pos) t := fun pins s σ H Q I hw => BoolOp_one (h pins s σ H Q I hw)
theorem pe_and (ha : PE X a ta) (hb : PE X (.BoolOp .And (b :: rest) pos) tb) : PE X (.BoolOp .And (a :: b :: rest) pos) (tAndV ta tb) := by
 intro pins s σ H Q I h
 refine BoolOp_and (thn (ha pins s σ H _ I h) fun v s1 ⟨x, H1, I1, r1, q1⟩ => ?_)
 obtain ⟨c, rfl, q1⟩ := q1
 cases r1
 refine wpAny_truthy_bool ?_
 cases c with
 | true => exact hb pins s1 σ H1 Q I1 q1
 | false => exact ⟨.bl false, H1, I1, rfl, q1⟩
theorem pe_or (ha : PE X a ta) (hb : PE X (.BoolOp .Or (b :: rest) pos) tb) : PE X (.BoolOp .Or (a :: b :: rest) pos) (tOrV ta tb) := by
 intro pins s σ H Q I h
 refine BoolOp_or (thn (ha pins s σ H _ I h) fun v s1 ⟨x, H1, I1, r1, q1⟩ => ?_)
 obtain ⟨c, rfl, q1⟩ := q1
 cases r1
 refine wpAny_truthy_bool ?_
 cases c with
 | false => exact hb pins s1 σ H1 Q I1 q1
 | true => exact ⟨.bl true, H1, I1, rfl, q1⟩
theorem pe_not (ha : PE X a ta) : PE X (.UnaryOp .Not a pos) (tNotV ta) := by
 intro pins s σ H Q I h
 refine UnaryOp_ (thn (ha pins s σ H _ I h) fun v s1 ⟨x, H1, I1, r1, q1⟩ => ?_)
 obtain ⟨c, rfl, q1⟩ := q1
 cases r1
 exact not_of (wpAny_truthy_bool ⟨.bl (!c), H1, I1, rfl, q1⟩)
end
end L2
namespace L2
open PySem PySem.Spec PyProof.Rows
def SqL (K : PySem.W.Frag) (H : Hp) (a : Addr) (xs : List V) : Prop :=
 Rd H a (.lst xs) ∨
  ∃ (o : Obj) (its : Array Value) (n : Nat), K.lookup a = some o /\ o.cls = .type "list" /\ o.dict = none /\ o.data = .seq its n /\ its.size <= sizeLine /\ Vals xs its.toList
def SqT (K : PySem.W.Frag) (H : Hp) (a : Addr) (xs : List V) : Prop :=
 Rd H a (.tup xs) ∨
  ∃ (o : Obj) (its : Array Value) (n : Nat), K.lookup a = some o /\ o.cls = .type "tuple" /\ o.data = .seq its n /\ its.size <= sizeLine /\ Vals xs its.toList
def absV : Value -> Option V
 | .none => some .non
 | .bool b => some (.bl b)
 | .int i _ => some (.int i)
 | .str x _ => some (.str x)
 | .bytes b _ => some (.byt b)
 | .float b _ => some (.flt b)
 | .ref a => some (.ref a)
 | .type n => some (.ty n)
 | _ => none
theorem RelV.abs {x : V} {u : Value} (r : RelV x u) : absV u = some x := by
 cases x with
 | non => cases r; rfl
 | bl _ => cases r; rfl
 | int _ => obtain ⟨t, rfl⟩ := r; rfl
 | str _ => obtain ⟨t, rfl⟩ := r; rfl
 | byt _ => obtain ⟨t, rfl⟩ := r; rfl
 | flt _ => obtain ⟨t, rfl⟩ := r; rfl
 | ref _ => cases r; rfl
 | ty _ => cases r; rfl
theorem RelV.inj {x y : V} {u : Value} (r : RelV x u) (q : RelV y u) : x = y := Option.some.inj (r.abs.symm.trans q.abs)
theorem Vals.inj : ∀ {xs ys : List V} {us : List Value}, Vals xs us -> Vals ys us -> xs = ys
 | _, _, _, .nil, .nil => rfl
 | _, _, _, .cons r t, .cons r' t' => by rw [r.inj r', Vals.inj t t']
section
variable {X : Cx} {pins : List (Addr × Obj)} {σ : St} {H : Hp} {s : Shared} {a : Addr} {xs ys : List V}
theorem SqL.of {K : PySem.W.Frag} (h : H a = some (.lst xs)) : SqL K H a xs := .inl (.inl h)
theorem SqT.of {K : PySem.W.Frag} (h : H a = some (.tup xs)) : SqT K H a xs := .inl (.inl h)
theorem Inv.list (I : Inv X pins σ H s) (h : SqL X.K H a xs) : ∃ its : List Value, Vals xs its /\ PlainL s.heap a its.toArray /\ xs.length <= sizeLine := by
 rcases h with h | ⟨o, its, n, hk, hc, hd, hs, hz, r⟩
 ·obtain ⟨z, its, n, r, e⟩ := h.ok I.hok
  exact ⟨its, r, ⟨_, n, e, rfl, rfl, rfl⟩, z⟩
 ·refine ⟨its.toList, r, ⟨o, n, I.kIn a o hk, hc, hd, by simpa using hs⟩, ?_⟩
  have e := r.length
  simp only [Array.length_toList] at e
  omega
theorem Inv.tuple (I : Inv X pins σ H s) (h : SqT X.K H a xs) : ∃ its : List Value, Vals xs its /\ IsTup s.heap a its.toArray /\ xs.length <= sizeLine := by
 rcases h with h | ⟨o, its, n, hk, hc, hs, hz, r⟩
 ·obtain ⟨z, its, r, p⟩ := h.ok I.hok
  exact ⟨its, r, p, z⟩
 ·refine ⟨its.toList, r, ⟨o, I.kIn a o hk, hc, n, by simpa using hs⟩, ?_⟩
  have e := r.length
  simp only [Array.length_toList] at e
  omega
theorem Inv.list_inj (I : Inv X pins σ H s) (h : SqL X.K H a xs) (h' : SqL X.K H a ys) : xs = ys := by
 obtain ⟨its, r, ⟨o, n, e, _, _, d⟩, _⟩ := I.list h
 obtain ⟨its', r', ⟨o', n', e', _, _, d'⟩, _⟩ := I.list h'
 rw [e] at e'; cases e'
 rw [d] at d'
 injection d' with d1 _
 have : its = its' := by simpa using congrArg Array.toList d1
 subst this
 exact r.inj r'
theorem Inv.tuple_inj (I : Inv X pins σ H s) (h : SqT X.K H a xs) (h' : SqT X.K H a ys) : xs = ys := by
 obtain ⟨its, r, ⟨o, e, _, n, d⟩, _⟩ := I.tuple h
 obtain ⟨its', r', ⟨o', e', _, n', d'⟩, _⟩ := I.tuple h'
 rw [e] at e'; cases e'
 rw [d] at d'
 injection d' with d1 _
 have : its = its' := by simpa using congrArg Array.toList d1
 subst this
 exact r.inj r'
end
abbrev Cx.wish (X : Cx) (E : Value -> Shared -> Prop) : Cx := { X with xe := E }
abbrev Cx.nox (X : Cx) : Cx := X.wish fun _ _ => False
theorem Cx.Ok.wish {X : Cx} (ok : X.Ok) (E : Value -> Shared -> Prop) : (X.wish E).Ok :=
 ⟨ok.mod, ok.kind, ok.glob, ok.blt, ok.above, ok.inj, ok.has, ok.cab, ok.hd, ok.frames, ok.stk, ok.exf, ok.bs, ok.bsz, ok.noex, ok.exfs, ok.funs, ok.frf⟩
theorem Cx.Ok.unwish {X : Cx} {E : Value -> Shared -> Prop} (ok : (X.wish E).Ok) : X.Ok :=
 ⟨ok.mod, ok.kind, ok.glob, ok.blt, ok.above, ok.inj, ok.has, ok.cab, ok.hd, ok.frames, ok.stk, ok.exf, ok.bs, ok.bsz, ok.noex, ok.exfs, ok.funs, ok.frf⟩
section
variable {X : Cx} {pins : List (Addr × Obj)} {σ : St} {H : Hp} {s : Shared} {E : Value -> Shared -> Prop}
theorem Inv.wish (I : Inv X pins σ H s) (E : Value -> Shared -> Prop) : Inv (X.wish E) pins σ H s := ⟨I.ok.wish E, I.os, I.bare, I.base, I.loc, I.cell, I.free, I.freeC, I.pin, I.hok, I.len⟩
theorem Inv.unwish (I : Inv (X.wish E) pins σ H s) : Inv X pins σ H s := ⟨I.ok.unwish, I.os, I.bare, I.base, I.loc, I.cell, I.free, I.freeC, I.pin, I.hok, I.len⟩
theorem SP.unwish {D : Ends} {f : Flow} {s' : Shared} (h : SP (X.wish E) pins D f s') : SP X pins D f s' := by
 cases f with
 | next => obtain ⟨σ', H', I, q⟩ := h; exact ⟨σ', H', I.unwish, q⟩
 | brk => obtain ⟨σ', H', I, q⟩ := h; exact ⟨σ', H', I.unwish, q⟩
 | cont => obtain ⟨σ', H', I, q⟩ := h; exact ⟨σ', H', I.unwish, q⟩
 | ret u => obtain ⟨v, σ', H', I, r, q⟩ := h; exact ⟨v, σ', H', I.unwish, r, q⟩
theorem PSs.nox {st : List Stmt} {t : TS} (h : PSs X.nox st t) : PSs X st t := fun pins s σ H D I hw =>
 wpAny_mono (h pins s σ H D (I.wish _) hw) (fun _ _ q => q.unwish) fun _ _ z => False.elim z
end
section
variable {X : Cx} {st : Stmt} {rest : List Stmt} {t u : TS} {e : Expr} {te : TE} {pos : Pos}
def tNext : TS := fun D σ H => D.nx σ H
def tSeq (t u : TS) : TS := fun D σ H => t { D with nx := u D } σ H
theorem pQ : PSs X [] tNext := fun _ _ σ H _ I h => wpAny_execs_nil ⟨σ, H, I, h⟩
theorem zpn (h1 : PS X st t) (h2 : PSs X rest u) : PSs X (st :: rest) (tSeq t u) := by
 intro pins s σ H D I h
 refine wpAny_execs_cons (thn (h1 pins s σ H { D with nx := u D } I h) fun f s1 q => ?_)
 cases f with
 | next =>
  obtain ⟨σ', H', I', q⟩ := q
  exact h2 pins s1 σ' H' D I' q
 | ret v => exact q
 | brk => exact q
 | cont => exact q
theorem po (h1 : PS X st t) : PSs X [st] t := by
 intro pins s σ H D I h
 refine wpAny_execs_cons (thn (h1 pins s σ H D I h) fun f s1 q => ?_)
 cases f with
 | next => exact wpAny_execs_nil q
 | ret v => exact q
 | brk => exact q
 | cont => exact q
theorem Inv.quiet {pins : List (Addr × Obj)} {σ : St} {H : Hp} {s : Shared} (I : Inv X pins σ H s) : interactive X.env = false := by simp [interactive, I.ok.kind]
def tDrop (te : TE) : TS := fun D σ H => te σ H fun _ H1 => D.nx σ H1
theorem xay (he : PE X e te) (hs : swapsWith e none pos.line X.env = pure false := by rfl) : PS X (.Expr e pos) (tDrop te) := by
 intro pins s σ H D I h
 exact wpAny_Expr_any (thn (he pins s σ H _ I h) fun v s1 ⟨x, H1, I1, r1, q1⟩ => ⟨σ, H1, I1, q1⟩) I.quiet hs
def tRet (te : TE) : TS := fun D σ H => te σ H D.rt
theorem xad (he : PE X e te) : PS X (.Return (some e) pos) (tRet te) := by
 intro pins s σ H D I h
 exact wpAny_Return_some (thn (he pins s σ H _ I h) fun v s1 ⟨x, H1, I1, r1, q1⟩ => ⟨x, σ, H1, I1, r1, q1⟩)
def tIfS (c : TT) (t u : TS) : TS := fun D σ H => c σ H fun b H1 => if b = true then t D σ H1 else u D σ H1
theorem xap {c : Expr} {a b : List Stmt} {tc : TT} (hc : PT X c tc) (ha : PSs X a t) (hb : PSs X b u) : PS X (.If c a b pos) (tIfS tc t u) := by
 intro pins s σ H D I h
 refine wpAny_If (thn (hc pins s σ H _ I h) fun d s1 ⟨H1, I1, q1⟩ => ?_)
 cases d with
 | true => exact ha pins s1 σ H1 D I1 q1
 | false => exact hb pins s1 σ H1 D I1 q1
end
abbrev TG := V -> St -> Hp -> (St -> Hp -> Prop) -> Prop
abbrev TGs := List V -> St -> Hp -> (St -> Hp -> Prop) -> Prop
def PG (X : Cx) (target : Expr) (t : TG) : Prop :=
 ∀ (pins : List (Addr × Obj)) (s : Shared) (σ : St) (H : Hp) (v : V) (u : Value) (Q : St -> Hp -> Prop), Inv X pins σ H s -> RelV v u -> t v σ H Q ->
  wpAny (model X.prog X.w) X.A (assign target X.env u) (fun _ s' => ∃ σ' H', Inv X pins σ' H' s' /\ Q σ' H') X.xe s
def PGs (X : Cx) (ts : List Expr) (t : TGs) : Prop :=
 ∀ (pins : List (Addr × Obj)) (s : Shared) (σ : St) (H : Hp) (vs : List V) (us : List Value) (Q : St -> Hp -> Prop), Inv X pins σ H s -> Vals vs us -> t vs σ H Q ->
  wpAny (model X.prog X.w) X.A (assignInOrder ((assignEach ts X.env).map (·.2)) us) (fun _ s' => ∃ σ' H', Inv X pins σ' H' s' /\ Q σ' H') X.xe s
abbrev TSet := V -> V -> V -> Hp -> (Hp -> Prop) -> Prop
def PSet (X : Cx) (t : TSet) : Prop :=
 ∀ (pins : List (Addr × Obj)) (s : Shared) (σ : St) (H : Hp) (o i v : V) (ov iv u : Value) (Q : Hp -> Prop), Inv X pins σ H s -> RelV o ov -> RelV i iv -> RelV v u -> t o i v H Q ->
  wpAny (model X.prog X.w) X.A (setItem ov iv u) (fun _ s' => ∃ H', Inv X pins σ H' s' /\ Q H') X.xe s
section
variable {X : Cx} {pos : Pos}
def gName (i : Nat) : TG := fun v σ H Q => Q (σ.set i (some v)) H
theorem xaf {i : Nat} {x : Str} (hN : X.N.Nodup) (hi : X.N[i]? = some x) (hx : Loc X.env.scope x) (hf : X.fn x = true \/ X.env.scope.names.lookup x = some .local := by first | exact .inl rfl | exact .inr rfl | assumption) : PG X (.Name x pos) (gName i) := by
 intro pins s σ H v u Q I r h
 exact wpAny_assign_Name (store_ok I hN hi hx r (fun s' I' => ⟨_, H, I', h⟩) hf)
def gNil : TGs := fun vs σ H Q => vs = [] /\ Q σ H
def gCons (t : TG) (u : TGs) : TGs := fun vs σ H Q => ∃ v r, vs = v :: r /\ t v σ H fun σ' H' => u r σ' H' Q
theorem xax : PGs X [] gNil := by
 intro pins s σ H vs us Q I r h
 obtain ⟨e, h⟩ := h
 subst e
 cases r
 exact assignInOrder_nil ⟨σ, H, I, h⟩
theorem xag {e : Expr} {es : List Expr} {t : TG} {u : TGs} (h1 : PG X e t) (h2 : PGs X es u)
  (hs : (assignEach (e :: es) X.env).map (·.2) = assign e X.env :: (assignEach es X.env).map (·.2) := by rfl) : PGs X (e :: es) (gCons t u) := by
 intro pins s σ H vs us Q I r h
 obtain ⟨v, vr, e1, h⟩ := h
 subst e1
 cases r with
 | cons r rr =>
  rw [hs]
  refine assignInOrder_cons (thn (h1 pins s σ H _ _ _ I r h) fun _ s1 ⟨σ1, H1, I1, q1⟩ => ?_)
  exact h2 pins s1 σ1 H1 _ _ Q I1 rr q1
def gTup (K : PySem.W.Frag) (n : Nat) (t : TGs) : TG := fun v σ H Q => ∃ a xs, v = .ref a /\ SqT K H a xs /\ xs.length = n /\ t xs σ H Q
theorem pg_tup {es : List Expr} {k : Nat} {t : TGs} {n : Nat} (hc : X.calm = true) (h : PGs X es t)
  (hn : (assignEach es X.env).length = n := by rfl) (hst : (assignEach es X.env).findIdx? (·.1) = none := by rfl) : PG X (.Tuple es k pos) (gTup X.K n t) := by
 intro pins s σ H v u Q I r hw
 obtain ⟨a, xs, e1, hq, hl, hw⟩ := hw
 subst e1
 cases r
 obtain ⟨its, rv, ht, hz⟩ := I.tuple hq
 refine assign_Tuple_tuple (I.ok.hd hc) ht (by simp [hn, <- hl, rv.length]) hst fun h' hx => ?_
 have I1 : Inv X pins σ H { s with heap := h' } := I.kept (t' := s.toks) fun b o e => hx b o (Nat.ne_of_lt (Heap.lt_size e)) e
 exact h pins _ σ H xs _ Q I1 (by simpa using rv) hw
def gSub (to ti : TE) (t : TSet) : TG := fun v σ H Q => to σ H fun o H1 => ti σ H1 fun i H2 => t o i v H2 fun H3 => Q σ H3
theorem pg_sub {o i : Expr} {to ti : TE} {t : TSet} (ho : PE X o to) (hi : PE X i ti) (hs : PSet X t)
  (ha : ∀ v, assign (.Subscript o i pos) X.env v = (do
   let ov <- holding [v] (eval o X.env)
   let iv <- holding [v, ov] (eval i X.env)
   standAt pos
   holding [v, ov, iv] (setItem ov iv v)
   release [v, ov, iv] []) := by intro _; rfl) : PG X (.Subscript o i pos) (gSub to ti t) := by
 intro pins s σ H v u Q I r h
 rw [ha]
 refine wpAny_bind (wpAny_holding (thn (ho pins s σ H _ I h) fun ov s1 ⟨x, H1, I1, r1, q1⟩ => ?_))
 refine wpAny_bind (wpAny_holding (thn (hi pins s1 σ H1 _ I1 q1) fun iv s2 ⟨y, H2, I2, r2, q2⟩ => ?_))
 refine wpAny_bind (wpAny_standAt (wpAny_bind (wpAny_holding (thn (hs pins s2 σ H2 x y v ov iv u _ I2 r1 r2 r q2) fun _ s3 ⟨H3, I3, q3⟩ => ?_))))
 exact wpAny_release ⟨σ, H3, I3, q3⟩
def tAsg (te : TE) (g : TG) : TS := fun D σ H => te σ H fun x H1 => g x σ H1 D.nx
theorem ps_asg {tg e : Expr} {te : TE} {g : TG} (he : PE X e te) (hg : PG X tg g) (hs : swapsWithSole [tg] e pos.line X.env = pure false := by rfl) (hw : swappedStores [tg] e X.env = pure none := by rfl)
  (h1 : (assignEach [tg] X.env).map (·.2) = [assign tg X.env] := by rfl) : PS X (.Assign [tg] e pos) (tAsg te g) := by
 intro pins s σ H D I h
 refine wpAny_Assign_stores (thn (he pins s σ H _ I h) fun v s1 ⟨x, H1, I1, r1, q1⟩ => ?_) hs hw
 rw [h1]
 exact thn (hg pins s1 σ H1 x v _ I1 r1 q1) fun _ s2 q => q
theorem xae {i : Nat} {x : Str} {e : Expr} {te : TE} {pos' : Pos} (hN : X.N.Nodup) (hi : X.N[i]? = some x) (hx : Loc X.env.scope x) (he : PE X e te) (hs : swapsWith e (some (.Name x pos')) pos.line X.env = pure false := by rfl) (hf : X.fn x = true \/ X.env.scope.names.lookup x = some .local := by first | exact .inl rfl | exact .inr rfl | assumption) :
  PS X (.Assign [.Name x pos'] e pos) (tAsg te (gName i)) := by
 intro pins s σ H D I h
 refine wpAny_Assign_Name (thn (he pins s σ H _ I h) fun v s1 ⟨y, H1, I1, r1, q1⟩ => ?_) hs
 exact store_ok I1 hN hi hx r1 (fun s2 I2 => ⟨_, H1, I2, q1⟩) hf
end
structure It where
 go : Nat -> Hp -> Prop
 yld : Nat -> Hp -> V -> Hp -> Prop
 stop : Nat -> Hp -> Prop
def FpOk (X : Cx) (pins : List (Addr × Obj)) (H : Hp) (b : Addr) : Prop :=
 H b = none /\ b ≠ X.env.locals /\ b ∉ X.fs /\ (b ∈ X.ex \/ X.s₀.heap.objs.size <= b) /\ (∀ x c, X.env.cells.lookup x = some c -> c ≠ b) /\ ∀ p ∈ X.pn ++ pins, p.1 ≠ b
theorem Inv.fpOk {X : Cx} {pins : List (Addr × Obj)} {σ : St} {H H' : Hp} {s : Shared} {b : Addr} (I : Inv X pins σ H s) (hb : s.heap.objs.size <= b) (hn : H' b = none) : FpOk X pins H' b := by
 refine ⟨hn, Nat.ne_of_gt (Nat.lt_of_lt_of_le I.lt hb), I.nofs hb, .inr (Nat.le_trans I.sz hb), fun x c e z => ?_, fun p hp z => ?_⟩
 ·obtain ⟨v, q⟩ := I.cell x c e
  exact absurd (Nat.lt_of_lt_of_le q.lt (by rw [z]; exact hb)) (Nat.lt_irrefl _)
 ·exact absurd (Nat.lt_of_lt_of_le (Heap.lt_size (I.pin p hp).1) (by rw [z]; exact hb)) (Nat.lt_irrefl _)
structure Turn (P : Program) (w : World) (K : PySem.W.Frag) (tg : Expr) (J : It) (fp : List Addr) (it : Addr) (tn : Nat -> Heap -> Prop) : Prop where
 mem : it ∈ fp
 obj : ∀ i h, tn i h -> ∀ b ∈ fp, ∃ o, h.get? b = some o /\ ∀ v, o.data ≠ .cell v
 keep : ∀ i h h', tn i h -> (∀ b ∈ fp, ∀ o, h.get? b = some o -> h'.get? b = some o) -> tn i h'
 item : ∀ (X : Cx), X.prog = P -> X.w = w -> X.K = K -> X.calm = true -> ∀ (i : Nat) (pins : List (Addr × Obj)) (s : Shared) (σ : St) (H : Hp) (E : Value -> Shared -> Prop), Inv X pins σ H s -> (∀ b ∈ fp, FpOk X pins H b) -> tn i s.heap -> J.go i H ->
  wpAny (model P w) X.A (pyNext (.ref it)) (fun r s1 => ∃ u, r = some u ∧
   wpAny (model P w) X.A (letOwnedTupleGo tg (.ref it) u) (fun _ s2 => ∃ x H', Inv X pins σ H' s2 /\ RelV x u /\ J.yld i H x H' /\ tn (i + 1) s2.heap /\ ∀ b ∈ fp, H' b = none) E s1) E s
 done : ∀ (X : Cx), X.prog = P -> X.w = w -> X.K = K -> X.calm = true -> ∀ (i : Nat) (pins : List (Addr × Obj)) (s : Shared) (σ : St) (H : Hp) (E : Value -> Shared -> Prop), Inv X pins σ H s -> (∀ b ∈ fp, FpOk X pins H b) -> tn i s.heap -> J.stop i H ->
  wpAny (model P w) X.A (pyNext (.ref it)) (fun r s1 => r = none /\ Inv X pins σ H s1) E s
 self : ∀ (A : Around) (i : Nat) (s : Shared) (Q : Value -> Shared -> Prop) (E : Value -> Shared -> Prop), tn i s.heap -> Q (.ref it) s -> wpAny (model P w) A (pyIter (.ref it)) Q E s
abbrev TI := St -> Hp -> (It -> Hp -> Prop) -> Prop
def PIE (X : Cx) (pins : List (Addr × Obj)) (σ : St) (tg : Expr) (R : It -> Hp -> Prop) (itv : Value) (s2 : Shared) : Prop :=
 ∃ (it : Addr) (fp : List Addr) (tn : Nat -> Heap -> Prop) (J : It) (H' : Hp), itv = .ref it /\ Inv X pins σ H' s2 /\ Turn X.prog X.w X.K tg J fp it tn /\ tn 0 s2.heap /\ (∀ b ∈ fp, FpOk X pins H' b) /\ R J H'
def PI (X : Cx) (tg iter : Expr) (wi : TI) : Prop :=
 ∀ (pins : List (Addr × Obj)) (s : Shared) (σ : St) (H : Hp) (R : It -> Hp -> Prop), Inv X pins σ H s -> wi σ H R ->
  wpAny (model X.prog X.w) X.A (eval iter X.env) (fun v s1 => wpAny (model X.prog X.w) X.A (pyIter v) (PIE X pins σ tg R) X.xe s1) X.xe s
theorem go_of {M : Model} {A : Around} {E : Value -> Shared -> Prop} {s : Shared} {tg : Expr} {it : Addr} {u : Value} {o : Obj} {n : String} {vs : Array Value} {Q : Unit -> Shared -> Prop} (ho : s.heap.get? it = some o) (hc : o.cls = .type n) (hd : o.data = .fields vs)
    (hn : ["enumerate", "zip", "dict_itemiterator", "dict_reverseitemiterator", "odict_iterator", "itertools.zip_longest", "itertools.pairwise"].contains n = false) (hQ : Q () s) : wpAny M A (letOwnedTupleGo tg (.ref it) u) Q E s := by
  unfold letOwnedTupleGo
  cases tg <;> first
    | exact wpAny_pure hQ
    | (cases u <;> first
        | exact wpAny_pure hQ
        | (refine wpAny_bind (wpAny_load ho ?_)
           rw [hc, hd]
           show wpAny M A (if (["enumerate", "zip", "dict_itemiterator", "dict_reverseitemiterator", "odict_iterator", "itertools.zip_longest", "itertools.pairwise"].contains n && vs[0]? == some (rawInt _)) = true then _ else _) Q E s
           rw [if_neg (by intro h; rw [hn, Bool.false_and] at h; cases h)]
           exact wpAny_pure hQ))
def Itl (K : PySem.W.Frag) (a : Addr) : It :=
 ⟨fun i H => ∃ xs x, SqL K H a xs /\ xs[i]? = some x, fun i H x H' => H' = H /\ ∀ xs, SqL K H a xs -> xs[i]? = some x, fun i H => ∃ xs, SqL K H a xs /\ xs.length <= i⟩
def Itt (K : PySem.W.Frag) (a : Addr) : It :=
 ⟨fun i H => ∃ xs x, SqT K H a xs /\ xs[i]? = some x, fun i H x H' => H' = H /\ ∀ xs, SqT K H a xs -> xs[i]? = some x, fun i H => ∃ xs, SqT K H a xs /\ xs.length <= i⟩
def Itr (lo : Int) (n : Nat) : It := ⟨fun i _ => i < n, fun i H x H' => H' = H /\ x = .int (lo + i), fun i _ => n <= i⟩
theorem turn_list {P : Program} {w : World} {K : PySem.W.Frag} {tg : Expr} (a it : Addr) : Turn P w K tg (Itl K a) [it] it (fun i h => h.IsListIter it a i) where
 mem := by simp
 obj := fun i h st b hb => by
  have e : b = it := by simpa using hb
  subst e
  obtain ⟨o, e, c, d⟩ := st
  exact ⟨o, e, fun v z => by rw [d] at z; cases z⟩
 keep := fun i h h' st k => st.at fun o e => k it (by simp) o e
 item := by
  intro X hP hw hK hc i pins s σ H E I hf st hg
  subst hP hw hK
  obtain ⟨xs, x, hq, hx⟩ := hg
  obtain ⟨its, rv, p, hz⟩ := I.list hq
  obtain ⟨u, hu, ru⟩ := rv.get hx
  obtain ⟨f0, f1, f2, f3, f4, f5⟩ := hf it (by simp)
  refine wpAny_pyNext_list_item st p.isList (x := u) (by simpa using hu) fun h' st' sb => ?_
  have I1 : Inv X pins σ H { s with heap := h' } := I.turned (t' := s.toks) (fun b o hb e => (sb.2 b hb).trans e) f0 f1 f3 f4 f5
  obtain ⟨o, e, c, d⟩ := id st'
  exact ⟨u, rfl, go_of (s := { s with heap := h' }) e c d (by decide) ⟨x, H, I1, ru, ⟨rfl, fun ys hy => by rw [I.list_inj hy hq]; exact hx⟩, st', fun b hb => (hf b hb).1⟩⟩
 done := by
  intro X hP hw hK hc i pins s σ H E I hf st hg
  subst hP hw hK
  obtain ⟨xs, hq, hx⟩ := hg
  obtain ⟨its, rv, p, hz⟩ := I.list hq
  obtain ⟨f0, f1, f2, f3, f4, f5⟩ := hf it (by simp)
  have hl := rv.length
  exact wpAny_pyNext_list_end (I.ok.hd hc) st p.isList (by simp; omega) fun h' eb => ⟨rfl, I.turned (t' := s.toks) (fun b o hb e => eb b o hb e) f0 f1 f3 f4 f5⟩
 self := fun _ _ _ _ _ st h => wpAny_pyIter_listiter st h
theorem turn_tuple {P : Program} {w : World} {K : PySem.W.Frag} {tg : Expr} (a it : Addr) : Turn P w K tg (Itt K a) [it] it (fun i h => h.IsTupleIter it a i) where
 mem := by simp
 obj := fun i h st b hb => by
  have e : b = it := by simpa using hb
  subst e
  obtain ⟨o, e, c, d⟩ := st
  exact ⟨o, e, fun v z => by rw [d] at z; cases z⟩
 keep := fun i h h' st k => st.at fun o e => k it (by simp) o e
 item := by
  intro X hP hw hK hc i pins s σ H E I hf st hg
  subst hP hw hK
  obtain ⟨xs, x, hq, hx⟩ := hg
  obtain ⟨its, rv, p, hz⟩ := I.tuple hq
  obtain ⟨u, hu, ru⟩ := rv.get hx
  obtain ⟨f0, f1, f2, f3, f4, f5⟩ := hf it (by simp)
  refine wpAny_pyNext_tuple_item st (show s.heap.IsTuple a its.toArray from p) (x := u) (by simpa using hu) fun h' st' sb => ?_
  have I1 : Inv X pins σ H { s with heap := h' } := I.turned (t' := s.toks) (fun b o hb e => (sb.2 b hb).trans e) f0 f1 f3 f4 f5
  obtain ⟨o, e, c, d⟩ := id st'
  exact ⟨u, rfl, go_of (s := { s with heap := h' }) e c d (by decide) ⟨x, H, I1, ru, ⟨rfl, fun ys hy => by rw [I.tuple_inj hy hq]; exact hx⟩, st', fun b hb => (hf b hb).1⟩⟩
 done := by
  intro X hP hw hK hc i pins s σ H E I hf st hg
  subst hP hw hK
  obtain ⟨xs, hq, hx⟩ := hg
  obtain ⟨its, rv, p, hz⟩ := I.tuple hq
  obtain ⟨f0, f1, f2, f3, f4, f5⟩ := hf it (by simp)
  have hl := rv.length
  exact wpAny_pyNext_tuple_end (I.ok.hd hc) st (show s.heap.IsTuple a its.toArray from p) (by simp; omega) fun h' eb => ⟨rfl, I.turned (t' := s.toks) (fun b o hb e => eb b o hb e) f0 f1 f3 f4 f5⟩
 self := fun _ _ _ _ _ st h => wpAny_pyIter_tupleiter st h
theorem turn_range {P : Program} {w : World} {K : PySem.W.Frag} {tg : Expr} (it : Addr) (lo : Int) (n : Nat) : Turn P w K tg (Itr lo n) [it] it (fun i h => IsRangeIter h it (lo + (i : Nat) * 1) ((n : Int) - (i : Nat)) 1) where
 mem := by simp
 obj := fun i h st b hb => by
  have e : b = it := by simpa using hb
  subst e
  exact ⟨_, st, fun v z => by
   have z' : Data.fields _ = Data.cell v := z
   cases z'⟩
 keep := fun i h h' st k => k it (by simp) _ st
 item := by
  intro X hP hw hK hc i pins s σ H E I hf st hg
  subst hP hw hK
  obtain ⟨f0, f1, f2, f3, f4, f5⟩ := hf it (by simp)
  have W := Walks.range (prog := X.prog) (w := X.w) (I.ok.hd hc) it lo 1 n
  refine W.item i s _ _ hg st fun v h' tk hv st' kk => ?_
  obtain ⟨t, rfl⟩ := hv
  have I1 : Inv X pins σ H { s with heap := h', toks := tk } := I.turned (fun b o hb e => kk b o (by simpa using hb) e) f0 f1 f3 f4 f5
  refine ⟨_, rfl, go_of (s := { s with heap := h', toks := tk }) (n := "range_iterator") st' rfl rfl (by decide) ⟨.int (lo + i), H, I1, ⟨t, ?_⟩, ⟨rfl, rfl⟩, st', fun b hb => (hf b hb).1⟩⟩
  rw [Int.mul_one]
 done := by
  intro X hP hw hK hc i pins s σ H E I hf st hg
  subst hP hw hK
  obtain ⟨f0, f1, f2, f3, f4, f5⟩ := hf it (by simp)
  exact wpAny_pyNext_range_end (I.ok.hd hc) st (by have : n <= i := hg; omega) fun h' eb => ⟨rfl, I.turned (t' := s.toks) (fun b o hb e => eb b o hb e) f0 f1 f3 f4 f5⟩
 self := fun _ _ _ _ _ st h => wpAny_pyIter_rangeiter st h
end L2
namespace L2
open PySem PySem.Spec PyProof.Rows
section
variable {X : Cx} {tg : Expr}
def iList (K : PySem.W.Frag) (tl : TE) : TI := fun σ H R => tl σ H fun x H1 => ∃ a, x = .ref a /\ (∃ xs, SqL K H1 a xs) /\ R (Itl K a) H1
def iTup (K : PySem.W.Frag) (tl : TE) : TI := fun σ H R => tl σ H fun x H1 => ∃ a, x = .ref a /\ (∃ xs, SqT K H1 a xs) /\ R (Itt K a) H1
theorem pi_list {l : Expr} {tl : TE} (hl : PE X l tl) : PI X tg l (iList X.K tl) := by
 intro pins s σ H R I h
 refine thn (hl pins s σ H _ I h) fun v s1 ⟨x, H1, I1, r1, q1⟩ => ?_
 obtain ⟨a, e, ⟨xs, hq⟩, q⟩ := q1
 subst e
 cases r1
 obtain ⟨its, rv, p, hz⟩ := I1.list hq
 refine wpAny_pyIter_list p.isList ?_
 refine ⟨s1.heap.objs.size, [s1.heap.objs.size], _, _, H1, rfl, I1.kept (t' := s1.toks) fun b o e => Heap.get?_push_of_some _ e, turn_list a _, ⟨_, Heap.get?_push_size _ rfl, rfl, rfl⟩, fun b hb => ?_, q⟩
 have e : b = s1.heap.objs.size := by simpa using hb
 subst e
 exact I1.fpOk (Nat.le_refl _) (I1.hok.fresh (Nat.le_refl _))
theorem pi_tup {l : Expr} {tl : TE} (hl : PE X l tl) : PI X tg l (iTup X.K tl) := by
 intro pins s σ H R I h
 refine thn (hl pins s σ H _ I h) fun v s1 ⟨x, H1, I1, r1, q1⟩ => ?_
 obtain ⟨a, e, ⟨xs, hq⟩, q⟩ := q1
 subst e
 cases r1
 obtain ⟨its, rv, p, hz⟩ := I1.tuple hq
 refine wpAny_pyIter_tuple (show s1.heap.IsTuple a its.toArray from p) ?_
 refine ⟨s1.heap.objs.size, [s1.heap.objs.size], _, _, H1, rfl, I1.kept (t' := s1.toks) fun b o e => Heap.get?_push_of_some _ e, turn_tuple a _, ⟨_, Heap.get?_push_size _ rfl, rfl, rfl⟩, fun b hb => ?_, q⟩
 have e : b = s1.heap.objs.size := by simpa using hb
 subst e
 exact I1.fpOk (Nat.le_refl _) (I1.hok.fresh (Nat.le_refl _))
theorem range_it {pins : List (Addr × Obj)} {σ : St} {H : Hp} {s : Shared} {R : It -> Hp -> Prop} {E : Value -> Shared -> Prop} {lo hi : Int} {t u v : Tok} {tk : Nat} (I : Inv X pins σ H s) (h1 : -(2 ^ 62) <= lo) (h2 : lo < 2 ^ 62) (h3 : -(2 ^ 62) <= hi) (h4 : hi < 2 ^ 62)
  (q : R (Itr lo (hi - lo).toNat) H) : wpAny (model X.prog X.w) X.A (pyIter (.ref s.heap.objs.size)) (PIE X pins σ tg R) E { s with heap := s.heap.push { cls := .type "range", data := .fields #[.int lo t, .int hi u, .int 1 v] }, toks := tk } := by
 refine wpAny_pyIter_range (IsRange.new ..) (small_one h1 h2 h3 h4) ?_
 have I1 : Inv X pins σ H { s with heap := s.heap.push { cls := .type "range", data := .fields #[.int lo t, .int hi u, .int 1 v] }, toks := tk } := I.kept fun b o e => Heap.get?_push_of_some _ e
 refine ⟨(s.heap.push { cls := .type "range", data := .fields #[.int lo t, .int hi u, .int 1 v] }).objs.size, [(s.heap.push { cls := .type "range", data := .fields #[.int lo t, .int hi u, .int 1 v] }).objs.size], _, _, H, rfl,
  I1.kept (t' := tk) fun b o e => Heap.get?_push_of_some _ e, turn_range _ lo (hi - lo).toNat, ?_, fun b hb => ?_, q⟩
 ·have e1 : lo + ((0 : Nat) : Int) * 1 = lo := by simp
  have e2 : (((hi - lo).toNat : Nat) : Int) - ((0 : Nat) : Int) = Builtin.Range.rangeSize lo hi 1 := by rw [rangeSize_one]; split <;> omega
  show IsRangeIter _ _ (lo + ((0 : Nat) : Int) * 1) ((((hi - lo).toNat : Nat) : Int) - ((0 : Nat) : Int)) 1
  rw [e1, e2]
  exact Heap.get?_push_size _ rfl
 ·have e : b = (s.heap.push { cls := .type "range", data := .fields #[.int lo t, .int hi u, .int 1 v] }).objs.size := by simpa using hb
  subst e
  exact I1.fpOk (Nat.le_refl _) (I1.hok.fresh (Nat.le_refl _))
def iRng1 (ta : TA) : TI := fun σ H R => ta σ H fun vs H1 => ∃ j : Int, vs = [.int j] /\ -(2 ^ 62) <= j /\ j < 2 ^ 62 /\ R (Itr 0 j.toNat) H1
def iRng2 (ta : TA) : TI := fun σ H R => ta σ H fun vs H1 => ∃ i j : Int, vs = [.int i, .int j] /\ (-(2 ^ 62) <= i /\ i < 2 ^ 62 /\ -(2 ^ 62) <= j /\ j < 2 ^ 62) /\ R (Itr i (j - i).toNat) H1
theorem pi_range1 {a : Expr} {ta : TA} {p pos : Pos} (hg : Gl X "range") (hm : X.mg "range" = none) (ha : PA X [a] ta) (hs : starEach [a] X.env = [(false, eval a X.env)] := by rfl) : PI X tg (.Call (.Name "range" p) [a] [] pos) (iRng1 ta) := by
 intro pins s σ H R I h
 refine Call_ (ld_blt I hg hm boot_range (PyProof.Rows.callWith_type1 (thn (ha pos pins s σ H _ I h) fun us s1 ⟨vs, H1, I1, r1, q1⟩ => ?_) hs rfl))
 obtain ⟨j, e, q1, q2, q⟩ := q1
 subst e
 cases r1 with
 | cons r rr =>
  cases rr
  obtain ⟨t, rfl⟩ := r
  exact call_range_1 (range_it I1 (by omega) (by omega) q1 q2 (by simpa using q))
theorem pi_range2 {a b : Expr} {ta : TA} {p pos : Pos} (hg : Gl X "range") (hm : X.mg "range" = none) (ha : PA X [a, b] ta) (hs : starEach [a, b] X.env = [(false, eval a X.env), (false, eval b X.env)] := by rfl) (hs2 : starEach [b] X.env = [(false, eval b X.env)] := by rfl) :
  PI X tg (.Call (.Name "range" p) [a, b] [] pos) (iRng2 ta) := by
 intro pins s σ H R I h
 refine Call_ (ld_blt I hg hm boot_range (PyProof.Rows.callWith_type1 (thn (ha pos pins s σ H _ I h) fun us s1 ⟨vs, H1, I1, r1, q1⟩ => ?_) (by rw [hs, hs2]) (by rw [hs2]; rfl)))
 obtain ⟨i, j, e, ⟨q1, q2, q3, q4⟩, q⟩ := q1
 subst e
 cases r1 with
 | cons r rr =>
  cases rr with
  | cons r' rr =>
   cases rr
   obtain ⟨t, rfl⟩ := r
   obtain ⟨t', rfl⟩ := r'
   exact call_range_2 (range_it I1 q1 q2 q3 q4 q)
def tFor (wi : TI) (g : TG) (tb : TS) : TS := fun D σ H => wi σ H fun J H1 => ∃ W : Nat -> Nat -> St -> Hp -> Prop, (∃ m, W 0 m σ H1) /\ ∀ i m σ H, W i m σ H ->
 (J.stop i H /\ D.nx σ H) \/ (J.go i H /\ ∃ N : St -> Hp -> Prop, (∀ σ' H', N σ' H' -> ∃ m', m' < m /\ W (i + 1) m' σ' H') /\ ∀ x H', J.yld i H x H' -> g x σ H' fun σ2 H2 => tb { D with nx := N, ct := N, bk := D.nx } σ2 H2)
def pinsAt (fp : List Addr) (h : Heap) : List (Addr × Obj) := fp.filterMap fun b => (h.get? b).map fun o => (b, o)
theorem mem_pinsAt {fp : List Addr} {h : Heap} {b : Addr} {o : Obj} (hb : b ∈ fp) (e : h.get? b = some o) : (b, o) ∈ pinsAt fp h := List.mem_filterMap.mpr ⟨b, hb, by rw [e]; rfl⟩
theorem of_pinsAt {fp : List Addr} {h : Heap} {p : Addr × Obj} (hp : p ∈ pinsAt fp h) : p.1 ∈ fp /\ h.get? p.1 = some p.2 := by
 obtain ⟨b, hb, e⟩ := List.mem_filterMap.mp hp
 cases q : h.get? b with
 | none => rw [q] at e; cases e
 | some o =>
  rw [q] at e
  have e' : (b, o) = p := Option.some.inj e
  subst e'
  exact ⟨hb, q⟩
theorem Inv.pinned {pins : List (Addr × Obj)} {σ : St} {H : Hp} {s : Shared} {fp : List Addr} (I : Inv X pins σ H s) (hf : ∀ b ∈ fp, FpOk X pins H b) (ho : ∀ b ∈ fp, ∃ o, s.heap.get? b = some o /\ ∀ v, o.data ≠ .cell v) : Inv X (pins ++ pinsAt fp s.heap) σ H s :=
 I.pins_of fun p hp => (List.mem_append.mp hp).elim (fun z => I.pin p (List.mem_append_right _ z)) fun z => by
  obtain ⟨hb, e⟩ := of_pinsAt z
  obtain ⟨f0, f1, f2, _⟩ := hf p.1 hb
  obtain ⟨o, e', d⟩ := ho p.1 hb
  rw [e] at e'; cases e'
  exact ⟨e, f0, f1, f2, d⟩
theorem Inv.unpinned {pins pl : List (Addr × Obj)} {σ : St} {H : Hp} {s : Shared} (I : Inv X (pins ++ pl) σ H s) : Inv X pins σ H s := I.pins_of fun p hp => I.pin p (List.mem_append_right _ (List.mem_append_left _ hp))
theorem ps_for {iter : Expr} {body : List Stmt} {wi : TI} {g : TG} {tb : TS} {pos : Pos} (hp : PassesOwn (model X.prog X.w) X.A X.env X.xe) (hc : X.calm = true) (hi : PI X tg iter wi) (hg : PG X tg g) (hb : PSs X body tb)
  (hs : ∀ x, foldedSetIterable iter X.env x = pure x := by intro _; rfl) : PS X (.For tg iter body [] pos) (tFor wi g tb) := by
 intro pins s σ H D I h
 refine wpAny_For (thn (hi pins s σ H _ I h) fun v s1 h1 => thn h1 fun itv s2 h2 => ?_) hs
 obtain ⟨it, fp, tn, J, H2, e, I2, T, st2, f2, W, ⟨m0, w0⟩, turn⟩ := h2
 subst e
 have stat : ∀ {H' : Hp}, (∀ b ∈ fp, H' b = none) -> ∀ b ∈ fp, FpOk X pins H' b := fun hn b hb => ⟨hn b hb, (f2 b hb).2⟩
 refine codeAny_forLoop_any (fun n s' => ∃ i σ' H', Inv X pins σ' H' s' /\ tn i s'.heap /\ (∀ b ∈ fp, H' b = none) /\ W i n σ' H') ?_ m0 ⟨0, σ, H2, I2, st2, fun b hb => (f2 b hb).1, w0⟩
 rintro n s3 ⟨i, σ3, H3, I3, st3, fr3, w3⟩
 rcases turn i n σ3 H3 w3 with ⟨stop, qn⟩ | ⟨go, N, hN, step⟩
 ·refine wpAny_passesOwn hp (thn (T.done X rfl rfl rfl hc i pins s3 σ3 H3 X.xe I3 (stat fr3) st3 stop) fun r s4 ⟨hr, I4⟩ => ?_)
  subst hr
  exact wpAny_execs_nil ⟨σ3, H3, I4, qn⟩
 ·refine wpAny_passesOwn hp (thn (T.item X rfl rfl rfl hc i pins s3 σ3 H3 X.xe I3 (stat fr3) st3 go) fun r s4 ⟨u, hr, h4⟩ => ?_)
  subst hr
  refine wpAny_passesOwn hp (thn h4 fun _ s5 ⟨x, H5, I5, r5, y5, st5, fr5⟩ => ?_)
  have I5' := I5.pinned (stat fr5) (T.obj _ _ st5)
  refine wpAny_passesOwn hp (thn (hg _ s5 σ3 H5 x u _ I5' r5 (step x H5 y5)) fun _ s6 ⟨σ6, H6, I6, q6⟩ => ?_)
  refine wpAny_passesOwn hp (thn (hb _ s6 σ6 H6 _ I6 q6) fun f s7 q7 => ?_)
  have again : ∀ {σ7 : St} {H7 : Hp}, Inv X (pins ++ pinsAt fp s5.heap) σ7 H7 s7 -> N σ7 H7 -> ∃ m, m < n /\ ∃ i σ' H', Inv X pins σ' H' s7 /\ tn i s7.heap /\ (∀ b ∈ fp, H' b = none) /\ W i m σ' H' := fun {σ7 H7} I7 n7 => by
   obtain ⟨m', hm, w7⟩ := hN σ7 H7 n7
   refine ⟨m', hm, i + 1, σ7, H7, I7.unpinned, T.keep _ _ _ st5 fun b hb o e => (I7.pin (b, o) (List.mem_append_right _ (List.mem_append_right _ (mem_pinsAt hb e)))).1, fun b hb => ?_, w7⟩
   obtain ⟨o, e, d⟩ := T.obj _ _ st5 b hb
   exact (I7.pin (b, o) (List.mem_append_right _ (List.mem_append_right _ (mem_pinsAt hb e)))).2.1
  cases f with
  | next => obtain ⟨σ7, H7, I7, n7⟩ := q7; exact again I7 n7
  | cont => obtain ⟨σ7, H7, I7, n7⟩ := q7; exact again I7 n7
  | brk => obtain ⟨σ7, H7, I7, q7⟩ := q7; exact ⟨σ7, H7, I7.unpinned, q7⟩
  | ret v => obtain ⟨x7, σ7, H7, I7, r7, q7⟩ := q7; exact ⟨x7, σ7, H7, I7.unpinned, r7, q7⟩
end
theorem for_list {K : PySem.W.Frag} {a : Addr} {xs : List V} {g : TG} {tb : TS} {D : Ends} {σ : St} {H : Hp} (Pv : Nat -> St -> Hp -> Prop) (h0 : Pv 0 σ H) (hl : ∀ i σ H, i <= xs.length -> Pv i σ H -> SqL K H a xs)
  (hs : ∀ i x σ H, xs[i]? = some x -> Pv i σ H -> g x σ H fun σ2 H2 => tb { D with nx := Pv (i + 1), ct := Pv (i + 1), bk := D.nx } σ2 H2) (hd : ∀ σ H, Pv xs.length σ H -> D.nx σ H) :
  ∃ W : Nat -> Nat -> St -> Hp -> Prop, (∃ m, W 0 m σ H) /\ ∀ i m σ H, W i m σ H ->
   ((Itl K a).stop i H /\ D.nx σ H) \/ ((Itl K a).go i H /\ ∃ N : St -> Hp -> Prop, (∀ σ' H', N σ' H' -> ∃ m', m' < m /\ W (i + 1) m' σ' H') /\ ∀ x H', (Itl K a).yld i H x H' -> g x σ H' fun σ2 H2 => tb { D with nx := N, ct := N, bk := D.nx } σ2 H2) := by
 refine ⟨fun i m σ H => m = xs.length - i /\ i <= xs.length /\ Pv i σ H, ⟨xs.length, by simp, Nat.zero_le _, h0⟩, ?_⟩
 rintro i m σ H ⟨rfl, hi, p⟩
 have q := hl i σ H hi p
 by_cases hlt : i < xs.length
 ·refine .inr ⟨⟨xs, xs[i], q, by simp [hlt]⟩, Pv (i + 1), fun σ' H' p' => ⟨xs.length - (i + 1), by omega, rfl, hlt, p'⟩, fun x H' y => ?_⟩
  obtain ⟨e, y⟩ := y
  subst e
  exact hs i x σ _ (y xs q) p
 ·have e : i = xs.length := by omega
  subst e
  exact .inl ⟨⟨xs, q, Nat.le_refl _⟩, hd σ H p⟩
theorem for_tup {K : PySem.W.Frag} {a : Addr} {xs : List V} {g : TG} {tb : TS} {D : Ends} {σ : St} {H : Hp} (Pv : Nat -> St -> Hp -> Prop) (h0 : Pv 0 σ H) (hl : ∀ i σ H, i <= xs.length -> Pv i σ H -> SqT K H a xs)
  (hs : ∀ i x σ H, xs[i]? = some x -> Pv i σ H -> g x σ H fun σ2 H2 => tb { D with nx := Pv (i + 1), ct := Pv (i + 1), bk := D.nx } σ2 H2) (hd : ∀ σ H, Pv xs.length σ H -> D.nx σ H) :
  ∃ W : Nat -> Nat -> St -> Hp -> Prop, (∃ m, W 0 m σ H) /\ ∀ i m σ H, W i m σ H ->
   ((Itt K a).stop i H /\ D.nx σ H) \/ ((Itt K a).go i H /\ ∃ N : St -> Hp -> Prop, (∀ σ' H', N σ' H' -> ∃ m', m' < m /\ W (i + 1) m' σ' H') /\ ∀ x H', (Itt K a).yld i H x H' -> g x σ H' fun σ2 H2 => tb { D with nx := N, ct := N, bk := D.nx } σ2 H2) := by
 refine ⟨fun i m σ H => m = xs.length - i /\ i <= xs.length /\ Pv i σ H, ⟨xs.length, by simp, Nat.zero_le _, h0⟩, ?_⟩
 rintro i m σ H ⟨rfl, hi, p⟩
 have q := hl i σ H hi p
 by_cases hlt : i < xs.length
 ·refine .inr ⟨⟨xs, xs[i], q, by simp [hlt]⟩, Pv (i + 1), fun σ' H' p' => ⟨xs.length - (i + 1), by omega, rfl, hlt, p'⟩, fun x H' y => ?_⟩
  obtain ⟨e, y⟩ := y
  subst e
  exact hs i x σ _ (y xs q) p
 ·have e : i = xs.length := by omega
  subst e
  exact .inl ⟨⟨xs, q, Nat.le_refl _⟩, hd σ H p⟩
theorem for_range {lo : Int} {n : Nat} {g : TG} {tb : TS} {D : Ends} {σ : St} {H : Hp} (Pv : Nat -> St -> Hp -> Prop) (h0 : Pv 0 σ H)
  (hs : ∀ i σ H, i < n -> Pv i σ H -> g (.int (lo + i)) σ H fun σ2 H2 => tb { D with nx := Pv (i + 1), ct := Pv (i + 1), bk := D.nx } σ2 H2) (hd : ∀ σ H, Pv n σ H -> D.nx σ H) :
  ∃ W : Nat -> Nat -> St -> Hp -> Prop, (∃ m, W 0 m σ H) /\ ∀ i m σ H, W i m σ H ->
   ((Itr lo n).stop i H /\ D.nx σ H) \/ ((Itr lo n).go i H /\ ∃ N : St -> Hp -> Prop, (∀ σ' H', N σ' H' -> ∃ m', m' < m /\ W (i + 1) m' σ' H') /\ ∀ x H', (Itr lo n).yld i H x H' -> g x σ H' fun σ2 H2 => tb { D with nx := N, ct := N, bk := D.nx } σ2 H2) := by
 refine ⟨fun i m σ H => m = n - i /\ i <= n /\ Pv i σ H, ⟨n, by simp, Nat.zero_le _, h0⟩, ?_⟩
 rintro i m σ H ⟨rfl, hi, p⟩
 by_cases hlt : i < n
 ·refine .inr ⟨hlt, Pv (i + 1), fun σ' H' p' => ⟨n - (i + 1), by omega, rfl, hlt, p'⟩, fun x H' y => ?_⟩
  obtain ⟨e, y⟩ := y
  subst e y
  exact hs i σ _ hlt p
 ·have e : i = n := by omega
  subst e
  exact .inl ⟨Nat.le_refl _, hd σ H p⟩
end L2
namespace L2
open PySem PySem.Spec PyProof.Rows
abbrev R2 := V -> V -> Hp -> VK -> Prop
def OpR (X : Cx) (f : Value -> Value -> Sem Value) (r : R2) : Prop :=
 ∀ (pins : List (Addr × Obj)) (s : Shared) (σ : St) (H : Hp) (x y : V) (v u : Value) (Q : VK), Inv X pins σ H s -> RelV x v -> RelV y u -> r x y H Q ->
  wpAny (model X.prog X.w) X.A (f v u) (EP X pins σ Q) X.xe s
def UnR (X : Cx) (f : Value -> Sem Value) (r : V -> Hp -> VK -> Prop) : Prop :=
 ∀ (pins : List (Addr × Obj)) (s : Shared) (σ : St) (H : Hp) (x : V) (v : Value) (Q : VK), Inv X pins σ H s -> RelV x v -> r x H Q ->
  wpAny (model X.prog X.w) X.A (f v) (EP X pins σ Q) X.xe s
def CallR (X : Cx) (f : Value) (r : List V -> Hp -> VK -> Prop) : Prop :=
 ∀ (pins : List (Addr × Obj)) (s : Shared) (σ : St) (H : Hp) (xs : List V) (us : List Value) (Q : VK), Inv X pins σ H s -> Vals xs us -> r xs H Q ->
  wpAny (model X.prog X.w) X.A (call f us) (EP X pins σ Q) X.xe s
def tOp (r : R2) (ta tb : TE) : TE := fun σ H Q => ta σ H fun x H1 => tb σ H1 fun y H2 => r x y H2 Q
def tUn (r : V -> Hp -> VK -> Prop) (ta : TE) : TE := fun σ H Q => ta σ H fun x H1 => r x H1 Q
def rI (C : Int -> Int -> Prop) (g : Int -> Int -> V) : R2 := fun x y H Q => ∃ i j, x = .int i /\ y = .int j /\ C i j /\ Q (g i j) H
def rI0 (g : Int -> Int -> V) : R2 := fun x y H Q => ∃ i j, x = .int i /\ y = .int j /\ Q (g i j) H
def rU (g : Int -> V) : V -> Hp -> VK -> Prop := fun x H Q => ∃ i, x = .int i /\ Q (g i) H
section
variable {X : Cx} {a b c : Expr} {ta tb tc : TE} {pos : Pos}
theorem binT (ha : PE X a ta) (hb : PE X b tb) {pins : List (Addr × Obj)} {s : Shared} {σ : St} {H : Hp} {R : V -> V -> Hp -> Prop} (I : Inv X pins σ H s)
  (h : ta σ H fun x H1 => tb σ H1 fun y H2 => R x y H2) {Q : Value -> Shared -> Prop} {f : Value -> Value -> Sem Value}
  (hf : ∀ v u s2 x y H2, Inv X pins σ H2 s2 -> RelV x v -> RelV y u -> R x y H2 -> wpAny (model X.prog X.w) X.A (f v u) Q X.xe s2) :
  wpAny (model X.prog X.w) X.A (eval a X.env) (fun v s₁ => wpAny (model X.prog X.w) X.A (eval b X.env) (fun u s₂ => wpAny (model X.prog X.w) X.A (f v u) Q X.xe s₂) X.xe s₁) X.xe s := by
 refine thn (ha pins s σ H _ I h) fun v s1 ⟨x, H1, I1, r1, q1⟩ => ?_
 refine thn (hb pins s1 σ H1 _ I1 q1) fun u s2 ⟨y, H2, I2, r2, q2⟩ => ?_
 exact hf v u s2 x y H2 I2 r1 r2 q2
theorem xah {op : Operator} {r : R2} (ho : OpR X (binaryOp op) r) (ha : PE X a ta) (hb : PE X b tb) : PE X (.BinOp a op b pos) (tOp r ta tb) := by
 intro pins s σ H Q I h
 exact wpAny_BinOp (binT ha hb I h fun v u s2 x y H2 I2 rx ry q => ho pins s2 σ H2 x y v u Q I2 rx ry q)
theorem pe_un {op : UnaryOp} {r : V -> Hp -> VK -> Prop} (ho : UnR X (unaryOp op) r) (ha : PE X a ta) : PE X (.UnaryOp op a pos) (tUn r ta) := by
 intro pins s σ H Q I h
 exact UnaryOp_ (thn (ha pins s σ H _ I h) fun v s1 ⟨x, H1, I1, r1, q1⟩ => ho pins s1 σ H1 x v Q I1 r1 q1)
theorem opI {f : Value -> Value -> Sem Value} {C : Int -> Int -> Prop} {g : Int -> Int -> Int}
  (rule : ∀ (i j : Int) (t u : Tok) (s : Shared) (Q : Value -> Shared -> Prop) (E : Value -> Shared -> Prop), C i j -> Q (.int (g i j) s.toks) { s with toks := s.toks + 1 } -> wpAny (model X.prog X.w) X.A (f (.int i t) (.int j u)) Q E s) :
  OpR X f (rI C fun i j => .int (g i j)) := by
 intro pins s σ H x y v u Q I rx ry h
 obtain ⟨i, j, rfl, rfl, hc, q⟩ := h
 obtain ⟨t, rfl⟩ := rx
 obtain ⟨t', rfl⟩ := ry
 exact rule i j t t' s _ _ hc ⟨.int (g i j), H, I.tok _, ⟨_, rfl⟩, q⟩
theorem opI0 {f : Value -> Value -> Sem Value} {g : Int -> Int -> Int}
  (rule : ∀ (i j : Int) (t u : Tok) (s : Shared) (Q : Value -> Shared -> Prop) (E : Value -> Shared -> Prop), Q (.int (g i j) s.toks) { s with toks := s.toks + 1 } -> wpAny (model X.prog X.w) X.A (f (.int i t) (.int j u)) Q E s) :
  OpR X f (rI0 fun i j => .int (g i j)) := by
 intro pins s σ H x y v u Q I rx ry h
 obtain ⟨i, j, rfl, rfl, q⟩ := h
 obtain ⟨t, rfl⟩ := rx
 obtain ⟨t', rfl⟩ := ry
 exact rule i j t t' s _ _ ⟨.int (g i j), H, I.tok _, ⟨_, rfl⟩, q⟩
theorem opB0 {f : Value -> Value -> Sem Value} {g : Int -> Int -> Bool}
  (rule : ∀ (i j : Int) (t u : Tok) (s : Shared) (Q : Value -> Shared -> Prop) (E : Value -> Shared -> Prop), Q (.bool (g i j)) s -> wpAny (model X.prog X.w) X.A (f (.int i t) (.int j u)) Q E s) :
  OpR X f (rI0 fun i j => .bl (g i j)) := by
 intro pins s σ H x y v u Q I rx ry h
 obtain ⟨i, j, rfl, rfl, q⟩ := h
 obtain ⟨t, rfl⟩ := rx
 obtain ⟨t', rfl⟩ := ry
 exact rule i j t t' s _ _ ⟨.bl (g i j), H, I, rfl, q⟩
def CPow (i j : Int) : Prop := 0 <= j /\ j <= 1000000 /\ i.natAbs < 2 ^ 64
def CMul (i j : Int) : Prop := (-(2 ^ 64) < i /\ i < 2 ^ 64) \/ (-(2 ^ 64) < j /\ j < 2 ^ 64)
theorem CMul.ok {i j : Int} (h : CMul i j) : IntMulOk i j := by
 rcases h with ⟨h1, h2⟩ | ⟨h1, h2⟩
 ·exact .of_left (intBits_le_64 h1 h2)
 ·exact .of_right (intBits_le_64 h1 h2)
theorem xas : OpR X (binaryOp .Add) (rI0 fun i j => .int (i + j)) := opI0 fun _ _ _ _ _ _ _ q => add_int q
theorem xa2 : OpR X (binaryOp .Sub) (rI0 fun i j => .int (i - j)) := opI0 fun _ _ _ _ _ _ _ q => sub_int q
theorem op_mul : OpR X (binaryOp .Mult) (rI CMul fun i j => .int (i * j)) := opI fun _ _ _ _ _ _ _ hc q => mul_int q hc.ok
theorem op_mod : OpR X (binaryOp .Mod) (rI (fun _ j => 0 < j) fun i j => .int (i % j)) := opI fun i j _ _ _ _ _ hc q => by
 have h1 : (0 : Int) < j := hc
 exact mod_int' (by omega) (by rw [Int.fmod_eq_emod_of_nonneg i (by omega)]; exact q)
theorem op_pow : OpR X (binaryOp .Pow) (rI CPow fun i j => .int (i ^ j.toNat)) := opI fun _ _ _ _ _ _ _ hc q => pow_int_small hc.1 hc.2.1 hc.2.2 q
theorem unI {f : Value -> Sem Value} {g : Int -> Int}
  (rule : ∀ (i : Int) (t : Tok) (s : Shared) (Q : Value -> Shared -> Prop) (E : Value -> Shared -> Prop), Q (.int (g i) s.toks) { s with toks := s.toks + 1 } -> wpAny (model X.prog X.w) X.A (f (.int i t)) Q E s) :
  UnR X f (rU fun i => .int (g i)) := by
 intro pins s σ H x v Q I rx h
 obtain ⟨i, rfl, q⟩ := h
 obtain ⟨t, rfl⟩ := rx
 exact rule i t s _ _ ⟨.int (g i), H, I.tok _, ⟨_, rfl⟩, q⟩
theorem un_neg : UnR X (unaryOp .USub) (rU fun i => .int (-i)) := unI fun _ _ _ _ _ q => neg_int q
end
def scal : V -> V -> Bool
 | .non, .non => true | .non, .int _ => true | .int _, .non => true | .non, .bl _ => true | .bl _, .non => true | .non, .str _ => true | .str _, .non => true
 | .int _, .int _ => true | .bl _, .bl _ => true | .str _, .str _ => true | .byt _, .byt _ => true
 | .int _, .str _ => true | .str _, .int _ => true | .bl _, .str _ => true | .str _, .bl _ => true
 | _, _ => false
def rEq : R2 := fun x y H Q => scal x y = true /\ Q (.bl (decide (x = y))) H
def rNe : R2 := fun x y H Q => scal x y = true /\ Q (.bl (!decide (x = y))) H
theorem dec_int {i j : Int} : decide (V.int i = V.int j) = (i == j) := by
 rw [Bool.eq_iff_iff]
 simp
theorem dec_bl {i j : Bool} : decide (V.bl i = V.bl j) = (i == j) := by
 rw [Bool.eq_iff_iff]
 simp
theorem dec_str {i j : Str} : decide (V.str i = V.str j) = (i == j) := by
 rw [Bool.eq_iff_iff]
 simp
theorem dec_byt {i j : Array UInt8} : decide (V.byt i = V.byt j) = (i.toList == j.toList) := by
 rw [Bool.eq_iff_iff]
 cases i
 cases j
 simp
section
variable {X : Cx} {a b c : Expr} {ta tb tc : TE} {pos : Pos}
theorem xaw {pins : List (Addr × Obj)} {σ : St} {H : Hp} {s : Shared} {Q : VK} {k k' : Bool} (I : Inv X pins σ H s) (q : Q (.bl k) H) (e : k = k') : EP X pins σ Q (.bool k') s := by
 subst e
 exact ⟨.bl k, H, I, rfl, q⟩
theorem xaq : OpR X (compareOp .Eq) rEq := by
 intro pins s σ H x y v u Q I rx ry h
 obtain ⟨hs, q⟩ := h
 cases x with
 | non =>
  cases rx
  cases y with
  | non => cases ry; exact PySem.EqNone.eq_none_none (xaw I q (by simp))
  | bl j => cases ry; exact PySem.EqNone.eq_none_bool (xaw I q (by simp))
  | int j => obtain ⟨t', rfl⟩ := ry; exact PySem.EqNone.eq_none_int (xaw I q (by simp))
  | str j => obtain ⟨t', rfl⟩ := ry; exact PySem.EqNone.eq_none_str (xaw I q (by simp))
  | _ => exact absurd (show false = true from hs) Bool.false_ne_true
 | bl i =>
  cases rx
  cases y with
  | non => cases ry; exact PySem.EqNone.eq_bool_none (xaw I q (by simp))
  | bl j => cases ry; exact eq_bool (xaw I q dec_bl)
  | str j => obtain ⟨t', rfl⟩ := ry; exact PySem.EqMixed.eq_bool_str (xaw I q (by simp))
  | _ => exact absurd (show false = true from hs) Bool.false_ne_true
 | int i =>
  obtain ⟨t, rfl⟩ := rx
  cases y with
  | non => cases ry; exact PySem.EqNone.eq_int_none (xaw I q (by simp))
  | int j => obtain ⟨t', rfl⟩ := ry; exact eq_int (xaw I q dec_int)
  | str j => obtain ⟨t', rfl⟩ := ry; exact PySem.EqMixed.eq_int_str (xaw I q (by simp))
  | _ => exact absurd (show false = true from hs) Bool.false_ne_true
 | str i =>
  obtain ⟨t, rfl⟩ := rx
  cases y with
  | non => cases ry; exact PySem.EqNone.eq_str_none (xaw I q (by simp))
  | bl j => cases ry; exact PySem.EqMixed.eq_str_bool (xaw I q (by simp))
  | int j => obtain ⟨t', rfl⟩ := ry; exact PySem.EqMixed.eq_str_int (xaw I q (by simp))
  | str j => obtain ⟨t', rfl⟩ := ry; exact eq_str (xaw I q dec_str)
  | _ => exact absurd (show false = true from hs) Bool.false_ne_true
 | byt i =>
  obtain ⟨t, rfl⟩ := rx
  cases y with
  | byt j => obtain ⟨t', rfl⟩ := ry; exact PySem.W.eq_bytes (xaw I q dec_byt)
  | _ => exact absurd (show false = true from hs) Bool.false_ne_true
 | _ => cases y <;> exact absurd (show false = true from hs) Bool.false_ne_true
theorem op_ne : OpR X (compareOp .NotEq) rNe := by
 intro pins s σ H x y v u Q I rx ry h
 obtain ⟨hs, q⟩ := h
 cases x with
 | non =>
  cases rx
  cases y with
  | non => cases ry; exact PySem.EqNone.ne_none_none (xaw I q (by simp))
  | bl j => cases ry; exact PySem.EqNone.ne_none_bool (xaw I q (by simp))
  | int j => obtain ⟨t', rfl⟩ := ry; exact PySem.EqNone.ne_none_int (xaw I q (by simp))
  | str j => obtain ⟨t', rfl⟩ := ry; exact PySem.EqNone.ne_none_str (xaw I q (by simp))
  | _ => exact absurd (show false = true from hs) Bool.false_ne_true
 | bl i =>
  cases rx
  cases y with
  | non => cases ry; exact PySem.EqNone.ne_bool_none (xaw I q (by simp))
  | bl j => cases ry; exact ne_bool (xaw I q (congrArg not dec_bl))
  | str j => obtain ⟨t', rfl⟩ := ry; exact PySem.EqMixed.ne_bool_str (xaw I q (by simp))
  | _ => exact absurd (show false = true from hs) Bool.false_ne_true
 | int i =>
  obtain ⟨t, rfl⟩ := rx
  cases y with
  | non => cases ry; exact PySem.EqNone.ne_int_none (xaw I q (by simp))
  | int j => obtain ⟨t', rfl⟩ := ry; exact ne_int (xaw I q (congrArg not dec_int))
  | str j => obtain ⟨t', rfl⟩ := ry; exact PySem.EqMixed.ne_int_str (xaw I q (by simp))
  | _ => exact absurd (show false = true from hs) Bool.false_ne_true
 | str i =>
  obtain ⟨t, rfl⟩ := rx
  cases y with
  | non => cases ry; exact PySem.EqNone.ne_str_none (xaw I q (by simp))
  | bl j => cases ry; exact PySem.EqMixed.ne_str_bool (xaw I q (by simp))
  | int j => obtain ⟨t', rfl⟩ := ry; exact PySem.EqMixed.ne_str_int (xaw I q (by simp))
  | str j => obtain ⟨t', rfl⟩ := ry; exact ne_str (xaw I q (congrArg not dec_str))
  | _ => exact absurd (show false = true from hs) Bool.false_ne_true
 | byt i =>
  obtain ⟨t, rfl⟩ := rx
  cases y with
  | byt j => obtain ⟨t', rfl⟩ := ry; exact PySem.W.ne_bytes (xaw I q (congrArg not dec_byt))
  | _ => exact absurd (show false = true from hs) Bool.false_ne_true
 | _ => cases y <;> exact absurd (show false = true from hs) Bool.false_ne_true
theorem op_lt : OpR X (compareOp .Lt) (rI0 fun i j => .bl (decide (i < j))) := opB0 fun _ _ _ _ _ _ _ q => lt_int q
theorem op_le : OpR X (compareOp .LtE) (rI0 fun i j => .bl (decide (i <= j))) := opB0 fun _ _ _ _ _ _ _ q => le_int q
theorem op_gt : OpR X (compareOp .Gt) (rI0 fun i j => .bl (decide (j < i))) := opB0 fun _ _ _ _ _ _ _ q => gt_int q
theorem op_ge : OpR X (compareOp .GtE) (rI0 fun i j => .bl (decide (j <= i))) := opB0 fun _ _ _ _ _ _ _ q => ge_int q
theorem op_isN : OpR X (compareOp .Is) (fun x y H Q => y = .non /\ Q (.bl (decide (x = .non))) H) := by
 intro pins s σ H x y v u Q I rx ry h
 obtain ⟨rfl, q⟩ := h
 cases ry
 refine is_none_gen (xaw I q ?_)
 cases x <;> first
  | (cases rx; rfl)
  | (obtain ⟨t, rfl⟩ := rx; rfl)
theorem op_notN : OpR X (compareOp .IsNot) (fun x y H Q => y = .non /\ Q (.bl (!decide (x = .non))) H) := by
 intro pins s σ H x y v u Q I rx ry h
 obtain ⟨rfl, q⟩ := h
 cases ry
 refine isnot_none_gen (xaw I q ?_)
 cases x <;> first
  | (cases rx; rfl)
  | (obtain ⟨t, rfl⟩ := rx; rfl)
theorem nM (b : Expr) {op : CmpOp} (h : op ≠ .In := by decide) (h2 : op ≠ .NotIn := by decide) : behindInMarks op b = false := by
 have e1 : (op == CmpOp.In) = false := by cases op <;> first | rfl | exact absurd rfl h
 have e2 : (op == CmpOp.NotIn) = false := by cases op <;> first | rfl | exact absurd rfl h2
 cases b <;> simp [behindInMarks, e1, e2]
theorem pe_cmpR {op : CmpOp} {r : R2} (ho : OpR X (compareOp op) r) (ha : PE X a ta) (hb : PE X b tb) (hm : behindInMarks op b = false) : PE X (.Compare a [op] [b] pos) (tOp r ta tb) := by
 intro pins s σ H Q I h
 exact wpAny_Compare1 (binT ha hb I h fun v u s2 x y H2 I2 rx ry q => ho pins s2 σ H2 x y v u Q I2 rx ry q) hm
def tTest (t : TE) : TT := fun σ H Q => t σ H fun x H' => ∃ k, x = .bl k /\ Q k H'
theorem pR {op : CmpOp} {r : R2} (ho : OpR X (compareOp op) r) (ha : PE X a ta) (hb : PE X b tb) (hm : behindInMarks op b = false) : PT X (.Compare a [op] [b] pos) (tTest (tOp r ta tb)) := by
 intro pins s σ H Q I h
 refine wpAny_isTrue_Compare1 (thn (ha pins s σ H _ I h) fun v s1 ⟨x, H1, I1, r1, q1⟩ => thn (hb pins s1 σ H1 _ I1 q1) fun u s2 ⟨y, H2, I2, r2, q2⟩ =>
  thn (ho pins s2 σ H2 x y v u _ I2 r1 r2 q2) fun c s3 ⟨z, H3, I3, r3, k, e, q3⟩ => ?_) hm
 subst e
 cases r3
 exact wpAny_truthy_bool ⟨H3, I3, q3⟩
def tChain (r r' : R2) (ta tb tc : TE) : TE := fun σ H Q => ta σ H fun x H1 => tb σ H1 fun y H2 => r x y H2 fun z H3 => ∃ k, z = .bl k ∧
 (if k = true then tc σ H3 fun w' H4 => r' y w' H4 Q else Q (.bl false) H3)
theorem pt_chain {op op' : CmpOp} {r r' : R2} (ho : OpR X (compareOp op) r) (ho' : OpR X (compareOp op') r') (ha : PE X a ta) (hb : PE X b tb) (hc : PE X c tc)
  (hm : lastMarks [op, op'] [b, c] = false := by with_unfolding_all rfl) : PT X (.Compare a [op, op'] [b, c] pos) (tTest (tChain r r' ta tb tc)) := by
 intro pins s σ H Q I h
 refine isTrue_chain (thn (ha pins s σ H _ I h) fun v s1 ⟨x, H1, I1, r1, q1⟩ => test_link (thn (hb pins s1 σ H1 _ I1 q1) fun u s2 ⟨y, H2, I2, r2, q2⟩ =>
  thn (ho pins s2 σ H2 x y v u _ I2 r1 r2 q2) fun d s3 ⟨z, H3, I3, r3, k, e, q3⟩ => ?_)) hm
 subst e
 cases r3
 refine wpAny_truthy_bool ?_
 cases k with
 | false =>
  obtain ⟨k', e', q'⟩ := q3
  cases e'
  exact ite_ff ⟨H3, I3, q'⟩
 | true =>
  refine ite_tt (test_last (thn (hc pins s3 σ H3 _ I3 q3) fun w' s4 ⟨z', H4, I4, r4, q4⟩ => thn (ho' pins s4 σ H4 y z' u w' _ I4 r2 r4 q4) fun d' s5 ⟨z2, H5, I5, r5, k2, e2, q5⟩ => ?_))
  subst e2
  cases r5
  exact wpAny_truthy_bool ⟨H5, I5, q5⟩
theorem line63 : (sizeLine : Nat) < 2 ^ 63 := by rw [sizeLine_eq]; decide
theorem op_add_str : OpR X (binaryOp .Add) (fun x y H Q => ∃ i j, x = .str i /\ y = .str j /\ i.length + j.length <= sizeLine /\ Q (.str (i ++ j)) H) := by
 intro pins s σ H x y v u Q I rx ry h
 obtain ⟨i, j, rfl, rfl, hz, q⟩ := h
 obtain ⟨t, rfl⟩ := rx
 obtain ⟨t', rfl⟩ := ry
 exact add_str (fun t' tk => ⟨.str (i ++ j), H, I.tok _, ⟨_, rfl⟩, q⟩) hz
theorem vals1 {x : V} {us : List Value} (r : Vals [x] us) : ∃ u, us = [u] /\ RelV x u := by
 cases r with
 | cons r1 r2 => cases r2; exact ⟨_, rfl, r1⟩
theorem vals2 {x y : V} {us : List Value} (r : Vals [x, y] us) : ∃ u w', us = [u, w'] /\ RelV x u /\ RelV y w' := by
 cases r with
 | cons r1 r2 =>
  cases r2 with
  | cons r3 r4 => cases r4; exact ⟨_, _, rfl, r1, r3⟩
theorem call_max2 (hc : X.calm = true) : CallR X (.builtin "max") (fun xs H Q => ∃ i j, xs = [.int i, .int j] /\ Q (.int (if j > i then j else i)) H) := by
 intro pins s σ H xs us Q I r h
 obtain ⟨i, j, rfl, q⟩ := h
 obtain ⟨u, w', rfl, ⟨t, rfl⟩, ⟨t', rfl⟩⟩ := vals2 r
 refine max_two_ints (I.ok.hd hc) fun h' tk k => ⟨_, H, I.kept k, ?_, q⟩
 by_cases hj : j > i
 ·rw [if_pos hj, if_pos hj]; exact ⟨_, rfl⟩
 ·rw [if_neg hj, if_neg hj]; exact ⟨_, rfl⟩
theorem call_int1 : CallR X (.type "int") (fun xs H Q => (∃ i, xs = [.int i] /\ Q (.int i) H) \/ ∃ k, xs = [.bl k] /\ Q (.int (if k then 1 else 0)) H) := by
 intro pins s σ H xs us Q I r h
 rcases h with ⟨i, rfl, q⟩ | ⟨k, rfl, q⟩
 ·obtain ⟨u, rfl, t, rfl⟩ := vals1 r
  exact call_int_int ⟨.int i, H, I, ⟨_, rfl⟩, q⟩
 ·obtain ⟨u, rfl, r1⟩ := vals1 r
  cases r1
  exact call_int_bool ⟨.int (if k then 1 else 0), H, I.tok _, ⟨_, rfl⟩, q⟩
end
end L2
namespace L2
open PySem PySem.Spec PyProof.Rows
theorem lookIn_ns {h : Heap} {dx : Addr} {mA : Str -> Option Value} (n : h.Ns1 dx mA) : ∃ od, h.get? dx = some od /\ ∀ name, PySem.W.lookIn name od = some (mA name) := by
 obtain ⟨o, es, ep, ho, hd, hk, _, hm⟩ := n
 refine ⟨o, ho, fun name => ?_⟩
 have e := hm name
 unfold nsFind findBy at e
 rw [<- Array.find?_toList] at e
 unfold PySem.W.lookIn
 rw [hd]
 dsimp only
 split
 ·rename_i y q
  rw [q] at e
  exact congrArg some e
 ·rename_i q
  rw [q] at e
  have a : es.toList.any (·.refKey) = false := by
   rw [List.any_eq_false]
   intro y hy
   obtain ⟨z, t, hkey⟩ := hk y (Array.mem_toList_iff.mp hy)
   simp [DictEntry.refKey, hkey]
  have a' : ¬ es.toList.any (·.refKey) = true := by rw [a]; exact Bool.false_ne_true
  rw [if_neg a']
  exact congrArg some e
theorem RelO.some_of {v : V} {o : Option Value} (r : RelO (some v) o) : ∃ u, o = some u /\ RelV v u := by
 cases o with
 | none => exact (show False from r).elim
 | some u => exact ⟨u, rfl, r⟩
def NoAttr (K : PySem.W.Frag) (C : Addr) (f : Str) : Prop := PySem.W.findIn K (.ref C) f = some none
end L2
namespace L2
open PySem PySem.Spec PyProof.Rows
structure Room (k : Nat) (A : Around) : Prop where
 hd : A.handled = none
 dp : A.depth + 3 * k + 5 < recursionLimit
 un : A.units + 16 * k + 200 < cLine
theorem Room.mono {j k : Nat} {A : Around} (r : Room k A) (h : j <= k) : Room j A := ⟨r.hd, by have := r.dp; omega, by have := r.un; omega⟩
theorem Room.deeper {k : Nat} {A : Around} (r : Room (k + 1) A) (env : Env) : Room k (A.deeper env) :=
 ⟨r.hd, by have := r.dp; show A.depth + 1 + 3 * k + 5 < _; omega, by have := r.un; show A.units + 3 + 16 * k + 200 < _; omega⟩
theorem Room.depth {k : Nat} {A : Around} (r : Room k A) : A.depth < recursionLimit := by have := r.dp; omega
theorem Room.units {k : Nat} {A : Around} (r : Room k A) : A.units + 64 < cLine := by have := r.un; omega
def tNil : TA := fun _ H Q => Q [] H
def tCons (ta : TE) (tr : TA) : TA := fun σ H Q => ta σ H fun x H1 => tr σ H1 fun xs H2 => Q (x :: xs) H2
section
variable {X : Cx} {e : Expr} {es : List Expr} {te : TE} {t : TA} {pos : Pos}
theorem pN : PA X [] tNil := fun _ _ _ _ H Q I h => Calls.spliced_nil ⟨[], H, I, .nil, h⟩
theorem pc (ha : PE X e te) (hr : PA X es t) (hs : starEach (e :: es) X.env = (false, eval e X.env) :: starEach es X.env := by rfl) : PA X (e :: es) (tCons te t) := by
 intro pos pins s σ H Q I h
 rw [hs]
 show wpAny _ _ (spliced ((false, eval e X.env) :: backTo pos (starEach es X.env))) _ _ s
 refine Calls.spliced_cons (thn (ha pins s σ H _ I h) fun u s1 ⟨x, H1, I1, r1, q1⟩ => ?_)
 exact thn (hr pos pins s1 σ H1 _ I1 q1) fun us s2 ⟨xs, H2, I2, r2, q2⟩ => ⟨x :: xs, H2, I2, .cons r1 r2, q2⟩
def tTup (t : TA) : TE := fun σ H Q => t σ H fun xs H1 => xs.length <= sizeLine /\ ∀ p, H1 p = none -> Q (.ref p) (upd H1 p (.tup xs))
def tLst (t : TA) : TE := fun σ H Q => t σ H fun xs H1 => xs.length <= sizeLine /\ ∀ p, H1 p = none -> Q (.ref p) (upd H1 p (.lst xs))
theorem xaa {x1} (h : PA X es t) : PE X (.Tuple es x1 pos) (tTup t) := by
 intro pins s σ H Q I hq
 refine wpAny_Tuple_spliced (thn (h pos pins s σ H _ I hq) fun us s1 ⟨xs, H1, I1, r, z, q⟩ => ⟨by rw [<- r.length]; exact z, ?_⟩)
 have hf : H1 s1.heap.objs.size = none := I1.hok.fresh (Nat.le_refl _)
 refine ⟨.ref s1.heap.objs.size, upd H1 s1.heap.objs.size (.tup xs), I1.laid (t' := s1.toks) (fun b u e => Heap.get?_push_of_some _ e) (Nat.le_refl _) ?_, rfl, q _ hf⟩
 exact ⟨z, us, r, ⟨_, Heap.get?_push_size _ rfl, rfl, _, rfl⟩⟩
theorem xat (h : PA X es t) : PE X (.List es pos) (tLst t) := by
 intro pins s σ H Q I hq
 refine wpAny_List_spliced (thn (h pos pins s σ H _ I hq) fun us s1 ⟨xs, H1, I1, r, z, q⟩ => ⟨by rw [<- r.length]; exact z, ?_⟩)
 have hf : H1 s1.heap.objs.size = none := I1.hok.fresh (Nat.le_refl _)
 refine ⟨.ref s1.heap.objs.size, upd H1 s1.heap.objs.size (.lst xs), I1.laid (t' := s1.toks) (fun b u e => Heap.get?_push_of_some _ e) (Nat.le_refl _) ?_, rfl, q _ hf⟩
 exact ⟨z, us, 0, r, Heap.get?_push_size _ rfl⟩
end
abbrev Sp := List V -> Hp -> VK -> XK -> Prop
abbrev CXT := List Env -> Hp -> Shared -> XK -> Value -> Shared -> Prop
structure Env0 (P : Program) (w : World) (K : PySem.W.Frag) (mg : Str -> Option Value) (base : Heap) (A : Around) (outer : List Env) (s : Shared) (H : Hp) : Prop where
 frames : A.frames = some outer
 mod : Mod K mg base
 bs : ∀ b o, base.get? b = some o -> s.heap.get? b = some o /\ H b = none
 bsz : base.objs.size <= s.heap.objs.size
 funs : s.heap.FunFrames base outer
 frf : ∀ b ∈ frs outer, H b = none
 hok : HOk P w H s.heap
 bare : AllBare s.gens
def CE (outer : List Env) (P : Program) (w : World) (H : Hp) (s : Shared) (Q : VK) (u : Value) (s' : Shared) : Prop :=
 ∃ v H', s'.os = s.os /\ AllBare s'.gens /\ Un (frs outer) [] H H' s.heap s'.heap /\ HOk P w H' s'.heap /\ RelV v u /\ Q v H'
def CR (CX : CXT) (outer : List Env) (P : Program) (w : World) (H : Hp) (s : Shared) (Q : VK) (E : XK) (r : Result) (s' : Shared) : Prop :=
 match r with
 | .ok (.ret u) => CE outer P w H s Q u s'
 | .ok _ => False
 | .error e => CX outer H s E e s'
structure FnOk (P : Program) (w : World) (K : PySem.W.Frag) (mg : Str -> Option Value) (base : Heap) (CX : CXT) (k : Nat) (f : Addr) (fd : FuncData) (ps : List Str) (sp : Sp) : Prop where
 len : ∀ vs H Q E, sp vs H Q E -> vs.length = ps.length
 run : ∀ (A : Around) (outer : List Env) (s : Shared) (H : Hp) (args : Args) (us : List Value) (vs : List V) (Q : VK) (E : XK), Room k A -> Env0 P w K mg base A outer s H -> BindsTo s fd args (ps.zip us) -> Vals vs us -> sp vs H Q E ->
  codeAny (model P w) A (.call (.ref f) args) (CR CX outer P w H s Q E) s
theorem FnOk.mono {P : Program} {w : World} {K : PySem.W.Frag} {mg : Str -> Option Value} {base : Heap} {CX : CXT} {j k : Nat} {f : Addr} {fd : FuncData} {ps : List Str} {sp : Sp} (F : FnOk P w K mg base CX j f fd ps sp) (h : j <= k) :
  FnOk P w K mg base CX k f fd ps sp := ⟨F.len, fun A outer s H args us vs Q E hr => F.run A outer s H args us vs Q E (hr.mono h)⟩
theorem FnOk.imp {P : Program} {w : World} {K : PySem.W.Frag} {mg : Str -> Option Value} {base : Heap} {CX : CXT} {k : Nat} {f : Addr} {fd : FuncData} {ps : List Str} {sp sp' : Sp} (F : FnOk P w K mg base CX k f fd ps sp)
  (h : ∀ vs H Q E, sp' vs H Q E -> sp vs H Q E) : FnOk P w K mg base CX k f fd ps sp' :=
 ⟨fun vs H Q E q => F.len vs H Q E (h _ _ _ _ q), fun A outer s H args us vs Q E hr he hb hv hs => F.run A outer s H args us vs Q E hr he hb hv (h _ _ _ _ hs)⟩
section
variable {X : Cx} {pins : List (Addr × Obj)} {σ : St} {H : Hp} {s s' : Shared}
theorem Inv.env0 (I : Inv X pins σ H s) : Env0 X.prog X.w X.K X.mg X.base X.A X.stack s H :=
 ⟨I.ok.frames, I.ok.mod, I.bs, Nat.le_trans I.ok.bsz I.sz, I.stack, I.stkFree, I.hok, I.bare⟩
theorem Inv.after {Q : VK} {u : Value} (I : Inv X pins σ H s) (h : CE X.stack X.prog X.w H s Q u s') : EP X pins σ Q u s' := by
 obtain ⟨v, H', os, bare, un, hok, r, q⟩ := h
 obtain ⟨hh, g, d, t, os'⟩ := s'
 obtain rfl : os' = s.os := os
 exact ⟨v, H', I.call (h' := hh) (g' := g) (d' := d) (t' := t) (ch := []) un hok bare (fun b z => absurd z (by simp)), r, q⟩
end
def tCall (sp : Sp) (dvs : List V) (E : XK) (t : TA) : TE := fun σ H Q => t σ H fun vs H1 => sp (vs ++ dvs) H1 Q E
def Binds (K : PySem.W.Frag) (fd : FuncData) (ps : List Str) (ds : List Value) : Prop :=
 ∀ (s : Shared) (us : List Value), K.In s.heap -> (us ++ ds).length = ps.length -> BindsTo s fd ⟨us, []⟩ (ps.zip (us ++ ds))
theorem Binds.all {K : PySem.W.Frag} {fd : FuncData} {ps : List Str} (h : ∀ us : List Value, us.length = ps.length -> bindArgs fd ⟨us, []⟩ = pure (ps.zip us)) : Binds K fd ps [] := fun s us _ hl => by
 rw [List.append_nil] at hl ⊢
 exact .of_eq (h us hl)
def Passes (CX : CXT) (X : Cx) (E : XK) : Prop := ∀ (pins : List (Addr × Obj)) (σ : St) (H : Hp) (s : Shared) (e : Value) (s' : Shared), Inv X pins σ H s -> CX X.stack H s E e s' -> X.xe e s'
section
variable {X : Cx} {CX : CXT} {k : Nat} {f C : Addr} {fd : FuncData} {ps : List Str} {sp : Sp} {dvs : List V} {ds : List Value} {E : XK} {x m : Str} {p pos apos : Pos} {e o : Expr} {es : List Expr} {ta : TE} {t : TA}
theorem run_fn {pins : List (Addr × Obj)} {σ : St} {H : Hp} {s : Shared} {Q : VK} {us : List Value} {vs : List V} (F : FnOk X.prog X.w X.K X.mg X.base CX k f fd ps sp) (hr : Room k X.A) (hb : Binds X.K fd ps ds) (hd : Vals dvs ds) (hx : Passes CX X E)
  (I : Inv X pins σ H s) (r : Vals vs us) (h : sp (vs ++ dvs) H Q E) : wpAny (model X.prog X.w) X.A (call (.ref f) us) (EP X pins σ Q) X.xe s := by
 have r2 : Vals (vs ++ dvs) (us ++ ds) := r.append hd
 have hl : (us ++ ds).length = ps.length := by rw [<- r2.length]; exact F.len _ _ _ _ h
 refine wpAny_call (codeAny_mono (F.run X.A X.stack s H ⟨us, []⟩ (us ++ ds) (vs ++ dvs) Q E hr I.env0 (hb s us I.kIn hl) r2 h) fun r s' hq => ?_)
 cases r with
 | error e => exact hx pins σ H s e s' I hq
 | ok fl =>
  cases fl with
  | ret u => exact I.after hq
  | next => exact False.elim hq
  | brk => exact False.elim hq
  | cont => exact False.elim hq
theorem pe_call (F : FnOk X.prog X.w X.K X.mg X.base CX k f fd ps sp) (hr : Room k X.A) (hg : Gl X x) (hm : X.mg x = some (.ref f)) (hk : PySem.W.keepIn X.K (.ref f) = true) (hb : Binds X.K fd ps ds) (hd : Vals dvs ds) (hx : Passes CX X E)
  (ha : PA X (e :: es) t) (hdb : (x == ("__debug__" : Str)) = false := by decide) (he : starEach (e :: es) X.env = (false, eval e X.env) :: starEach es X.env := by rfl) (hpl : (backTo pos (starEach es X.env)).any (·.1) = false := by rfl) :
  PE X (.Call (.Name x p) (e :: es) [] pos) (tCall sp dvs E t) := by
 intro pins s σ H Q I h
 refine wpAny_Call_Name_kw (ld_glob I hg hm ?_ hdb)
 refine PySem.W.callWith_K (h₀ := X.base) I.ok.mod.kin hk (thn (ha pos pins s σ H _ I h) fun us s1 ⟨vs, H1, I1, r, q⟩ => ⟨I1.kIn, ?_⟩) he hpl
 exact run_fn F hr hb hd hx I1 r q
end
structure FnScope (N P : List Str) (sc : Scope) : Prop where
 kind : sc.kind = .function
 co : sc.isCoroutine = false
 gen : sc.isGenerator = false
 nd : N.Nodup
 pre : N.take P.length = P
 par : ∀ x ∈ P, sc.names.lookup x = some .local \/ sc.names.lookup x = some .cell
 nofree : ∀ y ∈ sc.names, y.2 ≠ .free
theorem bindL_out {kindOf : Str -> Option NameKind} {x : Str} : ∀ {binds : List (Str × Value)} {m : Str -> Option Value}, (∀ v, (x, v) ∉ binds) -> bindL kindOf binds m x = m x
 | [], _, _ => rfl
 | (n, v) :: r, m, h => by
  unfold bindL
  rw [bindL_out fun w hw => h w (List.mem_cons_of_mem _ hw)]
  split
  ·have : x ≠ n := by rintro rfl; exact h v List.mem_cons_self
   simp [this]
  ·rfl
theorem bindC_out {kindOf : Str -> Option NameKind} {x : Str} : ∀ {binds : List (Str × Value)} {m : Str -> Option Value}, (∀ v, (x, v) ∉ binds) -> bindC kindOf binds m x = m x
 | [], _, _ => rfl
 | (n, v) :: r, m, h => by
  unfold bindC
  rw [bindC_out fun w hw => h w (List.mem_cons_of_mem _ hw)]
  split
  ·rfl
  ·have : x ≠ n := by rintro rfl; exact h v List.mem_cons_self
   simp [this]
theorem bindL_get {kindOf : Str -> Option NameKind} {x : Str} {v : Value} : ∀ {P : List Str} {vs : List Value} {i : Nat} {m : Str -> Option Value}, P.Nodup -> P[i]? = some x -> vs[i]? = some v -> kindOf x = some .local ->
  bindL kindOf (P.zip vs) m x = some v
 | [], _, _, _, _, h, _, _ => by simp at h
 | _ :: _, [], _, _, _, _, h, _ => by simp at h
 | p :: P, w :: vs, 0, m, nd, h1, h2, hk => by
  simp at h1 h2; subst h1; subst h2
  show bindL kindOf ((p, w) :: P.zip vs) m p = _
  unfold bindL
  rw [bindL_out fun v hv => (List.nodup_cons.mp nd).1 (List.of_mem_zip hv).1, if_pos hk]
  simp
 | p :: P, w :: vs, i + 1, m, nd, h1, h2, hk => by
  show bindL kindOf ((p, w) :: P.zip vs) m x = _
  unfold bindL
  exact bindL_get (i := i) (List.nodup_cons.mp nd).2 (by simpa using h1) (by simpa using h2) hk
theorem bindC_get {kindOf : Str -> Option NameKind} {x : Str} {v : Value} : ∀ {P : List Str} {vs : List Value} {i : Nat} {m : Str -> Option Value}, P.Nodup -> P[i]? = some x -> vs[i]? = some v -> kindOf x ≠ some .local ->
  bindC kindOf (P.zip vs) m x = some v
 | [], _, _, _, _, h, _, _ => by simp at h
 | _ :: _, [], _, _, _, _, h, _ => by simp at h
 | p :: P, w :: vs, 0, m, nd, h1, h2, hk => by
  simp at h1 h2; subst h1; subst h2
  show bindC kindOf ((p, w) :: P.zip vs) m p = _
  unfold bindC
  rw [bindC_out fun v hv => (List.nodup_cons.mp nd).1 (List.of_mem_zip hv).1, if_neg hk]
  simp
 | p :: P, w :: vs, i + 1, m, nd, h1, h2, hk => by
  show bindC kindOf ((p, w) :: P.zip vs) m x = _
  unfold bindC
  exact bindC_get (i := i) (List.nodup_cons.mp nd).2 (by simpa using h1) (by simpa using h2) hk
def start (N : List Str) (vs : List V) : St := vs.map some ++ List.replicate (N.length - vs.length) none
def cxOf (CX : CXT) (P : Program) (w : World) (K : PySem.W.Frag) (mg : Str -> Option Value) (base : Heap) (N : List Str) (qual : Str) (scope : Scope) (f : Addr) (cd : Value) (A : Around) (outer : List Env) (s : Shared) (H : Hp) (E : XK) : Cx where
 prog := P
 w := w
 K := K
 mg := mg
 base := base
 A := A.deeper (envOfC qual scope s.heap.objs.size f cd)
 N := N
 s₀ := s
 H₀ := H
 env := envOfC qual scope s.heap.objs.size f cd
 outer := outer
 stack := envOfC qual scope s.heap.objs.size f cd :: outer
 ex := []
 calm := true
 fn := fun _ => true
 pn := []
 xe := fun e s' => wpAny (model P w) (A.deeper (envOfC qual scope s.heap.objs.size f cd)) (leaving (envOfC qual scope s.heap.objs.size f cd) e) (fun _ s'' => CX outer H s E e s'') (fun e' s'' => CX outer H s E e' s'') s'
theorem cell_has {sc : Scope} {n : Nat} {x : Str} (h : sc.names.lookup x = some .cell) : ∃ c, (cellsFrom n sc.names []).lookup x = some c := by
 have q := PySem.W.cellsFrom_some sc.names n [] (.inl h)
 exact Option.isSome_iff_exists.mp q
theorem inv_start {CX : CXT} {P : Program} {w : World} {K : PySem.W.Frag} {mg : Str -> Option Value} {base : Heap} {N ps : List Str} {qual : Str} {scope : Scope} {f : Addr} {cd : Value} {A : Around} {outer : List Env} {s s1 : Shared} {H : Hp} {E : XK} {us : List Value} {vs : List V}
  (S : FnScope N ps scope) (hd : A.handled = none) (e0 : Env0 P w K mg base A outer s H) (hl : vs.length = ps.length) (r : Vals vs us)
  (x : InCallC s s.heap.objs.size (bindL (envOfC qual scope s.heap.objs.size f cd).kindOf (ps.zip us) fun _ => none) (cellsFrom (s.heap.objs.size + 1) scope.names []) (bindC (envOfC qual scope s.heap.objs.size f cd).kindOf (ps.zip us) fun _ => none) s1) :
  Inv (cxOf CX P w K mg base N qual scope f cd A outer s H E) [] (start N vs) H s1 := by
 have hpl : ps.length <= N.length := by have := congrArg List.length S.pre; rw [List.length_take] at this; omega
 obtain ⟨h1, tk, rfl, hk⟩ := x.done
 have noA : ∀ b : Addr, b ∉ (cxOf CX P w K mg base N qual scope f cd A outer s H E).ex := fun b z => absurd (show b ∈ ([] : List Addr) from z) (by simp)
 refine ⟨⟨e0.mod, S.kind, rfl, rfl, Nat.le_refl _, fun y z c h1 h2 => ?_, fun y hy => ?_, fun y c _ h => ?_, fun _ => hd, Around.frames_deeper e0.frames, .inr ⟨rfl, rfl⟩, fun b z => absurd z (noA b), e0.bs, e0.bsz, fun b _ _ => noA b, fun b z => absurd z (noA b), e0.funs, e0.frf⟩,
  rfl, e0.bare, Un.kept hk, ⟨_, x.toInCall.ns, fun i y v h1 h2 h3 => ?_⟩, fun y c h => ⟨_, x.cell y c h⟩, e0.hok.fresh (Nat.le_refl _), fun y c h => ?_, fun p hp => absurd (show p ∈ ([] : List (Addr × Obj)) from hp) (by simp), e0.hok.kept hk, ?_⟩
 ·exact name_of_addr x.apart (PySem.mem_of_lookup h1) (PySem.mem_of_lookup h2)
 ·have hy : scope.names.lookup y = some .cell \/ scope.names.lookup y = some .free := hy
  rcases hy with hy | hy
  ·exact cell_has hy
  ·exact absurd rfl (S.nofree _ (PySem.mem_of_lookup hy))
 ·exact Nat.le_of_lt (x.above y c (PySem.mem_of_lookup h))
 ·have hi : i < vs.length := by
   unfold start at h2
   by_cases hi : i < vs.length
   ·exact hi
   ·rw [List.getElem?_append_right (by simpa using hi)] at h2
    rw [List.getElem?_replicate] at h2
    split at h2 <;> cases h2
  have ha : vs[i]? = some v := by
   unfold start at h2
   rw [List.getElem?_append_left (by simpa using hi), List.getElem?_map] at h2
   cases e : vs[i]? with
   | none => rw [e] at h2; cases h2
   | some a => rw [e] at h2; cases h2; rfl
  obtain ⟨u, hu, rv⟩ := r.get ha
  have hp : ps[i]? = some y := by
   rw [<- S.pre, List.getElem?_take_of_lt (by omega)]; exact h1
  have ndP : ps.Nodup := by rw [<- S.pre]; exact S.nd.sublist (List.take_sublist _ _)
  refine ⟨u, rv, ?_⟩
  rcases S.par y (List.mem_of_getElem? hp) with k | k
  ·exact .inl ⟨k, bindL_get ndP hp hu k⟩
  ·obtain ⟨c, e⟩ := cell_has (n := s.heap.objs.size + 1) k
   refine .inr ⟨.inl k, c, e, ?_⟩
   have q := x.cell y c e
   rw [bindC_get ndP hp hu (by show scope.names.lookup y ≠ _; rw [k]; decide)] at q
   exact q
 ·exact e0.hok.fresh (Nat.le_of_lt (x.above y c (PySem.mem_of_lookup h)))
 ·unfold start
  show _ = N.length
  rw [List.length_append, List.length_map, List.length_replicate]
  omega
theorem fn_of {CX : CXT} {P : Program} {w : World} {K : PySem.W.Frag} {mg : Str -> Option Value} {base : Heap} {k : Nat} {f : Addr} {name qual : Str} {params : Arguments} {body : List Stmt} {scope : Scope} {dV kV doc pm cdv ct oc : Value} {an od : Option Addr}
  {osl : Array (Option Value)} {N ps : List Str} {sp : Sp} (lk : K.lookup f = some ⟨oc, od, .func (PySem.W.fnOf name qual params body scope dV kV doc pm an cdv ct), osl⟩) (hcd : PySem.W.codeIn K cdv qual = true) (S : FnScope N ps scope)
  (len : ∀ vs H Q E, sp vs H Q E -> vs.length = ps.length)
  (hbody : ∀ (A : Around) (outer : List Env) (s : Shared) (H : Hp) (vs : List V) (Q : VK) (E : XK), Room k (A.deeper (envOfC qual scope s.heap.objs.size f cdv)) -> sp vs H Q E ->
   ∃ t, PSs (cxOf CX P w K mg base N qual scope f cdv A outer s H E) body t /\ t { nx := fun _ H' => Q .non H', rt := Q } (start N vs) H) :
  FnOk P w K mg base CX (k + 1) f (PySem.W.fnOf name qual params body scope dV kV doc pm an cdv ct) ps sp := by
 refine ⟨len, fun A outer s H args us vs Q E hr e0 hb r hsp => ?_⟩
 have hl := len _ _ _ _ hsp
 have KX : K.In s.heap := e0.mod.kin.keeps fun b o e => (e0.bs b o e).1
 have lim : s.heap.NoLimit := e0.mod.nolimit.keeps fun b o e => (e0.bs b o e).1
 have hkind : ∀ y ∈ ps.zip us, scope.names.lookup y.1 = some .local \/ (scope.names.lookup y.1 = some .cell /\ ((cellsFrom (s.heap.objs.size + 1) scope.names []).lookup y.1).isSome = true) := fun ⟨n, v⟩ hy => by
  rcases S.par n (List.of_mem_zip hy).1 with q | q
  ·exact .inl q
  ·exact .inr ⟨q, PySem.W.cellsFrom_some _ _ _ (.inl q)⟩
 refine codeAny_call_function hr.depth (KX _ _ lk) rfl S.co S.gen rfl (PySem.W.codeRec_of KX hcd) (hb _ _ _ _ ?_)
 refine wpAny_newFunctionEnv_cells S.kind hkind fun env he s1 x => ?_
 subst he
 refine ⟨lim.keeps x.toInCall.keep, codeAny_func ?_⟩
 obtain ⟨t, ht, hq⟩ := hbody A outer s H vs Q E (hr.deeper _) hsp
 have I : Inv (cxOf CX P w K mg base N qual scope f cdv A outer s H E) [] (start N vs) H s1 := inv_start S hr.hd e0 hl r x
 refine wpAny_mono (ht [] s1 (start N vs) H _ I hq) (fun fl s' hs => ?_) fun e s' hs => hs
 have fin : ∀ {σ' : St} {H' : Hp} {v : V} {u : Value}, Inv (cxOf CX P w K mg base N qual scope f cdv A outer s H E) [] σ' H' s' -> RelV v u -> Q v H' -> CE outer P w H s Q u s' :=
  fun {σ' H' v u} J rv q => ⟨v, H', J.os, J.bare, J.base, J.hok, rv, q⟩
 cases fl with
 | ret u =>
  obtain ⟨v, σ', H', J, rv, q⟩ := hs
  exact fin J rv q
 | next =>
  obtain ⟨σ', H', J, q⟩ := hs
  exact fin (v := V.non) (u := Value.none) J rfl q
 | brk =>
  obtain ⟨_, _, _, q⟩ := hs
  exact False.elim q
 | cont =>
  obtain ⟨_, _, _, q⟩ := hs
  exact False.elim q
end L2
namespace L2
open PySem PySem.Spec PyProof.Rows
section
variable {X : Cx} {x : Str} {p pos : Pos} {e : Expr} {es : List Expr} {t : TA} {id T : String} {r : List V -> Hp -> VK -> Prop}
def tCB (r : List V -> Hp -> VK -> Prop) (t : TA) : TE := fun σ H Q => t σ H fun vs H1 => r vs H1 Q
theorem xam (hc : CallR X (.builtin id) r) (hg : Gl X x) (hm : X.mg x = none) (hv : bootBuiltins x = some (.builtin id)) (ha : PA X (e :: es) t) (hn : x ≠ "__name__" := by decide) (hdb : (x == ("__debug__" : Str)) = false := by decide)
  (he : starEach (e :: es) X.env = (false, eval e X.env) :: starEach es X.env := by rfl) (hpl : (backTo pos (starEach es X.env)).any (·.1) = false := by rfl) : PE X (.Call (.Name x p) (e :: es) [] pos) (tCB r t) := by
 intro pins s σ H Q I h
 refine wpAny_Call_Name_kw (ld_blt I hg hm hv ?_ hn hdb)
 exact PyProof.Rows.callWith_builtin1 (thn (ha pos pins s σ H _ I h) fun us s1 ⟨vs, H1, I1, r1, q1⟩ => hc pins s1 σ H1 vs us Q I1 r1 q1) he hpl
theorem xa0 (hc : CallR X (.type T) r) (hg : Gl X x) (hm : X.mg x = none) (hv : bootBuiltins x = some (.type T)) (ha : PA X (e :: es) t) (hn : x ≠ "__name__" := by decide) (hdb : (x == ("__debug__" : Str)) = false := by decide)
  (he : starEach (e :: es) X.env = (false, eval e X.env) :: starEach es X.env := by rfl) (hpl : (backTo pos (starEach es X.env)).any (·.1) = false := by rfl) : PE X (.Call (.Name x p) (e :: es) [] pos) (tCB r t) := by
 intro pins s σ H Q I h
 refine wpAny_Call_Name_kw (ld_blt I hg hm hv ?_ hn hdb)
 exact PyProof.Rows.callWith_type1 (thn (ha pos pins s σ H _ I h) fun us s1 ⟨vs, H1, I1, r1, q1⟩ => hc pins s1 σ H1 vs us Q I1 r1 q1) he hpl
end
end L2
namespace HT
open PySem PyProof.Rows
section
variable {prog : Program} {w : World} {A : Around} {E : Value -> Shared -> Prop} {s : Shared}
theorem cat_tup {t b : Addr} {vs ws : List Value} {Q : Value -> Shared -> Prop} (ht : IsTup s.heap t vs.toArray) (hb : IsTup s.heap b ws.toArray) (hv : vs ≠ [])
  (h1 : ws = [] -> Q (.ref t) s) (h2 : ws ≠ [] -> Q (.ref s.heap.objs.size) { s with heap := s.heap.push { cls := .type "tuple", data := .seq (vs ++ ws).toArray } })
  (hsz : vs.length + ws.length <= sizeLine) : wpAny (model prog w) A (binaryOp .Add (.ref t) (.ref b)) Q E s := by
 obtain ⟨⟨cls, dd, data, sl⟩, ho, hc, n, hd⟩ := id ht
 obtain ⟨⟨cls2, dd2, data2, sl2⟩, ho2, hc2, n2, hd2⟩ := id hb
 simp only at hc hd hc2 hd2
 subst hc hd hc2 hd2
 have e : vs.toArray ++ ws.toArray = (vs ++ ws).toArray := by simp
 by_cases hw : ws = []
 ·exact concat_meets ⟨_, ho, rfl⟩ ⟨_, ho2, rfl⟩ noFill_tuple_add seq_tuple_add PySem.F.slot_tuple_add PySem.F.entry_tuple_add (PySem.F.args_tuple_add_2 _ _)
   (tuple_addW1 t b vs.toArray ws.toArray n n2 dd dd2 sl sl2 (by simpa using hv) (by simp [hw])) ⟨ho, ho2, h1 hw⟩
 ·refine concat_meets ⟨_, ho, rfl⟩ ⟨_, ho2, rfl⟩ noFill_tuple_add seq_tuple_add PySem.F.slot_tuple_add PySem.F.entry_tuple_add (PySem.F.args_tuple_add_2 _ _)
   (tuple_addW2 t b vs.toArray ws.toArray n n2 dd dd2 sl sl2 (by simpa using hv) (by simpa using hw) (by rw [List.size_toArray, List.size_toArray]; exact hsz)) ⟨ho, ho2, ?_⟩
  rw [e]
  exact h2 hw
def sIx (n d : Nat) : Option Int -> Nat
 | none => d
 | some v => if v < 0 then (v + (n : Int)).toNat else min v.toNat n
theorem sIx_none (n d : Nat) : sIx n d none = d := rfl
theorem sIx_nat (n d k : Nat) : sIx n d (some (k : Int)) = min k n := by
 show (if (k : Int) < 0 then ((k : Int) + (n : Int)).toNat else min (k : Int).toNat n) = min k n
 rw [if_neg (by omega), Int.toNat_natCast]
theorem sIx_le (n d : Nat) (hd : d <= n) (o : Option Int) : sIx n d o <= n := by
 cases o with
 | none => exact hd
 | some v =>
  show (if v < 0 then (v + (n : Int)).toNat else min v.toNat n) <= n
  by_cases hv : v < 0
  ·rw [if_pos hv]; omega
  ·rw [if_neg hv]; exact Nat.min_le_right _ _
theorem clip_eq (v : Int) (n d : Nat) : (if v < 0 then max (v + (n : Int)) 0 else min v (n : Int)) = ((sIx n d (some v) : Nat) : Int) := by
 show (if v < 0 then max (v + (n : Int)) 0 else min v (n : Int)) = (((if v < 0 then (v + (n : Int)).toNat else min v.toNat n) : Nat) : Int)
 by_cases hv : v < 0
 ·simp only [if_pos hv]; omega
 ·simp only [if_neg hv]; omega
theorem adjust_gen (lo hi : Option Int) (n : Nat) : Builtin.Slice.sliceAdjust lo hi 1 (n : Int) = (((sIx n 0 lo : Nat) : Int), ((sIx n n hi : Nat) : Int)) := by
 have h1 : ¬ ((1 : Int) < 0) := by omega
 unfold Builtin.Slice.sliceAdjust
 simp only [h1, if_false]
 refine Prod.ext ?_ ?_
 ·cases lo with
  | none => rfl
  | some v => exact clip_eq v n 0
 ·cases hi with
  | none => rfl
  | some v => exact clip_eq v n n
theorem places_gen (i j : Nat) : Builtin.Slice.slicePlaces (i : Int) (j : Int) 1 = j - i := by
 unfold Builtin.Slice.slicePlaces
 have h1 : (1 : Int) > 0 := by omega
 simp only [h1, if_true, Int.ediv_one]
 split <;> omega
theorem slicePart_ {v : Value} {o : Option Int} {Q : Option Int -> Shared -> Prop} (p : IsPart v o) (h : Q o s) : wpAny (model prog w) A (Builtin.Slice.slicePartIndex v) Q E s := by
 cases p with
 | none => exact slicePart_none h
 | int i t => exact slicePart_int h
theorem sliceApplied_gen {sl : Addr} {vl vu : Value} {lo hi : Option Int} {n : Nat} {Q : Int × Int × Nat -> Shared -> Prop} (hs : s.heap.IsSliceOf sl vl vu .none) (pl : IsPart vl lo) (pu : IsPart vu hi)
  (h : Q (((sIx n 0 lo : Nat) : Int), 1, sIx n n hi - sIx n 0 lo) s) : wpAny (model prog w) A (Builtin.Slice.sliceApplied (.ref sl) (pure (n : Int))) Q E s := by
 obtain ⟨os, hos, hcs, hds⟩ := id hs
 unfold Builtin.Slice.sliceApplied Builtin.Slice.sliceFields
 refine wpAny_bind (wpAny_bind (wpAny_field hos hds (x := vl) rfl (wpAny_bind (wpAny_field hos hds (x := vu) rfl (wpAny_bind (wpAny_field hos hds (x := .none) rfl (wpAny_pure ?_)))))))
 refine wpAny_bind (slicePart_none ?_)
 show wpAny _ _ (if ((1 : Int) == 0) = true then _ else _) _ _ s
 rw [if_neg (by decide)]
 refine wpAny_bind (slicePart_ pl (wpAny_bind (slicePart_ pu (wpAny_bind (wpAny_pure ?_)))))
 show wpAny _ _ (match Builtin.Slice.sliceAdjust lo hi 1 (n : Int) with | (lo, hi) => pure (lo, (1 : Int), Builtin.Slice.slicePlaces lo hi 1)) _ _ s
 rw [adjust_gen lo hi n]
 show wpAny _ _ (pure (((sIx n 0 lo : Nat) : Int), (1 : Int), Builtin.Slice.slicePlaces ((sIx n 0 lo : Nat) : Int) ((sIx n n hi : Nat) : Int) 1)) _ _ s
 rw [places_gen]
 exact wpAny_pure h
theorem pick_gen (xs : Array Value) (i k : Nat) : ((List.range k).filterMap fun (m : Nat) => xs[((i : Int) + (m : Int) * 1).toNat]?).toArray = ((xs.toList.drop i).take k).toArray := by
 have e : (fun (m : Nat) => xs[((i : Int) + (m : Int) * 1).toNat]?) = fun m => xs[i + m]? := by
  funext m
  have : ((i : Int) + (m : Int) * 1).toNat = i + m := by omega
  rw [this]
 rw [e]
 have := pick_run xs i k
 rw [List.filterMap_map] at this
 have e2 : ((fun x => xs[x]?) ∘ fun x => i + x) = fun m => xs[i + m]? := rfl
 rw [e2] at this
 rw [this]
theorem getItem_tuple_cut {t sl : Addr} {items : Array Value} {vl vu : Value} {lo hi : Option Int} {Q : Value -> Shared -> Prop} (ht : IsTup s.heap t items) (hs : s.heap.IsSliceOf sl vl vu .none) (pl : IsPart vl lo) (pu : IsPart vu hi)
  (hw : ¬ (sIx items.size 0 lo = 0 /\ sIx items.size items.size hi = items.size))
  (h : Q (.ref s.heap.objs.size) { s with heap := s.heap.push { cls := .type "tuple", data := .seq ((items.toList.drop (sIx items.size 0 lo)).take (sIx items.size items.size hi - sIx items.size 0 lo)).toArray } })
  (hsz : items.size <= sizeLine) : wpAny (model prog w) A (getItem (.ref t) (.ref sl)) Q E s := by
 have htake : sizeOk (.seq ((items.toList.drop (sIx items.size 0 lo)).take (sIx items.size items.size hi - sIx items.size 0 lo)).toArray) := by
  show ((items.toList.drop (sIx items.size 0 lo)).take (sIx items.size items.size hi - sIx items.size 0 lo)).toArray.size <= sizeLine
  rw [List.size_toArray, List.length_take, List.length_drop, Array.length_toList]
  omega
 have hj : sIx items.size items.size hi <= items.size := sIx_le _ _ (Nat.le_refl _) hi
 obtain ⟨os, hos, hcs, hds⟩ := id hs
 have hTs : s.TypeIs (.ref sl) "slice" := ⟨os, hos, hcs⟩
 unfold getItem
 try with_reducible refine wpAny_holding ?_
 first | refine wpAny_bind (wpAny_pure ?_) | skip
 refine wpAny_bind (wpAny_sequenceKey ht.typeIs (by decide) ?_)
 refine wpAny_bind (wpAny_callSpecial?_slot (name := Str.ofString "__getitem__") ht.typeIs PyProof.Rows.slot_tuple_getitem
  (wpAny_call_entry PyProof.Rows.slot_tuple_getitem ht.typeIs entry_tuple_getitem ?_ (args_tuple_getitem _ _)))
 show wpAny _ _ (Builtin.Tuple.tupleItemsOf (.ref t) >>= _) _ _ s
 refine wpAny_bind (tupleItemsOf_ ht ?_)
 refine wpAny_bind (wpAny_typeOf hTs ?_)
 rw [if_pos (by decide)]
 refine wpAny_bind (sliceApplied_gen hs pl pu ?_)
 have hno : ¬ ((((sIx items.size 0 lo : Nat) : Int) == 0 && (1 : Int) == 1 && (sIx items.size items.size hi - sIx items.size 0 lo) == items.size) = true) := by
  intro q
  rw [Bool.and_eq_true, Bool.and_eq_true] at q
  have q1 : ((sIx items.size 0 lo : Nat) : Int) = 0 := eq_of_beq q.1.1
  have q2 : sIx items.size items.size hi - sIx items.size 0 lo = items.size := eq_of_beq q.2
  exact hw ⟨by omega, by omega⟩
 show wpAny _ _ (if (((sIx items.size 0 lo : Nat) : Int) == 0 && (1 : Int) == 1 && (sIx items.size items.size hi - sIx items.size 0 lo) == items.size) = true then _ else _) _ _ s
 rw [if_neg hno, pick_gen]
 first
  | exact wpAny_bind (m := Builtin.Tuple.tupleExact _) (wpAny_newObj_type (wpAny_pure ⟨_, rfl, wpAny_pure h⟩) htake)
  | exact wpAny_bind (m := Builtin.Tuple.tupleExact _) (wpAny_newObj_type (wpAny_bind (wpAny_pure (wpAny_pure ⟨_, rfl, wpAny_pure h⟩))) htake)
  | exact wpAny_bind (wpAny_bind (m := Builtin.Tuple.tupleExact _) (wpAny_newObj_type (wpAny_pure (wpAny_pure ⟨_, rfl, wpAny_pure h⟩)) htake))
  | exact wpAny_bind (wpAny_bind (m := Builtin.Tuple.tupleExact _) (wpAny_newObj_type (wpAny_pure ⟨_, rfl, wpAny_pure h⟩) htake))
end
end HT
namespace L2
open PySem PySem.Spec PyProof.Rows
abbrev TO := St -> Hp -> (Option Int -> Hp -> Prop) -> Prop
def PO (X : Cx) (e : Option Expr) (t : TO) : Prop :=
 ∀ (pins : List (Addr × Obj)) (s : Shared) (σ : St) (H : Hp) (Q : Option Int -> Hp -> Prop), Inv X pins σ H s -> t σ H Q ->
  wpAny (model X.prog X.w) X.A (evalPart e X.env) (fun u s' => ∃ o H', Inv X pins σ H' s' /\ IsPart u o /\ Q o H') X.xe s
def tNoPart : TO := fun _ H Q => Q none H
def tPart (t : TE) : TO := fun σ H Q => t σ H fun x H1 => ∃ i, x = .int i /\ Q (some i) H1
theorem intsAre_of {ns : List Int} : ∀ {us : List Value}, Vals (ns.map V.int) us -> IntsAre us ns := by
 induction ns with
 | nil => intro us r; rw [List.map_nil] at r; cases r; exact .nil
 | cons n ns ih =>
  intro us r
  rw [List.map_cons] at r
  cases r with
  | cons r1 r2 =>
   obtain ⟨t, e⟩ := r1
   subst e
   exact .cons n t (ih r2)
section
variable {X : Cx} {e : Expr} {te : TE} {lo hi : Option Expr} {tl th : TO} {pos p2 : Pos}
theorem po_none : PO X none tNoPart := by
 intro pins s σ H Q I h
 rw [evalPart_none]
 exact wpAny_pure ⟨none, H, I, .none, h⟩
theorem po_some (h : PE X e te) : PO X (some e) (tPart te) := by
 intro pins s σ H Q I hw
 rw [evalPart_some]
 refine thn (h pins s σ H _ I hw) fun u s1 ⟨x, H1, I1, r1, q1⟩ => ?_
 obtain ⟨i, rfl, q⟩ := q1
 obtain ⟨t, rfl⟩ := r1
 exact ⟨some i, H1, I1, .int i t, q⟩
def SlR (X : Cx) (r : V -> Option Int -> Option Int -> Hp -> VK -> Prop) : Prop :=
 ∀ (pins : List (Addr × Obj)) (s : Shared) (σ : St) (H : Hp) (x : V) (v vl vu : Value) (lo hi : Option Int) (sl : Addr) (Q : VK), Inv X pins σ H s -> RelV x v -> s.heap.IsSliceOf sl vl vu .none -> IsPart vl lo -> IsPart vu hi -> r x lo hi H Q ->
  ∃ T id, typeLookup (.type T) "__getitem__" = pure (some (.builtin id)) /\ s.TypeIs v T /\ wpAny (model X.prog X.w) X.A (getItem v (.ref sl)) (EP X pins σ Q) X.xe s
def tSl (r : V -> Option Int -> Option Int -> Hp -> VK -> Prop) (te : TE) (tl th : TO) : TE := fun σ H Q => te σ H fun x H1 => tl σ H1 fun l H2 => th σ H2 fun u H3 => r x l u H3 Q
theorem pe_slice {r : V -> Option Int -> Option Int -> Hp -> VK -> Prop} (hr : SlR X r) (he : PE X e te) (hl : PO X lo tl) (hu : PO X hi th) : PE X (.Subscript e (.Slice lo hi none p2) pos) (tSl r te tl th) := by
 intro pins s σ H Q I h
 refine Subscript_ (thn (he pins s σ H _ I h) fun v s1 ⟨x, H1, I1, r1, q1⟩ => ?_)
 refine wpAny_Slice (thn (hl pins s1 σ H1 _ I1 q1) fun vl s2 ⟨l, H2, I2, pl, q2⟩ => thn (hu pins s2 σ H2 _ I2 q2) fun vu s3 ⟨u, H3, I3, pu, q3⟩ => ?_)
 rw [evalPart_none]
 refine wpAny_pure ?_
 have I4 : Inv X pins σ H3 { s3 with heap := s3.heap.push { cls := .type "slice", data := .fields #[vl, vu, .none] } } := I3.kept (t' := s3.toks) fun b ob q => Heap.get?_push_of_some _ q
 obtain ⟨T, id, hT, ht, hg⟩ := hr pins { s3 with heap := s3.heap.push { cls := .type "slice", data := .fields #[vl, vu, .none] } } σ H3 x v vl vu l u s3.heap.objs.size Q I4 r1 (Heap.IsSliceOf.new ..) pl pu q3
 show wpAny (model X.prog X.w) X.A (subscriptTail e (.Slice lo hi none p2) v (.ref s3.heap.objs.size)) (EP X pins σ Q) X.xe { s3 with heap := s3.heap.push { cls := .type "slice", data := .fields #[vl, vu, .none] } }
 exact tail_any (ops := [.ref s3.heap.objs.size, v]) ht hT hg (by with_unfolding_all rfl)
def cutV (xs : List V) (lo hi : Option Int) : List V := (xs.drop (HT.sIx xs.length 0 lo)).take (HT.sIx xs.length xs.length hi - HT.sIx xs.length 0 lo)
theorem cutV_length (xs : List V) (lo hi : Option Int) : (cutV xs lo hi).length <= xs.length := by
 unfold cutV
 rw [List.length_take, List.length_drop]
 omega
def rSlT (K : PySem.W.Frag) : V -> Option Int -> Option Int -> Hp -> VK -> Prop := fun x lo hi H Q => ∃ a xs, x = .ref a /\ SqT K H a xs ∧
 ¬ (HT.sIx xs.length 0 lo = 0 /\ HT.sIx xs.length xs.length hi = xs.length) /\ ∀ p, H p = none -> Q (.ref p) (upd H p (.tup (cutV xs lo hi)))
theorem sl_tup : SlR X (rSlT X.K) := by
 intro pins s σ H x v vl vu lo hi sl Q I rx hs pl pu h
 obtain ⟨a, xs, rfl, hx, hw, q⟩ := h
 cases rx
 obtain ⟨its, r, ht, hz⟩ := I.tuple hx
 have hlen : its.toArray.size = xs.length := by rw [List.size_toArray]; exact r.length.symm
 refine ⟨"tuple", _, PyProof.Rows.slot_tuple_getitem.lookup, ht.typeIs, ?_⟩
 refine HT.getItem_tuple_cut ht hs pl pu (by rw [hlen]; exact hw) ?_ (by rw [hlen]; exact hz)
 rw [hlen]
 refine ⟨.ref s.heap.objs.size, _, I.laid (t' := s.toks) (o := .tup (cutV xs lo hi)) (fun b ob q => Heap.get?_push_of_some _ q) (Nat.le_refl _) ?_, rfl, q _ (I.hok.fresh (Nat.le_refl _))⟩
 exact ⟨Nat.le_trans (cutV_length xs lo hi) hz, _, (r.drop (HT.sIx xs.length 0 lo)).take (HT.sIx xs.length xs.length hi - HT.sIx xs.length 0 lo), IsTup.new _ _⟩
def rCatT (K : PySem.W.Frag) : R2 := fun x y H Q => ∃ a b xs ys, x = .ref a /\ y = .ref b /\ SqT K H a xs /\ SqT K H b ys /\ xs ≠ [] /\ xs.length + ys.length <= sizeLine ∧
 (ys = [] -> Q (.ref a) H) /\ (ys ≠ [] -> ∀ p, H p = none -> Q (.ref p) (upd H p (.tup (xs ++ ys))))
theorem Vals.nil_iff {xs : List V} {us : List Value} (r : Vals xs us) : us = [] ↔ xs = [] := by
 cases r with
 | nil => simp
 | cons _ _ => simp
theorem op_catT : OpR X (binaryOp .Add) (rCatT X.K) := by
 intro pins s σ H x y v u Q I rx ry h
 obtain ⟨a, b, xs, ys, rfl, rfl, ha, hb, hx, hz, q1, q2⟩ := h
 cases rx
 cases ry
 obtain ⟨its, r1, p1, _⟩ := I.tuple ha
 obtain ⟨its2, r2, p2, _⟩ := I.tuple hb
 refine HT.cat_tup p1 p2 (fun z => hx (r1.nil_iff.mp z)) (fun z => ⟨.ref a, H, I, rfl, q1 (r2.nil_iff.mp z)⟩) (fun z => ?_) (by rw [<- r1.length, <- r2.length]; exact hz)
 refine ⟨.ref s.heap.objs.size, _, I.laid (t' := s.toks) (o := .tup (xs ++ ys)) (fun b ob q => Heap.get?_push_of_some _ q) (Nat.le_refl _) ?_, rfl, q2 (fun w => z (r2.nil_iff.mpr w)) _ (I.hok.fresh (Nat.le_refl _))⟩
 exact ⟨by rw [List.length_append]; exact hz, _, r1.append r2, IsTup.new _ _⟩
end
end L2
namespace L2
open PySem PySem.Spec PyProof.Rows
def ixN (n : Nat) (i : Int) : Option Nat := if 0 <= i then (if i < n then some i.toNat else none) else if -(n : Int) <= i then some (i + n).toNat else none
def atI {α : Type} (xs : List α) (i : Int) : Option α := (ixN xs.length i).bind fun j => xs[j]?
theorem ixN_seq {n : Nat} {i : Int} {j : Nat} (h : ixN n i = some j) : seqIndex? i n = some j /\ j < n /\ -(n : Int) <= i /\ i < n := by
 unfold ixN at h
 by_cases h0 : 0 <= i
 ·rw [if_pos h0] at h
  by_cases h1 : i < n
  ·rw [if_pos h1] at h
   have e : i.toNat = j := Option.some.inj h
   exact ⟨by rw [seqIndex_of h0 h1, e], by omega, by omega, h1⟩
  ·rw [if_neg h1] at h; cases h
 ·rw [if_neg h0] at h
  by_cases h1 : -(n : Int) <= i
  ·rw [if_pos h1] at h
   have e : (i + n).toNat = j := Option.some.inj h
   exact ⟨by rw [seqIndex_neg (by omega) h1, e], by omega, h1, by omega⟩
  ·rw [if_neg h1] at h; cases h
theorem atI_get {α : Type} {xs : List α} {i : Int} {v : α} (h : atI xs i = some v) : ∃ j, seqIndex? i xs.length = some j /\ xs[j]? = some v /\ j < xs.length /\ -(xs.length : Int) <= i /\ i < xs.length := by
 unfold atI at h
 cases e : ixN xs.length i with
 | none => rw [e] at h; cases h
 | some j =>
  rw [e] at h
  obtain ⟨h1, h2, h3, h4⟩ := ixN_seq e
  exact ⟨j, h1, h, h2, h3, h4⟩
theorem xai {α : Type} {xs : List α} {j : Nat} {v : α} (h : xs[j]? = some v) : atI xs (j : Int) = some v := by
 have hj : j < xs.length := (List.getElem?_eq_some_iff.mp h).1
 have e : ixN xs.length (j : Int) = some j := by
  unfold ixN
  rw [if_pos (by omega), if_pos (by omega)]; simp
 unfold atI; rw [e]; exact h
def PlainIx (b : Expr) : Prop := ∀ o i, subscripted b false o i = operate [o, i] (getItem o i)
def IxR (X : Cx) (r : R2) : Prop :=
 ∀ (value slice : Expr) (pins : List (Addr × Obj)) (s : Shared) (σ : St) (H : Hp) (x y : V) (v u : Value) (Q : VK), Inv X pins σ H s -> RelV x v -> RelV y u -> r x y H Q ->
  subscripted slice false v u = operate [v, u] (getItem v u) -> wpAny (model X.prog X.w) X.A (subscriptTail value slice v u) (EP X pins σ Q) X.xe s
def MtR (X : Cx) (id : String) (r : V -> List V -> Hp -> VK -> Prop) : Prop :=
 ∀ (pins : List (Addr × Obj)) (s : Shared) (σ : St) (H : Hp) (x : V) (xs : List V) (v : Value) (us : List Value) (Q : VK), Inv X pins σ H s -> RelV x v -> Vals xs us -> r x xs H Q ->
  wpAny (model X.prog X.w) X.A (call (.builtin id) (v :: us)) (EP X pins σ Q) X.xe s
section
variable {X : Cx} {a b : Expr} {ta tb : TE} {pos : Pos}
theorem xac {r : R2} (hr : IxR X r) (ha : PE X a ta) (hb : PE X b tb) (hs : PlainIx b) : PE X (.Subscript a b pos) (tOp r ta tb) := by
 intro pins s σ H Q I h
 exact Subscript_ (binT ha hb I h fun v u s2 x y H2 I2 rx ry q => hr a b pins s2 σ H2 x y v u Q I2 rx ry q (hs _ _))
def rIxL (K : PySem.W.Frag) : R2 := fun x y H Q => ∃ p xs i v, x = .ref p /\ y = .int i /\ SqL K H p xs /\ atI xs i = some v /\ Q v H
def rIxT (K : PySem.W.Frag) : R2 := fun x y H Q => ∃ p xs i v, x = .ref p /\ y = .int i /\ SqT K H p xs /\ atI xs i = some v /\ Q v H
def rIxS : R2 := fun x y H Q => ∃ z i c, x = .str z /\ y = .int i /\ z.length <= sizeLine /\ atI z.cps.toList i = some c /\ Q (.str ⟨#[c]⟩) H
theorem iL : IxR X (rIxL X.K) := by
 intro value slice pins s σ H x y v u Q I rx ry h hs
 obtain ⟨p, xs, i, z, rfl, rfl, hq, he, q⟩ := h
 cases rx
 obtain ⟨t, rfl⟩ := ry
 obtain ⟨its, r, pl, hz⟩ := I.list hq
 obtain ⟨j, h1, h2, h3, h4, h5⟩ := atI_get he
 obtain ⟨w, ew, rw'⟩ := r.get h2
 have hl := r.length
 have hn := line63
 have fin : EP X pins σ Q w s := ⟨z, H, I, rw', q⟩
 by_cases h0 : 0 <= i
 ·have hj : i.toNat = j := by
   rw [seqIndex_of h0 h5] at h1
   exact Option.some.inj h1
  exact item_listR pl.isList h0 (by omega) (by rw [hj]; simpa using ew) fin hs
 ·have hj : (i + (its.toArray.size : Int)).toNat = j := by
   rw [seqIndex_neg (by omega) h4] at h1
   rw [List.size_toArray, <- hl]
   exact Option.some.inj h1
  exact subscriptTail_builtinR (x := w) pl.isList.typeIs slot_list_getitem.lookup
   (wpAny_getItem_list_neg (Q := fun r s' => r = w /\ EP X pins σ Q r s') pl.isList (by omega) (by rw [List.size_toArray] <;> omega) (by omega) (by rw [hj]; simpa using ew) ⟨rfl, fin⟩) hs
theorem xao : IxR X (rIxT X.K) := by
 intro value slice pins s σ H x y v u Q I rx ry h hs
 obtain ⟨p, xs, i, z, rfl, rfl, hq, he, q⟩ := h
 cases rx
 obtain ⟨t, rfl⟩ := ry
 obtain ⟨its, r, pl, hz⟩ := I.tuple hq
 obtain ⟨j, h1, h2, h3, h4, h5⟩ := atI_get he
 obtain ⟨w, ew, rw'⟩ := r.get h2
 have hl := r.length
 have hn := line63
 have fin : EP X pins σ Q w s := ⟨z, H, I, rw', q⟩
 exact subscriptTail_builtinR (x := w) pl.typeIs slot_tuple_getitem.lookup
  (getItem_tuple (j := j) (Q := fun r s' => r = w /\ EP X pins σ Q r s') pl (by omega) (by omega) (by rw [List.size_toArray, <- hl]; exact h1) (by simpa using ew) ⟨rfl, fin⟩) hs
theorem ix_str : IxR X rIxS := by
 intro value slice pins s σ H x y v u Q I rx ry h hs
 obtain ⟨z, i, c, rfl, rfl, hz, he, q⟩ := h
 obtain ⟨t, rfl⟩ := rx
 obtain ⟨t', rfl⟩ := ry
 obtain ⟨j, h1, h2, h3, h4, h5⟩ := atI_get he
 have hl : z.cps.toList.length = z.length := by simp [Str.length]
 rw [hl] at h1 h4 h5
 have hn := line63
 exact tail_any (typeIs_str s z t) slot_str_getitem.lookup (getItem_str (c := c) (by
  have e1 : decide (i < -(2 ^ 63 : Int)) = false := decide_eq_false (by omega)
  have e2 : decide (i ≥ 2 ^ 63) = false := decide_eq_false (by omega)
  rw [e1, e2, Bool.or_false]) (by rw [h1]; simpa using h2) ⟨.str ⟨#[c]⟩, H, I.tok _, ⟨_, rfl⟩, q⟩) hs
theorem mapSeq_set (its : List Value) (n j : Nat) (u : Value) : Obj.mapSeq (·.setIfInBounds j u) { cls := .type "list", data := .seq its.toArray n } = { cls := .type "list", data := .seq (its.set j u).toArray n } := by
 simp [Obj.mapSeq]
theorem Inv.lst {pins : List (Addr × Obj)} {σ : St} {H : Hp} {s : Shared} {p : Addr} {xs : List V} (I : Inv X pins σ H s) (h : H p = some (.lst xs)) :
  ∃ (its : List Value) (n : Nat), Vals xs its /\ s.heap.get? p = some { cls := .type "list", data := .seq its.toArray n } /\ xs.length <= sizeLine := by
 obtain ⟨z, its, n, r, e⟩ := I.hok p _ h
 exact ⟨its, n, r, e, z⟩
theorem Inv.lstUpd {pins : List (Addr × Obj)} {σ : St} {H : Hp} {s : Shared} {p : Addr} {xs ys : List V} {its its' : List Value} {n n' : Nat} {f : Obj -> Obj} (I : Inv X pins σ H s) (h : H p = some (.lst xs))
  (ho : s.heap.get? p = some { cls := .type "list", data := .seq its.toArray n }) (hf : f { cls := .type "list", data := .seq its.toArray n } = { cls := .type "list", data := .seq its'.toArray n' }) (r : Vals ys its') (hz : ys.length <= sizeLine) (t : Nat) :
  Inv X pins σ (upd H p (.lst ys)) { s with heap := s.heap.update p f, toks := t } := by
 have e : (s.heap.update p f).get? p = some { cls := .type "list", data := .seq its'.toArray n' } := by
  rw [Heap.get?_update_self f ho (by rw [hf] <;> rfl), hf]
 refine I.write (x := p) (e := p) (by rw [h]; trivial) (.inl rfl) (fun b u hb q => (Heap.get?_update_other _ _ (Ne.symm hb)).trans q) ⟨_, e⟩ ?_
 exact ⟨hz, its', n', r, e⟩
def rSetL : V -> V -> V -> Hp -> (Hp -> Prop) -> Prop := fun o i v H Q => ∃ p xs k j, o = .ref p /\ i = .int k /\ H p = some (.lst xs) /\ ixN xs.length k = some j /\ Q (upd H p (.lst (xs.set j v)))
theorem set_list : PSet X rSetL := by
 intro pins s σ H o i v ov iv u Q I ro ri rv h
 obtain ⟨p, xs, k, j, rfl, rfl, hp, hj, q⟩ := h
 cases ro
 obtain ⟨t, rfl⟩ := ri
 obtain ⟨its, n, r, ho, hz⟩ := I.lst hp
 obtain ⟨h1, h2, h3, h4⟩ := ixN_seq hj
 have hl := r.length
 have hn := line63
 have I' : Inv X pins σ (upd H p (.lst (xs.set j v))) { s with heap := s.heap.update p (Obj.mapSeq (·.setIfInBounds j u)) } :=
  I.lstUpd hp ho (mapSeq_set its n j u) (r.set rv j) (by rw [List.length_set]; exact hz) s.toks
 by_cases h0 : 0 <= k
 ·have hk : k.toNat = j := by
   rw [seqIndex_of h0 h4] at h1
   exact Option.some.inj h1
  exact PySem.W.ki_setAt ho h0 (by omega) (by rw [List.size_toArray, <- hl]; exact h4) (by rw [hk]; exact ⟨_, I', q⟩)
 ·have hk : (k + (its.toArray.size : Int)).toNat = j := by
   rw [seqIndex_neg (by omega) h3] at h1
   rw [List.size_toArray, <- hl]
   exact Option.some.inj h1
  exact PySem.W.ki_setBack ho (by omega) (by rw [List.size_toArray, <- hl]; exact h3) (by omega) (by rw [hk]; exact ⟨_, I', q⟩)
theorem slice_bounds (lo hi : Option Int) (n : Nat) : (sliceBounds lo hi none n).1 = ((HT.sIx n 0 lo : Nat) : Int) /\ (sliceBounds lo hi none n).2.1 = ((HT.sIx n n hi : Nat) : Int) /\ (sliceBounds lo hi none n).2.2 = 1 := by
 refine ⟨?_, ?_, rfl⟩
 ·cases lo with
  | none => simp [sliceBounds, HT.sIx]
  | some i =>
   simp only [sliceBounds, HT.sIx, Option.getD_none, show (1 : Int) > 0 by decide, if_true]
   by_cases h : i < 0
   ·simp only [h, if_true] <;> omega
   ·simp only [h, if_false] <;> omega
 ·cases hi with
  | none => simp [sliceBounds, HT.sIx]
  | some i =>
   simp only [sliceBounds, HT.sIx, Option.getD_none, show (1 : Int) > 0 by decide, if_true]
   by_cases h : i < 0
   ·simp only [h, if_true] <;> omega
   ·simp only [h, if_false] <;> omega
theorem slicePick_cut (its : List Value) (lo hi : Option Int) : slicePick its.toArray lo hi none = ((its.drop (HT.sIx its.length 0 lo)).take (HT.sIx its.length its.length hi - HT.sIx its.length 0 lo)).toArray := by
 obtain ⟨h1, h2, h3⟩ := slice_bounds lo hi its.toArray.size
 unfold slicePick
 rw [h1, h2, h3]
 simp only [sliceRange_one, pick_run, List.size_toArray] <;> rfl
def rSlL (K : PySem.W.Frag) : V -> Option Int -> Option Int -> Hp -> VK -> Prop := fun x lo hi H Q => ∃ a xs, x = .ref a /\ SqL K H a xs /\ ∀ p, H p = none -> Q (.ref p) (upd H p (.lst (cutV xs lo hi)))
theorem sl_list : SlR X (rSlL X.K) := by
 intro pins s σ H x v vl vu lo hi sl Q I rx hs pl pu h
 obtain ⟨a, xs, rfl, hx, q⟩ := h
 cases rx
 obtain ⟨its, r, ht, hz⟩ := I.list hx
 have hlen := r.length
 refine ⟨"list", _, slot_list_getitem.lookup, ht.isList.typeIs, ?_⟩
 refine wpAny_getItem_list_slice ht.isList hs pl pu .none (by simp) ?_ (by rw [List.size_toArray] <;> omega)
 rw [slicePick_cut, <- hlen]
 refine ⟨.ref s.heap.objs.size, _, I.laid (t' := s.toks) (o := .lst (cutV xs lo hi)) (fun b ob q => Heap.get?_push_of_some _ q) (Nat.le_refl _) ?_, rfl, q _ (I.hok.fresh (Nat.le_refl _))⟩
 exact ⟨Nat.le_trans (cutV_length xs lo hi) hz, _, 0, (r.drop (HT.sIx xs.length 0 lo)).take (HT.sIx xs.length xs.length hi - HT.sIx xs.length 0 lo), Heap.get?_push_size _ rfl⟩
def flatV : V -> Bool
 | .non => true
 | .bl _ => true
 | .int _ => true
 | .str _ => true
 | _ => false
def eqV : V -> V -> Bool
 | .non, .non => true
 | .bl a, .bl b => a == b
 | .bl a, .int b => (if a then 1 else 0) == b
 | .int a, .bl b => a == (if b then 1 else 0)
 | .int a, .int b => a == b
 | .str a, .str b => a == b
 | _, _ => false
theorem eqAt_V {A : Around} {s : Shared} {y x : V} {u v : Value} (ry : RelV y u) (rx : RelV x v) (fy : flatV y = true) (fx : flatV x = true) : SeqAt.EqAt A s u v (eqV y x) := by
 cases y with
 | non =>
  cases ry
  cases x with
  | non => cases rx; exact SeqAt.EqAt.same _
  | bl b => cases rx; exact SeqAt.EqAt.none_bool b
  | int b => obtain ⟨t, rfl⟩ := rx; exact SeqAt.EqAt.none_int b t
  | str b => obtain ⟨t, rfl⟩ := rx; exact SeqAt.EqAt.none_str b t
  | _ => exact absurd (show false = true from fx) Bool.false_ne_true
 | bl a =>
  cases ry
  cases x with
  | non => cases rx; exact SeqAt.EqAt.bool_none a
  | bl b => cases rx; exact SeqAt.EqAt.bool_bool a b
  | int b => obtain ⟨t, rfl⟩ := rx; exact SeqAt.EqAt.bool_int a b t
  | str b => obtain ⟨t, rfl⟩ := rx; exact SeqAt.EqAt.bool_str a b t
  | _ => exact absurd (show false = true from fx) Bool.false_ne_true
 | int a =>
  obtain ⟨t', rfl⟩ := ry
  cases x with
  | non => cases rx; exact SeqAt.EqAt.int_none a t'
  | bl b => cases rx; exact SeqAt.EqAt.int_bool a t' b
  | int b => obtain ⟨t, rfl⟩ := rx; exact SeqAt.EqAt.int_int a t' b t
  | str b => obtain ⟨t, rfl⟩ := rx; exact SeqAt.EqAt.int_str a t' b t
  | _ => exact absurd (show false = true from fx) Bool.false_ne_true
 | str a =>
  obtain ⟨t', rfl⟩ := ry
  cases x with
  | non => cases rx; exact SeqAt.EqAt.str_none a t'
  | bl b => cases rx; exact SeqAt.EqAt.str_bool a t' b
  | int b => obtain ⟨t, rfl⟩ := rx; exact SeqAt.EqAt.str_int a t' b t
  | str b => obtain ⟨t, rfl⟩ := rx; exact SeqAt.EqAt.str_str a t' b t
  | _ => exact absurd (show false = true from fx) Bool.false_ne_true
 | _ => exact absurd (show false = true from fy) Bool.false_ne_true
def eqU (x : V) (u : Value) : Bool := match u with
 | .none => eqV .non x
 | .bool b => eqV (.bl b) x
 | .int i _ => eqV (.int i) x
 | .str z _ => eqV (.str z) x
 | _ => false
theorem eqU_of {x y : V} {u : Value} (r : RelV y u) (f : flatV y = true) : eqU x u = eqV y x := by
 cases y with
 | non => cases r; rfl
 | bl b => cases r; rfl
 | int i => obtain ⟨t, rfl⟩ := r; rfl
 | str z => obtain ⟨t, rfl⟩ := r; rfl
 | _ => exact absurd (show false = true from f) Bool.false_ne_true
theorem any_eqU {x : V} : ∀ {xs : List V} {us : List Value}, Vals xs us -> xs.all flatV = true -> us.any (eqU x) = xs.any fun y => eqV y x
 | _, _, .nil, _ => rfl
 | y :: xs, u :: us, .cons r t, f => by
  rw [List.all_cons, Bool.and_eq_true] at f
  rw [List.any_cons, List.any_cons, eqU_of r f.1, any_eqU t f.2]
theorem mem_eqAt {A : Around} {s : Shared} {x : V} {v : Value} (rx : RelV x v) (fx : flatV x = true) : ∀ {xs : List V} {us : List Value}, Vals xs us -> xs.all flatV = true -> ∀ u ∈ us, SeqAt.EqAt A s u v (eqU x u)
 | _, _, .nil, _ => fun u hu => by cases hu
 | y :: xs, u :: us, .cons r t, f => fun u' hu => by
  rw [List.all_cons, Bool.and_eq_true] at f
  rcases List.mem_cons.mp hu with rfl | hu
  ·rw [eqU_of r f.1]; exact eqAt_V r rx f.1 fx
  ·exact mem_eqAt rx fx t f.2 u' hu
def inV (x : V) (xs : List V) : Bool := xs.any fun y => eqV y x
def rIn (K : PySem.W.Frag) (neg : Bool) : R2 := fun x y H Q => ∃ p xs, y = .ref p /\ (SqL K H p xs \/ SqT K H p xs) /\ flatV x = true /\ xs.all flatV = true /\ Q (.bl (if neg then !inV x xs else inV x xs)) H
theorem op_notIn_seq : OpR X (compareOp .NotIn) (rIn X.K true) := by
 intro pins s σ H x y v u Q I rx ry h
 obtain ⟨p, xs, rfl, hq, fx, fs, q⟩ := h
 cases ry
 rcases hq with hq | hq
 ·obtain ⟨its, r, pl, hz⟩ := I.list hq
  refine SeqAt.notIn_listAt (eqU x) pl.isList (fun w hw => mem_eqAt rx fx r fs w (by simpa using hw)) ⟨.bl _, H, I, rfl, ?_⟩
  rw [show its.toArray.any (eqU x) = its.any (eqU x) by simp, any_eqU r fs]
  exact q
 ·obtain ⟨its, r, pl, hz⟩ := I.tuple hq
  refine SeqAt.notIn_tupleAt (eqU x) pl (fun w hw => mem_eqAt rx fx r fs w (by simpa using hw)) ⟨.bl _, H, I, rfl, ?_⟩
  rw [show its.toArray.any (eqU x) = its.any (eqU x) by simp, any_eqU r fs]
  exact q
theorem xaj : CallR X (.builtin "len") (fun xs H Q => ∃ p ys, xs = [.ref p] /\ (SqL X.K H p ys \/ SqT X.K H p ys) /\ Q (.int ys.length) H) := by
 intro pins s σ H xs us Q I r h
 obtain ⟨p, ys, rfl, hq, q⟩ := h
 obtain ⟨u, rfl, rx⟩ := vals1 r
 cases rx
 have hn := line63
 rcases hq with hq | hq
 ·obtain ⟨its, r', pl, hz⟩ := I.list hq
  have hlen := r'.length
  exact Calls.call_len_list pl.isList (by simp only [List.size_toArray] <;> omega) ⟨.int ys.length, H, I.tok _, ⟨s.toks + 1, by rw [List.size_toArray, hlen]⟩, q⟩
 ·obtain ⟨its, r', pl, hz⟩ := I.tuple hq
  have hlen := r'.length
  exact len_tuple pl (by simp only [List.size_toArray] <;> omega) ⟨.int ys.length, H, I.tok _, ⟨s.toks + 1, by rw [List.size_toArray, hlen]⟩, q⟩
theorem call_tuple_of : CallR X (.type "tuple") (fun xs H Q => ∃ p ys, xs = [.ref p] /\ ((SqL X.K H p ys /\ ∀ l, H l = none -> Q (.ref l) (upd H l (.tup ys))) \/ (SqT X.K H p ys /\ Q (.ref p) H))) := by
 intro pins s σ H xs us Q I r h
 obtain ⟨p, ys, rfl, h⟩ := h
 obtain ⟨u, rfl, rx⟩ := vals1 r
 cases rx
 rcases h with ⟨hq, q⟩ | ⟨hq, q⟩
 ·obtain ⟨its, r', pl, hz⟩ := I.list hq
  have hlen := r'.length
  refine call_tuple_list pl.isList (fun h' kp => ?_) (by simp only [List.size_toArray] <;> omega)
  have I1 : Inv X pins σ H { s with heap := h' } := I.kept (t' := s.toks) kp
  have I2 : Inv X pins σ (upd H h'.objs.size (.tup ys)) { s with heap := h'.push { cls := .type "tuple", data := .seq its.toArray } } :=
   I1.laid (t' := s.toks) (fun b o e => Heap.get?_push_of_some _ e) (Nat.le_refl _) (show ObjOk X.prog X.w _ _ _ (.tup ys) from ⟨hz, its, r', IsTup.new _ _⟩)
  exact ⟨.ref h'.objs.size, _, I2, rfl, q _ (I1.hok.fresh (Nat.le_refl _))⟩
 ·obtain ⟨its, r', pl, hz⟩ := I.tuple hq
  exact call_tuple_same pl ⟨.ref p, H, I, rfl, q⟩
def tyV (K : PySem.W.Frag) (T : String) (x : V) (H : Hp) : Prop := match x with
 | .str _ => T = "str"
 | .int _ => T = "int"
 | .ref p => (T = "list" /\ ∃ xs, SqL K H p xs) \/ (T = "tuple" /\ ∃ o, K.lookup p = some o /\ o.cls = .type "tuple" /\ o.dict = none) ∨
   (T = "dict" /\ ((∃ kvs, H p = some (.dK kvs)) \/ ∃ kvs, H p = some (.dT kvs))) \/ (T = "set" /\ ∃ S n, H p = some (.set S n))
 | _ => False
theorem tyV_is {pins : List (Addr × Obj)} {σ : St} {H : Hp} {s : Shared} {T : String} {x : V} {v : Value} (I : Inv X pins σ H s) (r : RelV x v) (ty : tyV X.K T x H) :
  s.TypeIs v T /\ ∀ a, v = .ref a -> ∃ ob, s.heap.get? a = some ob /\ ob.dict = none := by
 cases x with
 | str z =>
  obtain ⟨t, rfl⟩ := r
  cases (show T = "str" from ty)
  exact ⟨typeIs_str s z t, fun _ e => nomatch e⟩
 | int i =>
  obtain ⟨t, rfl⟩ := r
  cases (show T = "int" from ty)
  exact ⟨typeIs_int s i t, fun _ e => nomatch e⟩
 | ref p =>
  cases r
  rcases ty with ⟨rfl, xs, hq⟩ | ⟨rfl, o, hk, hc, hd⟩ | ⟨rfl, hk⟩ | ⟨rfl, S, n, hk⟩
  ·obtain ⟨its, _, pl, _⟩ := I.list hq
   refine ⟨pl.isList.typeIs, fun a e => ?_⟩
   cases e
   obtain ⟨o, n, e, c, hd, _⟩ := pl
   exact ⟨o, e, hd⟩
  ·refine ⟨⟨o, I.kIn p o hk, hc⟩, fun a e => ?_⟩
   cases e
   exact ⟨o, I.kIn _ o hk, hd⟩
  ·have z : ∃ o, s.heap.get? p = some o /\ o.ExactDict := by
    rcases hk with ⟨kvs, hk⟩ | ⟨kvs, hk⟩
    ·obtain ⟨_, _, _, _, o, _, _, e, ex, _⟩ := I.hok p _ hk
     exact ⟨o, e, ex⟩
    ·obtain ⟨_, _, _, _, o, _, _, e, ex, _⟩ := I.hok p _ hk
     exact ⟨o, e, ex⟩
   obtain ⟨o, e, ex⟩ := z
   refine ⟨⟨o, e, ex.1⟩, fun a e2 => ?_⟩
   cases e2
   exact ⟨o, e, ex.2.1⟩
  ·obtain ⟨o, _, _, _, e, ex, _⟩ := I.hok p _ hk
   refine ⟨⟨o, e, ex.1⟩, fun a e2 => ?_⟩
   cases e2
   exact ⟨o, e, ex.2.1⟩
 | _ => exact False.elim ty
def tBM0 (K : PySem.W.Frag) (T : String) (r : V -> List V -> Hp -> VK -> Prop) (to : TE) : TE := fun σ H Q => to σ H fun x H1 => tyV K T x H1 /\ r x [] H1 Q
def tBM (K : PySem.W.Frag) (T : String) (r : V -> List V -> Hp -> VK -> Prop) (to : TE) (t : TA) : TE := fun σ H Q => to σ H fun x H1 => tyV K T x H1 /\ t σ H1 fun xs H2 => r x xs H2 Q
variable {o e : Expr} {es : List Expr} {to : TE} {t : TA} {name : Str} {apos cpos : Pos} {T id : String} {r : V -> List V -> Hp -> VK -> Prop}
theorem pe_bm0 (pa : PlainAttrs T) (slot : Slot T name id) (hty : typeOf (.builtin id) = pure (.type "method_descriptor")) (hm : MtR X id r) (ho : PE X o to)
  (hbase : attributeBase o name X.env (eval o X.env) = eval o X.env := by rfl) (hline : (apos.endLine == cpos.line) = true := by rfl) : PE X (.Call (.Attribute o name apos) [] [] cpos) (tBM0 X.K T r to) := by
 intro pins s σ H Q I h
 refine wpAny_Call_method0_late hbase hline (thn (ho pins s σ H _ I h) fun v s1 ⟨x, H1, I1, r1, ty, q1⟩ => ?_)
 obtain ⟨h1, h2⟩ := tyV_is I1 r1 ty
 exact ⟨T, id, pa, slot, hty, h1, h2, Calls.callWith_builtin rfl (PySem.evalArgs_none (hm pins s1 σ H1 x [] v [] Q I1 r1 .nil q1))⟩
theorem pe_bm (pa : PlainAttrs T) (slot : Slot T name id) (hty : typeOf (.builtin id) = pure (.type "method_descriptor")) (hm : MtR X id r) (ho : PE X o to) (ha : PA X (e :: es) t)
  (hbase : attributeBase o name X.env (eval o X.env) = eval o X.env := by rfl)
  (hfew : ((backTo cpos (starEach (e :: es) X.env)).all (fun x => !x.1) && (backToKw cpos (keywordEach [] X.env)).all (fun x => x.1.isSome)
   && decide ((e :: es).length + ([] : List Keyword).length + (if ([] : List Keyword).isEmpty then 0 else 1) < 30)) = true := by rfl)
  (hline : (apos.endLine == cpos.line) = true := by rfl) (hs : starEach (e :: es) X.env = (false, eval e X.env) :: starEach es X.env := by rfl) (hplain : (backTo cpos (starEach es X.env)).any (·.1) = false := by rfl) :
  PE X (.Call (.Attribute o name apos) (e :: es) [] cpos) (tBM X.K T r to t) := by
 intro pins s σ H Q I h
 refine wpAny_Call_method_late hbase hfew hline rfl (thn (ho pins s σ H _ I h) fun v s1 ⟨x, H1, I1, r1, ty, q1⟩ => ?_)
 obtain ⟨h1, h2⟩ := tyV_is I1 r1 ty
 refine ⟨T, id, pa, slot, hty, h1, h2, ?_⟩
 have hA := ha cpos pins s1 σ H1 _ I1 q1
 rw [hs] at hA ⊢
 refine Calls.callWith_builtin (by show (false || (backTo cpos (starEach es X.env)).any (·.1)) = false; rw [hplain] <;> rfl) (Calls.evalArgs_plain ?_)
 exact thn hA fun us s2 ⟨vs, H2, I2, r2, q2⟩ => hm pins s2 σ H2 x vs v us Q I2 r1 r2 q2
end
end L2
namespace L2
open PySem PySem.Spec PyProof.Rows
def MtM (X : Cx) (id : String) (r : V -> List V -> Hp -> VK -> Prop) : Prop :=
 ∀ (pins : List (Addr × Obj)) (s : Shared) (σ : St) (H : Hp) (x : V) (xs : List V) (v : Value) (us : List Value) (Q : VK), Inv X pins σ H s -> RelV x v -> Vals xs us -> r x xs H Q ->
  wpAny (model X.prog X.w) X.A (call (.builtin id) (v :: us)) (EP X pins σ Q) X.xe s
theorem Vals.one : ∀ {x : V} {us : List Value}, Vals [x] us -> ∃ u, us = [u] /\ RelV x u
 | _, _, .cons r .nil => ⟨_, rfl, r⟩
theorem Vals.two : ∀ {x y : V} {us : List Value}, Vals [x, y] us -> ∃ u v, us = [u, v] /\ RelV x u /\ RelV y v
 | _, _, _, .cons r (.cons q .nil) => ⟨_, _, rfl, r, q⟩
theorem Vals.zero : ∀ {us : List Value}, Vals [] us -> us = []
 | _, .nil => rfl
theorem Vals.reverse {xs : List V} {us : List Value} (h : Vals xs us) : Vals xs.reverse us.reverse := by
 induction h with
 | nil => exact .nil
 | cons r t ih => rw [List.reverse_cons, List.reverse_cons]; exact Vals.append ih (.cons r .nil)
section
variable {X : Cx} {pins : List (Addr × Obj)} {σ : St} {H : Hp} {s : Shared} {l b : Addr} {xs ys zs : List V}
theorem Inv.lset {its its' : List Value} {n : Nat} {f : Array Value -> Array Value} {t' : Nat} (I : Inv X pins σ H s) (hH : H l = some (.lst xs))
  (e : s.heap.get? l = some { cls := .type "list", data := .seq its.toArray n }) (hf : f its.toArray = its'.toArray) (hv : Vals ys its') (hz : ys.length <= sizeLine) :
  Inv X pins σ (upd H l (.lst ys)) { s with heap := s.heap.update l (Obj.mapSeq f), toks := t' } := by
 have q := PySem.IsL.update e f
 rw [hf] at q
 refine I.write (x := l) (e := l) (by rw [hH]; exact trivial) (.inl rfl) (fun b' u hb hu => (Heap.get?_update_other s.heap (Obj.mapSeq f) (Ne.symm hb)).trans hu) ⟨_, q⟩ ?_
 exact ⟨hz, its', _, hv, q⟩
theorem Inv.lnew {its : List Value} {t' : Nat} (I : Inv X pins σ H s) (hv : Vals ys its) (hz : ys.length <= sizeLine) :
  Inv X pins σ (upd H s.heap.objs.size (.lst ys)) { s with heap := s.heap.push { cls := .type "list", data := .seq its.toArray }, toks := t' } :=
 I.laid (fun _ _ q => Heap.get?_push_of_some _ q) (Nat.le_refl _) ⟨hz, its, 0, hv, Heap.get?_push_size _ rfl⟩
theorem Inv.fresh (I : Inv X pins σ H s) : H s.heap.objs.size = none := I.hok.fresh (Nat.le_refl _)
theorem Inv.lstM (I : Inv X pins σ H s) (hH : H l = some (.lst xs)) : xs.length <= sizeLine /\ ∃ (its : List Value) (n : Nat), Vals xs its /\ xs.length = its.length /\ s.heap.get? l = some { cls := .type "list", data := .seq its.toArray n } := by
 obtain ⟨z, its, n, r, e⟩ := I.hok l _ hH
 exact ⟨z, its, n, r, r.length, e⟩
end
section
variable {X : Cx}
def rAppend : V -> List V -> Hp -> VK -> Prop := fun x vs H Q => ∃ l xs y, x = .ref l /\ vs = [y] /\ H l = some (.lst xs) /\ xs.length < sizeLine /\ Q .non (upd H l (.lst (xs ++ [y])))
theorem mt_append : MtM X "list.append" rAppend := by
 intro pins s σ H x vs v us Q I rx rv h
 obtain ⟨l, xs, y, rfl, rfl, hH, hz, q⟩ := h
 cases rx
 obtain ⟨u, rfl, ru⟩ := rv.one
 obtain ⟨z, its, n, r, hl, e⟩ := I.lstM hH
 refine call_meets F.slot_list_append ⟨_, e, rfl⟩ F.entry_list_append (F.args_list_append_2 _ _) (PySem.list_append l its.toArray n u (by rw [List.size_toArray]; omega)) ⟨e, ?_⟩
 refine ⟨.non, _, I.lset (its' := its ++ [u]) hH e (by simp) (r.append (.cons ru .nil)) ?_, rfl, q⟩
 rw [List.length_append, List.length_singleton]
 omega
def rReverse : V -> List V -> Hp -> VK -> Prop := fun x vs H Q => ∃ l xs, x = .ref l /\ vs = [] /\ H l = some (.lst xs) /\ Q .non (upd H l (.lst xs.reverse))
theorem mt_reverse : MtM X "list.reverse" rReverse := by
 intro pins s σ H x vs v us Q I rx rv h
 obtain ⟨l, xs, rfl, rfl, hH, q⟩ := h
 cases rx
 have hus := rv.zero
 subst hus
 obtain ⟨z, its, n, r, hl, e⟩ := I.lstM hH
 refine call_meets F.slot_list_reverse ⟨_, e, rfl⟩ F.entry_list_reverse (F.args_list_reverse_1 _) (AutoSeq1.list_reverse_list_0 l its.toArray n (by rw [List.size_toArray]; omega)) ⟨e, ?_⟩
 refine ⟨.non, _, I.lset (its' := its.reverse) hH e (by simp) r.reverse ?_, rfl, q⟩
 rw [List.length_reverse]
 omega
def rCat : R2 := fun x y H Q => ∃ l b xs zs, x = .ref l /\ y = .ref b /\ H l = some (.lst xs) /\ H b = some (.lst zs) /\ xs.length + zs.length <= sizeLine /\ ∀ p, H p = none -> Q (.ref p) (upd H p (.lst (xs ++ zs)))
theorem op_cat : OpR X (binaryOp .Add) rCat := by
 intro pins s σ H x y v u Q I rx ry h
 obtain ⟨l, b, xs, zs, rfl, rfl, hH, hB, hz, q⟩ := h
 cases rx
 cases ry
 obtain ⟨z, its, n, r, hl, e⟩ := I.lstM hH
 obtain ⟨z2, its2, n2, r2, hl2, e2⟩ := I.lstM hB
 refine PySem.P.add_list e e2 ?_ (by rw [List.size_toArray, List.size_toArray]; omega)
 have ea : its.toArray ++ its2.toArray = (its ++ its2).toArray := by simp
 rw [ea]
 exact ⟨.ref _, _, I.lnew (t' := s.toks) (r.append r2) (by rw [List.length_append]; omega), rfl, q _ I.fresh⟩
end
end L2
namespace Att
open PySem PySem.W PySem.Calls PyProof.Rows
theorem ints_of_wellAll {P : Params} {h : Heap} : ∀ (ns : List Int) (vs : List Value), WellAll P h vs (ns.map WData.int) -> IntsAre vs ns := by
 intro ns
 induction ns with
 | nil =>
  intro vs w
  rw [List.map_nil] at w
  cases w
  exact .nil
 | cons n ns ih =>
  intro vs w
  rw [List.map_cons] at w
  cases w with
  | cons a b =>
   cases a
   exact .cons _ _ (ih _ b)
theorem script_of {l : OpenLaw} {n : Nat} (hn : l.most = some n) {P : Params} {h : Heap} {args : List WData} {vals : List Value}
  (hpre : l.row.toRowW.claim.pre args = true) (hwl : WellAll P h vals args) :
  ∃ a vs ns, vals = [Value.ref a] /\ args = [WData.list (ns.map WData.int)] /\ h.get? a = some { cls := .type "list", data := .seq vs.toArray } /\ IntsAre vs ns /\ ns.length <= n := by
 have hsh : WShape.hasAll [] args [.list .int] = true := (pre_splitW hpre).1
 have hc : l.pre.holds [] { args := args } = true := (pre_splitW hpre).2
 obtain ⟨d, r, rfl, h1, h2⟩ := hasAllW_cons hsh
 obtain rfl := hasAllW_nil h2
 obtain ⟨xs, rfl, h3⟩ := hasW_list h1
 obtain ⟨ns, rfl⟩ := items_int h3
 have hlen : ns.length <= n := by
  unfold OpenLaw.pre at hc
  have h4 : (WTm.not (.lt (.lit (.int (n : Int))) (.len (.arg 0)))).holds [] { args := [.list (ns.map .int)] } = true := by
   have h4 := (holds_andW hc).1
   rw [hn] at h4
   exact h4
  have h5 := condW_of h4 (w_not (w_lt w_lit (w_len_list (w_arg rfl))))
  rw [List.length_map] at h5
  refine Nat.le_of_not_lt fun q => ?_
  have q' : (n : Int) < ((ns.length : Nat) : Int) := by omega
  first
   | (rw [decide_eq_true q'] at h5; exact absurd h5 (by decide))
   | (simp at h5; omega)
 cases hwl with
 | cons w1 w2 =>
  cases w2
  cases w1 with
  | list ho hall => exact ⟨_, _, ns, rfl, rfl, ho, ints_of_wellAll ns _ hall, hlen⟩
theorem post_true (l : OpenLaw) (args : List WData) : l.row.toRowW.claim.post args (.bool true) args = true :=
 postW_of (r := l.row.toRowW) (X := (true == true))
  (show WShape.has [] (.bool true) .bool = true by first | rfl | decide | simp [WShape.has, WShape.arms, WShape.armsAll])
  (show (WTm.eq .res (.lit (.bool true))).value [] { args := args, res := some (.bool true), after := args } = some (.bool (true == true)) from w_eq_bool (w_res rfl) w_lit) rfl
theorem attach_call {l : OpenLaw} {n : Nat} {q : Program} {loose : List Str} {XP : (Str -> Option Value) -> Heap -> Prop} {YP : World -> Heap -> Prop} {d : DefRec}
  (hn : l.most = some n) (hdf : d.params.defaults = [])
  (call : ∀ (w : World) (s₀ s₁ : Shared) (mg mb : Str -> Option Value) (fa : Addr) (o : Obj) (pm cd doc : Value) (a : Addr) (vs : List Value) (ns : List Int),
   Ground q loose [] XP w s₀ mg mb s₁.heap -> YP w s₁.heap ->
   s₁.heap.get? fa = some o -> o.data = .func (docDef d.name d.params d.body d.scope pm cd doc) -> s₁.heap.CodeRec cd d.name -> mg d.name = some (.ref fa) ->
   s₁.heap.get? a = some { cls := .type "list", data := .seq vs.toArray } -> IntsAre vs ns -> ns.length <= n -> s₁.gens = #[] ->
   codeAny (model l.prog w) callerA (.call (.ref fa) ⟨[.ref a], []⟩) (fun r s' => r = .ok (.ret (.bool true)) /\ OldK s₁.heap s'.heap /\ s'.os = s₁.os /\ AllBare s'.gens) s₁) :
  WalkO q loose XP YP l.row.toRowW d [] (fun f vs => PySem.call f vs) := by
 intro w s₀ s₁ mg mb G Y fa o pm cd doc dV kV ho hd hcd hD hmg hg args vals as hpre hlay hrd hwl hlo
 obtain rfl : dV = .none := Dflts.none hD hdf
 obtain rfl : kV = .none := Dflts.noKw hD
 obtain ⟨a, vs, ns, rfl, rfl, hobj, hints, hlen⟩ := script_of hn hpre hwl
 refine enter_call (codeAny_mono (call w s₀ s₁ mg mb fa o pm cd doc a vs ns G Y ho (fd_plain hd) hcd hmg hobj hints hlen hg) fun r s' hq => ?_)
 obtain ⟨rfl, h2, h3, h4⟩ := hq
 exact ⟨.inl ⟨.bool true, .bool true, [], rfl, fun _ => rfl, .bool true, post_true l _, fun _ => ⟨List.Pairwise.nil, fun _ hm => (nomatch hm)⟩⟩, h2, h3, h4⟩
end Att
namespace L2
open PySem PySem.Spec PyProof.Rows
theorem vals_ints : ∀ {vs : List Value} {ns : List Int}, IntsAre vs ns -> Vals (ns.map V.int) vs
 | _, _, .nil => .nil
 | _, _, .cons n t h => .cons ⟨t, rfl⟩ (vals_ints h)
def Only (H : Hp) : Prop := ∀ b, H b = none \/ ∃ o xs, H b = some (.frz o (.lst xs))
theorem law_call {P : Program} {w : World} {K : PySem.W.Frag} {mg mb : Str -> Option Value} {CX : CXT} {k : Nat} {fa a : Addr} {fd : FuncData} {x : Str} {sp : Sp} {s₁ : Shared} {vs : List Value} {ns : List Int}
  (KX : K.In s₁.heap) (hns : s₁.heap.Ns mainGlobals mg) (hb : s₁.heap.Ns builtinsNs mb) (hbb : ∀ x : Str, x ≠ "__name__" -> mb x = bootBuiltins x) (hlim : s₁.heap.NoLimit) (hg : s₁.gens = #[])
  (ha : s₁.heap.get? a = some { cls := .type "list", data := .seq vs.toArray }) (hi : IntsAre vs ns) (hl : ns.length <= sizeLine) (hr : Room k callerA)
  (F : ∀ base : Heap, K.In base -> base.Ns mainGlobals mg -> FnOk P w K mg base CX k fa fd [x] sp) (hbind : ∀ (s : Shared) (u : Value), BindsTo s fd ⟨[u], []⟩ [(x, u)])
  (hsp : ∀ H : Hp, Only H -> SqL K H a (ns.map V.int) -> sp [.ref a] H (fun v _ => v = .bl true) fun _ _ _ => False)
  (hCX : ∀ H e s', CX [] H s₁ (fun _ _ _ => False) e s' -> False) :
  codeAny (model P w) callerA (.call (.ref fa) ⟨[.ref a], []⟩) (fun r s' => r = .ok (.ret (.bool true)) /\ OldK s₁.heap s'.heap /\ s'.os = s₁.os /\ AllBare s'.gens) s₁ := by
 have rv := vals_ints hi
 have lenV := hi.length
 have core : ∀ H : Hp, Only H -> SqL K H a (ns.map V.int) -> HOk P w H s₁.heap -> (∀ b, H b ≠ none -> b = a) -> (H a ≠ none -> K.lookup a = none) ->
   codeAny (model P w) callerA (.call (.ref fa) ⟨[.ref a], []⟩) (fun r s' => r = .ok (.ret (.bool true)) /\ OldK s₁.heap s'.heap /\ s'.os = s₁.os /\ AllBare s'.gens) s₁ := by
  intro H hO hS hok hA hK
  have base_of : ∀ {b : Addr} {o : Obj}, s₁.heap.get? b = some o -> H b = none -> (hidT s₁.heap H).get? b = some o := fun e n => hidT_get e n
  have noA : ∀ {b : Addr} {o : Obj} {es : Array DictEntry} {ep : Nat}, s₁.heap.get? b = some o -> o.data = .dict es ep -> H b = none := fun {b o es ep} e d => by
   cases q : H b with
   | none => rfl
   | some u =>
    have e' : b = a := hA b (by rw [q]; simp)
    subst e'
    rw [ha] at e; cases e
    have d' : Data.seq vs.toArray _ = Data.dict es ep := d
    cases d'
  have nsK : ∀ {b : Addr} {m : Str -> Option Value}, s₁.heap.Ns b m -> (hidT s₁.heap H).Ns b m := fun {b m} ⟨o, es, ep, e, d, r⟩ => ⟨o, es, ep, base_of e (noA e d), d, r⟩
  have hKb : K.In (hidT s₁.heap H) := fun b o e => base_of (KX b o e) (by
   cases q : H b with
   | none => rfl
   | some u =>
    have e' : b = a := hA b (by rw [q]; simp)
    subst e'
    rw [hK (by rw [q]; simp)] at e; cases e)
  have hM : Mod K mg (hidT s₁.heap H) := ⟨hKb, nsK hns, ⟨mb, nsK hb, hbb⟩, let ⟨mc, h1, h2⟩ := hlim; ⟨mc, nsK h1, h2⟩⟩
  have e0 : Env0 P w K mg (hidT s₁.heap H) callerA [] s₁ H := ⟨rfl, hM, fun b o e => of_hidT e, Nat.le_of_eq (hidT_size _ _), trivial, fun b hb => absurd (show b ∈ ([] : List Addr) from hb) (by simp), hok, .of_eq hg⟩
  refine codeAny_mono ((F _ hKb (nsK hns)).run callerA [] s₁ H ⟨[.ref a], []⟩ [.ref a] [.ref a] _ _ hr e0 (hbind s₁ (.ref a)) (.cons rfl .nil) (hsp H hO hS)) fun r s' h => ?_
  cases r with
  | error e => exact (hCX H e s' h).elim
  | ok fl =>
   cases fl with
   | next => exact False.elim h
   | brk => exact False.elim h
   | cont => exact False.elim h
   | ret u =>
    obtain ⟨v, H', os, bare, un, hok', r', q⟩ := h
    have q' : v = .bl true := q
    subst q'
    obtain rfl : u = Value.bool true := r'
    refine ⟨rfl, OldK.of_keep fun b o e => ?_, os, bare⟩
    cases q : H b with
    | none => exact un.keep b o e q (by intro z; exact absurd (show b ∈ ([] : List Addr) from z) (by simp)) (by simp)
    | some u =>
     rcases hO b with z | ⟨ob, xs, z⟩
     ·rw [q] at z; cases z
     ·have z2 := un.frzs b ob _ z
      obtain ⟨e1, _⟩ := hok b _ z
      obtain ⟨e2, _⟩ := hok' b _ z2
      rw [e] at e1; cases e1
      exact e2
 cases hk : K.lookup a with
 | some o =>
  have e := KX a o hk
  rw [ha] at e
  cases e
  refine core (fun _ => none) (fun _ => .inl rfl) (.inr ⟨_, vs.toArray, _, hk, rfl, rfl, rfl, by rw [List.size_toArray, lenV]; exact hl, by simpa using rv⟩) (fun b u z => by have z' : (none : Option HO) = some u := z; cases z') (fun b z => absurd rfl z) fun z => absurd rfl z
 | none =>
  refine core (fun b => if b = a then some (.frz { cls := .type "list", data := .seq vs.toArray } (.lst (ns.map V.int))) else none) (fun b => ?_) (.inl (.inr ⟨{ cls := .type "list", data := .seq vs.toArray }, if_pos rfl⟩)) (fun b u z => ?_) (fun b z => ?_) fun _ => hk
  ·by_cases hb : b = a
   ·exact .inr ⟨_, _, if_pos hb⟩
   ·exact .inl (if_neg hb)
  ·by_cases hb : b = a
   ·have z' := (if_pos hb).symm.trans z
    cases z'
    subst hb
    exact ⟨ha, by rw [List.length_map]; exact hl, vs, _, rv, ha⟩
   ·have z' := (if_neg hb).symm.trans z
    cases z'
  ·by_cases hb : b = a
   ·exact hb
   ·exact absurd (if_neg hb) z
end L2
namespace L2
open PySem PySem.Spec PyProof.Rows
abbrev KOf {K : PySem.W.Frag} {h : Heap} (_ : K.In h) : PySem.W.Frag := K
theorem walk_of {l : PySem.W.OpenLaw} {n k : Nat} {q : Program} {loose : List Str} {XP : (Str -> Option Value) -> Heap -> Prop} {YP : World -> Heap -> Prop} {d : DefRec} {K : Params -> PySem.W.Frag} {CX : World -> CXT} {sp : World -> Sp} {x : Str}
  (hn : l.most = some n) (hn2 : n <= sizeLine) (hdf : d.params.defaults = []) (hr : Room k callerA)
  (hY : ∀ (w : World) (h : Heap), YP w h -> (K w.params).In h)
  (F : ∀ (w : World) (mg : Str -> Option Value) (fa : Addr) (h : Heap), (K w.params).In h -> h.Ns mainGlobals mg -> mg d.name = some (.ref fa) ->
   ∃ fd : FuncData, (∀ (s : Shared) (u : Value), BindsTo s fd ⟨[u], []⟩ [(x, u)]) ∧
    ∀ base : Heap, (K w.params).In base -> base.Ns mainGlobals mg -> FnOk l.prog w (K w.params) mg base (CX w) k fa fd [x] (sp w))
  (hsp : ∀ (w : World) (H : Hp) (a : Addr) (ns : List Int), ns.length <= n -> Only H -> SqL (K w.params) H a (ns.map V.int) -> sp w [.ref a] H (fun v _ => v = .bl true) fun _ _ _ => False)
  (hCX : ∀ (w : World) (H : Hp) (s : Shared) (e : Value) (s' : Shared), CX w [] H s (fun _ _ _ => False) e s' -> False) :
  PySem.W.WalkO q loose XP YP l.row.toRowW d [] (fun f vs => PySem.call f vs) := by
 refine Att.attach_call hn hdf fun w s₀ s₁ mg mb fa o pm cd doc a vs ns G Y ho hd hcd hmg hobj hints hlen hg => ?_
 have KX := hY w _ Y
 obtain ⟨fd, hb, hF⟩ := F w mg fa _ KX G.T.g hmg
 exact law_call KX G.T.g G.T.b G.T.builtins G.T.nolimit hg hobj hints (Nat.le_trans hlen hn2) hr hF hb (fun H hO hS => hsp w H a ns hlen hO hS) fun H e s' => hCX w H s₁ e s'
end L2
namespace L2
open PySem PySem.Spec PyProof.Rows
def defArgs (s : Stmt) : Arguments := match s with
 | .FunctionDef _ a _ _ _ _ _ _ _ _ => a
 | _ => { posonlyargs := [], args := [], vararg := none, kwonlyargs := [], kw_defaults := [], kwarg := none, defaults := [] }
def defBody (s : Stmt) : List Stmt := match s with
 | .FunctionDef _ _ b _ _ _ _ _ _ _ => b
 | _ => []
def xab (s : Stmt) : Scope := match s with
 | .FunctionDef _ _ _ _ _ _ sc _ _ _ => sc
 | _ => { kind := .function, names := [], isGenerator := false, isCoroutine := false }
abbrev CX0 : CXT := fun _ _ _ _ _ _ => False
abbrev E0 : XK := fun _ _ _ => False
theorem pass0 {X : Cx} : Passes CX0 X E0 := fun _ _ _ _ _ _ _ h => h.elim
structure Fun (K : PySem.W.Frag) (x qual : Str) (st : Stmt) (f : Addr) (fd : FuncData) : Prop where
 ex : ∃ (oc : Value) (od : Option Addr) (kV doc pm : Value) (an : Option Addr) (cdv ct : Value) (osl : Array (Option Value)),
  fd = PySem.W.fnOf x qual (defArgs st) (defBody st) (xab st) .none kV doc pm an cdv ct /\ K.lookup f = some ⟨oc, od, .func fd, osl⟩ /\ PySem.W.codeIn K cdv qual = true
 kp : PySem.W.keepIn K (.ref f) = true
section
variable {P : Program} {w : World} {K : PySem.W.Frag} {mg : Str -> Option Value} {base : Heap}
theorem Fun.ok {x qual : Str} {st : Stmt} {f : Addr} {fd : FuncData} {N ps : List Str} {k : Nat} {sp : Sp} (F : Fun K x qual st f fd) (S : FnScope N ps (xab st)) (len : ∀ vs H Q E, sp vs H Q E -> vs.length = ps.length)
  (hbody : ∀ (cdv : Value) (A : Around) (outer : List Env) (s : Shared) (H : Hp) (vs : List V) (Q : VK) (E : XK), Room k (A.deeper (envOfC qual (xab st) s.heap.objs.size f cdv)) -> sp vs H Q E ->
   ∃ t, PSs (cxOf CX0 P w K mg base N qual (xab st) f cdv A outer s H E).nox (defBody st) t /\ t { nx := fun _ H' => Q .non H', rt := Q } (start N vs) H) : FnOk P w K mg base CX0 (k + 1) f fd ps sp := by
 obtain ⟨oc, od, kV, doc, pm, an, cdv, ct, osl, rfl, lk, hcd⟩ := F.ex
 refine fn_of lk hcd S len fun A outer s H vs Q E hr hsp => ?_
 obtain ⟨t, h, q⟩ := hbody cdv A outer s H vs Q E hr hsp
 exact ⟨t, h.nox, q⟩
theorem fun_mk {x qual : Str} {st : Stmt} {f : Addr} {oc : Value} {od an : Option Addr} {osl : Array (Option Value)} {kV doc pm cdv ct : Value} (l : K.lookup f = some ⟨oc, od, .func (PySem.W.fnOf x qual (defArgs st) (defBody st) (xab st) .none kV doc pm an cdv ct), osl⟩)
  (c : PySem.W.codeIn K cdv qual = true) (k : PySem.W.keepIn K (.ref f) = true) : Fun K x qual st f (PySem.W.fnOf x qual (defArgs st) (defBody st) (xab st) .none kV doc pm an cdv ct) := ⟨⟨oc, od, kV, doc, pm, an, cdv, ct, osl, rfl, l, c⟩, k⟩
end
theorem hu_of {A : Around} {k : Nat} (hr : Room k A) : A.units + 1 < cLine := Nat.lt_of_le_of_lt (Nat.add_le_add_left (by decide : 1 <= 64) _) hr.units
section
variable {X : Cx}
theorem pv (i : Nat) {x : Str} {pos : Pos} (hN : X.N[i]? = some x := by rfl) (hv : Vis X.env.scope x := by first | exact Or.inl rfl | exact Or.inr (Or.inl rfl) | exact Or.inr (Or.inr rfl)) (hd : (x == ("__debug__" : Str)) = false := by decide)
  (hcd : (x == ("__classdict__" : Str)) = false := by decide) : PE X (.Name x pos) (tVar i) := pe_var hN hv hd hcd
end
theorem iteF {A B : Prop} (h : B) : if false = true then A else B := by
 rw [if_neg Bool.false_ne_true]
 exact h
theorem iteT {A B : Prop} (h : A) : if true = true then A else B := by
 rw [if_pos rfl]
 exact h
theorem ite2 {c A B : Prop} [Decidable c] (h1 : c -> A) (h2 : ¬ c -> B) : if c then A else B := by
 by_cases h : c
 ·rw [if_pos h]
  exact h1 h
 ·rw [if_neg h]
  exact h2 h
theorem iteNS {c A B : Prop} [Decidable c] (hc : c) (h : B) : if (!decide c) = true then A else B := by
 rw [decide_eq_true hc]
 exact iteF h
def Same (H H' : Hp) : Prop := ∀ b o, H b = some o -> H' b = some o
theorem Same.refl (H : Hp) : Same H H := fun _ _ h => h
theorem Same.trans {H H1 H2 : Hp} (a : Same H H1) (b : Same H1 H2) : Same H H2 := fun c o h => b c o (a c o h)
theorem Same.seq {K : PySem.W.Frag} {H H' : Hp} {a : Addr} {xs : List V} (e : Same H H') (h : SqL K H a xs) : SqL K H' a xs := by
 rcases h with (h | ⟨o, h⟩) | h
 ·exact .inl (.inl (e _ _ h))
 ·exact .inl (.inr ⟨o, e _ _ h⟩)
 ·exact .inr h
end L2
section
namespace L2
open PySem PySem.Spec PyProof.Rows
def clOf (env : Env) : List (Str × NameKind) -> List (Str × Addr) -> List (Str × Addr)
 | [], cs => cs
 | (n, k) :: r, cs => clOf env r (if k == .free then match env.cells.lookup n with | some a => (n, a) :: cs | none => cs else cs)
theorem clOf_from {env : Env} {x : Str} {c : Addr} : ∀ {ns : List (Str × NameKind)} {cs : List (Str × Addr)}, (∀ p ∈ cs, env.cells.lookup p.1 = some p.2) -> (clOf env ns cs).lookup x = some c -> env.cells.lookup x = some c
 | [], cs, h, e => by
  unfold clOf at e
  exact h (x, c) (PySem.mem_of_lookup e)
 | (n, k) :: r, cs, h, e => by
  unfold clOf at e
  refine clOf_from (ns := r) ?_ e
  intro p hp
  split at hp
  ·split at hp
   ·rename_i a ea
    rcases List.mem_cons.mp hp with rfl | hp
    ·exact ea
    ·exact h p hp
   ·exact h p hp
  ·exact h p hp
theorem lookup_ne_none {x : Str} : ∀ {cs : List (Str × Addr)}, (∃ c, (x, c) ∈ cs) -> ∃ c, cs.lookup x = some c
 | [], ⟨_, h⟩ => nomatch h
 | (n, a) :: r, ⟨c, h⟩ => by
  rw [List.lookup_cons]
  cases e : x == n with
  | true => exact ⟨a, rfl⟩
  | false =>
   rcases List.mem_cons.mp h with h | h
   ·cases h
    rw [beq_self_eq_true] at e; cases e
   ·exact lookup_ne_none ⟨c, h⟩
theorem clOf_has {env : Env} {x : Str} : ∀ {ns : List (Str × NameKind)} {cs : List (Str × Addr)}, ((∃ c, (x, c) ∈ cs) \/ ((x, NameKind.free) ∈ ns /\ ∃ c, env.cells.lookup x = some c)) -> ∃ c, (x, c) ∈ clOf env ns cs
 | [], cs, h => by
  unfold clOf
  rcases h with h | ⟨h, _⟩
  ·exact h
  ·cases h
 | (n, k) :: r, cs, h => by
  unfold clOf
  refine clOf_has (ns := r) ?_
  rcases h with ⟨c, h⟩ | ⟨h, c, hc⟩
  ·refine .inl ⟨c, ?_⟩
   split
   ·split
    ·exact List.mem_cons_of_mem _ h
    ·exact h
   ·exact h
  ·rcases List.mem_cons.mp h with h | h
   ·cases h
    refine .inl ⟨c, ?_⟩
    rw [if_pos (by decide), hc]
    exact List.mem_cons_self
   ·exact .inr ⟨h, c, hc⟩
theorem closureFor_eq {sc : Scope} {env : Env} (h : ∀ p ∈ sc.names, p.2 = NameKind.free -> ∃ c, env.cells.lookup p.1 = some c) : closureFor sc env = pure (clOf env sc.names []) := by
 have go : ∀ (ns : List (Str × NameKind)) (cs : List (Str × Addr)), (∀ p ∈ ns, p.2 = NameKind.free -> ∃ c, env.cells.lookup p.1 = some c) ->
   (forIn ns cs fun (x : Str × NameKind) (r : List (Str × Addr)) => (if (x.2 == NameKind.free) = true then do
     let y <- cellOf env x.1
     pure (ForInStep.yield ((x.1, y) :: r)) else pure (ForInStep.yield r) : Sem (ForInStep (List (Str × Addr))))) = (pure (clOf env ns cs) : Sem (List (Str × Addr))) := by
  intro ns
  induction ns with
  | nil => intro cs _; rfl
  | cons p r ih =>
   intro cs hp
   obtain ⟨n, k⟩ := p
   rw [List.forIn_cons]
   unfold clOf
   by_cases hk : k = NameKind.free
   ·subst hk
    obtain ⟨c, hc⟩ := hp (n, .free) List.mem_cons_self rfl
    have e1 : cellOf env n = pure c := by unfold cellOf; rw [hc]
    simp only [beq_self_eq_true, if_true, e1, hc, pure_bind]
    exact ih _ fun q hq => hp q (List.mem_cons_of_mem _ hq)
   ·have hb : (k == NameKind.free) = false := by simpa using hk
    simp only [hb, Bool.false_eq_true, if_false, pure_bind]
    exact ih _ fun q hq => hp q (List.mem_cons_of_mem _ hq)
 unfold closureFor
 have := go sc.names [] h
 simp only [bind_pure_comp, id_map'] at this ⊢
 rw [this]
 rfl
end L2
end
section
namespace L2
open PySem PySem.Spec PyProof.Rows
theorem relabel_lookup {env : Env} {x : Str} {k' : NameKind} : ∀ {ns : List (Str × NameKind)},
  (ns.map fun (n, k) => if (k == NameKind.free && env.scope.kind == .function && env.kindOf n == some .cell) then (n, NameKind.cell) else (n, k)).lookup x = some k' ->
  ∃ k, ns.lookup x = some k /\ (k' = k \/ (k = .free /\ k' = .cell))
 | [], h => by simp at h
 | (n, k) :: r, h => by
  have h' : List.lookup x ((if (k == NameKind.free && env.scope.kind == .function && env.kindOf n == some .cell) = true then (n, NameKind.cell) else (n, k)) :: (r.map fun (n, k) => if (k == NameKind.free && env.scope.kind == .function && env.kindOf n == some .cell) then (n, NameKind.cell) else (n, k))) = some k' := h
  rw [List.lookup_cons]
  by_cases hc : (k == NameKind.free && env.scope.kind == .function && env.kindOf n == some .cell) = true
  ·rw [if_pos hc, List.lookup_cons] at h'
   cases e : x == n with
   | true =>
    rw [e] at h'
    cases h'
    refine ⟨k, rfl, .inr ⟨?_, rfl⟩⟩
    rw [Bool.and_eq_true, Bool.and_eq_true] at hc
    exact eq_of_beq hc.1.1
   | false =>
    rw [e] at h'
    exact relabel_lookup h'
  ·rw [if_neg hc, List.lookup_cons] at h'
   cases e : x == n with
   | true =>
    rw [e] at h'
    cases h'
    exact ⟨_, rfl, .inl rfl⟩
   | false =>
    rw [e] at h'
    exact relabel_lookup h'
theorem relabel_has {env : Env} {x : Str} {k : NameKind} : ∀ {ns : List (Str × NameKind)}, ns.lookup x = some k ->
  ∃ k', (ns.map fun (n, k) => if (k == NameKind.free && env.scope.kind == .function && env.kindOf n == some .cell) then (n, NameKind.cell) else (n, k)).lookup x = some k' /\ (k' = k \/ (k = .free /\ k' = .cell))
 | [], h => by simp at h
 | (n, k0) :: r, h => by
  show ∃ k', List.lookup x ((if (k0 == NameKind.free && env.scope.kind == .function && env.kindOf n == some .cell) = true then (n, NameKind.cell) else (n, k0)) :: (r.map fun (n, k) => if (k == NameKind.free && env.scope.kind == .function && env.kindOf n == some .cell) then (n, NameKind.cell) else (n, k))) = some k' /\ _
  rw [List.lookup_cons] at h
  by_cases hc : (k0 == NameKind.free && env.scope.kind == .function && env.kindOf n == some .cell) = true
  ·rw [if_pos hc, List.lookup_cons]
   cases e : x == n with
   | true =>
    rw [e] at h
    cases h
    refine ⟨_, rfl, .inr ⟨?_, rfl⟩⟩
    rw [Bool.and_eq_true, Bool.and_eq_true] at hc
    exact eq_of_beq hc.1.1
   | false =>
    rw [e] at h
    exact relabel_has h
  ·rw [if_neg hc, List.lookup_cons]
   cases e : x == n with
   | true =>
    rw [e] at h
    cases h
    exact ⟨_, rfl, .inl rfl⟩
   | false =>
    rw [e] at h
    exact relabel_has h
abbrev Cap := List (Option Nat)
def capt (ix : Cap) (σ : St) : St := ix.map fun o => (o.bind fun j => σ[j]?).join
def capOk (N N' : List Str) (sc sc' : Scope) (ix : Cap) : Bool :=
 (ix.length == N'.length) && (sc'.kind == .function) &&
 (sc'.names.all fun p => p.2 != .cell && (p.2 != .local || sc'.names.lookup p.1 == some .local) && (p.2 != .free || (sc.names.lookup p.1 == some .cell || sc.names.lookup p.1 == some .free))) &&
 (List.range ix.length).all fun k => match ix[k]? with
  | some (some j) => match N'[k]? with
   | some x => N[j]? == some x && sc'.names.lookup x == some .free
   | none => false
  | _ => true
structure CapOk (N N' : List Str) (sc sc' : Scope) (ix : Cap) : Prop where
 len : ix.length = N'.length
 kind : sc'.kind = .function
 nocell : ∀ p ∈ sc'.names, p.2 ≠ .cell
 loc : ∀ p ∈ sc'.names, p.2 = .local -> sc'.names.lookup p.1 = some .local
 fre : ∀ p ∈ sc'.names, p.2 = .free -> sc.names.lookup p.1 = some .cell \/ sc.names.lookup p.1 = some .free
 cap : ∀ (k j : Nat), ix[k]? = some (some j) -> ∃ x, N'[k]? = some x /\ N[j]? = some x /\ sc'.names.lookup x = some .free
theorem capOk_of {N N' : List Str} {sc sc' : Scope} {ix : Cap} (h : capOk N N' sc sc' ix = true) : CapOk N N' sc sc' ix := by
 unfold capOk at h
 simp only [Bool.and_eq_true, List.all_eq_true, beq_iff_eq] at h
 obtain ⟨⟨⟨h1, h2⟩, h3⟩, h4⟩ := h
 refine ⟨h1, h2, fun p hp => ?_, fun p hp hl => ?_, fun p hp hf => ?_, fun k j hk => ?_⟩
 ·have := (h3 p hp).1.1
  simpa using this
 ·have := (h3 p hp).1.2
  rw [hl] at this
  simpa using this
 ·have := (h3 p hp).2
  rw [hf] at this
  simpa using this
 ·have hlt : k < ix.length := (List.getElem?_eq_some_iff.mp hk).1
  have := h4 k (List.mem_range.mpr hlt)
  rw [hk] at this
  simp only at this
  cases e : N'[k]? with
  | none => rw [e] at this; simp at this
  | some x =>
   rw [e] at this
   simp only [Bool.and_eq_true, beq_iff_eq] at this
   exact ⟨x, rfl, this.1, this.2⟩
abbrev Cx.comp (X : Cx) (sc : Scope) (N' : List Str) (C : Addr) (s₀ : Shared) (H₀ : Hp) (ex : List Addr) : Cx :=
 { X with N := N', s₀ := s₀, H₀ := H₀, env := compEnvC sc (clOf X.env sc.names []) C X.env, outer := X.stack, stack := X.stack, ex := ex, fn := fun _ => false, pn := [], xe := fun _ _ => False }
def Ext (σ σ' : St) : Prop := σ.length = σ'.length /\ ∀ (i : Nat) v, σ[i]? = some (some v) -> σ'[i]? = some (some v)
theorem ext_set {σ : St} {i : Nat} {v : Option V} (h : σ[i]? = some none) : Ext σ (σ.set i v) := by
 refine ⟨by simp, fun j w e => ?_⟩
 by_cases hj : i = j
 ·subst hj; rw [h] at e; cases e
 ·rw [List.getElem?_set_ne hj]; exact e
def PTs (X : Cx) (ifs : List Expr) (t : TT) : Prop :=
 ∀ (pins : List (Addr × Obj)) (s : Shared) (σ : St) (H : Hp) (Q : Bool -> Hp -> Prop), Inv X pins σ H s -> t σ H Q ->
  wpAny (model X.prog X.w) X.A (forIn ifs true fun c r => if r = true then do let ok <- isTrue c X.env (eval c X.env); pure (ForInStep.yield ok) else pure (ForInStep.yield r)) (TP X pins σ Q) X.xe s
def tYes : TT := fun _ H Q => Q true H
theorem pts_nil {X : Cx} : PTs X [] tYes := fun _ _ _ H _ I h => wpAny_tests_nil ⟨H, I, h⟩
theorem pts_one {X : Cx} {c : Expr} {t : TT} (h : PT X c t) : PTs X [c] t := fun pins s σ H Q I hw => wpAny_tests_one (h pins s σ H Q I hw)
def CompGo (J : It) (ix : Cap) (g : TG) (tt : TT) (te : TE) (σ : St) (H1 : Hp) (Q : VK) : Prop := ∃ W : Nat -> Nat -> List V -> Hp -> Prop, (∃ m, W 0 m [] H1) /\ ∀ i m ys H, W i m ys H ->
 (J.stop i H /\ ∀ D, H D = none -> Q (.ref D) (upd H D (.lst ys))) ∨
 (J.go i H /\ ys.length < sizeLine /\ ∀ x H', J.yld i H x H' -> g x (capt ix σ) H' fun σ2 H2 => Ext (capt ix σ) σ2 /\ tt σ2 H2 fun b H3 =>
  if b = true then te σ2 H3 fun y H4 => ∃ m', m' < m /\ W (i + 1) m' (ys ++ [y]) H4 else ∃ m', m' < m /\ W (i + 1) m' ys H3)
def tComp (ix : Cap) (wi : TI) (g : TG) (tt : TT) (te : TE) : TE := fun σ H Q => wi σ H fun J H1 => CompGo J ix g tt te σ H1 Q
theorem HOk.track {P : Program} {w : World} {H : Hp} {h : Heap} {a : Addr} {o : HO} (x : HOk P w H h) (hn : H a = none) (new : ObjOk P w (upd H a o) h a o) : HOk P w (upd H a o) h := fun b u e => by
 by_cases hb : b = a
 ·subst hb; rw [ups] at e; cases e; exact new
 ·rw [xar hb] at e
  exact (x b u e).stay (fun c v _ q => q) (fun c q => by rw [xar (neN q hn)]; exact q) fun c xs q => by rw [xar (neN q hn)]; exact q
theorem codeAny_compLoop_own {prog : Program} {w : World} {A : Around} {R : Result -> Shared -> Prop} {s : Shared} {elt target iter : Expr} {ifs : List Expr} {scope : Scope} {pos : Pos} {it acc : Value} {env : Env} (I : Nat -> Shared -> Prop)
  (turn : ∀ n s, I n s -> wpAny (model prog w) A (pyNext it) (fun r s₁ => match r with
   | none => R (.ok .next) s₁
   | some v => wpAny (model prog w) A (letOwnedTupleGo target it v) (fun _ s₁' => wpAny (model prog w) A (assign target env v) (fun _ s₂ =>
     wpAny (model prog w) A (forIn ifs true fun c r => if r = true then do let ok <- isTrue c env (eval c env); pure (ForInStep.yield ok) else pure (ForInStep.yield r)) (fun ok s₃ =>
      if ok = true then wpAny (model prog w) A (eval elt env) (fun x s₄ =>
       wpAny (model prog w) A (call (.builtin "list.append") [acc, x]) (fun _ s₅ => ∃ m, m < n /\ I m s₅) (notedBy (model prog w) A env fun e s' => R (.error e) s') s₄) (notedBy (model prog w) A env fun e s' => R (.error e) s') s₃
      else ∃ m, m < n /\ I m s₃) (notedBy (model prog w) A env fun e s' => R (.error e) s') s₂) (notedBy (model prog w) A env fun e s' => R (.error e) s') s₁') (notedBy (model prog w) A env fun e s' => R (.error e) s') s₁) (notedBy (model prog w) A env fun e s' => R (.error e) s') s)
  (n : Nat) (h : I n s) :
  codeAny (model prog w) A (.compLoop (.ListComp elt [⟨target, iter, ifs, 0⟩] scope pos) 0 it acc env) R s := by
 refine codeAny_loop rfl I (fun n s hI => ?_) n h
 show wpAny _ A ((compTurn (.ListComp elt [⟨target, iter, ifs, 0⟩] scope pos) 0 it acc env).onRaise (fun x => do noteFrame x env; theTreesLotGoes x)) _ _ s
 refine wpAny_noted ?_
 rw [compTurn_list]
 refine wpAny_bind (wpAny_standAt (wpAny_bind (wpAny_mono (turn n s hI) (fun r s₁ h₁ => ?_) fun _ _ h' => h')))
 cases r with
 | none => exact wpAny_pure h₁
 | some v =>
  refine wpAny_bind (wpAny_mono h₁ (fun _ s₁' h₁' => ?_) fun _ _ h' => h')
  refine wpAny_bind (wpAny_mono h₁' (fun _ s₂ h₂ => wpAny_bind (wpAny_mono h₂ (fun ok s₃ h₃ => ?_) fun _ _ h' => h')) fun _ _ h' => h')
  cases ok with
  | false => exact wpAny_pure ⟨rfl, h₃⟩
  | true =>
   exact wpAny_bind (wpAny_bind (wpAny_mono h₃ (fun x s₄ h₄ => wpAny_bind (wpAny_mono h₄ (fun _ s₅ h₅ => wpAny_pure (wpAny_pure ⟨rfl, h₅⟩)) fun _ _ h' => h')) fun _ _ h' => h'))
section
variable {X : Cx}
theorem no_exc {M : Model} {A : Around} {α : Type} {t : Sem α} {Q : α -> Shared -> Prop} {E : Value -> Shared -> Prop} {s : Shared} (h : wpAny M A t Q (fun _ _ => False) s) : wpAny M A t Q E s := wpAny_mono h (fun _ _ q => q) fun _ _ z => z.elim
theorem comp_block {elt tg iter : Expr} {ifs : List Expr} {sc : Scope} {pos : Pos} {N' : List Str} {ix : Cap} {g : TG} {tt : TT} {te : TE} {pins : List (Addr × Obj)} {σ : St} {s : Shared} {Q : VK} {RR : Value -> Addr -> Result -> Shared -> Prop} {E : Value -> Shared -> Prop}
  {itv : Value} (hc : X.calm = true) (ok : CapOk X.N N' X.env.scope sc ix)
  (hg : ∀ C s₀ H₀ ex, PG (X.comp sc N' C s₀ H₀ ex) tg g) (ht : ∀ C s₀ H₀ ex, PTs (X.comp sc N' C s₀ H₀ ex) ifs tt) (he : ∀ C s₀ H₀ ex, PE (X.comp sc N' C s₀ H₀ ex) elt te)
  (hi : PIE X pins σ tg (fun J H1 => CompGo J ix g tt te σ H1 Q) itv s)
  (fin : ∀ (D C : Addr) (s' : Shared) (H' : Hp) (m : Str -> Option Value), Inv X pins σ H' s' -> Q (.ref D) H' -> s'.heap.Ns C m -> H' C = none -> C ≠ X.env.locals -> X.s₀.heap.objs.size <= C -> (∀ x c, X.env.cells.lookup x = some c -> c ≠ C) -> (∀ p ∈ X.pn ++ pins, p.1 ≠ C) ->
   RR (.ref D) C (.ok .next) s') :
  wpAny (model X.prog X.w) X.A (newList []) (fun acc s₃ => wpAny (model X.prog X.w) X.A (newFunctionEnv sc X.env.globals (clOf X.env sc.names []) [] X.env.qual none .none (some X.env)) (fun cenv s₄ =>
   codeAny (model X.prog X.w) X.A (.compStart (.ListComp elt [⟨tg, iter, ifs, 0⟩] sc pos) 0 itv acc { cenv with scope := relabel sc X.env }) (RR acc cenv.locals) s₄) E s₃) E s := by
 obtain ⟨it, fp, tn, J, H2, rfl, I2, T, st2, f2, W, ⟨m0, w0⟩, turn⟩ := hi
 refine wpAny_newObj_type (wpAny_newFunctionEnv ok.nocell (by intro y hy; simp at hy) (fun h₁ hns₁ hsb₁ => ?_) ok.kind)
 dsimp only at hns₁ hsb₁ ⊢
 generalize hHD : s.heap.push { cls := .type "list", dict := none, data := .seq ([] : List Value).toArray } = hD at hns₁ hsb₁ ⊢
 have hCs : hD.objs.size = s.heap.objs.size + 1 := by rw [<- hHD, Heap.size_push]
 have upC : s.heap.objs.size < hD.objs.size := by rw [hCs]; exact Nat.lt_succ_self _
 have hDC : s.heap.objs.size ≠ hD.objs.size := by rw [hCs]; exact Nat.ne_of_lt (Nat.lt_succ_self _)
 have below : ∀ b o, s.heap.get? b = some o -> b ≠ hD.objs.size /\ b ≠ s.heap.objs.size := fun b o e => by
  have := Heap.lt_size e
  exact ⟨Nat.ne_of_lt (by rw [hCs]; exact Nat.lt_succ_of_lt this), Nat.ne_of_lt this⟩
 have old : ∀ b o, s.heap.get? b = some o -> h₁.get? b = some o := fun b o e => hsb₁.extBut b o (below b o e).1 (Heap.get?_push_of_some _ (hHD ▸ Heap.get?_push_of_some _ e))
 have hacc : h₁.get? s.heap.objs.size = some { cls := .type "list", data := .seq ([] : List Value).toArray 0 } := hsb₁.extBut _ _ hDC (Heap.get?_push_of_some _ (hHD ▸ Heap.get?_push_size _ rfl))
 have fpo : ∀ b ∈ fp, b < s.heap.objs.size := fun b hb => let ⟨o, e, _⟩ := T.obj _ _ st2 b hb; Heap.lt_size e
 have cellX : ∀ x c, (clOf X.env sc.names []).lookup x = some c -> X.env.cells.lookup x = some c := fun x c e => clOf_from (fun p hp => absurd hp (by simp)) e
 have cellLt : ∀ x c, X.env.cells.lookup x = some c -> c < s.heap.objs.size := fun x c e => let ⟨v, z⟩ := I2.cell x c e; z.lt
 have hasC : ∀ x, (x, NameKind.free) ∈ sc.names -> ∃ c, (clOf X.env sc.names []).lookup x = some c := fun x hx => by
  have h1 := I2.ok.has x (ok.fre (x, .free) hx rfl)
  exact lookup_ne_none (clOf_has (.inr ⟨hx, h1⟩))
 have okX : (X.comp sc N' hD.objs.size s H2 fp).Ok := by
  refine ⟨I2.ok.mod, ok.kind, I2.ok.glob, I2.ok.blt, ?_, ?_, ?_, ?_, I2.ok.hd, I2.ok.frames, .inl rfl, ?_, I2.bs, Nat.le_trans I2.ok.bsz I2.sz, ?_, ?_, I2.stack, I2.stkFree⟩
  ·exact Nat.le_of_lt upC
  ·intro x y c h1 h2
   exact I2.ok.inj x y c (cellX x c h1) (cellX y c h2)
  ·intro x hx
   have hx' : (relabel sc X.env).names.lookup x = some .cell \/ (relabel sc X.env).names.lookup x = some .free := hx
   have : ∃ k, sc.names.lookup x = some k /\ (k = .free \/ k = .cell) := by
    rcases hx' with h | h
    ·obtain ⟨k, e, z⟩ := relabel_lookup h
     rcases z with z | ⟨z, _⟩
     ·exact ⟨k, e, .inr z.symm⟩
     ·exact ⟨k, e, .inl z⟩
    ·obtain ⟨k, e, z⟩ := relabel_lookup h
     rcases z with z | ⟨_, z⟩
     ·exact ⟨k, e, .inl z.symm⟩
     ·cases z
   obtain ⟨k, e, z⟩ := this
   rcases z with rfl | rfl
   ·exact hasC x (PySem.mem_of_lookup e)
   ·exact absurd rfl (ok.nocell _ (PySem.mem_of_lookup e))
  ·intro x c h _
   cases h
  ·intro b hb
   refine ⟨?_, fun x c e => (f2 b hb).2.2.2.2.1 x c (cellX x c e)⟩
   exact Nat.ne_of_lt (by rw [hCs]; exact Nat.lt_succ_of_lt (fpo b hb))
  ·intro b o e hb
   rcases (f2 b hb).2.2.2.1 with z | z
   ·exact I2.ok.noex b o e z
   ·exact absurd (Nat.lt_of_lt_of_le (Heap.lt_size (I2.ok.bs b o e).1) z) (Nat.lt_irrefl _)
  ·intro b hb z
   rcases List.mem_cons.mp (I2.stkSub b z) with z | z
   ·exact (f2 b hb).2.1 z
   ·exact (f2 b hb).2.2.1 z
 have hnD : H2 s.heap.objs.size = none := I2.hok.fresh (Nat.le_refl _)
 have hnC : H2 hD.objs.size = none := I2.hok.fresh (Nat.le_of_lt upC)
 have nofsD : ∀ a, s.heap.objs.size <= a -> a ∉ frs X.stack := fun a ha z => by
  rcases List.mem_cons.mp (I2.stkSub a z) with z | z
  ·exact absurd (Nat.lt_of_lt_of_le I2.lt ha) (by rw [z]; exact Nat.lt_irrefl _)
  ·exact I2.nofs ha z
 have start : Inv (X.comp sc N' hD.objs.size s H2 fp) [(s.heap.objs.size, { cls := .type "list", data := .seq ([] : List Value).toArray 0 })] (capt ix σ) H2 { s with heap := h₁, toks := s.toks + ([] : List (Str × Value)).length } := by
  refine ⟨okX, rfl, I2.bare, Un.kept old, ⟨_, hns₁, ?_⟩, fun x c e => ?_, hnC, fun x c e => I2.freeC x c (cellX x c e), fun p hp => ?_, I2.hok.kept old, ?_⟩
  ·intro i x v hN hv hvis
   have hl : i < ix.length := by rw [ok.len]; exact (List.getElem?_eq_some_iff.mp hN).1
   have hv' : (ix.map fun o => (o.bind fun j => σ[j]?).join)[i]? = some (some v) := hv
   rw [List.getElem?_map, List.getElem?_eq_getElem hl] at hv'
   have hv'' : ((ix[i].bind fun j => σ[j]?).join) = some v := Option.some.inj hv'
   cases ej : ix[i] with
   | none => rw [ej] at hv''; cases hv''
   | some j =>
    rw [ej] at hv''
    have hσ : σ[j]? = some (some v) := by
     have z : (σ[j]?).join = some v := hv''
     cases q : σ[j]? with
     | none => rw [q] at z; cases z
     | some o => rw [q] at z; exact congrArg some z
    obtain ⟨x', e1, e2, e3⟩ := ok.cap i j (by rw [List.getElem?_eq_getElem hl, ej])
    rw [show N'[i]? = some x from hN] at e1
    cases e1
    have hk := ok.fre (x, .free) (PySem.mem_of_lookup e3) rfl
    obtain ⟨m, hm, hl'⟩ := I2.loc
    obtain ⟨u, ru, lk⟩ := hl' j x v e2 hσ (hk.elim (fun z => .inr (.inl z)) fun z => .inr (.inr z))
    refine ⟨u, ru, .inr ⟨?_, ?_⟩⟩
    ·show (relabel sc X.env).names.lookup x = some .cell \/ (relabel sc X.env).names.lookup x = some .free
     obtain ⟨k', q1, q2⟩ := relabel_has (env := X.env) e3
     rcases q2 with q2 | ⟨_, q2⟩
     ·exact .inr (q1.trans (congrArg some q2))
     ·exact .inl (q1.trans (congrArg some q2))
    ·obtain ⟨c, hc'⟩ := hasC x (PySem.mem_of_lookup e3)
     refine ⟨c, hc', ?_⟩
     rcases lk with ⟨z, _⟩ | ⟨_, c', ec, ⟨o, ho, hd⟩⟩
     ·have z' : X.env.scope.names.lookup x = some .local := z
      rcases hk with hk | hk
      ·rw [z'] at hk; cases hk
      ·rw [z'] at hk; cases hk
     ·rw [cellX x c hc'] at ec
      cases ec
      exact ⟨o, old _ _ ho, hd⟩
  ·obtain ⟨v, o, ho, hd⟩ := I2.cell x c (cellX x c e)
   exact ⟨v, o, old _ _ ho, hd⟩
  ·have e : p = (s.heap.objs.size, { cls := .type "list", data := .seq ([] : List Value).toArray 0 }) := by simpa using hp
   subst e
   exact ⟨hacc, hnD, hDC, nofsD _ (Nat.le_refl _), fun v z => by cases z⟩
  ·show (ix.map _).length = N'.length
   rw [List.length_map]
   exact ok.len
 have st1 : tn 0 h₁ := T.keep _ _ _ st2 fun b hb o e => old b o e
 have loop : ∀ s₃ : Shared, s₃ = { s with heap := h₁, toks := s.toks + ([] : List (Str × Value)).length } ->
   codeAny (model X.prog X.w) X.A (.compLoop (.ListComp elt [⟨tg, iter, ifs, 0⟩] sc pos) 0 (.ref it) (.ref s.heap.objs.size) (compEnvC sc (clOf X.env sc.names []) hD.objs.size X.env))
    (RR (.ref s.heap.objs.size) hD.objs.size) s₃ := by
  rintro s₃ rfl
  have fpI : ∀ {H' : Hp} {o : Obj}, (∀ b ∈ fp, H' b = none) -> ∀ b ∈ fp, FpOk (X.comp sc N' hD.objs.size s H2 fp) [(s.heap.objs.size, o)] H' b := fun {H' o} hn b hb => by
   have hlt := fpo b hb
   refine ⟨hn b hb, (okX.exf b hb).1, okX.exfs b hb, .inl hb, (okX.exf b hb).2, fun p hp => ?_⟩
   have e : p = (s.heap.objs.size, o) := by simpa using hp
   subst e
   exact Nat.ne_of_gt hlt
  refine codeAny_compLoop_own (fun n s' => ∃ i ys its k H', Inv (X.comp sc N' hD.objs.size s H2 fp) [(s.heap.objs.size, { cls := .type "list", data := .seq its.toArray k })] (capt ix σ) H' s' /\ Vals ys its /\ ys.length <= sizeLine /\ tn i s'.heap /\ (∀ b ∈ fp, H' b = none) /\ W i n ys H')
   ?_ m0 ⟨0, [], [], 0, H2, start, .nil, Nat.zero_le _, st1, fun b hb => (f2 b hb).1, w0⟩
  rintro n s4 ⟨i, ys, its, k, H4, I4, r4, z4, st4, fr4, w4⟩
  rcases turn i n ys H4 w4 with ⟨stop, q⟩ | ⟨go, hz, step⟩
  ·refine no_exc (thn (T.done (X.comp sc N' hD.objs.size s H2 fp) rfl rfl rfl hc i _ s4 _ H4 (fun _ _ => False) I4 (fpI fr4) st4 stop) fun r s5 ⟨hr, I5⟩ => ?_)
   subst hr
   show RR (.ref s.heap.objs.size) hD.objs.size (.ok .next) s5
   obtain ⟨pD, nD, _, _, _⟩ := I5.pin (s.heap.objs.size, { cls := .type "list", data := .seq its.toArray k }) (by simp)
   obtain ⟨m5, hm5, _⟩ := I5.loc
   have okD : HOk X.prog X.w (upd H4 s.heap.objs.size (.lst ys)) s5.heap := I5.hok.track nD ⟨z4, its, k, r4, pD⟩
   have un : Un (frs X.stack) fp H2 (upd H4 s.heap.objs.size (.lst ys)) s.heap s5.heap := by
    have B : Un (frs X.stack) fp H2 H4 s.heap s5.heap := I5.base
    have ne : ∀ b u, H2 b = some u -> b ≠ s.heap.objs.size := fun b u e => neN e hnD
    refine ⟨B.keep, B.slot, fun b o e n hb => ?_, B.there, fun b xs e => ?_, fun b o u e => ?_, fun b ps e => ?_⟩
    ·rw [xar (below b o e).2]; exact B.free b o e n hb
    ·rw [xar (ne b _ e)]; exact B.tups b xs e
    ·rw [xar (ne b _ e)]; exact B.frzs b o u e
    ·rw [xar (ne b _ e)]; exact B.tbls b ps e
   have IX : Inv X pins σ (upd H4 s.heap.objs.size (.lst ys)) s5 := I2.call' (ch := fp) I5.os un okD I5.bare fun b hb => ⟨(f2 b hb).2.2.2.1, (f2 b hb).2.1, (f2 b hb).2.2.2.2.1, (f2 b hb).2.2.2.2.2⟩
   refine fin _ _ s5 _ m5 IX (q _ nD) hm5 ?_ (Nat.ne_of_gt (Nat.lt_trans I2.lt upC)) (Nat.le_of_lt (Nat.lt_of_le_of_lt I2.sz upC)) (fun x c e => Nat.ne_of_lt (Nat.lt_trans (cellLt x c e) upC)) (fun p hp => Nat.ne_of_lt (Nat.lt_trans (Heap.lt_size (I2.pin p hp).1) upC))
   rw [xar (Ne.symm hDC)]; exact I5.free
  ·refine no_exc (thn (T.item (X.comp sc N' hD.objs.size s H2 fp) rfl rfl rfl hc i _ s4 _ H4 (fun _ _ => False) I4 (fpI fr4) st4 go) fun r s5 ⟨u, hr, h5⟩ => ?_)
   subst hr
   refine no_exc (thn h5 fun _ s6 ⟨x, H6, I6, r6, y6, st6, fr6⟩ => ?_)
   have I6' := I6.pinned (fpI fr6) (T.obj _ _ st6)
   refine no_exc (thn (hg _ _ _ _ _ s6 _ H6 x u _ I6' r6 (step x H6 y6)) fun _ s7 ⟨σ7, H7, I7, x7, q7⟩ => ?_)
   refine no_exc (thn (ht _ _ _ _ _ s7 σ7 H7 _ I7 q7) fun b s8 ⟨H8, I8, q8⟩ => ?_)
   have back : ∀ {s9 : Shared} {H9 : Hp}, Inv (X.comp sc N' hD.objs.size s H2 fp) ([(s.heap.objs.size, { cls := .type "list", data := .seq its.toArray k })] ++ pinsAt fp s6.heap) σ7 H9 s9 ->
     Inv (X.comp sc N' hD.objs.size s H2 fp) [(s.heap.objs.size, { cls := .type "list", data := .seq its.toArray k })] (capt ix σ) H9 s9 /\ tn (i + 1) s9.heap /\ (∀ b ∈ fp, H9 b = none) := fun {s9 H9} J9 => by
    refine ⟨(J9.unpinned).weak x7.1 x7.2, T.keep _ _ _ st6 fun b hb o e => (J9.pin (b, o) (List.mem_append_right _ (List.mem_append_right _ (mem_pinsAt hb e)))).1, fun b hb => ?_⟩
    obtain ⟨o, e, d⟩ := T.obj _ _ st6 b hb
    exact (J9.pin (b, o) (List.mem_append_right _ (List.mem_append_right _ (mem_pinsAt hb e)))).2.1
   cases b with
   | false =>
    rw [if_neg Bool.false_ne_true] at q8 ⊢
    obtain ⟨m', hm, w8⟩ := q8
    obtain ⟨J8, st8, fr8⟩ := back I8
    exact ⟨m', hm, i + 1, ys, its, k, H8, J8, r4, z4, st8, fr8, w8⟩
   | true =>
    rw [if_pos rfl] at q8 ⊢
    refine no_exc (thn (he _ _ _ _ _ s8 σ7 H8 _ I8 q8) fun y s9 ⟨v9, H9, I9, r9, q9⟩ => ?_)
    obtain ⟨m', hm, w9⟩ := q9
    obtain ⟨J9, st9, fr9⟩ := back I9
    obtain ⟨pD, nD, neC, nf, _⟩ := J9.pin (s.heap.objs.size, { cls := .type "list", data := .seq its.toArray k }) (by simp)
    have hlen := r4.length
    refine call_meets F.slot_list_append ⟨_, pD, rfl⟩ F.entry_list_append (F.args_list_append_2 _ _) (PySem.list_append s.heap.objs.size its.toArray k y (by rw [List.size_toArray]; omega)) ⟨pD, ?_⟩
    have q := PySem.IsL.update pD (·.push y)
    have ep : its.toArray.push y = (its ++ [y]).toArray := by simp
    dsimp only at q
    rw [ep] at q
    obtain ⟨k', q⟩ : ∃ k', (s9.heap.update s.heap.objs.size (Obj.mapSeq (·.push y))).get? s.heap.objs.size = some { cls := .type "list", data := .seq (its ++ [y]).toArray k' } := ⟨_, q⟩
    have J0 : Inv (X.comp sc N' hD.objs.size s H2 fp) [] (capt ix σ) H9 s9 := J9.pins_of fun p hp => absurd hp (by simp)
    have J1 : Inv (X.comp sc N' hD.objs.size s H2 fp) [] (capt ix σ) H9 { s9 with heap := s9.heap.update s.heap.objs.size (Obj.mapSeq (·.push y)) } :=
     J0.turned (it := s.heap.objs.size) (t' := s9.toks) (fun b o hb e => (Heap.get?_update_other _ _ (Ne.symm hb)).trans e) nD neC (.inr (Nat.le_refl _)) (fun x c e => Nat.ne_of_lt (cellLt x c (cellX x c e))) fun p hp => absurd hp (by simp)
    refine ⟨m', hm, i + 1, ys ++ [v9], its ++ [y], k', H9, J1.pins_of fun p hp => ?_, r4.append (.cons r9 .nil), ?_, T.keep _ _ _ st9 fun b hb o e => (Heap.get?_update_other _ _ ?_).trans e, fr9, w9⟩
    ·have e : p = _ := List.mem_singleton.mp hp
     subst e
     exact ⟨q, nD, neC, nf, fun v z => by cases z⟩
    ·rw [List.length_append, List.length_singleton]; omega
    ·exact Nat.ne_of_gt (fpo b hb)
 exact codeAny_compStart_list (loop _ rfl) (T.self _ 0 _ _ _ st1 (loop _ rfl))
theorem Inv.letGo {pins : List (Addr × Obj)} {σ : St} {H : Hp} {s : Shared} {C : Addr} {h' : Heap} (I : Inv X pins σ H s) (hs : Heap.SameBut C s.heap h') (h0 : H C = none) (h1 : C ≠ X.env.locals) (h2 : X.s₀.heap.objs.size <= C) (h3 : ∀ x c, X.env.cells.lookup x = some c -> c ≠ C)
  (h4 : ∀ p ∈ X.pn ++ pins, p.1 ≠ C) : Inv X pins σ H { s with heap := h' } := I.turned (t' := s.toks) (fun b o hb e => (hs.2 b hb).trans e) h0 h1 (.inr h2) h3 h4
theorem pe_comp {elt tg iter : Expr} {ifs : List Expr} {sc : Scope} {pos : Pos} (N' : List Str) (ix : Cap) {wi : TI} {g : TG} {tt : TT} {te : TE} (hc : X.calm = true) (hok : capOk X.N N' X.env.scope sc ix = true)
  (hi : PI X tg iter wi) (hg : ∀ C s₀ H₀ ex, PG (X.comp sc N' C s₀ H₀ ex) tg g) (ht : ∀ C s₀ H₀ ex, PTs (X.comp sc N' C s₀ H₀ ex) ifs tt) (he : ∀ C s₀ H₀ ex, PE (X.comp sc N' C s₀ H₀ ex) elt te)
  (hs : ∀ x, foldedSetIterable iter X.env x = pure x := by intro _; rfl) : PE X (.ListComp elt [⟨tg, iter, ifs, 0⟩] sc pos) (tComp ix wi g tt te) := by
 intro pins s σ H Q I h
 have ok := capOk_of hok
 rw [eval_ListComp]
 refine wpAny_comprehension_free (use := none) rfl hs (closureFor_eq fun p hp hk => I.ok.has p.1 (ok.fre p hp hk)) ok.kind ok.loc (thn (hi pins s σ H _ I h) fun v s1 h1 => thn h1 fun itv s2 h2 => ?_)
 refine comp_block (RR := fun acc C => compPost (model X.prog X.w) X.A X.xe none (EP X pins σ Q) acc C) hc ok hg ht he h2 ?_
 intro D C s' H' m I' q hm h0 h1 h2 h3 h4
 exact ⟨m, hm, fun h' hsb => ⟨.ref D, H', I'.letGo hsb h0 h1 h2 h3 h4, rfl, q⟩⟩
theorem ps_setComp {elt tg iter : Expr} {ifs : List Expr} {sc : Scope} {pos spos py : Pos} {i : Nat} {y : Str} (N' : List Str) (ix : Cap) {wi : TI} {g : TG} {tt : TT} {te : TE} (hc : X.calm = true) (hok : capOk X.N N' X.env.scope sc ix = true)
  (hN : X.N.Nodup) (hy : X.N[i]? = some y) (hx : Loc X.env.scope y)
  (hi : PI X tg iter wi) (hg : ∀ C s₀ H₀ ex, PG (X.comp sc N' C s₀ H₀ ex) tg g) (ht : ∀ C s₀ H₀ ex, PTs (X.comp sc N' C s₀ H₀ ex) ifs tt) (he : ∀ C s₀ H₀ ex, PE (X.comp sc N' C s₀ H₀ ex) elt te)
  (hs : ∀ x, foldedSetIterable iter X.env x = pure x := by intro _; rfl) (hsw : swapsWith (.ListComp elt [⟨tg, iter, ifs, 0⟩] sc pos) (some (.Name y py)) spos.line X.env = pure true := by rfl)
  (hf : X.fn y = true \/ X.env.scope.names.lookup y = some .local := by first | exact .inl rfl | exact .inr rfl | assumption) :
  PS X (.Assign [.Name y py] (.ListComp elt [⟨tg, iter, ifs, 0⟩] sc pos) spos) (tAsg (tComp ix wi g tt te) (gName i)) := by
 intro pins s σ H D I h
 have ok := capOk_of hok
 rw [exec_Assign_Name_used _ _ _ _ hsw]
 refine wpAny_bind (wpAny_standAt (wpAny_bind ?_))
 show wpAny _ X.A (do let _ <- comprehension (.ListComp elt [⟨tg, iter, ifs, 0⟩] sc pos) sc X.env _ (newList []) false (eval iter X.env) (some (assign (.Name y py) X.env))) _ _ s
 refine wpAny_bind (wpAny_mono (wpAny_comprehension_free (use := some (assign (.Name y py) X.env)) (Q := fun _ s' => SP X pins D .next s') rfl hs (closureFor_eq fun p hp hk => I.ok.has p.1 (ok.fre p hp hk)) ok.kind ok.loc
  (thn (hi pins s σ H _ I h) fun v s1 h1 => thn h1 fun itv s2 h2 => ?_)) (fun _ s' hq => wpAny_pure (wpAny_pure hq)) fun _ _ e => e)
 refine comp_block (Q := fun x H1 => gName i x σ H1 D.nx) (RR := fun acc C => compPost (model X.prog X.w) X.A X.xe (some (assign (.Name y py) X.env)) (fun _ s' => SP X pins D .next s') acc C) hc ok hg ht he h2 ?_
 intro Dl C s' H' m I' q hm h0 h1 h2 h3 h4
 refine wpAny_assign_Name (store_ok2 I' hN hy hx (v := .ref Dl) rfl (fun s3 I3 sb => ?_) hf)
 obtain ⟨a, hsb, ha⟩ := sb
 have hne : C ≠ a := by
  rcases ha with e | e
  ·rw [e]; exact h1
  ·exact Ne.symm (h3 y a e)
 exact ⟨m, hm.sameBut hsb hne, fun h' hs' => ⟨_, H', I3.letGo hs' h0 h1 h2 h3 h4, q⟩⟩
end
section
variable {ix : Cap} {tt : TT} {te : TE} {g : TG} {σ : St} {H : Hp} {Q : VK}
def Nxt (Pv : Nat -> List V -> Hp -> Prop) (n i : Nat) (ys : List V) : VK := fun y H2 => ∃ m', m' < n - i /\ m' = n - (i + 1) /\ i + 1 <= n /\ (ys ++ [y]).length = i + 1 /\ Pv (i + 1) (ys ++ [y]) H2
theorem nxt {Pv : Nat -> List V -> Hp -> Prop} {n i : Nat} {ys : List V} {y : V} {H2 : Hp} (hi : i < n) (hl : ys.length = i) (h : Pv (i + 1) (ys ++ [y]) H2) : Nxt Pv n i ys y H2 :=
 ⟨n - (i + 1), by omega, rfl, hi, by rw [List.length_append, List.length_singleton, hl], h⟩
theorem comp_range {lo : Int} {n j : Nat} (Pv : Nat -> List V -> Hp -> Prop) (hj : (capt ix σ)[j]? = some none) (h0 : Pv 0 [] H) (hn : n < sizeLine)
  (hs : ∀ i ys H, i < n -> ys.length = i -> Pv i ys H -> te ((capt ix σ).set j (some (.int (lo + i)))) H (Nxt Pv n i ys))
  (hd : ∀ ys H, ys.length = n -> Pv n ys H -> ∀ D, H D = none -> Q (.ref D) (upd H D (.lst ys))) : CompGo (Itr lo n) ix (gName j) tYes te σ H Q := by
 refine ⟨fun i m ys H => m = n - i /\ i <= n /\ ys.length = i /\ Pv i ys H, ⟨n, by simp, Nat.zero_le _, rfl, h0⟩, ?_⟩
 rintro i m ys H ⟨rfl, hi, hl, p⟩
 by_cases hlt : i < n
 ·refine .inr ⟨hlt, by omega, fun x H' y => ?_⟩
  obtain ⟨e, y⟩ := y
  subst e y
  refine ⟨ext_set hj, ?_⟩
  unfold tYes
  dsimp only
  rw [if_pos rfl]
  exact hs i ys _ hlt hl p
 ·have e : i = n := by omega
  subst e
  exact .inl ⟨Nat.le_refl _, hd ys H hl p⟩
theorem comp_list {K : PySem.W.Frag} {a : Addr} {xs : List V} {j : Nat} (Pv : Nat -> List V -> Hp -> Prop) (hj : (capt ix σ)[j]? = some none) (h0 : Pv 0 [] H) (hn : xs.length < sizeLine) (hl' : ∀ i ys H, i <= xs.length -> Pv i ys H -> SqL K H a xs)
  (hs : ∀ i x ys H, xs[i]? = some x -> ys.length = i -> Pv i ys H -> te ((capt ix σ).set j (some x)) H (Nxt Pv xs.length i ys))
  (hd : ∀ ys H, ys.length = xs.length -> Pv xs.length ys H -> ∀ D, H D = none -> Q (.ref D) (upd H D (.lst ys))) : CompGo (Itl K a) ix (gName j) tYes te σ H Q := by
 refine ⟨fun i m ys H => m = xs.length - i /\ i <= xs.length /\ ys.length = i /\ Pv i ys H, ⟨xs.length, by simp, Nat.zero_le _, rfl, h0⟩, ?_⟩
 rintro i m ys H ⟨rfl, hi, hl, p⟩
 have q := hl' i ys H hi p
 by_cases hlt : i < xs.length
 ·refine .inr ⟨⟨xs, xs[i], q, by simp [hlt]⟩, by omega, fun v H' y => ?_⟩
  obtain ⟨e, y⟩ := y
  subst e
  refine ⟨ext_set hj, ?_⟩
  unfold tYes
  dsimp only
  rw [if_pos rfl]
  exact hs i v ys _ (y xs q) hl p
 ·have e : i = xs.length := by omega
  subst e
  exact .inl ⟨⟨xs, q, Nat.le_refl _⟩, hd ys H hl p⟩
theorem comp_tup {K : PySem.W.Frag} {a : Addr} {xs : List V} {j : Nat} (Pv : Nat -> List V -> Hp -> Prop) (hj : (capt ix σ)[j]? = some none) (h0 : Pv 0 [] H) (hn : xs.length < sizeLine) (hl' : ∀ i ys H, i <= xs.length -> Pv i ys H -> SqT K H a xs)
  (hs : ∀ i x ys H, xs[i]? = some x -> ys.length = i -> Pv i ys H -> te ((capt ix σ).set j (some x)) H (Nxt Pv xs.length i ys))
  (hd : ∀ ys H, ys.length = xs.length -> Pv xs.length ys H -> ∀ D, H D = none -> Q (.ref D) (upd H D (.lst ys))) : CompGo (Itt K a) ix (gName j) tYes te σ H Q := by
 refine ⟨fun i m ys H => m = xs.length - i /\ i <= xs.length /\ ys.length = i /\ Pv i ys H, ⟨xs.length, by simp, Nat.zero_le _, rfl, h0⟩, ?_⟩
 rintro i m ys H ⟨rfl, hi, hl, p⟩
 have q := hl' i ys H hi p
 by_cases hlt : i < xs.length
 ·refine .inr ⟨⟨xs, xs[i], q, by simp [hlt]⟩, by omega, fun v H' y => ?_⟩
  obtain ⟨e, y⟩ := y
  subst e
  refine ⟨ext_set hj, ?_⟩
  unfold tYes
  dsimp only
  rw [if_pos rfl]
  exact hs i v ys _ (y xs q) hl p
 ·have e : i = xs.length := by omega
  subst e
  exact .inl ⟨⟨xs, q, Nat.le_refl _⟩, hd ys H hl p⟩
end
end L2
end
section
namespace L2
open PySem PySem.Spec PyProof.Rows
section
variable {X : Cx}
def CDivB (i j : Int) : Prop := 0 < j /\ j < 2 ^ 64
theorem xa5 : OpR X (binaryOp .FloorDiv) (rI CDivB fun i j => .int (i / j)) := opI fun i j _ _ _ _ _ hc q => by
 have h1 : (0 : Int) < j := hc.1
 have h2 : j < 2 ^ 64 := hc.2
 refine floordiv_int (by omega) (by rw [Int.fdiv_eq_ediv_of_nonneg i (by omega)]; exact q) (.inl (PyProof.noPylong_of_log2 ?_))
 have h3 : j.natAbs < 2 ^ 64 := by omega
 have h0 : j.natAbs ≠ 0 := by omega
 have h4 : j.natAbs.log2 < 64 := (Nat.log2_lt h0).mpr h3
 omega
theorem strsAre_of {ys : List Str} : ∀ {us : List Value}, Vals (ys.map V.str) us -> StrsAre us ys := by
 induction ys with
 | nil => intro us r; rw [List.map_nil] at r; cases r; exact .nil
 | cons n ns ih =>
  intro us r
  rw [List.map_cons] at r
  cases r with
  | cons r1 r2 =>
   obtain ⟨t, e⟩ := r1
   subst e
   exact .cons n t (ih r2)
def rJoin (K : PySem.W.Frag) : V -> List V -> Hp -> VK -> Prop := fun x vs H Q => ∃ (sep : Str) (p : Addr) (ys : List Str), x = .str sep /\ vs = [.ref p] /\ SqL K H p (ys.map V.str) /\ (ys.map (·.length)).sum + ys.length * sep.length <= 16777216 /\ Q (.str (Txt.join sep ys)) H
theorem mt_join : MtR X "str.join" (rJoin X.K) := by
 intro pins s σ H x vs v us Q I rx rv h
 obtain ⟨sep, p, ys, rfl, rfl, hq, hz, q⟩ := h
 obtain ⟨t, rfl⟩ := rx
 obtain ⟨u, rfl, ru⟩ := rv.one
 cases ru
 obtain ⟨its, r, pl, _⟩ := I.list hq
 exact join_list pl.isList (by simpa using strsAre_of r) hz fun t' k => ⟨.str _, H, I.tok k, ⟨t', rfl⟩, q⟩
def rSlS : V -> Option Int -> Option Int -> Hp -> VK -> Prop := fun x lo hi H Q => ∃ z : Str, x = .str z /\ z.length <= sizeLine /\ Q (.str (Txt.slice z lo hi)) H
theorem sl_str : SlR X rSlS := by
 intro pins s σ H x v vl vu lo hi sl Q I rx hs pl pu h
 obtain ⟨z, rfl, hz, q⟩ := h
 obtain ⟨t, rfl⟩ := rx
 refine ⟨"str", _, F.slot_str_getitem.lookup, typeIs_str _ _ _, ?_⟩
 have hq : ∀ (o : Str), o = Txt.slice z lo hi -> o.length <= sizeLine /\ ∀ t' k, EP X pins σ Q (.str o t') { s with toks := k } := fun o e => by
  subst e
  exact ⟨Nat.le_trans (Txt.slice_le z _ _) hz, fun t' k => ⟨.str _, H, I.tok k, ⟨t', rfl⟩, q⟩⟩
 obtain ⟨os, hos, hcs, hds⟩ := hs
 cases pl with
 | none =>
  cases pu with
  | none => exact wpAny_getItem_str_slice (l := none) (u := none) (st := none) ⟨os, hos, hcs, hds⟩ rfl (post_val_or_str (hq _ rfl))
  | int j uj => exact wpAny_getItem_str_slice (l := none) (u := some (j, uj)) (st := none) ⟨os, hos, hcs, hds⟩ rfl (post_val_or_str (hq _ rfl))
 | int i ui =>
  cases pu with
  | none => exact wpAny_getItem_str_slice (l := some (i, ui)) (u := none) (st := none) ⟨os, hos, hcs, hds⟩ rfl (post_val_or_str (hq _ rfl))
  | int j uj => exact wpAny_getItem_str_slice (l := some (i, ui)) (u := some (j, uj)) (st := none) ⟨os, hos, hcs, hds⟩ rfl (post_val_or_str (hq _ rfl))
def eqVs : List V -> List V -> Bool
 | [], [] => true
 | x :: xs, y :: ys => eqV x y && eqVs xs ys
 | _, _ => false
theorem eqVs_len : ∀ {xs ys : List V}, xs.length ≠ ys.length -> eqVs xs ys = false
 | [], [], h => absurd rfl h
 | [], _ :: _, _ => rfl
 | _ :: _, [], _ => rfl
 | x :: xs, y :: ys, h => by
  show (eqV x y && eqVs xs ys) = false
  rw [eqVs_len (xs := xs) (ys := ys) (by simpa using h), Bool.and_false]
theorem eqVs_range : ∀ {xs ys : List V}, xs.length = ys.length -> (List.range xs.length).all (fun i => eqV (xs.getD i .non) (ys.getD i .non)) = eqVs xs ys
 | [], [], _ => rfl
 | [], _ :: _, h => by cases h
 | _ :: _, [], h => by cases h
 | x :: xs, y :: ys, h => by
  rw [List.length_cons, List.range_succ_eq_map, List.all_cons, List.all_map]
  show (eqV x y && (List.range xs.length).all (fun i => eqV (xs.getD i .non) (ys.getD i .non))) = (eqV x y && eqVs xs ys)
  rw [eqVs_range (xs := xs) (ys := ys) (by simpa using h)]
end
def SameBut (a : Addr) (H H' : Hp) : Prop := ∀ b o, H b = some o -> b ≠ a -> H' b = some o
theorem SameBut.refl (a : Addr) (H : Hp) : SameBut a H H := fun _ _ h _ => h
theorem SameBut.trans {a : Addr} {H H1 H2 : Hp} (h : SameBut a H H1) (k : SameBut a H1 H2) : SameBut a H H2 := fun b o e n => k b o (h b o e n) n
theorem SameBut.upd (a : Addr) (H : Hp) (o : HO) : SameBut a H (upd H a o) := fun b u e n => by rw [xar n]; exact e
theorem Same.but {a : Addr} {H H' : Hp} (h : Same H H') : SameBut a H H' := fun b o e _ => h b o e
theorem Same.new {H : Hp} {p : Addr} (h : H p = none) (o : HO) : Same H (upd H p o) := fun b u q => by rw [xar (neN q h)]; exact q
theorem none_of_same {H H' : Hp} {p : Addr} (h : Same H H') (n : H' p = none) : H p = none := by
 cases e : H p with
 | none => rfl
 | some o => rw [h p o e] at n; cases n
end L2
end
section
namespace L2
open PySem PySem.Spec PyProof.Rows
structure DefTx (K : PySem.W.Frag) (mg : Str -> Option Value) (x : Str) (st : Stmt) (ps : List Str) : Prop where
 ex : ∃ (f : Addr) (fd : FuncData), Fun K x x st f fd /\ mg x = some (.ref f) /\ ∀ us : List Value, us.length = ps.length -> bindArgs fd ⟨us, []⟩ = pure (ps.zip us)
structure DefIs (P : Program) (w : World) (K : PySem.W.Frag) (mg : Str -> Option Value) (base : Heap) (n : Nat) (x : Str) (ps : List Str) (sp : Sp) : Prop where
 ex : ∃ (f : Addr) (fd : FuncData), FnOk P w K mg base CX0 n f fd ps sp /\ Binds K fd ps [] /\ PySem.W.keepIn K (.ref f) = true /\ mg x = some (.ref f) /\ ∃ oc od osl, K.lookup f = some ⟨oc, od, .func fd, osl⟩
theorem fun_at {K : PySem.W.Frag} {x : Str} {st : Stmt} {f : Addr} {fd : FuncData} (F : Fun K x x st f fd) : ∃ oc od osl, K.lookup f = some ⟨oc, od, .func fd, osl⟩ := by
 obtain ⟨oc, od, kV, doc, pm, an, cdv, ct, osl, _, l, _⟩ := F.ex
 exact ⟨oc, od, osl, l⟩
section
variable {P : Program} {w : World} {K : PySem.W.Frag} {mg : Str -> Option Value} {base : Heap} {n m : Nat} {x : Str} {ps N : List Str} {sp : Sp} {st : Stmt}
theorem DefIs.mono (D : DefIs P w K mg base n x ps sp) (h : n <= m) : DefIs P w K mg base m x ps sp := by
 obtain ⟨f, fd, F, r⟩ := D.ex
 exact ⟨f, fd, F.mono h, r⟩
theorem DefIs.of (T : DefTx K mg x st ps) (S : FnScope N ps (xab st)) (len : ∀ vs H Q E, sp vs H Q E -> vs.length = ps.length)
  (hbody : ∀ (f : Addr) (cdv : Value) (A : Around) (outer : List Env) (s : Shared) (H : Hp) (vs : List V) (Q : VK) (E : XK), Room n (A.deeper (envOfC x (xab st) s.heap.objs.size f cdv)) -> sp vs H Q E ->
   ∃ t, PSs (cxOf CX0 P w K mg base N x (xab st) f cdv A outer s H E).nox (defBody st) t /\ t { nx := fun _ H' => Q .non H', rt := Q } (start N vs) H) : DefIs P w K mg base (n + 1) x ps sp := by
 obtain ⟨f, fd, F, m, b⟩ := T.ex
 exact ⟨f, fd, F.ok S len (fun cdv A outer s H vs Q E hr h => hbody f cdv A outer s H vs Q E hr h), Binds.all b, F.kp, m, fun_at F⟩
theorem DefIs.none (T : DefTx K mg x st ps) (no : ∀ vs H Q E, ¬ sp vs H Q E) : DefIs P w K mg base n x ps sp := by
 obtain ⟨f, fd, F, m, b⟩ := T.ex
 exact ⟨f, fd, ⟨fun vs H Q E h => absurd h (no vs H Q E), fun A outer s H args us vs Q E _ _ _ _ h => absurd h (no vs H Q E)⟩, Binds.all b, F.kp, m, fun_at F⟩
end
section
variable {X : Cx} {n : Nat} {x : Str} {ps : List Str} {sp : Sp} {e : Expr} {es : List Expr} {p pos : Pos} {t : TA}
theorem pd (D : DefIs X.prog X.w X.K X.mg X.base n x ps sp) (hr : Room n X.A) (ha : PA X (e :: es) t) (hg : Gl X x := by rfl) (hdb : (x == ("__debug__" : Str)) = false := by decide)
  (he : starEach (e :: es) X.env = (false, eval e X.env) :: starEach es X.env := by rfl) (hpl : (backTo pos (starEach es X.env)).any (·.1) = false := by rfl) : PE X (.Call (.Name x p) (e :: es) [] pos) (tCall sp [] E0 t) := by
 obtain ⟨f, fd, F, b, k, m, _⟩ := D.ex
 exact pe_call F hr hg m k b .nil pass0 ha hdb he hpl
theorem pe_gint {i : Int} (hm : ∃ t, X.mg x = some (.int i t)) (hg : Gl X x := by rfl) (hd : (x == ("__debug__" : Str)) = false := by decide) : PE X (.Name x pos) (tC (.int i)) := by
 obtain ⟨t, h⟩ := hm
 exact pe_glob hg h ⟨t, rfl⟩ hd
theorem pe_gref {a : Addr} (hm : X.mg x = some (.ref a)) (hg : Gl X x := by rfl) (hd : (x == ("__debug__" : Str)) = false := by decide) : PE X (.Name x pos) (tC (.ref a)) := pe_glob hg hm rfl hd
theorem pe_gty {T : String} (hm : X.mg x = none) (hv : bootBuiltins x = some (.type T)) (hg : Gl X x := by rfl) (hn : x ≠ "__name__" := by decide) (hd : (x == ("__debug__" : Str)) = false := by decide) : PE X (.Name x pos) (tC (.ty T)) := pe_bltn hg hm hv rfl hn hd
end
def Fed (a : Addr) (H H' : Hp) : Prop := SameBut a H H' /\ ∃ p q : Int, H' a = some (.lst [.int p, .int q])
theorem Fed.trans {a : Addr} {H H1 H2 : Hp} (h : Fed a H H1) (k : Fed a H1 H2) : Fed a H H2 := ⟨h.1.trans k.1, k.2⟩
theorem Fed.of {a : Addr} {H : Hp} {p q : Int} : Fed a H (upd H a (.lst [.int p, .int q])) := ⟨SameBut.upd a H _, p, q, ups⟩
theorem Fed.refl {a : Addr} {H : Hp} {p q : Int} (h : H a = some (.lst [.int p, .int q])) : Fed a H H := ⟨SameBut.refl a H, p, q, h⟩
theorem Fed.same {a : Addr} {H H' H'' : Hp} (h : Fed a H H') (s : Same H' H'') : Fed a H H'' := by
 obtain ⟨k, p, q, e⟩ := h
 exact ⟨k.trans s.but, p, q, s _ _ e⟩
theorem Fed.back {a : Addr} {H H0 H' : Hp} (n : H a = none) (s : Same H H0) (h : Fed a H0 H') : Same H H' := fun b o e => h.1 b o (s b o e) (neN e n)
end L2
namespace L2
open PySem PySem.Spec PyProof.Rows
theorem deftx_mk {K : PySem.W.Frag} {h : Heap} {mg : Str -> Option Value} (X : K.In h) (G : h.Ns mainGlobals mg) {x : Str} {st : Stmt} {ps : List Str} {f : Addr} {oc : Value} {od an : Option Addr} {osl : Array (Option Value)} {kV doc pm cdv ct : Value}
  (a : PySem.W.nsIn K mainGlobals x = some (some (.ref f))) (l : K.lookup f = some ⟨oc, od, .func (PySem.W.fnOf x x (defArgs st) (defBody st) (xab st) .none kV doc pm an cdv ct), osl⟩)
  (c : PySem.W.codeIn K cdv x = true) (k : PySem.W.keepIn K (.ref f) = true)
  (b : ∀ (kV doc pm : Value) (an : Option Addr) (cdv ct : Value) (us : List Value), us.length = ps.length -> bindArgs (PySem.W.fnOf x x (defArgs st) (defBody st) (xab st) .none kV doc pm an cdv ct) ⟨us, []⟩ = pure (ps.zip us)) : DefTx K mg x st ps := by
 have F := fun_mk (st := st) l c k
 exact ⟨f, _, F, PySem.W.mg_of X G a, b kV doc pm an cdv ct⟩
theorem law_top {P : Program} {w : World} {K : PySem.W.Frag} {mg : Str -> Option Value} {n : Nat} {x y : Str} {st : Stmt} {sp : Sp} {fa : Addr} (T : DefTx K mg x st [y]) (hmg : mg x = some (.ref fa)) (D : ∀ base, DefIs P w K mg base n x [y] sp) :
  ∃ fd : FuncData, (∀ (s : Shared) (u : Value), BindsTo s fd ⟨[u], []⟩ [(y, u)]) /\ ∀ base : Heap, K.In base -> base.Ns mainGlobals mg -> FnOk P w K mg base CX0 n fa fd [y] sp := by
 obtain ⟨f, fd, F, m, b⟩ := T.ex
 rw [hmg] at m
 cases m
 refine ⟨fd, fun s u => .of_eq (b [u] rfl), fun base _ _ => ?_⟩
 obtain ⟨f', fd', G, _, _, m', oc, od, osl, l⟩ := (D base).ex
 rw [hmg] at m'
 cases m'
 obtain ⟨oc2, od2, osl2, l2⟩ := fun_at F
 rw [l] at l2
 cases l2
 exact G
theorem gint_mk {K : PySem.W.Frag} {h : Heap} {mg : Str -> Option Value} (X : K.In h) (G : h.Ns mainGlobals mg) {x : Str} {i : Int} {t : Tok} (a : PySem.W.nsIn K mainGlobals x = some (some (.int i t))) : ∃ t, mg x = some (.int i t) := ⟨t, PySem.W.mg_of X G a⟩
end L2
end
section
namespace Zt
open PySem
section
variable {prog : Program} {w : World} {A : Around} {E : Value -> Shared -> Prop} {s : Shared}
theorem next_item {it l : Addr} {i : Nat} {items} {x : Value} {Q : Value -> Shared -> Prop} (hit : s.heap.IsTupleIter it l i)
  (hl : s.heap.IsTuple l items) (hx : items[i]? = some x)
  (hQ : ∀ h', h'.IsTupleIter it l (i + 1) -> Heap.SameBut it s.heap h' -> Q x { s with heap := h' }) :
  wpAny (model prog w) A (Builtin.SmallTypes.nextOf (.ref it)) Q E s := by
 obtain ⟨o, ho, hc, hd⟩ := id hit
 obtain ⟨ol, hol, _, nl, hdl⟩ := hl
 unfold Builtin.SmallTypes.nextOf
 refine wpAny_bind (wpAny_callSpecial?_slot (name := Str.ofString "__next__") hit.typeIs F.slot_tuple_iterator_next
  (wpAny_call_entry F.slot_tuple_iterator_next hit.typeIs F.entry_tuple_iterator_next ?_ (F.args_tuple_iterator_next_1 _)))
 show wpAny _ _ (field (.ref it) 0 >>= _) _ _ s
 refine wpAny_bind (wpAny_field ho hd (x := .ref l) rfl ?_)
 show wpAny _ _ (if (Value.ref l == Value.none) = true then _ else _) _ _ s
 rw [if_neg (show ¬ ((Value.ref l == Value.none) = true) from Bool.false_ne_true)]
 show wpAny _ _ (field (.ref it) 1 >>= _) _ _ s
 refine wpAny_bind (wpAny_field ho hd (x := .int i 0) rfl ?_)
 show wpAny _ _ (seqItems? (.ref l) >>= _) _ _ s
 refine wpAny_bind (wpAny_seqItems hol hdl ?_)
 simp only [Int.toNat_natCast, hx]
 refine wpAny_bind (wpAny_setField ho hd (by simp) (wpAny_pure ⟨x, rfl, wpAny_pure (hQ _ ?_ (Heap.SameBut.update ..))⟩))
 exact ⟨_, Heap.get?_update_self _ ho (Obj.isFreed_of_fields (Obj.data_mapFields hd _)), (Obj.cls_mapFields ..).trans hc, by
  rw [Obj.data_mapFields hd]; simp [rawInt]⟩
theorem next_end {it l : Addr} {i : Nat} {items} {Q : Value -> Shared -> Prop} (hh : A.handled = none)
  (hit : s.heap.IsTupleIter it l i) (hl : s.heap.IsTuple l items) (hx : items[i]? = none)
  (hE : ∀ h' e, Heap.ExtBut it s.heap h' -> (∃ o, h'.get? e = some o /\ o.cls = .type "StopIteration") -> E (.ref e) { s with heap := h' }) :
  wpAny (model prog w) A (Builtin.SmallTypes.nextOf (.ref it)) Q E s := by
 obtain ⟨o, ho, hc, hd⟩ := id hit
 obtain ⟨ol, hol, _, nl, hdl⟩ := hl
 unfold Builtin.SmallTypes.nextOf
 refine wpAny_bind (wpAny_callSpecial?_slot (name := Str.ofString "__next__") hit.typeIs F.slot_tuple_iterator_next
  (wpAny_call_entry F.slot_tuple_iterator_next hit.typeIs F.entry_tuple_iterator_next ?_ (F.args_tuple_iterator_next_1 _)))
 show wpAny _ _ (field (.ref it) 0 >>= _) _ _ s
 refine wpAny_bind (wpAny_field ho hd (x := .ref l) rfl ?_)
 show wpAny _ _ (if (Value.ref l == Value.none) = true then _ else _) _ _ s
 rw [if_neg (show ¬ ((Value.ref l == Value.none) = true) from Bool.false_ne_true)]
 show wpAny _ _ (field (.ref it) 1 >>= _) _ _ s
 refine wpAny_bind (wpAny_field ho hd (x := .int i 0) rfl ?_)
 show wpAny _ _ (seqItems? (.ref l) >>= _) _ _ s
 refine wpAny_bind (wpAny_seqItems hol hdl ?_)
 simp only [Int.toNat_natCast, hx]
 refine wpAny_bind (wpAny_rule (wpAny_bind (wpAny_setField ho hd (by simp) ?_)))
 show wpAny _ _ (newExc (.type "StopIteration") [] >>= _) _ _ _
 refine wpAny_bind ?_
 simp only [newExc, newTuple]
 refine wpAny_bind (wpAny_newObj_type ?_ (by size_fits))
 refine wpAny_bind (m := firstArgMember _ _) (wpAny_of_eq (a := Value.none) (by first | rfl | (simp only [firstArgMember]; rfl)) ?_)
 refine wpAny_newObj_type ?_ (by size_fits)
 simp only [raiseNew]
 refine wpAny_bind (wpAny_handled ?_)
 first | rw [show A.in1.handled = none from hh] | rw [hh]
 refine wpAny_bind (wpAny_pure (wpAny_throw ?_))
 exact hE _ _ (((Heap.SameBut.update ..).extBut.push _).push _) ⟨_, Heap.get?_push_size _ rfl, rfl⟩
abbrev IsZipF (h : Heap) (z TI TO : Addr) (f0 f1 : Value) : Prop :=
 h.get? z = some { cls := .type "zip", dict := none, data := .fields #[f0, f1, .bool false, .ref TI, .ref TO], slots := #[] }
def Free (h : Heap) (z TI TO : Addr) : Prop := IsZipF h z TI TO .none (.bool false) \/ ∃ (T : Addr) (b : Bool) (o : Obj), IsZipF h z TI TO (rawInt T) (.bool b) /\ h.get? T = some o /\ T ≠ z
structure Zs (h : Heap) (z TI TO i1 i2 l1 l2 : Addr) (xs ys : Array Value) (k : Nat) : Prop where
 zip : Free h z TI TO
 ti : IsPair h TI (.ref i1) (.ref i2)
 to : ∃ a b, IsPair h TO a b
 it1 : h.IsTupleIter i1 l1 k
 it2 : h.IsTupleIter i2 l2 k
 t1 : h.IsTuple l1 xs
 t2 : h.IsTuple l2 ys
theorem item_first {z TI TO i1 i2 l1 l2 : Addr} {k1 k2 : Nat} {xs ys : Array Value} {x y a b : Value} {Q : Value -> Shared -> Prop} (D : ZipApart z TI TO i1 i2 l1 l2)
  (hz : IsZip s.heap z TI TO .none) (hTI : IsPair s.heap TI (.ref i1) (.ref i2)) (hTO : IsPair s.heap TO a b)
  (h1 : s.heap.IsTupleIter i1 l1 k1) (h2 : s.heap.IsTupleIter i2 l2 k2) (hl1 : s.heap.IsTuple l1 xs) (hl2 : s.heap.IsTuple l2 ys) (hx : xs[k1]? = some x) (hy : ys[k2]? = some y)
  (hQ : ∀ h', IsZip h' z TI TO (rawInt s.heap.objs.size) -> IsPair h' TO x y -> h'.IsTupleIter i1 l1 (k1 + 1) -> h'.IsTupleIter i2 l2 (k2 + 1) -> IsPair h' s.heap.objs.size x y -> h'.objs.size = s.heap.objs.size + 1 ->
   (∀ c o, c ≠ z -> c ≠ TO -> c ≠ i1 -> c ≠ i2 -> s.heap.get? c = some o -> h'.get? c = some o) -> Q (.ref s.heap.objs.size) { s with heap := h' }) :
  wpAny (model prog w) A (Builtin.«zip.__next__» ⟨[.ref z], []⟩) (fun fin s' => ∃ v, fin = .done (.ret v) /\ Q v s') E s := by
 show wpAny _ _ (field (.ref z) 2 >>= _) _ _ _
 refine wpAny_bind (wpAny_field hz rfl (x := .bool false) rfl ?_)
 show wpAny _ _ (field (.ref z) 3 >>= _) _ _ _
 refine wpAny_bind (wpAny_field hz rfl (x := .ref TI) rfl ?_)
 refine wpAny_bind (wpAny_seqItems hTI rfl ?_)
 show wpAny _ _ (Builtin.SmallTypes.ownedTupleIsFree (.ref z) >>= _) _ _ _
 refine wpAny_bind ?_
 unfold Builtin.SmallTypes.ownedTupleIsFree
 refine wpAny_bind (wpAny_field hz rfl (x := .none) rfl (wpAny_pure ?_))
 simp only [if_true]
 refine wpAny_bind (wpAny_rule ?_)
 refine wpAny_bind (wpAny_field hz rfl (x := .ref TO) rfl ?_)
 refine wpAny_bind (wpAny_setField_rec hz (by simp) fun h₁ hz₁ hs₁ => ?_)
 replace hz₁ : IsZip h₁ z TI TO .ellipsis := hz₁
 refine wpAny_bind ?_
 simp only [List.zipIdx_cons, List.zipIdx_nil, List.forIn_cons, List.forIn_nil]
 refine wpAny_bind (wpAny_bind (wpAny_onRaise ?_))
 show wpAny _ _ (Builtin.SmallTypes.nextOf (.ref i1) >>= _) _ _ _
 refine wpAny_bind (next_item (h1.extBut hs₁.extBut D.i1z) (hl1.extBut hs₁.extBut D.l1z) hx fun h₂ h1₂ hs₂ => wpAny_pure ?_)
 have hTO₂ : IsPair h₂ TO a b := hs₂.extBut _ _ D.TOi1 (hs₁.extBut _ _ D.TOz hTO)
 refine wpAny_bind (wpAny_seqItems hTO₂ rfl ?_)
 refine wpAny_bind (wpAny_updateSeq_pair hTO₂ fun h₃ hTO₃ hs₃ => ?_)
 replace hTO₃ : IsPair h₃ TO x b := hTO₃
 refine wpAny_bind (wpAny_letGo (wpAny_pure ?_))
 refine wpAny_bind (wpAny_bind (wpAny_onRaise ?_))
 show wpAny _ _ (Builtin.SmallTypes.nextOf (.ref i2) >>= _) _ _ _
 refine wpAny_bind (next_item (((h2.extBut hs₁.extBut D.i2z).extBut hs₂.extBut D.i12.symm).extBut hs₃.extBut D.TOi2.symm)
  (((hl2.extBut hs₁.extBut D.l2z).extBut hs₂.extBut D.l2i1).extBut hs₃.extBut D.l2TO) hy fun h₄ h2₄ hs₄ => wpAny_pure ?_)
 have hTO₄ : IsPair h₄ TO x b := hs₄.extBut _ _ D.TOi2 hTO₃
 refine wpAny_bind (wpAny_seqItems hTO₄ rfl ?_)
 refine wpAny_bind (wpAny_updateSeq_pair hTO₄ fun h₅ hTO₅ hs₅ => ?_)
 replace hTO₅ : IsPair h₅ TO x y := hTO₅
 refine wpAny_bind (wpAny_letGo (wpAny_pure (wpAny_pure ?_)))
 refine wpAny_bind (wpAny_seqItems hTO₅ rfl ?_)
 refine wpAny_bind (wpAny_newTuple ?_)
 have hsz : h₅.objs.size = s.heap.objs.size := by rw [hs₅.1, hs₄.1, hs₃.1, hs₂.1, hs₁.1]
 have hz₅ : IsZip h₅ z TI TO .ellipsis := hs₅.extBut _ _ D.TOz.symm (hs₄.extBut _ _ D.i2z.symm (hs₃.extBut _ _ D.TOz.symm (hs₂.extBut _ _ D.i1z.symm hz₁)))
 have hk₅ : ∀ c o, c ≠ z -> c ≠ TO -> c ≠ i1 -> c ≠ i2 -> s.heap.get? c = some o -> h₅.get? c = some o := fun c o c1 c2 c3 c4 e =>
  hs₅.extBut _ _ c2 (hs₄.extBut _ _ c4 (hs₃.extBut _ _ c2 (hs₂.extBut _ _ c3 (hs₁.extBut _ _ c1 e))))
 have h1₅ : h₅.IsTupleIter i1 l1 (k1 + 1) := ((h1₂.extBut hs₃.extBut D.TOi1.symm).extBut hs₄.extBut D.i12).extBut hs₅.extBut D.TOi1.symm
 have h2₅ : h₅.IsTupleIter i2 l2 (k2 + 1) := h2₄.extBut hs₅.extBut D.TOi2.symm
 have hzlt : z < h₅.objs.size := Heap.lt_size hz₅
 show wpAny _ _ (Builtin.SmallTypes.ownedTupleHandOut (.ref z) (.ref h₅.objs.size) >>= _) _ _ _
 refine wpAny_bind ?_
 unfold Builtin.SmallTypes.ownedTupleHandOut
 have hz₆ : IsZip (h₅.push { cls := .type "tuple", data := .seq #[x, y] }) z TI TO .ellipsis := Heap.get?_push_of_some _ hz₅
 refine wpAny_bind (wpAny_setField_rec hz₆ (by simp) fun h₇ hz₇ hs₇ => ?_)
 replace hz₇ : IsZip h₇ z TI TO (rawInt h₅.objs.size) := hz₇
 refine wpAny_setField_rec hz₇ (by simp) fun h₈ hz₈ hs₈ => ?_
 replace hz₈ : IsZip h₈ z TI TO (rawInt h₅.objs.size) := hz₈
 have up : ∀ c o, c ≠ z -> h₅.get? c = some o -> h₈.get? c = some o := fun c o c1 e => hs₈.extBut _ _ c1 (hs₇.extBut _ _ c1 (Heap.get?_push_of_some _ e))
 have hT₈ : IsPair h₈ h₅.objs.size x y := hs₈.extBut _ _ (Nat.ne_of_gt hzlt) (hs₇.extBut _ _ (Nat.ne_of_gt hzlt) (Heap.get?_push_size _ rfl))
 have hz8 : h₈.objs.size = h₅.objs.size + 1 := by rw [hs₈.1, hs₇.1, Heap.size_push]
 rw [hsz] at hz₈ hT₈ hz8
 refine wpAny_pure ⟨_, rfl, ?_⟩
 show Q (.ref h₅.objs.size) _
 rw [hsz]
 exact hQ h₈ hz₈ (up _ _ D.TOz hTO₅) (h1₅.at fun o e => up _ o D.i1z e) (h2₅.at fun o e => up _ o D.i2z e) hT₈ hz8 fun c o c1 c2 c3 c4 e => up c o c1 (hk₅ c o c1 c2 c3 c4 e)
theorem alive {a : Addr} {o : Obj} {Q : Option Obj -> Shared -> Prop} (ho : s.heap.get? a = some o) (h : Q (some o) s) : wpAny (model prog w) A (loadIfAlive a) Q E s := by
 intro Γ p hΓ
 unfold loadIfAlive
 first
  | (rw [Sem.wp_loadIfAlive, ho]; exact h)
  | (simp only [Sem.wp_loadIfAlive, ho]; exact h)
theorem ends {z TI TO i1 i2 l1 l2 : Addr} {k : Nat} {xs ys : Array Value} {Q : Fin -> Shared -> Prop} (hh : A.handled = none) (D : ZipApart z TI TO i1 i2 l1 l2) (S : Zs s.heap z TI TO i1 i2 l1 l2 xs ys k) (hx : xs[k]? = none)
  (hE : ∀ h' e, (∀ c o, c ≠ z -> c ≠ i1 -> s.heap.get? c = some o -> h'.get? c = some o) -> (∃ o, h'.get? e = some o /\ o.cls = .type "StopIteration") -> E (.ref e) { s with heap := h' }) :
  wpAny (model prog w) A (Builtin.«zip.__next__» ⟨[.ref z], []⟩) Q E s := by
 obtain ⟨hz, hTI, ⟨a, b, hTO⟩, h1, h2, hl1, hl2⟩ := S
 rcases hz with hz | ⟨T, bb, oT, hz, hT, hTz⟩
 ·show wpAny _ _ (field (.ref z) 2 >>= _) _ _ _
  refine wpAny_bind (wpAny_field hz rfl (x := .bool false) rfl ?_)
  show wpAny _ _ (field (.ref z) 3 >>= _) _ _ _
  refine wpAny_bind (wpAny_field hz rfl (x := .ref TI) rfl ?_)
  refine wpAny_bind (wpAny_seqItems hTI rfl ?_)
  show wpAny _ _ (Builtin.SmallTypes.ownedTupleIsFree (.ref z) >>= _) _ _ _
  refine wpAny_bind ?_
  unfold Builtin.SmallTypes.ownedTupleIsFree
  refine wpAny_bind (wpAny_field hz rfl (x := .none) rfl (wpAny_pure ?_))
  simp only [if_true]
  refine wpAny_bind (wpAny_rule ?_)
  refine wpAny_bind (wpAny_field hz rfl (x := .ref TO) rfl ?_)
  refine wpAny_bind (wpAny_setField_rec hz (by simp) fun h₁ hz₁ hs₁ => ?_)
  replace hz₁ : IsZip h₁ z TI TO .ellipsis := hz₁
  refine wpAny_bind ?_
  simp only [List.zipIdx_cons, List.zipIdx_nil, List.forIn_cons, List.forIn_nil]
  refine wpAny_bind (wpAny_bind (wpAny_onRaise ?_))
  show wpAny _ _ (Builtin.SmallTypes.nextOf (.ref i1) >>= _) _ _ _
  refine wpAny_bind (next_end hh (h1.extBut hs₁.extBut D.i1z) (hl1.extBut hs₁.extBut D.l1z) hx fun h₂ e hs₂ he => ?_)
  obtain ⟨oe, hoe, hce⟩ := he
  have hz₂ : IsZip h₂ z TI TO .ellipsis := hs₂ _ _ D.i1z.symm hz₁
  have hez : e ≠ z := fun x => by subst x; rw [hz₂] at hoe; cases hoe; simp at hce
  refine wpAny_setField_rec hz₂ (by simp) fun h₃ _ hs₃ => hE h₃ e (fun c o c1 c3 x => hs₃.extBut _ _ c1 (hs₂ _ _ c3 (hs₁.extBut _ _ c1 x))) ⟨oe, hs₃.extBut _ _ hez hoe, hce⟩
 ·show wpAny _ _ (field (.ref z) 2 >>= _) _ _ _
  refine wpAny_bind (wpAny_field hz rfl (x := .bool false) rfl ?_)
  show wpAny _ _ (field (.ref z) 3 >>= _) _ _ _
  refine wpAny_bind (wpAny_field hz rfl (x := .ref TI) rfl ?_)
  refine wpAny_bind (wpAny_seqItems hTI rfl ?_)
  show wpAny _ _ (Builtin.SmallTypes.ownedTupleIsFree (.ref z) >>= _) _ _ _
  refine wpAny_bind ?_
  unfold Builtin.SmallTypes.ownedTupleIsFree
  refine wpAny_bind (wpAny_field hz rfl (x := rawInt T) rfl ?_)
  show wpAny _ _ (loadIfAlive ((T : Int).toNat) >>= _) _ _ _
  rw [Int.toNat_natCast]
  refine wpAny_bind (alive hT ?_)
  simp only [Option.isNone_some, Bool.false_eq_true, if_false]
  refine wpAny_bind (wpAny_field hz rfl (x := .bool bb) rfl ?_)
  cases bb with
  | true =>
   simp only [bne_self_eq_false, Bool.false_eq_true, if_false]
   refine wpAny_pure ?_
   simp only [Bool.false_eq_true, if_false, List.forIn_toArray, List.forIn_cons, List.forIn_nil]
   refine wpAny_bind (wpAny_bind (wpAny_bind (wpAny_holding ?_)))
   show wpAny _ _ (Builtin.SmallTypes.nextOf (.ref i1) >>= _) _ _ _
   exact wpAny_bind (next_end hh h1 hl1 hx fun h₂ e hs₂ he => hE h₂ e (fun c o c1 c3 x => hs₂ _ _ c3 x) he)
  | false =>
   rw [if_pos (by rfl)]
   refine wpAny_bind (wpAny_setField_rec hz (by simp) fun h₁ hz₁ hs₁ => ?_)
   refine wpAny_pure ?_
   simp only [Bool.false_eq_true, if_false, List.forIn_toArray, List.forIn_cons, List.forIn_nil]
   refine wpAny_bind (wpAny_bind (wpAny_bind (wpAny_holding ?_)))
   show wpAny _ _ (Builtin.SmallTypes.nextOf (.ref i1) >>= _) _ _ _
   exact wpAny_bind (next_end hh (h1.extBut hs₁.extBut D.i1z) (hl1.extBut hs₁.extBut D.l1z) hx fun h₂ e hs₂ he => hE h₂ e (fun c o c1 c3 x => hs₂ _ _ c3 (hs₁.extBut _ _ c1 x)) he)
theorem pyNext_end {z TI TO i1 i2 l1 l2 : Addr} {k : Nat} {xs ys : Array Value} {Q : Option Value -> Shared -> Prop} (hh : A.handled = none) (D : ZipApart z TI TO i1 i2 l1 l2) (S : Zs s.heap z TI TO i1 i2 l1 l2 xs ys k) (hx : xs[k]? = none)
  (hQ : ∀ h', (∀ c o, c ≠ z -> c ≠ i1 -> s.heap.get? c = some o -> h'.get? c = some o) -> Q none { s with heap := h' }) : wpAny (model prog w) A (pyNext (.ref z)) Q E s := by
 have hT : s.TypeIs (.ref z) "zip" := by
  rcases S.zip with hz | ⟨T, bb, oT, hz, _⟩ <;> exact ⟨_, hz, rfl⟩
 unfold pyNext
 refine wpAny_bind (wpAny_attempt (wpAny_callSpecial?_slot (name := Str.ofString "__next__") hT F.slot_zip_next
  (wpAny_call_entry F.slot_zip_next hT F.entry_zip_next (ends hh D S hx fun h' e hk he => ?_) (F.args_zip_next_1 _))))
 obtain ⟨o, ho, hc⟩ := he
 refine wpAny_bind (wpAny_isInstance (T := "StopIteration") (b := true) ⟨o, ho, hc⟩ isSubtype_stop ?_)
 exact wpAny_pure (hQ _ hk)
end
abbrev zH1 (h : Heap) (l1 : Addr) : Heap := h.push { cls := .type "tuple_iterator", data := .fields #[.ref l1, .int 0 0] }
abbrev zH2 (h : Heap) (l1 l2 : Addr) : Heap := (zH1 h l1).push { cls := .type "tuple_iterator", data := .fields #[.ref l2, .int 0 0] }
abbrev zH3 (h : Heap) (l1 l2 : Addr) : Heap := (zH2 h l1 l2).push { cls := .type "tuple", data := .seq #[.ref h.objs.size, .ref (zH1 h l1).objs.size] }
abbrev zH4 (h : Heap) (l1 l2 : Addr) : Heap := (zH3 h l1 l2).push { cls := .type "tuple", data := .seq #[.none, .none] }
abbrev zH5 (h : Heap) (l1 l2 : Addr) : Heap := (zH4 h l1 l2).push { cls := .type "zip", data := .fields #[.none, .bool false, .bool false, .ref (zH2 h l1 l2).objs.size, .ref (zH3 h l1 l2).objs.size] }
theorem meets_new (l1 l2 : Addr) (xs ys : Array Value) :
  Meets (Builtin.«zip.__new__» ⟨[.type "zip", .ref l1, .ref l2], []⟩) (fun _ R s => s.heap.IsTuple l1 xs /\ s.heap.IsTuple l2 ys ∧
   R (.ok (.ret (.ref (zH4 s.heap l1 l2).objs.size))) { s with heap := zH5 s.heap l1 l2 }) :=
 .of_wp fun prog w A R s h => by
  obtain ⟨hp, g, d, tk, os⟩ := s; obtain ⟨hl1, hl2, h⟩ := h
  have hsub := sub_zip
  have hL1 : Heap.IsTuple (Shared.heap ⟨hp, g, d, tk, os⟩) l1 xs := hl1
  have hL2 : Heap.IsTuple (Shared.heap ⟨hp.push { cls := .type "tuple_iterator", data := .fields #[.ref l1, .int 0 0] }, g, d, tk, os⟩) l2 ys := Heap.IsTuple.push hl2 _
  wp_walk using wpAny_pyIter_tuple hL1, wpAny_pyIter_tuple hL2
  exact ⟨_, rfl, h⟩
end Zt
end
section
namespace L2
open PySem PySem.Spec PyProof.Rows
abbrev TJ := St -> Hp -> Str -> VK -> Prop
def PJ (X : Cx) (es : List Expr) (t : TJ) : Prop :=
 ∀ (pins : List (Addr × Obj)) (s : Shared) (σ : St) (H : Hp) (out : Str) (Q : VK), Inv X pins σ H s -> t σ H out Q -> wpAny (model X.prog X.w) X.A (joinParts out (evalEach es X.env)) (EP X pins σ Q) X.xe s
def jNil : TJ := fun _ H out Q => out.length <= sizeLine /\ Q (.str out) H
def jLit (x : Str) (t : TJ) : TJ := fun σ H out Q => (out ++ x).length <= sizeLine /\ t σ H (out ++ x) Q
def jStr (te : TE) (t : TJ) : TJ := fun σ H out Q => te σ H fun v H1 => ∃ x, v = .str x /\ x.length <= sizeLine /\ (out ++ x).length <= sizeLine /\ t σ H1 (out ++ x) Q
def jInt (te : TE) (t : TJ) : TJ := fun σ H out Q => te σ H fun v H1 => ∃ i : Int, v = .int i /\ i.natAbs.log2 < 1920 /\ (out ++ Str.ofString (toString i)).length <= sizeLine /\ t σ H1 (out ++ Str.ofString (toString i)) Q
section
variable {X : Cx} {e e1 e2 : Expr} {es : List Expr} {te : TE} {t : TJ} {pos : Pos}
theorem pj_nil : PJ X [] jNil := fun _ _ _ H out _ I h => joinParts_nilE (joinParts_nil ⟨.str out, H, I.tok _, ⟨_, rfl⟩, h.2⟩ h.1)
theorem xa4 {x : Str} {j} (h : PJ X es t) : PJ X (.Constant (.str x) j pos :: es) (jLit x t) := by
 intro pins s σ H out Q I hw
 refine joinParts_consE (joinParts_cons (thn (pS (X := X) pins s σ H (fun v H' => v = .str x /\ H' = H) I ⟨rfl, rfl⟩) fun v s1 ⟨z, H1, I1, r, e1, e2⟩ => ?_))
 subst e1 e2
 obtain ⟨t', rfl⟩ := r
 exact ⟨hw.1, h pins s1 σ _ _ Q I1 hw.2⟩
theorem pj_str (he : PE X e te) (h : PJ X es t) : PJ X (.FormattedValue e (-1) none pos :: es) (jStr te t) := by
 intro pins s σ H out Q I hw
 refine joinParts_consE (joinParts_cons (FormattedValue_plain (thn (he pins s σ H _ I hw) fun v s1 ⟨z, H1, I1, r, x, e, hz, hl, q⟩ => ?_)))
 subst e
 obtain ⟨t', rfl⟩ := r
 exact formatField_str (fun t'' tk => ⟨hl, h pins _ σ H1 _ Q (I1.tok tk) q⟩) hz
theorem pj_int (he : PE X e te) (h : PJ X es t) : PJ X (.FormattedValue e (-1) none pos :: es) (jInt te t) := by
 intro pins s σ H out Q I hw
 refine joinParts_consE (joinParts_cons (FormattedValue_plain (thn (he pins s σ H _ I hw) fun v s1 ⟨z, H1, I1, r, i, e, hz, hl, q⟩ => ?_)))
 subst e
 obtain ⟨t', rfl⟩ := r
 exact formatField_int_small hz ⟨hl, h pins _ σ H1 _ Q (I1.tok _) q⟩
theorem pe_fstr (h : PJ X (e1 :: e2 :: es) t) : PE X (.JoinedStr (e1 :: e2 :: es) pos) (fun σ H Q => t σ H Str.empty Q) := fun pins s σ H Q I hw => JoinedStr_many (h pins s σ H _ Q I hw)
end
section
variable {X : Cx}
def rNeE (K : PySem.W.Frag) : R2 := fun x y H Q => ∃ a b xs, x = .ref a /\ y = .ref b /\ SqL K H a xs /\ SqL K H b [] /\ Q (.bl (!xs.isEmpty)) H
theorem op_neE (hu : X.A.units < cLine) : OpR X (compareOp .NotEq) (rNeE X.K) := by
 intro pins s σ H x y v u Q I rx ry h
 obtain ⟨a, b, xs, rfl, rfl, ha, hb, q⟩ := h
 cases rx
 cases ry
 obtain ⟨its, r1, p1, _⟩ := I.list ha
 obtain ⟨its2, r2, p2, _⟩ := I.list hb
 have l1 := r1.length
 have l2 := r2.length
 cases xs with
 | nil =>
  refine PySem.EqBoolInt.of_rcne (SeqAt.RcNeAt.lists (e := fun _ => true) p1.isList p2.isList (by simp only [List.size_toArray]; omega) hu fun j h1 h2 => ?_) ⟨.bl _, H, I, rfl, ?_⟩
  ·simp only [List.size_toArray] at h1
   simp at l1
   omega
  ·have : its = [] := List.eq_nil_of_length_eq_zero (by simpa using l1.symm)
   subst this
   exact q
 | cons x xs =>
  refine PySem.EqBoolInt.of_rcne (SeqAt.RcNeAt.lists_lengths p1.isList p2.isList (by simp only [List.size_toArray]; simp at l1 l2 ⊢; omega) hu) ⟨.bl _, H, I, rfl, ?_⟩
  simpa using q
end
end L2
end
section
namespace L2
open PySem PySem.Spec PyProof.Rows
section
variable {es : List Expr} {env : Env}
theorem zso {c k p} : starEach (.Constant c k p :: es) env = (false, eval (.Constant c k p) env) :: starEach es env := rfl
theorem zsn {x p} : starEach (.Name x p :: es) env = (false, eval (.Name x p) env) :: starEach es env := rfl
theorem zsc {a b c d} : starEach (.Call a b c d :: es) env = (false, eval (.Call a b c d) env) :: starEach es env := rfl
theorem xak {a b c d} : starEach (.BinOp a b c d :: es) env = (false, eval (.BinOp a b c d) env) :: starEach es env := rfl
theorem zss {a b c} : starEach (.Subscript a b c :: es) env = (false, eval (.Subscript a b c) env) :: starEach es env := rfl
theorem sT {a b c} : starEach (.Tuple a b c :: es) env = (false, eval (.Tuple a b c) env) :: starEach es env := rfl
theorem star_lst {a b} : starEach (.List a b :: es) env = (false, eval (.List a b) env) :: starEach es env := rfl
theorem star_cmp {a b c d} : starEach (.Compare a b c d :: es) env = (false, eval (.Compare a b c d) env) :: starEach es env := rfl
theorem star_bool {a b c} : starEach (.BoolOp a b c :: es) env = (false, eval (.BoolOp a b c) env) :: starEach es env := rfl
theorem xaz {a b} : starEach (.JoinedStr a b :: es) env = (false, eval (.JoinedStr a b) env) :: starEach es env := rfl
theorem star_comp {a b c d} : starEach (.ListComp a b c d :: es) env = (false, eval (.ListComp a b c d) env) :: starEach es env := rfl
end
end L2
namespace L2
open PySem PySem.Spec PyProof.Rows
end L2
end
section
namespace M
open PySem
end M
end
section
namespace M
open PySem
inductive D where
 | int (i : Int)
 | str (x : Str)
 | tup (ds : List D)
inductive All2 {α β : Type} (R : α -> β -> Prop) : List α -> List β -> Prop where
 | nil : All2 R [] []
 | cons {a b as bs} (h : R a b) (t : All2 R as bs) : All2 R (a :: as) (b :: bs)
theorem All2.length {α β : Type} {R : α -> β -> Prop} {as : List α} {bs : List β} (h : All2 R as bs) : as.length = bs.length := by
 induction h with
 | nil => rfl
 | cons _ _ ih => simp [ih]
theorem All2.imp {α β : Type} {R S : α -> β -> Prop} {as : List α} {bs : List β} (h : All2 R as bs) (f : ∀ a b, R a b -> S a b) : All2 S as bs := by
 induction h with
 | nil => exact .nil
 | cons h _ ih => exact .cons (f _ _ h) ih
def S (s : String) : Str := Str.ofString s
def isLetter (c : Nat) : Bool := 97 <= c && c <= 122
def nameL (x : List Nat) : Bool := 1 <= x.length && x.length <= 6 && x.all isLetter && x != [110, 117, 109] && x != [105, 116]
def Name (x : Str) : Prop := nameL x.cps.toList = true
theorem Name.le {x : Str} (h : Name x) : x.cps.toList.length <= 6 := by
 unfold Name nameL at h
 simp only [Bool.and_eq_true, decide_eq_true_eq] at h
 exact h.1.1.1.2
def numS (n : Int) : Str := Str.ofString (toString n)
theorem num_reads (m : Nat) : (numS (m : Int)).cps.toList = (Nat.toDigits 10 m).map Char.toNat := by
 unfold numS
 rw [Str.ofString_eq_toList]
 show (Nat.repr m).toList.map Char.toNat = _
 rw [Nat.toList_repr]
end M
end
section
namespace M
open PySem
end M
end
section
namespace M
open PySem
def L (x : Str) : List Nat := x.cps.toList
def ofL (l : List Nat) : Str := ⟨l.toArray⟩
theorem L_ofL (l : List Nat) : L (ofL l) = l := rfl
theorem ofL_L (x : Str) : ofL (L x) = x := by
 cases x
 rfl
theorem L_inj {x y : Str} (h : L x = L y) : x = y := by
 rw [<- ofL_L x, <- ofL_L y, h]
theorem L_append (x y : Str) : L (x ++ y) = L x ++ L y := by
 show (x.cps ++ y.cps).toList = _
 simp [L]
theorem L_length (x : Str) : (L x).length = x.length := by
 simp [L, Str.length]
end M
end
section
namespace M
open PySem
end M
end
section
namespace M
open PySem
end M
end
section
namespace M
open PySem L2
mutual
def RelD (H : Hp) : V -> D -> Prop
 | v, .int i => v = .int i
 | v, .str x => v = .str x
 | v, .tup ds => ∃ a vs, v = .ref a /\ H a = some (.tup vs) /\ RelDs H vs ds
def RelDs (H : Hp) : List V -> List D -> Prop
 | vs, [] => vs = []
 | vs, d :: ds => ∃ v r, vs = v :: r /\ RelD H v d /\ RelDs H r ds
end
mutual
theorem RelD.same {H H' : Hp} (s : Same H H') : ∀ {v : V} (d : D), RelD H v d -> RelD H' v d
 | v, .int i, h => h
 | v, .str x, h => h
 | v, .tup ds, ⟨a, vs, e, ha, h⟩ => ⟨a, vs, e, s _ _ ha, RelDs.same s ds h⟩
theorem RelDs.same {H H' : Hp} (s : Same H H') : ∀ {vs : List V} (ds : List D), RelDs H vs ds -> RelDs H' vs ds
 | vs, [], h => h
 | vs, d :: ds, ⟨v, r, e, h1, h2⟩ => ⟨v, r, e, RelD.same s d h1, RelDs.same s ds h2⟩
end
theorem RelDs.length {H : Hp} : ∀ {vs : List V} {ds : List D}, RelDs H vs ds -> vs.length = ds.length
 | vs, [], h => by rw [show vs = [] from h]; rfl
 | vs, d :: ds, ⟨v, r, e, _, h2⟩ => by rw [e, List.length_cons, List.length_cons, RelDs.length h2]
theorem RelDs.append {H : Hp} : ∀ {vs us : List V} {ds es : List D}, RelDs H vs ds -> RelDs H us es -> RelDs H (vs ++ us) (ds ++ es)
 | vs, us, [], es, h, k => by rw [show vs = [] from h]; exact k
 | vs, us, d :: ds, es, ⟨v, r, e, h1, h2⟩, k => by subst e; exact ⟨v, r ++ us, rfl, h1, RelDs.append h2 k⟩
theorem RelDs.get {H : Hp} : ∀ {vs : List V} {ds : List D} {i : Nat} {v : V}, RelDs H vs ds -> vs[i]? = some v -> ∃ d, ds[i]? = some d /\ RelD H v d
 | vs, [], i, v, h, e => by rw [show vs = [] from h] at e; simp at e
 | vs, d :: ds, 0, v, ⟨u, r, e0, h1, _⟩, e => by
  subst e0
  simp at e
  subst e
  exact ⟨d, rfl, h1⟩
 | vs, d :: ds, i + 1, v, ⟨u, r, e0, _, h2⟩, e => by
  subst e0
  obtain ⟨x, hx, hr⟩ := RelDs.get (i := i) (v := v) h2 (by simpa using e)
  exact ⟨x, by simpa using hx, hr⟩
end M
namespace M
open PySem L2
theorem iteKF {c A B : Prop} [Decidable c] (h : decide c = false) (b : B) : if decide c = true then A else B := by
 rw [h]
 exact b
theorem iteKT {c A B : Prop} [Decidable c] (h : decide c = true) (a : A) : if decide c = true then A else B := by
 rw [h]
 exact a
theorem iteBF {c : Bool} {A B : Prop} (h : c = false) (b : B) : if c = true then A else B := by
 rw [h]
 exact b
end M
end
section
namespace M
open PySem L2
end M
end
section
namespace M
open PySem L2
mutual
theorem RelD.tups {H H' : Hp} (s : ∀ b vs, H b = some (.tup vs) -> H' b = some (.tup vs)) : ∀ {v : V} (d : D), RelD H v d -> RelD H' v d
 | v, .int i, h => h
 | v, .str x, h => h
 | v, .tup ds, ⟨a, vs, e, ha, h⟩ => ⟨a, vs, e, s _ _ ha, RelDs.tups s ds h⟩
theorem RelDs.tups {H H' : Hp} (s : ∀ b vs, H b = some (.tup vs) -> H' b = some (.tup vs)) : ∀ {vs : List V} (ds : List D), RelDs H vs ds -> RelDs H' vs ds
 | vs, [], h => h
 | vs, d :: ds, ⟨v, r, e, h1, h2⟩ => ⟨v, r, e, RelD.tups s d h1, RelDs.tups s ds h2⟩
end
theorem xal {a : Addr} {H H' : Hp} (hf : ∃ p q : Int, H a = some (.lst [.int p, .int q])) (f : Fed a H H') : ∀ b vs, H b = some (.tup vs) -> H' b = some (.tup vs) := fun b vs e => f.1 b _ e fun z => by
 obtain ⟨p, q, h⟩ := hf
 rw [z, h] at e
 cases e
def single (c : Nat) : Str := ⟨#[c]⟩
theorem join_singles : ∀ cs : List Nat, Txt.join (S "") (cs.map single) = ofL cs := by
 have h : ∀ cs : List Nat, L (Str.join (S "") (cs.map single)) = cs := by
  intro cs
  induction cs with
  | nil => rfl
  | cons c r ih =>
   cases r with
   | nil => rfl
   | cons d r =>
    show L (single c ++ S "" ++ Str.join (S "") ((d :: r).map single)) = _
    rw [L_append, L_append, ih]
    have e : L (S "") = [] := by walk_at "k"
    rw [e]
    rfl
 intro cs
 apply L_inj
 show L (Builtin.Str.glued (S "") (cs.map single)) = cs
 rw [StrLaws.glued_eq_join, h]
theorem sum_singles (cs : List Nat) : ((cs.map single).map (·.length)).sum = cs.length := by
 induction cs with
 | nil => rfl
 | cons c r ih =>
  show (single c).length + ((r.map single).map (·.length)).sum = r.length + 1
  rw [ih, show (single c).length = 1 from rfl]
  omega
theorem at_codes {α : Type} {cs : List α} {r : Int} (h0 : 0 <= r) (h : r < (cs.length : Int)) : ∃ c ∈ cs, atI cs r = some c := by
 have hk : r.toNat < cs.length := by omega
 have ek : r = ((r.toNat : Nat) : Int) := by omega
 refine ⟨cs[r.toNat], List.getElem_mem hk, ?_⟩
 have q : atI cs ((r.toNat : Nat) : Int) = some cs[r.toNat] := xai (List.getElem?_eq_getElem hk)
 rw [<- ek] at q
 exact q
end M
end
section
namespace L2
open PySem PySem.Spec PyProof.Rows
section
variable {κ : Type} [DecidableEq κ]
def valV (kvs : List (κ × V)) (k : κ) : Option V := (kvs.find? fun kv => decide (kv.1 = k)).map (·.2)
def putK (kvs : List (κ × V)) (k : κ) (v : V) : List (κ × V) :=
 if (kvs.any fun kv => decide (kv.1 = k)) = true then kvs.map (fun kv => if kv.1 = k then (kv.1, v) else kv) else kvs ++ [(k, v)]
theorem xbd {p : κ × V} {r : List (κ × V)} {k : κ} (e : p.1 = k) : valV (p :: r) k = some p.2 := by simp [valV, List.find?_cons, e]
theorem valV_neg {p : κ × V} {r : List (κ × V)} {k : κ} (e : ¬ p.1 = k) : valV (p :: r) k = valV r k := by simp [valV, List.find?_cons, e]
theorem valV_any (k : κ) : ∀ kvs : List (κ × V), (kvs.any fun kv => decide (kv.1 = k)) = (valV kvs k).isSome
 | [] => rfl
 | p :: r => by
  rw [List.any_cons]
  by_cases e : p.1 = k
  ·simp only [xbd e, decide_eq_true e, Bool.true_or, Option.isSome_some]
  ·rw [valV_neg e, decide_eq_false e, Bool.false_or]; exact valV_any k r
theorem valV_map (k j : κ) (y : V) : ∀ kvs : List (κ × V), valV (kvs.map fun kv => if kv.1 = k then (kv.1, y) else kv) j = (valV kvs j).map fun x => if j = k then y else x
 | [] => rfl
 | p :: r => by
  have ih := valV_map k j y r
  rw [List.map_cons]
  by_cases h : p.1 = k
  ·rw [if_pos h]
   by_cases e : p.1 = j
   ·rw [xbd (p := (p.1, y)) e, xbd e, Option.map_some, if_pos (e.symm.trans h)]
   ·rw [valV_neg (p := (p.1, y)) e, valV_neg e, ih]
  ·rw [if_neg h]
   by_cases e : p.1 = j
   ·rw [xbd (p := p) e, xbd e, Option.map_some, if_neg (fun z => h (e.trans z))]
   ·rw [valV_neg (p := p) e, valV_neg e, ih]
theorem valV_snoc (k j : κ) (y : V) : ∀ kvs : List (κ × V), valV kvs k = none -> valV (kvs ++ [(k, y)]) j = if j = k then some y else valV kvs j
 | [], _ => by
  by_cases e : k = j
  ·rw [if_pos e.symm]; exact xbd (p := (k, y)) e
  ·rw [if_neg (fun z => e z.symm)]; exact valV_neg (p := (k, y)) e
 | p :: r, hn => by
  rw [List.cons_append]
  have hk : ¬ p.1 = k := fun z => by rw [xbd z] at hn; cases hn
  rw [valV_neg hk] at hn
  have ih := valV_snoc k j y r hn
  by_cases e : p.1 = j
  ·rw [xbd e, xbd e, if_neg (fun z => hk (e.trans z))]
  ·rw [valV_neg e, valV_neg e, ih]
theorem valV_put (kvs : List (κ × V)) (k j : κ) (y : V) : valV (putK kvs k y) j = if j = k then some y else valV kvs j := by
 unfold putK
 by_cases a : (kvs.any fun kv => decide (kv.1 = k)) = true
 ·rw [if_pos a, valV_map]
  rw [valV_any] at a
  by_cases e : j = k
  ·obtain ⟨x, hx⟩ := Option.isSome_iff_exists.mp a
   rw [if_pos e, e, hx, Option.map_some, if_pos rfl]
  ·rw [if_neg e]
   cases valV kvs j with
   | none => rfl
   | some x => rw [Option.map_some, if_neg e]
 ·rw [if_neg a]
  refine valV_snoc k j y kvs ?_
  rw [valV_any] at a
  cases q : valV kvs k with
  | none => rfl
  | some x => rw [q] at a; exact (a rfl).elim
theorem length_putK (kvs : List (κ × V)) (k : κ) (v : V) : (putK kvs k v).length <= kvs.length + 1 := by
 unfold putK
 split
 ·rw [List.length_map]; omega
 ·rw [List.length_append, List.length_cons, List.length_nil]; omega
theorem RelO.isSome_eq {o : Option V} {u : Option Value} (r : RelO o u) : o.isSome = u.isSome := by
 cases o with
 | none => cases u with
  | none => rfl
  | some _ => exact (show False from r).elim
 | some _ => cases u with
  | none => exact (show False from r).elim
  | some _ => rfl
theorem KV.val {kvs : List (κ × V)} {vs : List (κ × Value)} (r : KV kvs vs) (k : κ) : RelO (valV kvs k) (valueAt vs k) := by
 unfold KV at r
 induction r with
 | nil => exact True.intro
 | @cons p q ps qs h t ih =>
  obtain ⟨h1, h2⟩ := h
  by_cases e : p.1 = k
  ·have e' : q.1 = k := h1.symm.trans e
   have b : valueAt (q :: qs) k = some q.2 := by simp [valueAt, List.find?_cons, e']
   rw [xbd e, b]; exact h2
  ·have e' : ¬ q.1 = k := fun z => e (h1.trans z)
   have b : valueAt (q :: qs) k = valueAt qs k := by simp [valueAt, List.find?_cons, e']
   rw [valV_neg e, b]; exact ih
theorem KV.any {kvs : List (κ × V)} {vs : List (κ × Value)} (r : KV kvs vs) (k : κ) : (kvs.any fun kv => decide (kv.1 = k)) = vs.any fun kv => decide (kv.1 = k) := by
 unfold KV at r
 induction r with
 | nil => rfl
 | cons h t ih => rw [List.any_cons, List.any_cons, ih, h.1]
theorem KV.repl {kvs : List (κ × V)} {vs : List (κ × Value)} (r : KV kvs vs) (k : κ) {y : V} {u : Value} (ry : RelV y u) :
  KV (kvs.map fun kv => if kv.1 = k then (kv.1, y) else kv) (vs.map fun kv => if kv.1 = k then (kv.1, u) else kv) := by
 unfold KV at r ⊢
 induction r with
 | nil => exact .nil
 | @cons p q ps qs h t ih =>
  rw [List.map_cons, List.map_cons]
  refine .cons ?_ ih
  obtain ⟨h1, h2⟩ := h
  by_cases e : p.1 = k
  ·rw [if_pos e, if_pos (h1.symm.trans e)]; exact ⟨h1, ry⟩
  ·rw [if_neg e, if_neg (fun z => e (h1.trans z))]; exact ⟨h1, h2⟩
theorem KV.put {kvs : List (κ × V)} {vs : List (κ × Value)} (r : KV kvs vs) (k : κ) {y : V} {u : Value} (ry : RelV y u) : KV (putK kvs k y) (stored vs k u) := by
 unfold putK stored
 rw [r.any k]
 by_cases e : (vs.any fun kv => decide (kv.1 = k)) = true
 ·rw [if_pos e, if_pos e]; exact r.repl k ry
 ·rw [if_neg e, if_neg e]; exact Paired.snoc r ⟨rfl, ry⟩
theorem KV.length {kvs : List (κ × V)} {vs : List (κ × Value)} (r : KV kvs vs) : kvs.length = vs.length := Paired.length r
end
theorem kV_is {P : Program} {w : World} {k : Key} {u : Value} (r : RelV (kV k) u) : (xbb P w).is k u = true := by
 cases k with
 | inl i => obtain ⟨t, e⟩ := (show ∃ t, u = Value.int i t from r); subst e; exact mixKind_int P w i t
 | inr x => obtain ⟨t, e⟩ := (show ∃ t, u = Value.str x t from r); subst e; exact mixKind_str P w x t
theorem items_are {P : Program} {w : World} : ∀ {ks : List Key} {us : List Value}, Vals (ks.map kV) us -> ItemsAre (xbb P w) ks us
 | [], _, r => by rw [List.map_nil] at r; cases r; exact .nil
 | k :: ks, _, r => by
  rw [List.map_cons] at r
  cases r with
  | cons h t => exact .cons (kV_is h) (items_are t)
abbrev KT (H : Hp) : List (List Key × V) -> List (List Key × Addr × Value) -> Prop := Paired fun p q => p.1 = q.1 /\ H q.2.1 = some (.tup (p.1.map kV)) /\ RelV p.2 q.2.2
theorem KT.val {H : Hp} {kvs : List (List Key × V)} {xs : List (List Key × Addr × Value)} (r : KT H kvs xs) (k : List Key) : RelO (valV kvs k) ((atKey xs k).map (·.2)) := by
 induction r with
 | nil => exact True.intro
 | @cons p q ps qs h t ih =>
  obtain ⟨h1, _, h2⟩ := h
  by_cases e : p.1 = k
  ·have e' : q.1 = k := h1.symm.trans e
   have b : atKey (q :: qs) k = some q.2 := by simp [atKey, List.find?_cons, e']
   rw [xbd e, b]; exact h2
  ·have e' : ¬ q.1 = k := fun z => e (h1.trans z)
   have b : atKey (q :: qs) k = atKey qs k := by simp [atKey, List.find?_cons, e']
   rw [valV_neg e, b]; exact ih
theorem KT.repl {H : Hp} {kvs : List (List Key × V)} {xs : List (List Key × Addr × Value)} (r : KT H kvs xs) (k : List Key) {y : V} {u : Value} (ry : RelV y u) :
  KT H (kvs.map fun kv => if kv.1 = k then (kv.1, y) else kv) (xs.map (putAt k u)) := by
 induction r with
 | nil => exact .nil
 | @cons p q ps qs h t ih =>
  rw [List.map_cons, List.map_cons]
  refine .cons ?_ ih
  obtain ⟨h1, h2, h3⟩ := h
  unfold putAt
  by_cases e : p.1 = k
  ·rw [if_pos e, if_pos (h1.symm.trans e)]; exact ⟨h1, h2, ry⟩
  ·rw [if_neg e, if_neg (fun z => e (h1.trans z))]; exact ⟨h1, h2, h3⟩
theorem KT.put {H : Hp} {kvs : List (List Key × V)} {xs : List (List Key × Addr × Value)} (r : KT H kvs xs) (k : List Key) {b : Addr} {y : V} {u : Value} (hb : H b = some (.tup (k.map kV))) (ry : RelV y u) :
  KT H (putK kvs k y) (storedH xs k b u) := by
 have e : (kvs.any fun kv => decide (kv.1 = k)) = (atKey xs k).isSome := by
  rw [valV_any, (r.val k).isSome_eq, Option.isSome_map]
 unfold putK storedH
 rw [e]
 by_cases q : (atKey xs k).isSome = true
 ·rw [if_pos q, if_pos q]; exact r.repl k ry
 ·rw [if_neg q, if_neg q]; exact Paired.snoc r ⟨rfl, hb, ry⟩
theorem KT.keeps {H H' : Hp} {kvs : List (List Key × V)} {xs : List (List Key × Addr × Value)} (r : KT H kvs xs) (ht : ∀ b ys, H b = some (.tup ys) -> H' b = some (.tup ys)) : KT H' kvs xs :=
 Paired.mapP r fun _ _ z => ⟨z.1, ht _ _ z.2.1, z.2.2⟩
section
variable {P : Program} {w : World} {H : Hp} {h : Heap} {a : Addr}
theorem rd_of {u : HO} (ok : HOk P w H h) (e : Rd H a u) : ObjOk P w H h a u := e.ok ok
theorem dk_rd {kvs : List (Key × V)} (ok : HOk P w H h) (e : Rd H a (.dK kvs)) : kvs.length <= sizeLine /\ (a == sysModules) = false /\ ∃ vs, KV kvs vs /\ h.DictOf (xbb P w) a vs :=
 show ObjOk P w H h a (.dK kvs) from rd_of ok e
theorem dk_of {kvs : List (Key × V)} (ok : HOk P w H h) (e : H a = some (.dK kvs)) : kvs.length <= sizeLine /\ (a == sysModules) = false /\ ∃ vs, KV kvs vs /\ h.DictOf (xbb P w) a vs := dk_rd ok (.inl e)
theorem key_of {ks : List Key} (ok : HOk P w H h) (e : H a = some (.tup (ks.map kV))) : (tupleKind (xbb P w)).is h ks a := by
 obtain ⟨_, its, r, o, h1, h2, n, h3⟩ := (show ObjOk P w H h a (.tup (ks.map kV)) from ok a _ e)
 exact ⟨o, its.toArray, n, h1, h2, h3, by simpa using items_are r⟩
theorem dt_rd {kvs : List (List Key × V)} (ok : HOk P w H h) (e : Rd H a (.dT kvs)) : kvs.length <= sizeLine /\ (a == sysModules) = false ∧
  ∃ xs, KT H kvs xs /\ h.DictOfH (tupleKind (xbb P w)) a xs := by
 obtain ⟨z, y, xs, r, o, es, ep, h1, h2, h3, h4, h5⟩ := (show ObjOk P w H h a (.dT kvs) from rd_of ok e)
 refine ⟨z, y, xs, r, o, es, ep, h1, h2, h3, h4, fun x hx => ?_, h5⟩
 have all : ∀ {l : List (List Key × V)} {m : List (List Key × Addr × Value)}, KT H l m -> ∀ x ∈ m, (tupleKind (xbb P w)).is h x.1 x.2.1 := by
  intro l m q
  induction q with
  | nil => intro x hx; exact nomatch hx
  | @cons p q ps qs hq t ih =>
   intro x hx
   rcases List.mem_cons.mp hx with e | hx
   ·subst e
    exact key_of ok (by rw [<- hq.1]; exact hq.2.1)
   ·exact ih x hx
 exact all r x hx
theorem dt_of {kvs : List (List Key × V)} (ok : HOk P w H h) (e : H a = some (.dT kvs)) : kvs.length <= sizeLine /\ (a == sysModules) = false ∧
  ∃ xs, KT H kvs xs /\ h.DictOfH (tupleKind (xbb P w)) a xs := dt_rd ok (.inl e)
end
def DGet (H : Hp) (a : Addr) (y : V) (r : Option V) : Prop :=
 (∃ kvs k, Rd H a (.dK kvs) /\ y = kV k /\ r = valV kvs k) \/ ∃ kvs k b, Rd H a (.dT kvs) /\ y = .ref b /\ H b = some (.tup (k.map kV)) /\ r = valV kvs k
def DPut (H : Hp) (a : Addr) (y v : V) (H' : Hp) : Prop :=
 (∃ kvs k, H a = some (.dK kvs) /\ y = kV k /\ kvs.length < sizeLine /\ H' = upd H a (.dK (putK kvs k v))) ∨
 ∃ kvs k b, H a = some (.dT kvs) /\ y = .ref b /\ H b = some (.tup (k.map kV)) /\ kvs.length < sizeLine /\ H' = upd H a (.dT (putK kvs k v))
theorem DGet.k {H : Hp} {a : Addr} {kvs : List (Key × V)} {k : Key} (e : H a = some (.dK kvs)) : DGet H a (kV k) (valV kvs k) := .inl ⟨kvs, k, .inl e, rfl, rfl⟩
theorem DPut.k {H : Hp} {a : Addr} {kvs : List (Key × V)} {k : Key} {v : V} (e : H a = some (.dK kvs)) (hl : kvs.length < sizeLine) : DPut H a (kV k) v (upd H a (.dK (putK kvs k v))) := .inl ⟨kvs, k, e, rfl, hl, rfl⟩
section
variable {X : Cx} {pins : List (Addr × Obj)} {σ : St} {H : Hp} {s : Shared} {a : Addr} {y v : V} {u r : Value} {o : Option V} {A : Around} {E : Value -> Shared -> Prop}
theorem Inv.big (I : Inv X pins σ H s) : sysModules < s.heap.objs.size := by
 have h : mainGlobals < s.heap.objs.size := (I.mod.glob.keeps I.bk).lt
 exact Nat.lt_trans (by decide) h
theorem d_getItem {Q : Value -> Shared -> Prop} (hu : A.units + 1 < cLine) (I : Inv X pins σ H s) (g : DGet H a y (some v)) (ry : RelV y u) (h : ∀ w' s', Inv X pins σ H s' -> RelV v w' -> Q w' s') :
  wpAny (model X.prog X.w) A (getItem (.ref a) u) Q E s := by
 rcases g with ⟨kvs, k, e, ey, l⟩ | ⟨kvs, k, b, e, ey, eb, l⟩
 ·subst ey
  obtain ⟨z, hd, vs, rel, dd⟩ := dk_rd I.hok e
  obtain ⟨w', hw, rw'⟩ := RelO.some_of (v := v) (o := valueAt vs k) (by rw [l]; exact rel.val k)
  exact wpAny_getItem_of (kV_is ry) dd.mapOf hw (h w' _ (I.tok _) rw')
 ·subst ey
  cases (show u = Value.ref b from ry)
  obtain ⟨z, hd, xs, rel, dd⟩ := dt_rd I.hok e
  obtain ⟨w', hw, rw'⟩ := RelO.some_of (v := v) (o := (atKey xs k).map (·.2)) (by rw [l]; exact rel.val k)
  obtain ⟨p, hp, hp2⟩ := Option.map_eq_some_iff.mp hw
  refine wpAny_getItem_heap (tupleKind_room_in1 hu) (key_of I.hok eb) dd hp ?_
  rw [hp2]
  exact h w' _ (I.tok _) rw'
theorem d_in {Q : Value -> Shared -> Prop} (hu : A.units + 1 < cLine) (I : Inv X pins σ H s) (g : DGet H a y o) (ry : RelV y u) (h : ∀ s', Inv X pins σ H s' -> Q (.bool o.isSome) s') :
  wpAny (model X.prog X.w) A (compareOp .In u (.ref a)) Q E s := by
 rcases g with ⟨kvs, k, e, ey, l⟩ | ⟨kvs, k, b, e, ey, eb, l⟩
 ·subst ey
  obtain ⟨z, hd, vs, rel, dd⟩ := dk_rd I.hok e
  refine wpAny_in_of (kV_is ry) hd dd.mapOf ?_
  rw [<- (rel.val k).isSome_eq, <- l]
  exact h _ (I.tok _)
 ·subst ey
  cases (show u = Value.ref b from ry)
  obtain ⟨z, hd, xs, rel, dd⟩ := dt_rd I.hok e
  refine wpAny_in_heap (tupleKind_room_in1 hu) (key_of I.hok eb) hd dd ?_
  have q := (rel.val k).isSome_eq
  rw [Option.isSome_map] at q
  rw [<- q, <- l]
  exact h _ (I.tok _)
theorem d_notIn {Q : Value -> Shared -> Prop} (hu : A.units + 1 < cLine) (I : Inv X pins σ H s) (g : DGet H a y o) (ry : RelV y u) (h : ∀ s', Inv X pins σ H s' -> Q (.bool (!o.isSome)) s') :
  wpAny (model X.prog X.w) A (compareOp .NotIn u (.ref a)) Q E s := by
 rcases g with ⟨kvs, k, e, ey, l⟩ | ⟨kvs, k, b, e, ey, eb, l⟩
 ·subst ey
  obtain ⟨z, hd, vs, rel, dd⟩ := dk_rd I.hok e
  refine wpAny_notIn_of (kV_is ry) hd dd.mapOf ?_
  rw [<- (rel.val k).isSome_eq, <- l]
  exact h _ (I.tok _)
 ·subst ey
  cases (show u = Value.ref b from ry)
  obtain ⟨z, hd, xs, rel, dd⟩ := dt_rd I.hok e
  refine wpAny_notIn_heap (tupleKind_room_in1 hu) (key_of I.hok eb) hd dd ?_
  have q := (rel.val k).isSome_eq
  rw [Option.isSome_map] at q
  rw [<- q, <- l]
  exact h _ (I.tok _)
theorem d_write {h' : Heap} {t' : Nat} {ob : HO} (I : Inv X pins σ H s) (mu : Mut (H a)) (hs : Heap.SameBut a s.heap h') (he : ∃ q, h'.get? a = some q) (new : ObjOk X.prog X.w (upd H a ob) h' a ob) :
  Inv X pins σ (upd H a ob) { s with heap := h', toks := t' } :=
 I.write (x := a) (e := a) mu (.inl rfl) (fun b q hb z => (hs.2 b hb).trans z) he new
theorem dk_new {P : Program} {w : World} {H' : Hp} {h' : Heap} {kvs : List (Key × V)} {vs : List (Key × Value)} (z : kvs.length <= sizeLine) (hd : (a == sysModules) = false) (rel : KV kvs vs) (dd : h'.DictOf (xbb P w) a vs) :
  ObjOk P w H' h' a (.dK kvs) := ⟨z, hd, vs, rel, dd⟩
theorem d_setItem {H' : Hp} {Q : Unit -> Shared -> Prop} (hu : A.units + 1 < cLine) (I : Inv X pins σ H s) (g : DPut H a y v H') (ry : RelV y u) (rv : RelV v r) (h : ∀ s', Inv X pins σ H' s' -> Q () s') :
  wpAny (model X.prog X.w) A (setItem (.ref a) u r) Q E s := by
 rcases g with ⟨kvs, k, e, ey, l, eH⟩ | ⟨kvs, k, b, e, ey, eb, l, eH⟩
 ·subst ey eH
  obtain ⟨z, hd, vs, rel, dd⟩ := dk_of I.hok e
  have hz : vs.length <= sizeLine := by rw [<- rel.length]; exact z
  have hl : (putK kvs k v).length <= sizeLine := by have := length_putK kvs k v; omega
  refine wpAny_setItem_pairs (hsz := hz) (kV_is ry) dd fun h' dd' hs => h _ ?_
  have he : ∃ q, h'.get? a = some q := let ⟨q, _, _, hq, _⟩ := dd'; ⟨q, hq⟩
  exact d_write I (by rw [e]; exact True.intro) hs he (dk_new hl hd (rel.put k rv) dd')
 ·subst ey eH
  cases (show u = Value.ref b from ry)
  obtain ⟨z, hd, xs, rel, dd⟩ := dt_of I.hok e
  have hz : xs.length <= sizeLine := by rw [<- Paired.length rel]; exact z
  have hl : (putK kvs k v).length <= sizeLine := by have := length_putK kvs k v; omega
  refine wpAny_setItem_heap (hsz := hz) (tupleKind_room_in1 hu) (key_of I.hok eb) dd fun h' dd' hs => h _ ?_
  obtain ⟨q, es, ep, hq, h2, h3, h4, _, h5⟩ := dd'
  refine d_write I (by rw [e]; exact True.intro) hs ⟨q, hq⟩ ⟨hl, hd, _, (rel.put k eb rv).keeps fun c ys ec => ?_, q, es, ep, hq, h2, h3, h4, h5⟩
  rw [xar (ne_of ec e (fun z => nomatch z))]
  exact ec
end
def NoSl (i : Expr) : Prop := ∀ ov iv, subscripted i false ov iv = operate [ov, iv] (getItem ov iv)
theorem subD_of {prog : Program} {w : World} {A : Around} {E : Value -> Shared -> Prop} {s : Shared} {env : Env} {value slice : Expr} {pos : Pos} {T id : String} {Q : Value -> Shared -> Prop}
  (hl : typeLookup (.type T) "__getitem__" = pure (some (.builtin id))) (hs : NoSl slice)
  (h : wpAny (model prog w) A (eval value env) (fun o s₁ => wpAny (model prog w) A (eval slice env) (fun i s₂ => s₂.TypeIs o T /\ wpAny (model prog w) A (getItem o i) Q E s₂) E s₁) E s) :
  wpAny (model prog w) A (eval (.Subscript value slice pos) env) Q E s := by
 refine Subscript_ (wpAny_mono h (fun o s₁ h₁ => wpAny_mono h₁ (fun i s₂ h₂ => ?_) fun _ _ x => x) fun _ _ x => x)
 obtain ⟨hT, h₂⟩ := h₂
 unfold subscriptTail
 refine wpAny_bind ?_
 rw [getitemInPython_of_ne hT.not_modules]
 refine wpAny_bind (wpAny_specialOf hT hl ?_)
 have fin : wpAny (model prog w) A (subscripted slice false o i) (fun r s₃ => wpAny (model prog w) A (letTemporaryGo value o r >>= fun _ => pure r) Q E s₃) E s₂ := by
  rw [hs o i]
  exact wpAny_operating (wpAny_mono h₂ (fun r s₃ h₃ => wpAny_bind (wpAny_letTemporaryGo (wpAny_pure h₃))) fun _ _ x => x)
 first
  | exact wpAny_pure (wpAny_bind fin)
  | exact wpAny_bind (wpAny_pure (wpAny_bind fin))
  | exact wpAny_bind fin
theorem dict_typeIs {X : Cx} {pins : List (Addr × Obj)} {σ : St} {H : Hp} {s : Shared} {a : Addr} {y : V} {o : Option V} (I : Inv X pins σ H s) (g : DGet H a y o) : s.TypeIs (.ref a) "dict" := by
 rcases g with ⟨kvs, k, e, _, _⟩ | ⟨kvs, k, b, e, _, _, _⟩
 ·obtain ⟨_, _, vs, _, dd⟩ := dk_rd I.hok e
  exact dd.typeIs
 ·obtain ⟨_, _, xs, _, dd⟩ := dt_rd I.hok e
  exact dd.typeIs
def tDGet (td ty : TE) : TE := fun σ H Q => td σ H fun x H1 => ty σ H1 fun y H2 => ∃ a v, x = .ref a /\ DGet H2 a y (some v) /\ Q v H2
def tDIn (ty td : TE) : TE := fun σ H Q => ty σ H fun y H1 => td σ H1 fun x H2 => ∃ a o, x = .ref a /\ DGet H2 a y o /\ Q (.bl o.isSome) H2
def tDNotIn (ty td : TE) : TE := fun σ H Q => ty σ H fun y H1 => td σ H1 fun x H2 => ∃ a o, x = .ref a /\ DGet H2 a y o /\ Q (.bl (!o.isSome)) H2
def sDPut (td ty tv : TE) : TS := fun D σ H => tv σ H fun v H1 => td σ H1 fun x H2 => ty σ H2 fun y H3 => ∃ a H4, x = .ref a /\ DPut H3 a y v H4 /\ D.nx σ H4
section
variable {X : Cx} {o i e value : Expr} {pos pos' tpos : Pos} {td ty tv : TE}
theorem pe_dget (hu : X.A.units + 1 < cLine) (ho : PE X o td) (hi : PE X i ty) (hs : NoSl i) : PE X (.Subscript o i pos) (tDGet td ty) := by
 intro pins s σ H Q I h
 refine subD_of PySem.F.slot_dict_getitem.lookup hs (thn (ho pins s σ H _ I h) fun u s1 ⟨x, H1, I1, rx, q1⟩ => thn (hi pins s1 σ H1 _ I1 q1) fun iv s2 ⟨y, H2, I2, ry, a, v, ex, g, q2⟩ => ?_)
 subst ex
 obtain rfl : u = Value.ref a := rx
 exact ⟨dict_typeIs I2 g, d_getItem hu I2 g ry fun w' s3 I3 rw' => ⟨v, H2, I3, rw', q2⟩⟩
theorem pc_din (hu : X.A.units + 1 < cLine) (hi : PE X i ty) (ho : PE X o td) : PC X .In i o (tDIn ty td) := by
 intro pins s σ H Q I h
 refine thn (hi pins s σ H _ I h) fun iv s1 ⟨y, H1, I1, ry, q1⟩ => thn (ho pins s1 σ H1 _ I1 q1) fun u s2 ⟨x, H2, I2, rx, a, ov, ex, g, q2⟩ => ?_
 subst ex
 obtain rfl : u = Value.ref a := rx
 exact d_in hu I2 g ry fun s3 I3 => ⟨.bl ov.isSome, H2, I3, rfl, q2⟩
theorem pc_dnotin (hu : X.A.units + 1 < cLine) (hi : PE X i ty) (ho : PE X o td) : PC X .NotIn i o (tDNotIn ty td) := by
 intro pins s σ H Q I h
 refine thn (hi pins s σ H _ I h) fun iv s1 ⟨y, H1, I1, ry, q1⟩ => thn (ho pins s1 σ H1 _ I1 q1) fun u s2 ⟨x, H2, I2, rx, a, ov, ex, g, q2⟩ => ?_
 subst ex
 obtain rfl : u = Value.ref a := rx
 exact d_notIn hu I2 g ry fun s3 I3 => ⟨.bl (!ov.isSome), H2, I3, rfl, q2⟩
theorem ps_dput (hu : X.A.units + 1 < cLine) (ho : PE X o td) (hi : PE X i ty) (hv : PE X value tv) (hs : swapsWith value (some (.Subscript o i pos')) pos.line X.env = pure false) :
  PS X (.Assign [.Subscript o i pos'] value pos) (sDPut td ty tv) := by
 intro pins s σ H D I h
 refine wpAny_Assign_Subscript (thn (hv pins s σ H _ I h) fun r s1 ⟨v, H1, I1, rv, q1⟩ => thn (ho pins s1 σ H1 _ I1 q1) fun u s2 ⟨x, H2, I2, rx, q2⟩ => thn (hi pins s2 σ H2 _ I2 q2) fun iv s3 ⟨y, H3, I3, ry, a, H4, ex, g, q3⟩ => ?_) hs
 subst ex
 obtain rfl : u = Value.ref a := rx
 exact d_setItem hu I3 g ry rv fun s4 I4 => ⟨σ, H4, I4, q3⟩
end
def xa8 (kvs more : List (Key × V)) : List (Key × V) := more.foldl (fun acc kv => putK acc kv.1 kv.2) kvs
theorem KV.merge : ∀ {more : List (Key × V)} {rs : List (Key × Value)} {kvs : List (Key × V)} {vs : List (Key × Value)}, KV more rs -> KV kvs vs -> KV (xa8 kvs more) (merged vs rs) := by
 intro more rs kvs vs r
 unfold KV at r
 induction r generalizing kvs vs with
 | nil => intro q; exact q
 | @cons p q ps qs h t ih =>
  intro r0
  have e : KV (putK kvs p.1 p.2) (stored vs q.1 q.2) := by
   have := r0.put p.1 h.2
   rw [<- h.1]; exact this
  exact ih e
theorem length_mergeK : ∀ (more kvs : List (Key × V)), (xa8 kvs more).length <= kvs.length + more.length
 | [], kvs => by show kvs.length <= kvs.length + 0; omega
 | p :: r, kvs => by
  have h1 := length_mergeK r (putK kvs p.1 p.2)
  have h2 := length_putK kvs p.1 p.2
  show (xa8 (putK kvs p.1 p.2) r).length <= _
  rw [List.length_cons]; omega
section
variable {X : Cx} {pins : List (Addr × Obj)} {σ : St} {H : Hp} {s : Shared} {a : Addr} {kvs : List (Key × V)} {A : Around} {E : Value -> Shared -> Prop}
theorem d_copyOf {Q : Value -> Shared -> Prop} (I : Inv X pins σ H s) (e : Rd H a (.dK kvs)) (h : ∀ p s', H p = none -> Inv X pins σ (upd H p (.dK kvs)) s' -> Q (.ref p) s') : wpAny (model X.prog X.w) A (call (.type "dict") [.ref a]) Q E s := by
 obtain ⟨z, hd, vs, rel, dd⟩ := dk_rd I.hok e
 refine kt_call_dict hd dd (by rw [<- rel.length]; exact z) fun h' dd' hs => ?_
 refine h _ _ (I.hok.fresh (Nat.le_refl _)) (I.laid (a := s.heap.objs.size) (o := .dK kvs) (t' := s.toks) (fun b q hq => ?_) (Nat.le_refl _) (dk_new z (beq_eq_false_iff_ne.mpr (Ne.symm (Nat.ne_of_lt I.big))) rel dd'))
 exact (hs.2 b (Nat.ne_of_lt (Heap.lt_size hq))).trans (Heap.get?_push_of_some _ hq)
end
end L2
namespace L2
open PySem PySem.Spec PyProof.Rows
section
variable {κ : Type} [DecidableEq κ]
theorem nd_snoc : ∀ {l : List κ} {k : κ}, l.Nodup -> ¬ k ∈ l -> (l ++ [k]).Nodup
 | [], k, _, _ => by simp
 | a :: r, k, h, hk => by
  obtain ⟨h1, h2⟩ := List.nodup_cons.mp h
  show (a :: (r ++ [k])).Nodup
  refine List.nodup_cons.mpr ⟨fun m => ?_, nd_snoc h2 fun m => hk (List.mem_cons.mpr (Or.inr m))⟩
  rcases List.mem_append.mp m with q | q
  ·exact h1 q
  ·exact hk (List.mem_cons.mpr (Or.inl (List.mem_singleton.mp q).symm))
end
end L2
end
section
namespace L2
open PySem PySem.Spec PyProof.Rows
section
variable {X : Cx}
theorem call_dict1 : CallR X (.type "dict") (fun xs H Q => ∃ a kvs, xs = [V.ref a] /\ H a = some (.dK kvs) /\ ∀ p, H p = none -> Q (.ref p) (upd H p (.dK kvs))) := by
 intro pins s σ H xs us Q I r h
 obtain ⟨a, kvs, rfl, ha, q⟩ := h
 obtain ⟨u, rfl, ru⟩ := vals1 r
 cases ru
 exact d_copyOf I (.inl ha) fun p s' hp I' => ⟨.ref p, _, I', rfl, q p hp⟩
end
section
variable {ix : Cap} {tt : TT} {te : TE} {g : TG} {σ : St} {H : Hp} {Q : VK}
def NxtG (Pv : Nat -> List V -> Hp -> Prop) (n i : Nat) (ys : List V) : VK := fun y H2 => ∃ m', m' < n - i /\ m' = n - (i + 1) /\ i + 1 <= n /\ (ys ++ [y]).length <= i + 1 /\ Pv (i + 1) (ys ++ [y]) H2
def NxtN (Pv : Nat -> List V -> Hp -> Prop) (n i : Nat) (ys : List V) : Hp -> Prop := fun H2 => ∃ m', m' < n - i /\ m' = n - (i + 1) /\ i + 1 <= n /\ ys.length <= i + 1 /\ Pv (i + 1) ys H2
theorem nxtG {Pv : Nat -> List V -> Hp -> Prop} {n i : Nat} {ys : List V} {y : V} {H2 : Hp} (hi : i < n) (hl : ys.length <= i) (h : Pv (i + 1) (ys ++ [y]) H2) : NxtG Pv n i ys y H2 :=
 ⟨n - (i + 1), by omega, rfl, hi, by rw [List.length_append, List.length_singleton]; omega, h⟩
theorem nxtN {Pv : Nat -> List V -> Hp -> Prop} {n i : Nat} {ys : List V} {H2 : Hp} (hi : i < n) (hl : ys.length <= i) (h : Pv (i + 1) ys H2) : NxtN Pv n i ys H2 :=
 ⟨n - (i + 1), by omega, rfl, hi, by omega, h⟩
theorem comp_tupG {K : PySem.W.Frag} {a : Addr} {xs : List V} (Pv : Nat -> List V -> Hp -> Prop) (h0 : Pv 0 [] H) (hn : xs.length < sizeLine) (hl' : ∀ i ys H, i <= xs.length -> Pv i ys H -> SqT K H a xs)
  (hs : ∀ i x ys H, xs[i]? = some x -> i < xs.length -> ys.length <= i -> Pv i ys H -> g x (capt ix σ) H fun σ2 H2 => Ext (capt ix σ) σ2 /\ tt σ2 H2 fun b H3 => if b = true then te σ2 H3 (NxtG Pv xs.length i ys) else NxtN Pv xs.length i ys H3)
  (hd : ∀ ys H, ys.length <= xs.length -> Pv xs.length ys H -> ∀ D, H D = none -> Q (.ref D) (upd H D (.lst ys))) : CompGo (Itt K a) ix g tt te σ H Q := by
 refine ⟨fun i m ys H => m = xs.length - i /\ i <= xs.length /\ ys.length <= i /\ Pv i ys H, ⟨xs.length, by simp, Nat.zero_le _, Nat.le_refl _, h0⟩, ?_⟩
 rintro i m ys H ⟨rfl, hi, hl, p⟩
 have q := hl' i ys H hi p
 by_cases hlt : i < xs.length
 ·refine .inr ⟨⟨xs, xs[i], q, by simp [hlt]⟩, by omega, fun v H' y => ?_⟩
  obtain ⟨e, y⟩ := y
  subst e
  exact hs i v ys _ (y xs q) hlt hl p
 ·have e : i = xs.length := by omega
  subst e
  exact .inl ⟨⟨xs, q, Nat.le_refl _⟩, hd ys H hl p⟩
theorem comp_listG {K : PySem.W.Frag} {a : Addr} {xs : List V} (Pv : Nat -> List V -> Hp -> Prop) (h0 : Pv 0 [] H) (hn : xs.length < sizeLine) (hl' : ∀ i ys H, i <= xs.length -> Pv i ys H -> SqL K H a xs)
  (hs : ∀ i x ys H, xs[i]? = some x -> i < xs.length -> ys.length <= i -> Pv i ys H -> g x (capt ix σ) H fun σ2 H2 => Ext (capt ix σ) σ2 /\ tt σ2 H2 fun b H3 => if b = true then te σ2 H3 (NxtG Pv xs.length i ys) else NxtN Pv xs.length i ys H3)
  (hd : ∀ ys H, ys.length <= xs.length -> Pv xs.length ys H -> ∀ D, H D = none -> Q (.ref D) (upd H D (.lst ys))) : CompGo (Itl K a) ix g tt te σ H Q := by
 refine ⟨fun i m ys H => m = xs.length - i /\ i <= xs.length /\ ys.length <= i /\ Pv i ys H, ⟨xs.length, by simp, Nat.zero_le _, Nat.le_refl _, h0⟩, ?_⟩
 rintro i m ys H ⟨rfl, hi, hl, p⟩
 have q := hl' i ys H hi p
 by_cases hlt : i < xs.length
 ·refine .inr ⟨⟨xs, xs[i], q, by simp [hlt]⟩, by omega, fun v H' y => ?_⟩
  obtain ⟨e, y⟩ := y
  subst e
  exact hs i v ys _ (y xs q) hlt hl p
 ·have e : i = xs.length := by omega
  subst e
  exact .inl ⟨⟨xs, q, Nat.le_refl _⟩, hd ys H hl p⟩
theorem ext2 {σ : St} {i j : Nat} {v w : Option V} (h : σ[i]? = some none) (k : σ[j]? = some none) : Ext σ ((σ.set i v).set j w) := by
 refine ⟨by simp, fun n w' e => ?_⟩
 have h1 : i ≠ n := fun z => by subst z; rw [h] at e; cases e
 have h2 : j ≠ n := fun z => by subst z; rw [k] at e; cases e
 rw [List.getElem?_set_ne h2, List.getElem?_set_ne h1]
 exact e
end
end L2
namespace L2
open PySem PySem.Spec PyProof.Rows
theorem sum_bound : ∀ {ns : List Int}, (∀ n ∈ ns, 0 <= n /\ n <= 1000000) -> 0 <= ns.sum /\ ns.sum <= 1000000 * (ns.length : Int)
 | [], _ => by simp
 | n :: ns, h => by
  have h1 := h n (by simp)
  have h2 := sum_bound (ns := ns) fun m hm => h m (List.mem_cons_of_mem _ hm)
  rw [List.sum_cons, List.length_cons]
  push_cast
  omega
section
variable {X : Cx}
theorem call_sumL (hc : X.calm = true) : CallR X (.builtin "sum") (fun xs H Q => ∃ p, ∃ ns : List Int, xs = [.ref p] /\ SqL X.K H p (ns.map V.int) /\ (∀ n ∈ ns, 0 <= n /\ n <= 1000000) /\ ns.length <= 1000 /\ Q (.int ns.sum) H) := by
 intro pins s σ H xs us Q I r h
 obtain ⟨p, ns, rfl, hq, hb, hlen, q⟩ := h
 obtain ⟨u, rfl, ru⟩ := vals1 r
 cases ru
 obtain ⟨its, rv, pl, hz⟩ := I.list hq
 have hi := intsAre_of rv
 obtain ⟨xs, e⟩ := hi.allInts.items
 have hns : ns = xs.toList.map (·.1) := by rw [<- hi.numsOf, <- nums_intItems, <- e]
 have hl := pl.isList
 rw [e] at hl
 have hsz : xs.size = ns.length := by rw [hns, List.length_map, Array.length_toList]
 refine sum_intList (I.ok.hd hc) hl (fun j hj => ?_) fun h' tk t' k => ⟨.int ns.sum, H, I.kept k, ?_, q⟩
 ·have hm : numAt xs j ∈ ns := by
   rw [hns, numAt_eq]
   exact getD_mem (by rw [List.length_map, Array.length_toList]; exact hj)
  have h1 := hb _ hm
  have h2 := sum_bound (ns := ns.take (j + 1)) fun n hn => hb n (List.mem_of_mem_take hn)
  have h3 : (ns.take (j + 1)).length <= 1000 := Nat.le_trans (List.length_take_le _ _) (by omega)
  rw [preSum_eq, <- hns]
  unfold InLong
  omega
 ·refine ⟨t', ?_⟩
  rw [preSum_eq, <- hns, List.take_of_length_le (by omega)]
theorem call_maxL (hc : X.calm = true) : CallR X (.builtin "max") (fun xs H Q => ∃ p, ∃ ns : List Int, xs = [.ref p] /\ SqL X.K H p (ns.map V.int) /\ ns ≠ [] /\ ∀ m, m ∈ ns -> (∀ n ∈ ns, n <= m) -> Q (.int m) H) := by
 intro pins s σ H xs us Q I r h
 obtain ⟨p, ns, rfl, hq, hne, q⟩ := h
 obtain ⟨u, rfl, ru⟩ := vals1 r
 cases ru
 obtain ⟨its, rv, pl, hz⟩ := I.list hq
 have hi := intsAre_of rv
 obtain ⟨xs, e⟩ := hi.allInts.items
 have hns : ns = xs.toList.map (·.1) := by rw [<- hi.numsOf, <- nums_intItems, <- e]
 have hl := pl.isList
 rw [e] at hl
 have hsz : xs.size = ns.length := by rw [hns, List.length_map, Array.length_toList]
 have hp : 0 < ns.length := List.length_pos_iff.mpr hne
 refine max_intList (I.ok.hd hc) hl (by omega) fun v h' tk hv k => ?_
 obtain ⟨t, rfl⟩ := intItems_at hv
 obtain ⟨h1, h2⟩ := argBest_gt (numAt xs) (xs.size - 1)
 refine ⟨.int _, H, I.kept k, ⟨t, rfl⟩, q _ ?_ fun a ha => ?_⟩
 ·rw [hns, numAt_eq]
  exact getD_mem (by rw [List.length_map, Array.length_toList]; omega)
 ·rw [hns] at ha
  obtain ⟨j, hj, rfl⟩ := mem_getD ha
  rw [List.length_map, Array.length_toList] at hj
  rw [<- numAt_eq]
  exact h2 j (by omega)
end
end L2
namespace L2
open PySem PySem.Spec PyProof.Rows
section
variable {X : Cx} {K : PySem.W.Frag}
theorem ix_tupC (h : X.K = K) : IxR X (rIxT K) := by subst h; exact xao
theorem ix_listC (h : X.K = K) : IxR X (rIxL K) := by subst h; exact iL
theorem pg_tupC {es : List Expr} {k : Nat} {t : TGs} {n : Nat} {pos : Pos} (hK : X.K = K) (hc : X.calm = true) (h : PGs X es t)
  (hn : (assignEach es X.env).length = n := by rfl) (hst : (assignEach es X.env).findIdx? (·.1) = none := by rfl) : PG X (.Tuple es k pos) (gTup K n t) := by subst hK; exact pg_tup hc h hn hst
end
end L2
end
section
namespace Zt
open PySem PySem.Spec PyProof.Rows
section
variable {prog : Program} {w : World} {A : Around} {E : Value -> Shared -> Prop} {s : Shared}
theorem call_zipN {l1 l2 : Addr} {xs ys : Array Value} {Q : Value -> Shared -> Prop} (hl1 : s.heap.IsTuple l1 xs) (hl2 : s.heap.IsTuple l2 ys)
  (h : ∀ h', IsZip h' (s.heap.objs.size + 4) (s.heap.objs.size + 2) (s.heap.objs.size + 3) .none -> IsPair h' (s.heap.objs.size + 2) (.ref s.heap.objs.size) (.ref (s.heap.objs.size + 1)) -> (∃ a b, IsPair h' (s.heap.objs.size + 3) a b) ->
   h'.IsTupleIter s.heap.objs.size l1 0 -> h'.IsTupleIter (s.heap.objs.size + 1) l2 0 -> (∀ c o, s.heap.get? c = some o -> h'.get? c = some o) -> Q (.ref (s.heap.objs.size + 4)) { s with heap := h' }) :
  wpAny (model prog w) A (call (.type "zip") [.ref l1, .ref l2]) Q E s := by
 refine callType_new F.called_zip (by decide) (F.typeCall_zip_2 _ _) (F.newCall_zip_2 _ _) (fun obj => F.args_object_init_3 obj _ _) F.entry_zip_new
  (meets_new l1 l2 xs ys) ⟨hl1, hl2, ?_⟩
 have z1 : (zH1 s.heap l1).objs.size = s.heap.objs.size + 1 := Heap.size_push ..
 have z2 : (zH2 s.heap l1 l2).objs.size = s.heap.objs.size + 2 := by rw [Heap.size_push, z1]
 have z3 : (zH3 s.heap l1 l2).objs.size = s.heap.objs.size + 3 := by rw [Heap.size_push, z2]
 have z4 : (zH4 s.heap l1 l2).objs.size = s.heap.objs.size + 4 := by rw [Heap.size_push, z3]
 have g5 : (zH5 s.heap l1 l2).get? (zH4 s.heap l1 l2).objs.size = some _ := Heap.get?_push_size _ rfl
 have g4 : (zH5 s.heap l1 l2).get? (zH3 s.heap l1 l2).objs.size = some _ := Heap.get?_push_of_some _ (Heap.get?_push_size _ rfl)
 have g3 : (zH5 s.heap l1 l2).get? (zH2 s.heap l1 l2).objs.size = some _ := Heap.get?_push_of_some _ (Heap.get?_push_of_some _ (Heap.get?_push_size _ rfl))
 have g2 : (zH5 s.heap l1 l2).get? (zH1 s.heap l1).objs.size = some _ := Heap.get?_push_of_some _ (Heap.get?_push_of_some _ (Heap.get?_push_of_some _ (Heap.get?_push_size _ rfl)))
 have g1 : (zH5 s.heap l1 l2).get? s.heap.objs.size = some _ := Heap.get?_push_of_some _ (Heap.get?_push_of_some _ (Heap.get?_push_of_some _ (Heap.get?_push_of_some _ (Heap.get?_push_size _ rfl))))
 have kp : ∀ c o, s.heap.get? c = some o -> (zH5 s.heap l1 l2).get? c = some o := fun c o e => Heap.get?_push_of_some _ (Heap.get?_push_of_some _ (Heap.get?_push_of_some _ (Heap.get?_push_of_some _ (Heap.get?_push_of_some _ e))))
 show _ /\ _
 rw [z2, z3, z4] at g5
 rw [z1, z2] at g3
 rw [z3] at g4
 rw [z1] at g2
 rw [z4]
 exact ⟨⟨_, g5, rfl⟩, h _ g5 g3 ⟨_, _, g4⟩ ⟨_, g1, rfl, rfl⟩ ⟨_, g2, rfl, rfl⟩ kp⟩
end
end Zt
namespace L2
open PySem PySem.Spec PyProof.Rows
section
variable {X : Cx} {pins : List (Addr × Obj)} {σ : St} {H : Hp} {s : Shared} {h' : Heap}
theorem Inv.turnedM {t' : Nat} {fp : List Addr} (I : Inv X pins σ H s) (k : ∀ b o, b ∉ fp -> s.heap.get? b = some o -> h'.get? b = some o) (hf : ∀ b ∈ fp, FpOk X pins H b) : Inv X pins σ H { s with heap := h', toks := t' } := by
 have nit : ∀ b u, H b = some u -> b ∉ fp := fun b u e z => by rw [(hf b z).1] at e; cases e
 refine I.step (g' := s.gens) (d' := s.drawn) (ch := fp) (fun b hb => ?_) (fun b o _ _ hc e _ => k b o hc e) (fun b o _ _ hc e _ => ⟨o.slots, k b o hc e⟩) (fun _ _ _ _ n => n)
  (fun b o hc e => ⟨o, k b o hc e⟩) (fun _ _ e => e) (fun _ _ _ e => e) (fun b ps e => ⟨#[], by rw [e]; simp⟩) (fun m hm => ?_) (fun b u e => ?_) I.bare
 ·obtain ⟨f0, f1, f2, f3, f4, f5⟩ := hf b hb
  exact ⟨f3, f1, f4, f5⟩
 ·obtain ⟨o, es, ep, ho, r⟩ := hm
  exact ⟨o, es, ep, k _ o (fun z => (hf _ z).2.1 rfl) ho, r⟩
 ·refine (I.hok b u e).stay (fun c v hc q => k c v ?_ q) (fun _ q => q) fun _ _ q => q
  rcases hc with z | z
  ·rw [z]; exact nit b u e
  ·exact nit c _ z
end
theorem get_push_no {h : Heap} {o u : Obj} {b : Addr} (e : (h.push o).get? b = some u) (q : b ≠ h.objs.size) : h.get? b = some u := by
 rwa [Heap.get?_push_ne h b o q] at e
section
variable {X : Cx}
def Itz (K : PySem.W.Frag) (a b : Addr) : It :=
  ⟨fun i H => ∃ xs ys x y, SqT K H a xs /\ SqT K H b ys /\ xs[i]? = some x /\ ys[i]? = some y, fun i H x H' => ∃ p u v, x = .ref p /\ H p = none /\ H' = upd H p (.tup [u, v]) /\ (∀ xs, SqT K H a xs -> xs[i]? = some u) /\ ∀ ys, SqT K H b ys -> ys[i]? = some v,
   fun i H => ∃ xs ys, SqT K H a xs /\ SqT K H b ys /\ xs.length <= i⟩
theorem turn_zip {P : Program} {w : World} {K : PySem.W.Frag} {elts : List Expr} {x1} {pos : Pos} {a b z TI TO i1 i2 : Addr} (D : ZipApart z TI TO i1 i2 a b) :
  Turn P w K (.Tuple elts x1 pos) (Itz K a b) [z, TI, TO, i1, i2] z (fun i h => IsZip h z TI TO .none /\ IsPair h TI (.ref i1) (.ref i2) /\ (∃ u v, IsPair h TO u v) /\ h.IsTupleIter i1 a i /\ h.IsTupleIter i2 b i) where
 mem := by simp
 obj := fun i h st c hc => by
  obtain ⟨s1, s2, ⟨u, v, s3⟩, s4, s5⟩ := st
  simp only [List.mem_cons, List.not_mem_nil, or_false] at hc
  rcases hc with rfl | rfl | rfl | rfl | rfl
  ·exact ⟨_, s1, fun v z => by cases z⟩
  ·exact ⟨_, s2, fun v z => by cases z⟩
  ·exact ⟨_, s3, fun v z => by cases z⟩
  ·obtain ⟨o, e, c, d⟩ := s4
   exact ⟨o, e, fun v z => by rw [d] at z; cases z⟩
  ·obtain ⟨o, e, c, d⟩ := s5
   exact ⟨o, e, fun v z => by rw [d] at z; cases z⟩
 keep := fun i h h' st k => by
  obtain ⟨s1, s2, ⟨u, v, s3⟩, s4, s5⟩ := st
  exact ⟨k z (by simp) _ s1, k TI (by simp) _ s2, ⟨u, v, k TO (by simp) _ s3⟩, s4.at fun o q => k i1 (by simp) o q, s5.at fun o q => k i2 (by simp) o q⟩
 item := by
  intro X hP hw hK hc i pins s σ H E I hf st hg
  subst hP hw hK
  obtain ⟨xs, ys, x, y, hq, hq', hx, hy⟩ := hg
  obtain ⟨its, rv, p, hz⟩ := I.tuple hq
  obtain ⟨its', rv', p', hz'⟩ := I.tuple hq'
  obtain ⟨u, hu, ru⟩ := rv.get hx
  obtain ⟨u', hu', ru'⟩ := rv'.get hy
  obtain ⟨s1, s2, ⟨_, _, s3⟩, s4, s5⟩ := st
  have hT : s.TypeIs (.ref z) "zip" := ⟨_, s1, rfl⟩
  unfold pyNext
  refine wpAny_bind (wpAny_attempt (wpAny_callSpecial?_slot (name := Str.ofString "__next__") hT F.slot_zip_next
   (wpAny_call_entry F.slot_zip_next hT F.entry_zip_next
    (Zt.item_first D s1 s2 s3 s4 s5 p p' (x := u) (y := u') (by simpa using hu) (by simpa using hu') fun h1 a1 a2 a3 a4 a5 a6 a7 => wpAny_pure ⟨_, rfl, wpAny_letOwnedTupleGo_zip a1 fun h2 b1 b2 => ?_⟩) (F.args_zip_next_1 _))))
  have hp0 : H s.heap.objs.size = none := I.hok.fresh (Nat.le_refl _)
  have g1 : (s.heap.push { cls := .type "tuple", data := .seq #[u, u'] }).get? s.heap.objs.size = some { cls := .type "tuple", data := .seq #[u, u'] } := Heap.get?_push_size _ rfl
  have I1 : Inv X pins σ (upd H s.heap.objs.size (.tup [x, y])) { s with heap := s.heap.push { cls := .type "tuple", data := .seq #[u, u'] }, toks := s.toks } :=
   I.laid (fun b o q => Heap.get?_push_of_some _ q) (Nat.le_refl _) ⟨by show 2 <= sizeLine; decide, [u, u'], .cons ru (.cons ru' .nil), ⟨_, g1, rfl, _, rfl⟩⟩
  have lt : ∀ c ∈ [z, TI, TO, i1, i2], c ≠ s.heap.objs.size := fun c hc => by
   simp only [List.mem_cons, List.not_mem_nil, or_false] at hc
   rcases hc with rfl | rfl | rfl | rfl | rfl
   ·exact Nat.ne_of_lt (Heap.lt_size s1)
   ·exact Nat.ne_of_lt (Heap.lt_size s2)
   ·exact Nat.ne_of_lt (Heap.lt_size s3)
   ·obtain ⟨o, q, _⟩ := s4
    exact Nat.ne_of_lt (Heap.lt_size q)
   ·obtain ⟨o, q, _⟩ := s5
    exact Nat.ne_of_lt (Heap.lt_size q)
  have hf1 : ∀ c ∈ [z, TI, TO, i1, i2], FpOk X pins (upd H s.heap.objs.size (.tup [x, y])) c := fun c hc => by
   refine ⟨?_, (hf c hc).2⟩
   rw [xar (lt c hc)]
   exact (hf c hc).1
  have I2 : Inv X pins σ (upd H s.heap.objs.size (.tup [x, y])) { s with heap := h2, toks := s.toks } :=
   I1.turnedM (t' := s.toks) (fun c o hb q => by
    have nb : c ≠ z /\ c ≠ TI /\ c ≠ TO /\ c ≠ i1 /\ c ≠ i2 := by simpa using hb
    have q1 : h1.get? c = some o := by
     by_cases e : c = s.heap.objs.size
     ·subst e
      have q' : (s.heap.push { cls := .type "tuple", data := .seq #[u, u'] }).get? s.heap.objs.size = some o := q
      rw [g1] at q'
      cases q'
      exact a5
     ·exact a7 c o nb.1 nb.2.2.1 nb.2.2.2.1 nb.2.2.2.2 (get_push_no q e)
    exact (b2.2 c nb.1).trans q1) hf1
  refine ⟨.ref s.heap.objs.size, _, I2, rfl, ⟨_, x, y, rfl, hp0, rfl, fun zs hy' => by rw [I.tuple_inj hy' hq]; exact hx, fun zs hy' => by rw [I.tuple_inj hy' hq']; exact hy⟩, ⟨b1, ?_, ⟨_, _, (b2.2 _ D.TOz).trans a2⟩, a3.at fun o q => (b2.2 _ D.i1z).trans q, a4.at fun o q => (b2.2 _ D.i2z).trans q⟩, fun c hc => (hf1 c hc).1⟩
  exact (b2.2 _ D.TIz).trans (a7 _ _ D.TIz D.TITO D.TIi1 D.TIi2 s2)
 done := by
  intro X hP hw hK hc i pins s σ H E I hf st hg
  subst hP hw hK
  obtain ⟨xs, ys, hq, hq', hx⟩ := hg
  obtain ⟨its, rv, p, hz⟩ := I.tuple hq
  obtain ⟨its', rv', p', hz'⟩ := I.tuple hq'
  obtain ⟨s1, s2, s3, s4, s5⟩ := st
  have hl := rv.length
  exact Zt.pyNext_end (I.ok.hd hc) D ⟨.inl s1, s2, s3, s4, s5, p, p'⟩ (by simp; omega) fun h' kk => ⟨rfl, I.turnedM (t' := s.toks) (fun c o hb q => by
   have nb : c ≠ z /\ c ≠ TI /\ c ≠ TO /\ c ≠ i1 /\ c ≠ i2 := by simpa using hb
   exact kk c o nb.1 nb.2.2.2.1 q) hf⟩
 self := fun _ _ _ _ _ st h => wpAny_pyIter_zip st.1 h
def iZip (K : PySem.W.Frag) (ta : TA) : TI := fun σ H R => ta σ H fun vs H1 => ∃ a b, vs = [.ref a, .ref b] /\ (∃ xs, SqT K H1 a xs) /\ (∃ ys, SqT K H1 b ys) /\ R (Itz K a b) H1
theorem pi_zip {a b : Expr} {ta : TA} {p pos : Pos} {elts : List Expr} {x1} {tp : Pos} (hg : Gl X "zip") (hm : X.mg "zip" = none) (ha : PA X [a, b] ta) (hs : starEach [a, b] X.env = [(false, eval a X.env), (false, eval b X.env)] := by rfl) (hs2 : starEach [b] X.env = [(false, eval b X.env)] := by rfl) :
  PI X (.Tuple elts x1 tp) (.Call (.Name "zip" p) [a, b] [] pos) (iZip X.K ta) := by
 intro pins s σ H R I h
 refine Call_ (ld_blt I hg hm PyProof.Rows.boot_zip (PyProof.Rows.callWith_type1 (thn (ha pos pins s σ H _ I h) fun us s1 ⟨vs, H1, I1, r1, q1⟩ => ?_) (by rw [hs, hs2]) (by rw [hs2]; rfl)))
 obtain ⟨l1, l2, e, ⟨xs, hx⟩, ⟨ys, hy⟩, q⟩ := q1
 subst e
 obtain ⟨u1, u2, rfl, e1, e2⟩ := r1.two
 cases e1
 cases e2
 obtain ⟨its, rx, tx, hzx⟩ := I1.tuple hx
 obtain ⟨jts, ry, ty, hzy⟩ := I1.tuple hy
 have a1 : l1 < s1.heap.objs.size := by obtain ⟨_, e, _⟩ := tx; exact Heap.lt_size e
 have a2 : l2 < s1.heap.objs.size := by obtain ⟨_, e, _⟩ := ty; exact Heap.lt_size e
 have D := PyProof.Rows.zipApart_new a1 a2
 refine Zt.call_zipN tx ty fun h1 z1 z2 z3 z4 z5 kp => wpAny_pyIter_zip z1 ?_
 refine ⟨s1.heap.objs.size + 4, [s1.heap.objs.size + 4, s1.heap.objs.size + 2, s1.heap.objs.size + 3, s1.heap.objs.size, s1.heap.objs.size + 1], _, _, H1, rfl, I1.kept (t' := s1.toks) kp, turn_zip D, ⟨z1, z2, z3, z4, z5⟩, fun c hc => ?_, q⟩
 have hc' : s1.heap.objs.size <= c := by
  simp only [List.mem_cons, List.not_mem_nil, or_false] at hc
  rcases hc with z | z | z | z | z <;> subst z <;> first | exact Nat.le_add_right _ _ | exact Nat.le_refl _
 exact I1.fpOk hc' (I1.hok.fresh hc')
theorem for_zip {K : PySem.W.Frag} {a b : Addr} {xs ys : List V} {g : TG} {tb : TS} {D : Ends} {σ : St} {H : Hp} (hxy : xs.length = ys.length) (Pv : Nat -> St -> Hp -> Prop) (h0 : Pv 0 σ H) (hl : ∀ i σ H, i <= xs.length -> Pv i σ H -> SqT K H a xs /\ SqT K H b ys)
  (hs : ∀ i x y σ H p, xs[i]? = some x -> ys[i]? = some y -> Pv i σ H -> H p = none -> g (.ref p) σ (upd H p (.tup [x, y])) fun σ2 H2 => tb { D with nx := Pv (i + 1), ct := Pv (i + 1), bk := D.nx } σ2 H2) (hd : ∀ σ H, Pv xs.length σ H -> D.nx σ H) :
  ∃ W : Nat -> Nat -> St -> Hp -> Prop, (∃ m, W 0 m σ H) /\ ∀ i m σ H, W i m σ H ->
   ((Itz K a b).stop i H /\ D.nx σ H) \/ ((Itz K a b).go i H /\ ∃ N : St -> Hp -> Prop, (∀ σ' H', N σ' H' -> ∃ m', m' < m /\ W (i + 1) m' σ' H') /\ ∀ x H', (Itz K a b).yld i H x H' -> g x σ H' fun σ2 H2 => tb { D with nx := N, ct := N, bk := D.nx } σ2 H2) := by
 refine ⟨fun i m σ H => m = xs.length - i /\ i <= xs.length /\ Pv i σ H, ⟨xs.length, by simp, Nat.zero_le _, h0⟩, ?_⟩
 rintro i m σ H ⟨rfl, hi, p⟩
 have q := hl i σ H hi p
 by_cases hlt : i < xs.length
 ·refine .inr ⟨⟨xs, ys, xs[i], ys[i]'(by omega), q.1, q.2, by simp [hlt], by simp [<- hxy, hlt]⟩, Pv (i + 1), fun σ' H' p' => ⟨xs.length - (i + 1), by omega, rfl, hlt, p'⟩, fun x H' y => ?_⟩
  obtain ⟨pp, u, v, rfl, hp, rfl, hu, hv⟩ := y
  exact hs i u v σ H pp (hu xs q.1) (hv ys q.2) p hp
 ·have e : i = xs.length := by omega
  subst e
  exact .inl ⟨⟨xs, ys, q.1, q.2, Nat.le_refl _⟩, hd σ H p⟩
end
end L2
end
section
namespace M
open PySem L2
structure Kn where
 name : Str
 rc : Bool
 parts : List (Str × Str)
def Kn.sort (k : Kn) : Str := if k.rc = true then S "rec" else S "alt"
def dPart (p : Str × Str) : D := .tup [.str p.1, .str p.2]
def dParts (ps : List (Str × Str)) : D := .tup (ps.map dPart)
def Kn.d (k : Kn) : D := .tup [.str k.name, .str k.sort, dParts k.parts]
def dKinds (ks : List Kn) : D := .tup (ks.map Kn.d)
def kAt (ks : List Kn) (x : Str) : Option Kn := ks.find? fun k => decide (k.name = x)
def sortV : Option Kn -> V
 | some k => .str k.sort
 | none => .non
def partsD : Option Kn -> D
 | some k => dParts k.parts
 | none => .tup []
def KsAt (H : Hp) (v : V) (ks : List Kn) : Prop := RelD H v (dKinds ks) /\ ks.length <= 100 /\ ∀ k ∈ ks, k.parts.length <= 100
theorem KsAt.same {H H' : Hp} {v : V} {ks : List Kn} (h : KsAt H v ks) (s : Same H H') : KsAt H' v ks := ⟨h.1.same s _, h.2⟩
abbrev En := Str -> Option D
def En.put (e : En) (x : Str) (d : D) : En := fun y => if y = x then some d else e y
def EnAt (H : Hp) (p : Addr) (m : Nat) (e : En) : Prop :=
 ∃ kvs, H p = some (.dK kvs) /\ kvs.length <= m /\ ∀ x, (e x = none -> valV kvs (Sum.inr x) = none) /\ ∀ d, e x = some d -> ∃ v, valV kvs (Sum.inr x) = some v /\ RelD H v d
theorem EnAt.same {H H' : Hp} {p : Addr} {m : Nat} {e : En} (h : EnAt H p m e) (s : Same H H') : EnAt H' p m e := by
 obtain ⟨kvs, h1, h2, h3⟩ := h
 refine ⟨kvs, s _ _ h1, h2, fun x => ⟨(h3 x).1, fun d hd => ?_⟩⟩
 obtain ⟨v, hv, r⟩ := (h3 x).2 d hd
 exact ⟨v, hv, r.same s _⟩
theorem EnAt.mono {H : Hp} {p : Addr} {m m' : Nat} {e : En} (h : EnAt H p m e) (l : m <= m') : EnAt H p m' e := by
 obtain ⟨kvs, h1, h2, h3⟩ := h
 exact ⟨kvs, h1, by omega, h3⟩
theorem EnAt.put {H H' : Hp} {p q : Addr} {m : Nat} {e : En} {kvs : List (Key × V)} (hp : H p = some (.dK kvs)) (hl : kvs.length <= m) (h : ∀ x, (e x = none -> valV kvs (Sum.inr x) = none) /\ ∀ d, e x = some d -> ∃ v, valV kvs (Sum.inr x) = some v /\ RelD H v d)
  (s : Same H H') {x : Str} {v : V} {d : D} (hv : RelD H' v d) (hq : H' q = some (.dK (putK kvs (Sum.inr x) v))) : EnAt H' q (m + 1) (e.put x d) := by
 refine ⟨_, hq, by have := length_putK kvs (Sum.inr x) v; omega, fun y => ?_⟩
 rw [valV_put]
 unfold En.put
 by_cases hy : y = x
 ·subst hy
  rw [if_pos rfl, if_pos rfl]
  refine ⟨fun z => (by cases z), fun d' e' => ?_⟩
  cases e'
  exact ⟨v, rfl, hv⟩
 ·have hy' : ¬ (Sum.inr y : Key) = Sum.inr x := fun z => hy (Sum.inr.inj z)
  rw [if_neg hy, if_neg hy']
  refine ⟨(h y).1, fun d' e' => ?_⟩
  obtain ⟨u, hu, r⟩ := (h y).2 d' e'
  exact ⟨u, hu, r.same s _⟩
def opV (s : Str) (x y : Int) : Int :=
 if s = S "+" then (x + y) % 4294967296 else if s = S "-" then (x - y) % 4294967296 else if s = S "*" then x * y % 4294967296 else if s = S "<" then (if x < y then 1 else 0) else (if x = y then 1 else 0)
def Nm (x : Int) : Prop := 0 <= x /\ x < 4294967296
theorem opV_nm (s : Str) (x y : Int) : Nm (opV s x y) := by
 have h : ∀ z : Int, Nm (z % 4294967296) := fun z => ⟨Int.emod_nonneg _ (by decide), Int.emod_lt_of_pos _ (by decide)⟩
 unfold opV
 split
 ·exact h _
 split
 ·exact h _
 split
 ·exact h _
 split
 ·split <;> exact ⟨by decide, by decide⟩
 ·split <;> exact ⟨by decide, by decide⟩
abbrev tNum (n : Int) : D := .tup [.str (S "num"), .int n]
abbrev tBox (x : Str) : D := .tup [.str (S "box"), .str x]
abbrev tOpD (s : Str) (a b : D) : D := .tup [.str (S "op"), .str s, a, b]
abbrev tRec (k : Str) (es : List D) : D := .tup [.str (S "rec"), .str k, .tup es]
abbrev tGet (a : D) (f : Str) : D := .tup [.str (S "get"), a, .str f]
abbrev tTag (k t : Str) (a : D) : D := .tup [.str (S "tag"), .str k, .str t, a]
abbrev dArm (r : Str × Str × D) : D := .tup [.str r.1, .str r.2.1, r.2.2]
abbrev tCase (a : D) (rs : List (Str × Str × D)) : D := .tup [.str (S "case"), a, .tup (rs.map dArm)]
abbrev tIfD (a b c : D) : D := .tup [.str (S "if"), a, b, c]
def LeafEv (env : En) (d v : D) : Prop := (∃ n, d = tNum n /\ v = .int n) \/ ∃ x, env x = some v /\ d = tBox x
def NodeEv (ks : List Kn) (R : En -> D -> D -> Prop) (env : En) (d v : D) : Prop :=
 (∃ s a b x y, R env a (.int x) /\ R env b (.int y) /\ Nm x /\ Nm y /\ d = tOpD s a b /\ v = .int (opV s x y)) ∨
 (∃ k es vs, es.length <= 1000 /\ All2 (R env) es vs /\ d = tRec k es /\ v = .tup [.str k, .tup vs]) ∨
 (∃ a k vs f kn i, R env a (.tup [.str k, .tup vs]) /\ kAt ks k = some kn /\ (kn.parts.map (·.1)).findIdx? (fun z => decide (z = f)) = some i /\ vs[i]? = some v /\ d = tGet a f) ∨
 (∃ k t a x, R env a x /\ d = tTag k t a /\ v = .tup [.str k, .str t, x]) ∨
 (∃ a rs k t x y e, rs.length <= 1000 /\ R env a (.tup [.str k, .str t, x]) /\ rs.find? (fun r => decide (r.1 = t)) = some (t, y, e) /\ R (env.put y x) e v /\ d = tCase a rs) ∨
 (∃ a b c x, R env a (.int x) /\ R env (if x = 0 then c else b) v /\ d = tIfD a b c)
def LeafKd (env : En) (d : D) (k : Str) : Prop := (∃ n, Nm n /\ d = tNum n /\ k = S "num") \/ ∃ x, env x = some (.str k) /\ d = tBox x
def xav (kn : Kn) (f : Str) : Option Str := (kn.parts.find? fun p => decide (p.1 = f)).map (·.2)
abbrev RKn := En -> D -> Str -> Prop
def OpKd (R : RKn) : RKn := fun env d k => ∃ s a b, R env a (S "num") /\ R env b (S "num") /\ d = tOpD s a b /\ k = S "num"
def RecKd (ks : List Kn) (R : RKn) : RKn := fun env d k => ∃ es kn, kAt ks k = some kn /\ kn.rc = true /\ All2 (fun e (p : Str × Str) => R env e p.2) es kn.parts /\ d = tRec k es
def GetKd (ks : List Kn) (R : RKn) : RKn := fun env d k => ∃ a k1 f kn, R env a k1 /\ kAt ks k1 = some kn /\ kn.rc = true /\ xav kn f = some k /\ d = tGet a f
def TagKd (ks : List Kn) (R : RKn) : RKn := fun env d k => ∃ t a kn k1, kAt ks k = some kn /\ kn.rc = false /\ xav kn t = some k1 /\ R env a k1 /\ d = tTag k t a
def CaseKd (cs : Prop) (ks : List Kn) (R : RKn) : RKn := fun env d k => cs /\ ∃ a, ∃ rs : List (Str × Str × D), ∃ k1 kn, R env a k1 /\ kAt ks k1 = some kn /\ kn.rc = false /\ rs ≠ [] /\ rs.length = kn.parts.length /\ (rs.map (·.1)).Nodup ∧
  (∀ r ∈ rs, env r.2.1 = none /\ ∃ k2, xav kn r.1 = some k2 /\ R (env.put r.2.1 (.str k2)) r.2.2 k) /\ d = tCase a rs
def IfKd (R : RKn) : RKn := fun env d k => ∃ a b c, R env a (S "num") /\ R env b k /\ R env c k /\ d = tIfD a b c
def NodeKd (cs : Prop) (ks : List Kn) (R : RKn) : RKn := fun env d k => OpKd R env d k \/ RecKd ks R env d k \/ GetKd ks R env d k \/ TagKd ks R env d k \/ CaseKd cs ks R env d k \/ IfKd R env d k
def Kd (cs : Prop) (ks : List Kn) : Nat -> En -> D -> Str -> Prop
 | 0 => LeafKd
 | n + 1 => fun env d k => LeafKd env d k \/ NodeKd cs ks (Kd cs ks n) env d k
theorem find_step {α : Type} {p : α -> Bool} {xs : List α} {i : Nat} {a : α} (h : (xs.take i).find? p = none) (ha : xs[i]? = some a) : (p a = true -> xs.find? p = some a) /\ (p a = false -> (xs.take (i + 1)).find? p = none) := by
 have hi : i < xs.length := (List.getElem?_eq_some_iff.mp ha).1
 have e : xs[i] = a := (List.getElem?_eq_some_iff.mp ha).2
 refine ⟨fun hp => ?_, fun hp => ?_⟩
 ·have e2 : xs = xs.take i ++ a :: xs.drop (i + 1) := by
   rw [<- e, <- List.drop_eq_getElem_cons hi, List.take_append_drop]
  rw [e2, List.find?_append, h]
  simp [hp]
 ·rw [List.take_add_one, ha, List.find?_append, h]
  simp [hp]
theorem Same.new2 {H : Hp} {p : Addr} (h : H p = none) (o o' : HO) : Same H (upd (upd H p o) p o') := fun b u q => by
 have hb := neN q h
 rw [xar hb, xar hb]
 exact q
end M
end
section
namespace St
open PySem PySem.Spec PyProof.Rows
def met (val : Nat -> Str) (i : Nat) : List Str := ((List.range i).map val).foldl step_dedup []
theorem met_succ (val : Nat -> Str) (i : Nat) : met val (i + 1) = step_dedup (met val i) (val i) := by
 unfold met
 rw [List.range_succ, List.map_append, List.foldl_append]
 rfl
theorem met_len (val : Nat -> Str) : ∀ i, (met val i).length <= i
 | 0 => Nat.le_refl _
 | i + 1 => by
  have ih := met_len val i
  rw [met_succ]
  unfold step_dedup
  split
  ·omega
  ·rw [List.length_append, List.length_singleton]
   omega
theorem dd_any (l : List Str) (v k : Str) : (step_dedup l v).any (· == k) = (l.any (· == k) || decide (k = v)) := by
 unfold step_dedup
 split
 ·rename_i h
  by_cases e : k = v
  ·subst e
   rw [h, Bool.true_or]
  ·rw [decide_eq_false e, Bool.or_false]
 ·rw [List.any_append]
  congr 1
  rw [Bool.eq_iff_iff]
  simp
  exact eq_comm
theorem dd_len (l : List Str) (v : Str) : (step_dedup l v).length = if l.any (· == v) then l.length else l.length + 1 := by
 unfold step_dedup
 split <;> simp
theorem strs_at : ∀ {vs : List Value} {ns : List Str}, StrsAre vs ns -> ∀ (i : Nat) (v : Value), vs[i]? = some v -> ∃ t, v = .str (ns.getD i Str.empty) t
 | _, _, .nil, i, v, h => by simp at h
 | _, _, .cons n t r, 0, v, h => by
  simp at h
  exact ⟨t, h.symm⟩
 | _, _, .cons n t r, i + 1, v, h => by
  obtain ⟨t', e⟩ := strs_at r i v (by simpa using h)
  exact ⟨t', by simpa using e⟩
section
variable {prog : Program} {w : World} {A : Around} {R : Result -> Shared -> Prop} {I : Addr} {fp wr : List Addr} {G : Array GenState -> Array GenState -> Prop} {n : Nat} {P : Nat -> Value -> Prop} {St : Nat -> Shared -> Prop}
theorem upd_loop (W : WalksS prog w A.in1 I fp wr G n P St) (S : Addr) (hSf : S ∉ fp)
  (val : Nat -> Str) (hval : ∀ i v, P i v -> ∃ t, v = .str (val i) t) (hb : n + 1 < scanBound) :
  ∀ (k i : Nat) (s : Shared), n - i = k -> i <= n -> St i s ->
   s.heap.SetOf (PySem.strKind prog w) S (fun k' => (met val i).any (· == k')) (met val i).length ->
   (∀ s', Moved (S :: wr) G s s' -> s'.heap.SetOf (PySem.strKind prog w) S (fun k' => (met val n).any (· == k')) (met val n).length -> R (.ok (.ret .none)) s') ->
   codeAny (model prog w) A (.builtin "set.update.loop" ⟨[.ref S, .ref I], []⟩) R s := by
 have hSw : S ∉ wr := fun h => hSf (W.sub _ h)
 have hsub : ∀ b ∈ wr, b ∈ S :: wr := fun b hb => List.mem_cons_of_mem _ hb
 intro k
 induction k with
 | zero =>
  intro i s hk hi hst hS hR
  have hin : i = n := by omega
  subst hin
  refine codeAny_builtin F.entry_set_update_loop ?_
  rw [Around.under_plainId F.plain_set_update_loop _]
  show wpAny _ A.in1 (pyNext (.ref I) >>= _) _ _ s
  refine wpAny_bind (W.done s _ _ hst fun s' hm => ?_)
  show wpAny _ A.in1 (ret Value.none) _ _ s'
  exact wpAny_pure (hR s' (hm.mono hsub) (by
   obtain ⟨o, es, ep, t, ho, rest⟩ := hS
   exact ⟨o, es, ep, t, hm.heap S _ hSw ho, rest⟩))
 | succ k ih =>
  intro i s hk hi hst hS hR
  have hlt : i < n := by omega
  refine codeAny_builtin F.entry_set_update_loop ?_
  rw [Around.under_plainId F.plain_set_update_loop _]
  show wpAny _ A.in1 (pyNext (.ref I) >>= _) _ _ s
  refine wpAny_bind (W.item i s _ _ hlt hst fun v s' hP hst' hm => ?_)
  obtain ⟨t, rfl⟩ := hval i v hP
  have hS' : s'.heap.SetOf (PySem.strKind prog w) S (fun k' => (met val i).any (· == k')) (met val i).length := by
   obtain ⟨o, es, ep, tb, ho, rest⟩ := hS
   exact ⟨o, es, ep, tb, hm.heap S _ hSw ho, rest⟩
  show wpAny _ A.in1 (holding [Value.str (val i) t] (setAdd S (.str (val i) t)) >>= _) _ _ s'
  refine wpAny_bind (wpAny_holding ?_)
  unfold setAdd
  refine wpAny_holding ?_
  refine wpAny_bind ((PySem.strKind prog w).pyHash (k := val i) (PySem.strKind_is _ _ _ _) ?_)
  have hroom : (met val i).length + 1 < scanBound := by have := met_len val i; omega
  refine wpAny_setAddHashed_of (knd := PySem.strKind prog w) (s := { s' with toks := s'.toks + 1 }) (PySem.strKind_is _ _ _ _) rfl hS' hroom fun h' hsb hS2 => ?_
  have hSi : h'.SetOf (PySem.strKind prog w) S (fun k' => (met val (i + 1)).any (· == k')) (met val (i + 1)).length :=
   SetOf_congr hS2 (fun k' => by rw [met_succ, dd_any]) (by rw [met_succ, dd_len])
  refine wpAny_pure ⟨plainId_quiet F.plain_set_update_loop _, ih (i + 1) _ (by omega) hlt (W.frame _ s' _ _ hst' (Nat.le_succ _) fun b hb o e => ?_) hSi fun s'' hm'' hS'' => ?_⟩
  ·rw [hsb.2 b (fun h : b = S => hSf (by rw [<- h]; exact hb))]; exact e
  ·refine hR s'' (Moved.trans W.gtrans ((hm.mono hsub).then_heap (Nat.le_succ _) fun b o hb e => ?_) hm'') hS''
   rw [hsb.2 b (fun h : b = S => hb (by rw [h]; exact List.mem_cons_self))]; exact e
end
section
variable {prog : Program} {w : World} {A : Around} {E : Value -> Shared -> Prop} {s : Shared}
set_option maxRecDepth 100000 in
set_option maxHeartbeats 3200000 in
theorem call_set_strs {l : Addr} {items : Array Value} {ns : List Str} {Q : Value -> Shared -> Prop}
  (hh : A.handled = none) (hl : s.heap.IsList l items) (hi : StrsAre items.toList ns) (hb : items.size + 1 < scanBound)
  (h : ∀ (h' : Heap) (tk : Nat), h'.SetOf (PySem.strKind prog w) s.heap.objs.size (fun k' => (met (fun i => ns.getD i Str.empty) items.size).any (· == k')) (met (fun i => ns.getD i Str.empty) items.size).length ->
   (∀ b o, b < s.heap.objs.size -> s.heap.get? b = some o -> h'.get? b = some o) -> Q (.ref s.heap.objs.size) { s with heap := h', toks := tk }) :
  wpAny (model prog w) A (call (.type "set") [.ref l]) Q E s := by
 obtain ⟨c, tl, hmro⟩ := F.called_set.mro
 have hmade := F.called_set.made
 have hsub := F.called_set.sub
 refine wpAny_call (codeAny_of_tree ?_)
 show wpAny _ _ (callAny (.type "set") _) _ _ _
 refine wpAny_pure ⟨Code.quiet_builtin _ (by walk_at "k"), codeAny_builtin F.entry_type_call ?_⟩
 rw [Around.under_plain (weight_type_call_type "set" [.ref l] []) rfl]
 have h1 := F.called_set.notType
 have h2 := F.called_set.canCreate
 have hct := F.typeCall_set_1 (.ref l)
 repeat (any_goals (first | assumption | wp_step))
 refine codeAny_mono (code_set_new_1 (.ref l) (E := E) (Q₁ := fun obj s₁ => ∃ led : Bool, obj = .ref s.heap.objs.size /\ s₁ = { s with heap := s.heap.push { cls := .type "set", dict := none, data := .set #[] 0 (.fresh 0 0 led) } }) fun led => ⟨led, rfl, rfl⟩) fun r s₁ hr => ?_
 cases r with
 | error e => exact hr
 | ok fl =>
  cases fl with
  | ret obj =>
   obtain ⟨led, rfl, rfl⟩ := hr
   have hS : (s.heap.push { cls := .type "set", dict := none, data := .set #[] 0 (.fresh 0 0 led) }).get? s.heap.objs.size = some { cls := .type "set", dict := none, data := .set #[] 0 (.fresh 0 0 led) } := Heap.get?_push_size _ rfl
   have hT : Shared.TypeIs { s with heap := s.heap.push { cls := .type "set", dict := none, data := .set #[] 0 (.fresh 0 0 led) } } (.ref s.heap.objs.size) "set" := ⟨_, hS, rfl⟩
   have hli := F.called_set.init.lookup
   have hbi := F.called_set.init.bind (.ref s.heap.objs.size)
   repeat (any_goals (first | assumption | wp_step))
   refine codeAny_mono (codeAny_call_builtin (R := wants (fun r s₂ => r = .none /\ ∃ h' tk, s₂ = { s with heap := h', toks := tk } ∧
     h'.SetOf (PySem.strKind prog w) s.heap.objs.size (fun k' => (met (fun i => ns.getD i Str.empty) items.size).any (· == k')) (met (fun i => ns.getD i Str.empty) items.size).length ∧
     (∀ b o, b < s.heap.objs.size -> s.heap.get? b = some o -> h'.get? b = some o)) E) F.called_set.init.plain F.entry_set_init (check_set_init_1 hT ?_)) fun r₂ s₂ hr₂ => ?_
   ·obtain ⟨ol, hol, hcl, nl, hdl⟩ := hl
    obtain ⟨ocls, odict, odata, oslots⟩ := ol
    simp only at hcl hdl
    subst hcl; subst hdl
    have hol' : (s.heap.push { cls := .type "set", dict := none, data := .set #[] 0 (.fresh 0 0 led) }).get? l = some { cls := .type "list", dict := odict, data := .seq items nl, slots := oslots } := Heap.get?_push_of_some _ hol
    have hsls := F.sub_list_set
    have hslf := F.sub_list_frozenset
    have hne : (Value.type "list" == Value.type "dict") = false := by decide
    have hl1 : (s.heap.push { cls := .type "set", dict := none, data := .set #[] 0 (.fresh 0 0 led) }).IsList l items := ⟨_, hol', rfl, nl, rfl⟩
    unfold Builtin.«set.__init__» noKeywords Builtin.Frozenset.updateFrom
    generalize hPI : pyIter = PI
    wp_walk
    subst hPI
    refine wpAny_pyIter_list hl1 ?_
    refine wpAny_bind (wpAny_runValue ?_)
    have hlS : l < s.heap.objs.size := Heap.lt_size hol
    have hh3 : A.in1.in1.in1.handled = none := by simp [hh]
    have hneI : l ≠ (s.heap.push { cls := .type "set", dict := none, data := .set #[] 0 (.fresh 0 0 led) }).objs.size := by
     rw [Heap.size_push]; exact Nat.ne_of_lt (Nat.lt_succ_of_lt hlS)
    have hSf : s.heap.objs.size ∉ [(s.heap.push { cls := .type "set", dict := none, data := .set #[] 0 (.fresh 0 0 led) }).objs.size, l] := by
     rw [Heap.size_push]; simp only [List.mem_cons, List.mem_singleton, List.not_mem_nil, or_false, not_or]
     exact ⟨Nat.ne_of_lt (Nat.lt_succ_self _), Nat.ne_of_gt hlS⟩
    have hval : ∀ (i : Nat) (v : Value), items[i]? = some v -> ∃ t, v = .str ((fun i => ns.getD i Str.empty) i) t := fun i v hv =>
     strs_at hi i v (by rw [Array.getElem?_toList]; exact hv)
    refine upd_loop ((Walks.list hh3 _ l hneI items).toS) s.heap.objs.size
     hSf (fun i => ns.getD i Str.empty) hval hb (items.size - 0) 0 _ (by omega) (Nat.zero_le _)
     ⟨⟨_, Heap.get?_push_size _ rfl, rfl, rfl⟩, (hl1.push _)⟩ ?hS0 ?hR
    case hS0 =>
     have hget : ((s.heap.push { cls := .type "set", dict := none, data := .set #[] 0 (.fresh 0 0 led) }).push { cls := .type "list_iterator", data := .fields #[.ref l, .int 0 0] }).get? s.heap.objs.size
       = some { cls := .type "set", dict := none, data := .set #[] 0 (.fresh 0 0 led) } := Heap.get?_push_of_some _ hS
     exact SetOf_congr ((setObjOf_fresh (knd := PySem.strKind prog w) led).setOf hget (by unfold scanBound; omega)) (fun _ => rfl) rfl
    case hR =>
     intro s' hm hS'
     obtain ⟨h', g', d', tk', os'⟩ := s'
     have eg : g' = s.gens := hm.gens
     have ed : d' = s.drawn := hm.drawn
     have eo : os' = s.os := hm.os
     subst eg; subst ed; subst eo
     show wpAny _ _ _ _ _ _
     refine wpAny_pure ?_
     show wpAny _ _ (ret Value.none) _ _ _
     refine wpAny_pure ⟨rfl, h', tk', rfl, hS', fun b o hb e => ?_⟩
     have hb1 : b ≠ s.heap.objs.size := Nat.ne_of_lt hb
     have hb2 : b ≠ (s.heap.push { cls := .type "set", dict := none, data := .set #[] 0 (.fresh 0 0 led) }).objs.size := by
      rw [Heap.size_push]; exact Nat.ne_of_lt (Nat.lt_succ_of_lt hb)
     exact hm.heap b o (by simp only [List.mem_cons, List.mem_singleton, List.not_mem_nil, or_false, not_or]; exact ⟨hb1, hb2⟩) (Heap.get?_push_of_some _ (Heap.get?_push_of_some _ e))
   ·cases r₂ with
    | error e => exact hr₂
    | ok fl₂ =>
     cases fl₂ with
     | ret r =>
      obtain ⟨rfl, h', tk, rfl, hS', hk'⟩ := hr₂
      repeat (any_goals (first | assumption | wp_step))
      exact h _ _ hS' hk'
     | _ => exact hr₂.elim
  | _ => exact hr.elim
end
end St
end
section
namespace St
open PySem PySem.Spec PyProof.Rows
end St
namespace L2
open PySem PySem.Spec PyProof.Rows
end L2
end
section
namespace M
open PySem L2
mutual
def D.deep : D -> Nat
 | .int _ => 0
 | .str _ => 0
 | .tup ds => deeps ds + 1
def deeps : List D -> Nat
 | [] => 0
 | d :: ds => max d.deep (deeps ds)
end
theorem deeps_mem : ∀ {ds : List D} {d : D}, d ∈ ds -> d.deep <= deeps ds
 | e :: ds, d, h => by
  show d.deep <= max e.deep (deeps ds)
  rcases List.mem_cons.mp h with rfl | h
  ·omega
  ·have := deeps_mem h
   omega
section
variable {X : Cx} {pins : List (Addr × Obj)} {σ : St} {H : Hp} {s : Shared}
theorem its_at {vs : List V} {its : List Value} (r : Vals vs its) {j : Nat} (h1 : j < its.toArray.size) : ∃ x, vs[j]? = some x /\ RelV x its.toArray[j] := by
 have hl := r.length
 have h : j < its.length := by simpa using h1
 obtain ⟨u, e, q⟩ := r.get (i := j) (x := vs[j]'(by omega)) (List.getElem?_eq_getElem _)
 have g : its.toArray[j] = u := by
  have : its[j]? = some its[j] := List.getElem?_eq_getElem h
  rw [e] at this
  simpa using (Option.some.inj this).symm
 exact ⟨vs[j]'(by omega), List.getElem?_eq_getElem _, by rw [g]; exact q⟩
theorem eq_at (I : Inv X pins σ H s) : ∀ (n : Nat) (d : D) {x y : V} {u v : Value} {A : Around}, d.deep <= n -> RelD H x d -> RelD H y d -> RelV x u -> RelV y v -> A.units + n < cLine -> SeqAt.EqAt A s u v true
 | n, .int i, x, y, u, v, A, _, hx, hy, ru, rv, _ => by
  cases hx
  cases hy
  obtain ⟨t, rfl⟩ := ru
  obtain ⟨t', rfl⟩ := rv
  have := SeqAt.EqAt.int_int (A := A) (s := s) i t i t'
  rw [beq_self_eq_true] at this
  exact this
 | n, .str z, x, y, u, v, A, _, hx, hy, ru, rv, _ => by
  cases hx
  cases hy
  obtain ⟨t, rfl⟩ := ru
  obtain ⟨t', rfl⟩ := rv
  have := SeqAt.EqAt.str_str (A := A) (s := s) z t z t'
  rw [beq_self_eq_true] at this
  exact this
 | 0, .tup ds, x, y, u, v, A, h, _, _, _, _, _ => absurd h (Nat.not_succ_le_zero _)
 | n + 1, .tup ds, x, y, u, v, A, h, hx, hy, ru, rv, hA => by
  obtain ⟨a, vs, rfl, ha, rvs⟩ := hx
  obtain ⟨b, ws, rfl, hb, rws⟩ := hy
  obtain rfl : u = .ref a := ru
  obtain rfl : v = .ref b := rv
  by_cases hab : a = b
  ·subst hab
   exact SeqAt.EqAt.same _
  ·obtain ⟨its, r1, p1, _⟩ := I.tuple (SqT.of (K := X.K) ha)
   obtain ⟨its2, r2, p2, _⟩ := I.tuple (SqT.of (K := X.K) hb)
   have l1 := r1.length
   have l2 := r2.length
   have l3 := rvs.length
   have l4 := rws.length
   have := SeqAt.EqAt.of_refs hab (SeqAt.RcAt.tuples (A := A) (e := fun _ => true) p1 p2 (by omega) fun j h1 h2 => ?_)
   ·have e : ((List.range (min its.toArray.size its2.toArray.size)).all (fun _ => true) && its.toArray.size == its2.toArray.size) = true := by
     rw [show its.toArray.size = its2.toArray.size by simp only [List.size_toArray]; omega]
     simp
    rw [e] at this
    exact this
   ·obtain ⟨x1, e1, q1⟩ := its_at r1 h1
    obtain ⟨x2, e2, q2⟩ := its_at r2 h2
    obtain ⟨d1, f1, g1⟩ := rvs.get e1
    obtain ⟨d2, f2, g2⟩ := rws.get e2
    rw [f1] at f2
    cases f2
    refine eq_at I n d1 ?_ g1 g2 q1 q2 (by show A.units + 1 + n < cLine; omega)
    have := deeps_mem (List.mem_of_getElem? f1)
    have h' : deeps ds + 1 <= n + 1 := h
    omega
end
end M
end
section
namespace M
open PySem L2
def five : List Nat := [113, 120, 122, 118, 119]
def nmA (cs : List Nat) (a : Nat) (b : Int) (k : Nat) : List Nat := cs.take a ++ (97 + ((b + 5 * (k : Int)) % 26).toNat) :: cs.drop a
def nmB (cs : List Nat) (a : Nat) (b : Int) (k : Nat) : List Nat := nmA cs a b (k - k % 2) ++ List.replicate (k % 2) 113
def NmsOk (nms : List Str) : Prop := nms.length = 26 /\ nms.Nodup /\ ∀ z ∈ nms, Name z
theorem nmA_len (cs : List Nat) (a : Nat) (b : Int) (k : Nat) : (nmA cs a b k).length = cs.length + 1 := by
 unfold nmA
 rw [List.length_append, List.length_cons, List.length_take, List.length_drop]
 omega
theorem nmB_len (cs : List Nat) (a : Nat) (b : Int) (k : Nat) : (nmB cs a b k).length = cs.length + 1 + k % 2 := by
 unfold nmB
 rw [List.length_append, nmA_len, List.length_replicate]
theorem nmA_inj {cs : List Nat} {a : Nat} {b : Int} {k j : Nat} (hk : k < 26) (hj : j < 26) (h : nmA cs a b k = nmA cs a b j) : k = j := by
 unfold nmA at h
 have h2 := List.append_cancel_left h
 have h3 := (List.cons.inj h2).1
 omega
theorem nmB_inj {cs : List Nat} {a : Nat} {b : Int} {k j : Nat} (hk : k < 26) (hj : j < 26) (h : nmB cs a b k = nmB cs a b j) : k = j := by
 have hl := congrArg List.length h
 rw [nmB_len, nmB_len] at hl
 have hm : k % 2 = j % 2 := by omega
 unfold nmB at h
 rw [hm] at h
 have h2 := List.append_cancel_right h
 have h3 := nmA_inj (by omega) (by omega) h2
 omega
theorem nodup_map {f : Nat -> Str} (h : ∀ k j, k < 26 -> j < 26 -> f k = f j -> k = j) : ((List.range 26).map f).Nodup := by
 refine List.pairwise_map.mpr (List.Pairwise.imp_of_mem (fun hi hj hlt e => ?_) (List.pairwise_lt_range (n := 26)))
 have := h _ _ (List.mem_range.mp hi) (List.mem_range.mp hj) e
 omega
theorem five_letter : ∀ c ∈ five, isLetter c = true := by decide
theorem letter_of (i : Int) : isLetter (97 + (i % 26).toNat) = true := by
 unfold isLetter
 have h1 : 0 <= i % 26 := Int.emod_nonneg _ (by decide)
 have h2 : i % 26 < 26 := Int.emod_lt_of_pos _ (by decide)
 rw [Bool.and_eq_true, decide_eq_true_eq, decide_eq_true_eq]
 omega
theorem name_of {l : List Nat} (h1 : 1 <= l.length) (h6 : l.length <= 6) (hl : ∀ c ∈ l, isLetter c = true) (h5 : l.length = 1 \/ ∃ c ∈ l, c ∈ five) : Name (ofL l) := by
 show nameL l = true
 unfold nameL
 have ne : ∀ z : List Nat, z.length ≠ 1 -> (∀ c ∈ z, c ∉ five) -> (l != z) = true := fun z hz hc => by
  rw [bne_iff_ne]
  intro e
  subst e
  rcases h5 with h5 | ⟨c, hm, h5⟩
  ·exact hz h5
  ·exact hc c hm h5
 rw [ne [110, 117, 109] (by decide) (by decide), ne [105, 116] (by decide) (by decide), decide_eq_true h1, decide_eq_true h6, List.all_eq_true.mpr hl]
 rfl
theorem mem_nmA {cs : List Nat} {a : Nat} {b : Int} {k c : Nat} : c ∈ nmA cs a b k ↔ c ∈ cs \/ c = 97 + ((b + 5 * (k : Int)) % 26).toNat := by
 unfold nmA
 rw [List.mem_append, List.mem_cons]
 have e : c ∈ cs ↔ c ∈ cs.take a \/ c ∈ cs.drop a := by
  rw [<- List.mem_append, List.take_append_drop]
 rw [e]
 constructor
 ·rintro (h | h | h)
  ·exact .inl (.inl h)
  ·exact .inr h
  ·exact .inl (.inr h)
 ·rintro ((h | h) | h)
  ·exact .inl h
  ·exact .inr (.inr h)
  ·exact .inr (.inl h)
theorem nmA_name {cs : List Nat} {a : Nat} {b : Int} {k : Nat} (hc : cs.length <= 4) (h5 : ∀ c ∈ cs, c ∈ five) : Name (ofL (nmA cs a b k)) := by
 refine name_of (by rw [nmA_len]; omega) (by rw [nmA_len]; omega) (fun c hm => ?_) ?_
 ·rcases mem_nmA.mp hm with h | h
  ·exact five_letter c (h5 c h)
  ·rw [h]; exact letter_of _
 ·cases cs with
  | nil => exact .inl (by rw [nmA_len]; rfl)
  | cons c r => exact .inr ⟨c, mem_nmA.mpr (.inl (by simp)), h5 c (by simp)⟩
theorem nmB_name {cs : List Nat} {a : Nat} {b : Int} {k : Nat} (hc : cs.length <= 4) (h5 : ∀ c ∈ cs, c ∈ five) : Name (ofL (nmB cs a b k)) := by
 refine name_of (by rw [nmB_len]; omega) (by rw [nmB_len]; omega) (fun c hm => ?_) ?_
 ·unfold nmB at hm
  rcases List.mem_append.mp hm with hm | hm
  ·rcases mem_nmA.mp hm with h | h
   ·exact five_letter c (h5 c h)
   ·rw [h]; exact letter_of _
  ·rw [(List.mem_replicate.mp hm).2]; decide
 ·by_cases hk : k % 2 = 0
  ·cases cs with
   | nil => exact .inl (by rw [nmB_len, hk]; rfl)
   | cons c r => exact .inr ⟨c, by unfold nmB; exact List.mem_append_left _ (mem_nmA.mpr (.inl (by simp))), h5 c (by simp)⟩
  ·refine .inr ⟨113, ?_, by decide⟩
   unfold nmB
   exact List.mem_append_right _ (List.mem_replicate.mpr ⟨by omega, rfl⟩)
theorem nmsA {cs : List Nat} {a : Nat} {b : Int} (hc : cs.length <= 4) (h5 : ∀ c ∈ cs, c ∈ five) : NmsOk ((List.range 26).map fun k => ofL (nmA cs a b k)) := by
 refine ⟨by simp, nodup_map fun k j hk hj e => nmA_inj hk hj (congrArg L e), fun z hz => ?_⟩
 obtain ⟨k, _, rfl⟩ := List.mem_map.mp hz
 exact nmA_name hc h5
theorem nmsB {cs : List Nat} {a : Nat} {b : Int} (hc : cs.length <= 4) (h5 : ∀ c ∈ cs, c ∈ five) : NmsOk ((List.range 26).map fun k => ofL (nmB cs a b k)) := by
 refine ⟨by simp, nodup_map fun k j hk hj e => nmB_inj hk hj (congrArg L e), fun z hz => ?_⟩
 obtain ⟨k, _, rfl⟩ := List.mem_map.mp hz
 exact nmB_name hc h5
theorem slice_to (x : Str) {j : Int} (h0 : 0 <= j) (h1 : j <= x.length) : Txt.slice x none (some j) = ofL ((L x).take j.toNat) := by
 have e : Txt.slice x none (some j) = StrLaws.sliceText x none (some j) := rfl
 rw [e, StrLaws.sliceText_to ⟨h0, by rw [show x.cps.toList.length = x.length by simp [Str.length]]; exact h1⟩]
 show ofL ((((L x).drop 0).take (j - 0).toNat)) = _
 rw [List.drop_zero, Int.sub_zero]
theorem slice_from (x : Str) {j : Int} (h0 : 0 <= j) (h1 : j <= x.length) : Txt.slice x (some j) none = ofL ((L x).drop j.toNat) := by
 have e : Txt.slice x (some j) none = StrLaws.sliceText x (some j) none := rfl
 rw [e, StrLaws.sliceText_from ⟨h0, by rw [show x.cps.toList.length = x.length by simp [Str.length]]; exact h1⟩]
 apply L_inj
 show ((L x).drop j.toNat).take _ = (L x).drop j.toNat
 refine List.take_of_length_le ?_
 rw [List.length_drop]
 show (L x).length - j.toNat <= (((L x).length : Int) - j).toNat
 omega
theorem letter_is {i : Int} (h0 : 0 <= i) (h : i < 26) : atI (S "abcdefghijklmnopqrstuvwxyz").cps.toList i = some (97 + i.toNat) := by
 have all : ∀ k, k < 26 -> (S "abcdefghijklmnopqrstuvwxyz").cps.toList[k]? = some (97 + k) := by walk_at "k"
 have ek : i = ((i.toNat : Nat) : Int) := by omega
 have q := xai (all i.toNat (by omega))
 rw [<- ek] at q
 exact q
theorem five_at {i : Int} (h0 : 0 <= i) (h : i < 5) : ∃ c ∈ five, atI (S "qxzvw").cps.toList i = some c := by
 have e : (S "qxzvw").cps.toList = five := by walk_at "k"
 rw [e]
 exact at_codes h0 h
theorem name_text (cs : List Nat) (a ch : Nat) : ofL (cs.take a) ++ (⟨#[ch]⟩ : Str) ++ ofL (cs.drop a) = ofL (cs.take a ++ ch :: cs.drop a) := by
 apply L_inj
 rw [L_append, L_append, L_ofL, L_ofL, L_ofL]
 show cs.take a ++ [ch] ++ cs.drop a = _
 simp
end M
namespace L2
open PySem PySem.Spec PyProof.Rows
theorem op_mulS {X : Cx} : OpR X (binaryOp .Mult) (fun x y H Q => ∃ i n, x = .str i /\ y = .int n /\ (n = 0 \/ n = 1) /\ Q (.str (if n = 1 then i else Str.empty)) H) := by
 intro pins s σ H x y v u Q I rx ry h
 obtain ⟨i, n, rfl, rfl, hn, q⟩ := h
 obtain ⟨t, rfl⟩ := rx
 obtain ⟨t', rfl⟩ := ry
 refine SB.mul ?_ fun t' k => ⟨.str _, H, I.tok k, ⟨t', rfl⟩, ?_⟩
 ·rcases hn with rfl | rfl
  ·exact ⟨by decide, fun h => absurd (by decide) h, fun h => absurd (by decide) h⟩
  ·exact ⟨by decide, fun _ h => by simp at h, fun _ h => by simp at h⟩
 ·have e : Txt.mul i n = if n = 1 then i else Str.empty := by
   rcases hn with rfl | rfl
   ·rfl
   ·unfold Txt.mul
    rw [if_neg (by decide), if_pos (by simp), if_pos rfl]
  rw [e]
  exact q
end L2
end
section
namespace M
open PySem L2
structure KWf (ks : List Kn) : Prop where
 nd : (ks.map Kn.name).Nodup
 nm : ∀ k ∈ ks, Name k.name
 ref : ∀ (i : Nat) (k : Kn), ks[i]? = some k -> ∀ p ∈ k.parts, p.2 = S "num" \/ ∃ j, ∃ k' : Kn, j < i /\ ks[j]? = some k' /\ k'.name = p.2
 alt : ∀ k ∈ ks, k.rc = false -> k.parts ≠ []
 few : ks.length <= 6
 pts : ∀ k ∈ ks, k.parts.length <= 5
 pnd : ∀ k : Kn, k ∈ ks -> (k.parts.map (fun p : Str × Str => p.1)).Nodup
 pnm : ∀ k : Kn, k ∈ ks -> ∀ p ∈ k.parts, Name p.1
theorem name_ne_num {x : Str} (h : Name x) : x ≠ S "num" := fun e => by
 rw [e] at h
 exact absurd (show nameL (S "num").cps.toList = true from h) (by walk_at "k")
theorem KWf.nil : KWf [] := ⟨List.nodup_nil, (fun _ h => nomatch h), (fun i k h => by simp at h), (fun _ h => nomatch h), Nat.zero_le _, (fun _ h => nomatch h), (fun _ h => nomatch h), (fun _ h => nomatch h)⟩
theorem find_nodup {α : Type} {f : α -> Str} : ∀ {xs : List α} {i : Nat} {a : α}, (xs.map f).Nodup -> xs[i]? = some a -> xs.find? (fun z => decide (f z = f a)) = some a
 | x :: xs, 0, a, nd, h => by
  simp at h
  subst h
  rw [List.find?_cons, decide_eq_true rfl]
 | x :: xs, i + 1, a, nd, h => by
  have h' : xs[i]? = some a := by simpa using h
  rw [List.map_cons, List.nodup_cons] at nd
  have hne : f x ≠ f a := fun e => nd.1 (by rw [e]; exact List.mem_map_of_mem (List.mem_of_getElem? h'))
  rw [List.find?_cons, decide_eq_false hne]
  exact find_nodup nd.2 h'
theorem KWf.at {ks : List Kn} (w : KWf ks) {i : Nat} {k : Kn} (h : ks[i]? = some k) : kAt ks k.name = some k := find_nodup (f := Kn.name) w.nd h
theorem KWf.no {ks : List Kn} {x : Str} (h : ∀ k ∈ ks, k.name ≠ x) : kAt ks x = none := by
 unfold kAt
 rw [List.find?_eq_none]
 intro k hk
 simpa using h k hk
theorem KWf.num {ks : List Kn} (w : KWf ks) : kAt ks (S "num") = none := KWf.no fun k hk => name_ne_num (w.nm k hk)
def KIn (ks : List Kn) (n : Nat) (x : Str) : Prop := x = S "num" \/ ∃ j k, j < n /\ ks[j]? = some k /\ k.name = x
theorem KIn.mono {ks : List Kn} {n m : Nat} {x : Str} (h : KIn ks n x) (l : n <= m) : KIn ks m x := by
 rcases h with h | ⟨j, k, hj, h⟩
 ·exact .inl h
 ·exact .inr ⟨j, k, by omega, h⟩
theorem KIn.ap {ks more : List Kn} {n : Nat} {x : Str} (h : KIn ks n x) : KIn (ks ++ more) n x := by
 rcases h with h | ⟨j, k, hj, h1, h2⟩
 ·exact .inl h
 ·exact .inr ⟨j, k, hj, by rw [List.getElem?_append_left (List.getElem?_eq_some_iff.mp h1).1]; exact h1, h2⟩
theorem KIn.of {ks : List Kn} {x : Str} (h : x = S "num" \/ ∃ k ∈ ks, k.name = x) : KIn ks ks.length x := by
 rcases h with h | ⟨k, hk, h⟩
 ·exact .inl h
 ·obtain ⟨j, hj, e⟩ := List.mem_iff_getElem.mp hk
  exact .inr ⟨j, k, hj, by rw [<- e]; exact List.getElem?_eq_getElem hj, h⟩
theorem KWf.snoc {ks : List Kn} (w : KWf ks) {k : Kn} (h1 : k.name ∉ ks.map Kn.name) (h2 : Name k.name) (h3 : ∀ p ∈ k.parts, KIn ks ks.length p.2) (h4 : k.rc = false -> k.parts ≠ []) (h5 : ks.length < 6) (h6 : k.parts.length <= 5)
  (h7 : (k.parts.map (·.1)).Nodup) (h8 : ∀ p ∈ k.parts, Name p.1) : KWf (ks ++ [k]) := by
 have mem : ∀ {q : Kn -> Prop}, (∀ z ∈ ks, q z) -> q k -> ∀ z ∈ ks ++ [k], q z := fun a b z hz => by
  rcases List.mem_append.mp hz with hz | hz
  ·exact a z hz
  ·rw [List.mem_singleton.mp hz]; exact b
 refine ⟨?_, mem w.nm h2, ?_, mem w.alt h4, by rw [List.length_append, List.length_singleton]; omega, mem w.pts h6, mem w.pnd h7, mem w.pnm h8⟩
 ·rw [List.map_append]
  exact nd_snoc w.nd h1
 ·intro i z hz p hp
  by_cases hi : i < ks.length
  ·rw [List.getElem?_append_left hi] at hz
   exact KIn.ap (w.ref i z hz p hp)
  ·rw [List.getElem?_append_right (by omega)] at hz
   have hi0 : i - ks.length = 0 := by
    have := (List.getElem?_eq_some_iff.mp hz).1
    simp at this
    omega
   rw [hi0] at hz
   simp at hz
   subst hz
   exact (h3 p hp).ap.mono (by omega)
def maxD : List Int -> Int
 | [] => 0
 | n :: ns => max n (maxD ns)
theorem maxD_ge : ∀ {ns : List Int} {n : Int}, n ∈ ns -> n <= maxD ns
 | m :: ns, n, h => by
  show n <= max m (maxD ns)
  rcases List.mem_cons.mp h with rfl | h
  ·omega
  ·have := maxD_ge h
   omega
theorem maxD_mem : ∀ {ns : List Int}, ns ≠ [] -> (∀ n ∈ ns, 0 <= n) -> maxD ns ∈ ns
 | [n], _, h => by
  have h0 := h n (by simp)
  show max n 0 ∈ [n]
  rw [Int.max_eq_left h0]
  simp
 | n :: m :: ns, _, h => by
  have ih := maxD_mem (ns := m :: ns) (by simp) fun x hx => h x (List.mem_cons_of_mem _ hx)
  show max n (maxD (m :: ns)) ∈ n :: m :: ns
  rcases Int.le_total n (maxD (m :: ns)) with e | e
  ·rw [Int.max_eq_right e]; exact List.mem_cons_of_mem _ ih
  ·rw [Int.max_eq_left e]; simp
theorem maxD_is {ns : List Int} {m : Int} (hn : ns ≠ []) (h0 : ∀ n ∈ ns, 0 <= n) (hm : m ∈ ns) (h : ∀ n ∈ ns, n <= m) : m = maxD ns := by
 have h1 := maxD_ge hm
 have h2 := h _ (maxD_mem hn h0)
 omega
def szF : Nat -> List Kn -> Str -> Int
 | 0, _, _ => 1
 | n + 1, ks, x => match kAt ks x with
  | none => 1
  | some k => 1 + (if k.rc = true then (k.parts.map fun p => szF n ks p.2).sum else maxD (k.parts.map fun p => szF n ks p.2))
theorem szF_bound {ks : List Kn} (hp : ∀ k ∈ ks, k.parts.length <= 5) : ∀ (n : Nat) (x : Str), 1 <= szF n ks x /\ szF n ks x <= 6 ^ n
 | 0, x => by simp [szF]
 | n + 1, x => by
  unfold szF
  have p1 : (1 : Int) <= 6 ^ n := Int.pow_pos (by decide)
  have e6 : (6 : Int) ^ (n + 1) = 6 * 6 ^ n := by rw [Int.pow_succ, Int.mul_comm]
  cases hk : kAt ks x with
  | none => simp only; omega
  | some k =>
   simp only
   have hk5 := hp k (List.mem_of_find?_eq_some hk)
   have all : ∀ m ∈ k.parts.map (fun p => szF n ks p.2), 1 <= m /\ m <= 6 ^ n := fun m hm => by
    obtain ⟨p, _, rfl⟩ := List.mem_map.mp hm
    exact szF_bound hp n p.2
   have hl : (k.parts.map (fun p => szF n ks p.2)).length <= 5 := by rw [List.length_map]; exact hk5
   generalize k.parts.map (fun p => szF n ks p.2) = ns at all hl ⊢
   have hs : ∀ (l : List Int), (∀ m ∈ l, 1 <= m /\ m <= (6 : Int) ^ n) -> 0 <= l.sum /\ l.sum <= l.length * 6 ^ n := by
    intro l
    induction l with
    | nil => intro _; simp
    | cons a r ih =>
     intro h
     have h1 := h a (by simp)
     have h2 := ih fun m hm => h m (List.mem_cons_of_mem _ hm)
     rw [List.sum_cons, List.length_cons]
     push_cast
     rw [Int.add_mul]
     omega
   have hm : 0 <= maxD ns /\ maxD ns <= 6 ^ n := by
    by_cases he : ns = []
    ·subst he; simp [maxD]; omega
    ·have := all _ (maxD_mem he fun m hm => by have := all m hm; omega)
     omega
   have h1 := hs ns all
   have h2 : (ns.length : Int) * 6 ^ n <= 5 * 6 ^ n := Int.mul_le_mul_of_nonneg_right (by omega) (by omega)
   split <;> omega
def KsSeq (H : Hp) (v : V) (ks : List Kn) : Prop := ∃ a vs, v = .ref a /\ (H a = some (.lst vs) \/ H a = some (.tup vs)) /\ RelDs H vs (ks.map Kn.d)
theorem KsSeq.same {H H' : Hp} {v : V} {ks : List Kn} (h : KsSeq H v ks) (s : Same H H') : KsSeq H' v ks := by
 obtain ⟨a, vs, e, h1, h2⟩ := h
 exact ⟨a, vs, e, h1.imp (s _ _) (s _ _), h2.same s _⟩
theorem KWf.ksAt {ks : List Kn} (w : KWf ks) {H : Hp} {v : V} (h : RelD H v (dKinds ks)) : KsAt H v ks := ⟨h, by have := w.few; omega, fun k hk => by have := w.pts k hk; omega⟩
theorem KsAt.seq {H : Hp} {v : V} {ks : List Kn} (h : KsAt H v ks) : KsSeq H v ks := by
 obtain ⟨a, vs, e, h1, h2⟩ := h.1
 exact ⟨a, vs, e, .inr h1, h2⟩
def sortS : Option Kn -> Str
 | some k => k.sort
 | none => S "num"
end M
namespace L2
open PySem PySem.Spec PyProof.Rows
theorem pi_or {X : Cx} {tg it : Expr} {w1 w2 : TI} (h1 : PI X tg it w1) (h2 : PI X tg it w2) : PI X tg it (fun σ H R => w1 σ H R \/ w2 σ H R) := fun pins s σ H R I h => by
 rcases h with h | h
 ·exact h1 pins s σ H R I h
 ·exact h2 pins s σ H R I h
end L2
namespace L2
theorem yes_go {σ : St} {H : Hp} {A B : Hp -> Prop} (h : A H) : tYes σ H (fun b H3 => if b = true then A H3 else B H3) := by
 unfold tYes
 show if true = true then A H else B H
 rw [if_pos rfl]
 exact h
end L2
namespace M
open PySem L2
theorem Fed.put {f p : Addr} {H H' : Hp} (h : Fed f H H') (hp : H p = none) (hf : p ≠ f) (o : HO) : Fed f H (upd H' p o) := by
 obtain ⟨s, x, y, e⟩ := h
 refine ⟨fun b u hb nb => ?_, x, y, ?_⟩
 ·rw [xar (neN hb hp)]
  exact s b u hb nb
 ·rw [xar (Ne.symm hf)]
  exact e
theorem xau {H : Hp} {p : Addr} {us : List V} (h : H p = some (.lst us)) (o : HO) : ∀ b vs, H b = some (.tup vs) -> upd H p o b = some (.tup vs) := fun b vs hb => by
 rw [xar fun e => by rw [e, h] at hb; cases hb]
 exact hb
theorem names_at {ks : List Kn} {r : Int} (h0 : 0 <= r) (h : r < 1 + (ks.length : Int)) : ∃ x, atI ([V.str (S "num")] ++ (ks.map Kn.name).map V.str) r = some (.str x) /\ KIn ks ks.length x := by
 have e : [V.str (S "num")] ++ (ks.map Kn.name).map V.str = (S "num" :: ks.map Kn.name).map V.str := rfl
 obtain ⟨z, hz, hv⟩ := at_codes (cs := (S "num" :: ks.map Kn.name).map V.str) h0 (by rw [List.length_map, List.length_cons, List.length_map]; push_cast; omega)
 obtain ⟨y, hy, rfl⟩ := List.mem_map.mp hz
 refine ⟨y, by rw [e]; exact hv, ?_⟩
 rcases List.mem_cons.mp hy with rfl | hy
 ·exact .inl rfl
 ·obtain ⟨k, hk, rfl⟩ := List.mem_map.mp hy
  exact KIn.of (.inr ⟨k, hk, rfl⟩)
theorem strs_get {ys : List Str} {i : Nat} (h : i < ys.length) : atI (ys.map V.str) (0 + (i : Int)) = some (.str ys[i]) := by
 rw [Int.zero_add]
 exact xai (by rw [List.getElem?_map, List.getElem?_eq_getElem h]; rfl)
end M
namespace M
open PySem L2
theorem cut812 {nms : List Str} (h : nms.length = 26) : cutV (nms.map V.str) (some 8) (some 12) = ((nms.drop 8).take 4).map V.str := by
 unfold cutV HT.sIx
 rw [List.length_map, h, List.map_take, List.map_drop]
 rfl
theorem part4 {nms : List Str} (h : NmsOk nms) (i : Nat) : (((nms.drop 8).take 4).take i).Nodup /\ ∀ z ∈ ((nms.drop 8).take 4).take i, Name z := by
 have hs : (((nms.drop 8).take 4).take i).Sublist nms := ((List.take_sublist _ _).trans (List.take_sublist _ _)).trans (List.drop_sublist _ _)
 exact ⟨h.2.1.sublist hs, fun z hz => h.2.2 z (hs.subset hz)⟩
theorem not_ahead {nms : List Str} (h : nms.Nodup) {i : Nat} (hi : i < nms.length) : nms[i] ∉ nms.take i := fun hm => by
 obtain ⟨j, hj, e⟩ := List.mem_iff_getElem.mp hm
 rw [List.length_take] at hj
 rw [List.getElem_take] at e
 have := (List.getElem_inj h).mp e
 omega
def KOver (nms : List Str) (ks : List Kn) : Prop := KWf ks /\ ks.length <= 4 /\ ks.map Kn.name = nms.take ks.length /\ ∀ k ∈ ks, k.parts.length <= 4 /\ k.parts.map (·.1) = ((nms.drop 8).take 4).take k.parts.length
end M
end
section
namespace M
open PySem L2
theorem hu2_of {A : Around} {k : Nat} (hr : Room k A) : A.units + 200 < cLine := by
 have := hr.un
 omega
theorem KIn.look {ks : List Kn} (wf : KWf ks) {m : Nat} {x : Str} (h : KIn ks m x) : (x = S "num" /\ kAt ks x = none) \/ ∃ j k, m = j + 1 /\ kAt ks x = some k /\ k.name = x /\ k ∈ ks /\ ∀ p ∈ k.parts, KIn ks j p.2 := by
 rcases h with rfl | ⟨j, k, hj, hk, rfl⟩
 ·exact .inl ⟨rfl, wf.num⟩
 ·refine .inr ⟨m - 1, k, by omega, wf.at hk, rfl, List.mem_of_getElem? hk, fun p hp => ?_⟩
  rcases wf.ref j k hk p hp with z | ⟨i, k2, hi, z⟩
  ·exact .inl z
  ·exact .inr ⟨i, k2, by omega, z⟩
end M
end
section
namespace M
open PySem L2
end M
end
section
namespace L2
open PySem PySem.Spec PyProof.Rows
end L2
end
section
namespace Rv
open PySem PySem.Spec PyProof.Rows PySem.W
end Rv
namespace L2
open PySem PySem.Spec PyProof.Rows
end L2
end
section
namespace St
open PySem PySem.Spec PyProof.Rows
theorem met_nodup {ns : List Str} (nd : ns.Nodup) : ∀ i, i <= ns.length -> met (fun i => ns.getD i Str.empty) i = ns.take i
 | 0, _ => rfl
 | i + 1, h => by
  rw [met_succ, met_nodup nd i (by omega)]
  have e : ns.getD i Str.empty = ns[i] := by simp [List.getD, List.getElem?_eq_getElem (show i < ns.length by omega)]
  show step_dedup (ns.take i) (ns.getD i Str.empty) = _
  rw [e]
  unfold step_dedup
  rw [if_neg, List.take_add_one, List.getElem?_eq_getElem (show i < ns.length by omega)]
  ·rfl
  ·intro hc
   obtain ⟨x, hx, he⟩ := List.any_eq_true.mp hc
   have he' : x = ns[i] := by simpa using he
   subst he'
   obtain ⟨j, hj, hje⟩ := List.getElem_of_mem hx
   rw [List.length_take] at hj
   rw [List.getElem_take] at hje
   have := (List.getElem_inj nd).mp hje
   omega
end St
namespace L2
open PySem PySem.Spec PyProof.Rows
theorem strs_are : ∀ {ns : List Str} {us : List Value}, Vals (ns.map V.str) us -> StrsAre us ns
 | [], _, h => by cases h; exact .nil
 | x :: r, _, h => by
  cases h with
  | cons a b =>
   obtain ⟨t, rfl⟩ := a
   constructor; exact strs_are b
end L2
end
section
namespace M
open PySem L2
theorem szF_eq {ks : List Kn} {k : Kn} {x : Str} (h : kAt ks x = some k) (n : Nat) : szF (n + 1) ks x = 1 + (if k.rc = true then (k.parts.map fun p => szF n ks p.2).sum else maxD (k.parts.map fun p => szF n ks p.2)) := by
 conv => lhs; unfold szF
 rw [h]
theorem szF_num {ks : List Kn} {x : Str} (h : kAt ks x = none) : ∀ n, szF n ks x = 1
  | 0 => rfl
  | n + 1 => by conv => lhs; unfold szF
                rw [h]
theorem szF_deep {ks : List Kn} (w : KWf ks) (j : Nat) : ∀ (x : Str), KIn ks j x -> ∀ n, j + 1 <= n -> szF n ks x = szF (j + 1) ks x := by
 induction j with
 | zero =>
  intro x h n hn
  rcases h.look w with ⟨rfl, e⟩ | ⟨i, k, e0, _⟩
  ·rw [szF_num e, szF_num e]
  ·cases e0
 | succ j ih =>
  intro x h n hn
  rcases h.look w with ⟨rfl, e⟩ | ⟨i, k, e0, e, _, _, hp⟩
  ·rw [szF_num e, szF_num e]
  ·cases e0
   obtain ⟨m, rfl⟩ : ∃ m, n = m + 1 := ⟨n - 1, by omega⟩
   have this : (k.parts.map fun p => szF m ks p.2) = k.parts.map fun p => szF (j + 1) ks p.2 := List.map_congr_left fun p hp' => ih p.2 (hp p hp') m (by omega)
   rw [szF_eq e, szF_eq e, this]
def sz (ks : List Kn) (x : Str) : Int := szF 7 ks x
theorem sz_num {ks : List Kn} (w : KWf ks) : sz ks (S "num") = 1 := szF_num w.num _
theorem sz_ge {ks : List Kn} (w : KWf ks) (x : Str) : 1 <= sz ks x := (szF_bound w.pts 7 x).1
def inSz (k : Kn) (f : Str -> Int) : Int := if k.rc = true then (k.parts.map fun p => f p.2).sum else maxD (k.parts.map fun p => f p.2)
theorem inSz_congr {k : Kn} {f g : Str -> Int} (h : ∀ p ∈ k.parts, f p.2 = g p.2) : inSz k f = inSz k g := by
 unfold inSz
 rw [List.map_congr_left (g := fun p => g p.2) h]
theorem sz_at {ks : List Kn} (w : KWf ks) {i : Nat} {k : Kn} (h : ks[i]? = some k) : sz ks k.name = 1 + inSz k (sz ks) := by
 have hf := w.few
 have hi : i < ks.length := (List.getElem?_eq_some_iff.mp h).1
 show szF 7 ks k.name = _
 rw [szF_eq (w.at h)]
 show 1 + inSz k (szF 6 ks) = _
 rw [inSz_congr (g := sz ks)]
 intro p hp
 have hin : KIn ks 5 p.2 := KIn.mono (n := i) (w.ref i k h p hp) (by omega)
 exact (szF_deep w 5 p.2 hin 7 (by omega)).symm
theorem kAt_ap {ks more : List Kn} {x : Str} {k : Kn} (h : kAt ks x = some k) : kAt (ks ++ more) x = some k := by
 unfold kAt at h ⊢
 rw [List.find?_append, h]
 rfl
theorem szF_ap {ks more : List Kn} (w : KWf ks) (w2 : KWf (ks ++ more)) : ∀ (n : Nat) (x : Str), KIn ks ks.length x -> szF n (ks ++ more) x = szF n ks x
 | 0, _, _ => rfl
 | n + 1, x, h => by
  rcases h.look w with ⟨rfl, e⟩ | ⟨i, k, e0, e, _, _, hp⟩
  ·rw [szF_num e, szF_num w2.num]
  ·rw [szF_eq e, szF_eq (kAt_ap e), List.map_congr_left (g := fun p => szF n ks p.2) fun p hp' => szF_ap w w2 n p.2 ((hp p hp').mono (by omega))]
theorem sz_ap {ks more : List Kn} (w : KWf ks) (w2 : KWf (ks ++ more)) {x : Str} (h : KIn ks ks.length x) : sz (ks ++ more) x = sz ks x := szF_ap w w2 7 x h
def Fit (ks : List Kn) : Prop := ∀ k ∈ ks, sz ks k.name <= 30
theorem Fit.nil : Fit [] := fun _ h => nomatch h
theorem Fit.snoc {ks : List Kn} {k : Kn} (w : KWf ks) (w2 : KWf (ks ++ [k])) (f : Fit ks) (hp : ∀ p ∈ k.parts, KIn ks ks.length p.2) (hb : inSz k (sz ks) <= 29) : Fit (ks ++ [k]) := by
 intro z hz
 rcases List.mem_append.mp hz with hz | hz
 ·rw [sz_ap w w2 (KIn.of (.inr ⟨z, hz, rfl⟩))]
  exact f z hz
 ·rw [List.mem_singleton.mp hz, sz_at w2 (i := ks.length) (by simp), inSz_congr (g := sz ks) fun p hp' => sz_ap w w2 (hp p hp')]
  omega
end M
end
section
namespace M
open PySem L2
end M
end
section
namespace M
open PySem L2
end M
end
section
namespace M
open PySem L2
end M
end
section
namespace Nt
open PySem
end Nt
end
section
namespace L2
open PySem PySem.Spec PyProof.Rows
end L2
end
section
set_option maxHeartbeats 1000000
namespace L2
open PySem PySem.Spec PySem.W PySem.Calls PyProof.Rows
open Builtin Builtin.ObjectAttr
section
variable {prog : Program} {w : World} {A : Around} {E : Value -> Shared -> Prop} {s : Shared} {K : Frag} {x C : Addr} {ox : Obj} {od : Option Obj} {name : Str}
structure XCls (K : Frag) (C : Addr) : Prop where
 ga : findIn K (.ref C) "__getattribute__" = some (some (.builtin "BaseException.__getattribute__"))
 gk : findIn K (.ref C) "__getattr__" = some none
 mb : mroIn K C (.type "BaseException") = some true
 mo : mroIn K C (.type "object") = some true
 hd : hasDictIn K C = true
 ca : findIn K (.ref C) "__class__" = some (some (.builtin "object.__class__"))
 cn : specialIn K (.builtin "object.__class__") "__get__" = some (some (.builtin "getset_descriptor.__get__"))
 ct : takesIn K (.builtin "object.__class__") = some true
theorem exc_by {tk : Tok} {fill expr : Bool} {Q P : Value -> Shared -> Prop} (X : K.In s.heap) (I : InstAt s.heap x ox C od) (c : XCls K C)
  (h : ∀ (A' A'' : Around) (R : Result -> Shared -> Prop), (∀ v s', P v s' -> R (.ok (.ret v)) s') -> wpAny (model prog w) A' (Builtin.«object.__getattribute__» ⟨[.ref x, .str name tk], []⟩)
   (fun fin s' => match fin with | .done f => R (.ok f) s' | .again c' => c'.quiet = true /\ codeAny (model prog w) A'' c' R s') (fun e s' => R (.error e) s') s)
  (hP : ∀ v s', P v s' -> wpAny (model prog w) A (handedOut v) Q E s') :
  wpAny (model prog w) A (getAttrBy (.ref x) (.str name tk) fill expr) Q E s := by
 obtain ⟨hh, g, d, t, os⟩ := s
 have L0 := I.type (M := model prog w)
 have L1 := looks_findIn (M := model prog w) X c.ga
 have L2 := looks_findIn (M := model prog w) X c.gk
 have L3 := looks_mroIn (M := model prog w) X c.mb
 have hx2 : (Value.builtin "BaseException.__getattribute__" == Value.builtin "object.__getattribute__") = false := by walk_at "k"
 have hx1 : (onTheHeap (Value.ref C) && Value.builtin "BaseException.__getattribute__" == Value.builtin "object.__getattribute__") = false := by rw [hx2]; rfl
 have hx0 : (expr && onTheHeap (Value.builtin "BaseException.__getattribute__")) = false := by cases expr <;> rfl
 unfold getAttrBy
 refine wpAny_holding (wpAny_bind (L0.at (wpAny_bind (L1.at ?_))))
 dsimp only
 rw [if_neg (by rw [hx1]; decide)]
 have FB := PySem.F.attrBase_ValueError
 have hk : builtinKind "BaseException.__getattribute__" = some .slot := by walk_at "k"
 have hsplit : splitId "BaseException.__getattribute__" = some ("BaseException", "__getattribute__") := by walk_at "k"
 unfold getAttrByItsOwn
 refine wpAny_bind ?_
 unfold hookBefore
 rw [if_pos (show onTheHeap (Value.ref C) = true from rfl)]
 refine L2.at ?_
 refine wpAny_bind (wpAny_attempt (wpAny_holding ?_))
 unfold callGetattribute
 rw [if_neg (by rw [hx0]; decide)]
 unfold boundAndCalled
 rw [FB.ga.bind (.ref x)]
 refine wpAny_bind (wpAny_pure ?_)
 refine wpAny_call (codeAny_mono (R := fun r s' => ∃ v, r = .ok (.ret v) /\ P v s') (codeAny_call_builtin FB.ga.plain PySem.F.entry_bexc_ga ?_) fun r s' ⟨v, e, p⟩ => ?_)
 ·show wpAny _ _ (checkBuiltinCall "BaseException.__getattribute__" ⟨[.ref x, .str name tk], []⟩) _ _ _
  have ha : argsOk "BaseException.__getattribute__" ⟨[.ref x, .str name tk], []⟩ := PySem.F.args_bexc_ga (.ref x) (.str name tk)
  have hI : Looks (model prog w) hh (isInstance (.ref x) (.type "BaseException")) true := L0.andThen L3
  refine check_slot (i := "BaseException.__getattribute__") (owner := "BaseException") (n := "__getattribute__") (self := .ref x) (rest := [.str name tk]) (kw := []) hk hsplit hI ha ?_
  exact h _ _ (fun r s' => ∃ v, r = .ok (.ret v) /\ P v s') fun v s' p => ⟨v, rfl, p⟩
 ·subst e
  exact hP v s' p
theorem exc_class {Q : Option Value -> Shared -> Prop} (X : K.In s.heap) (I : InstAt s.heap x ox C od) (c : XCls K C) (h : Q (some (.ref C)) { s with toks := s.toks + 1 }) :
  wpAny (model prog w) A (getAttr? (.ref x) "__class__") Q E s := by
 have hf : findObj K C od "__class__" = some (.bind (.builtin "getset_descriptor.__get__") (.builtin "object.__class__")) := by
  obtain ⟨cd, hc, _⟩ := any_some c.hd
  unfold findObj
  rw [hc, Option.bind_some, c.ca, Option.bind_some]
  dsimp only
  rw [c.cn, Option.bind_some]
  dsimp only
  rw [c.ct, Option.bind_some]
 unfold getAttr?
 refine wpAny_bind (wpAny_mkText ?_)
 unfold getAttrBy?
 refine wpAny_bind (wpAny_attempt ?_)
 refine exc_by (s := { s with toks := s.toks + 1 }) (P := fun v' s' => v' = .ref C /\ s' = { s with toks := s.toks + 1 }) X I c (fun A' A'' R hR => ?_) fun v' s' ⟨e1, e2⟩ => ?_
 ·obtain ⟨h0, g, d, t, os⟩ := s
  have L0 := I.type (M := model prog w)
  have L1 := looks_find (M := model prog w) X I hf
  unfold Builtin.«object.__getattribute__»
  refine wpAny_bind (wpAny_pure ?_)
  refine wpAny_bind (wpAny_pure (wpAny_bind (L0.at (wpAny_bind (L1.at ?_)))))
  show wpAny _ _ (bindTo (Value.builtin "getset_descriptor.__get__") (Value.builtin "object.__class__") (.ref x) (.ref C)) _ _ _
  unfold bindTo
  dsimp only
  exact wpAny_bind (wpAny_holding (wpAny_call (class_get (s := ⟨h0, g, d, t + 1, os⟩) (ox := ox) (od := od) X I c.mo (wpAny_pure (hR _ _ ⟨rfl, rfl⟩)))))
 ·subst e1 e2
  exact wpAny_pure (wpAny_pure h)
theorem kitx_exc (c : XCls K C) : KitX K (.ref x) (.ref C) (fun h => ∃ ox od, InstAt h x ox C od) where
 ty := fun _ _ _ ⟨_, _, I⟩ => I.type
 it := fun _ _ X _ => by
  obtain ⟨cdD, hcD, _⟩ := any_some c.hd
  unfold clsIn at hcD
  split at hcD
  ·rename_i c' d' cd' sl' ho
   intro A' Q' E' s' k q
   unfold isType loadHead
   exact wpAny_bind (wpAny_loadPart (k _ _ (X _ _ ho)) (wpAny_pure q))
  ·cases hcD
 ne := fun h tp dd its n sl X htp => by
  obtain ⟨cdD, hcD, _⟩ := any_some c.hd
  refine Bool.eq_false_iff.mpr fun q => ?_
  have e : C = tp := Value.ref.inj (beq_iff_eq.mp q)
  subst e
  unfold clsIn at hcD
  split at hcD
  ·rename_i c' d' cd' sl' ho
   have z := (X _ _ ho).symm.trans htp
   cases z
  ·cases hcD
 ca := fun X ⟨_, _, I⟩ k => exc_class X I c k
end
section
variable {prog : Program} {w : World} {A : Around} {E : Value -> Shared -> Prop} {h : Heap} {g : Array GenState} {d : Drawn} {t : Nat} {os : OsState}
variable {nm q : Str} {C N : Addr} {bs bm bmB : List Value} {hdct : Bool} {sn : List Str} {sub : List Value} {ab : Bool} {col : Option Bool} {dd : Option Addr} {k0 k1 k2 k3 k5 : Option Value} {B newId initId : String}
abbrev newExc (C t : Addr) (dx : Option Addr) : Obj := { cls := .ref C, dict := dx, data := .fields #[.ref t, .none, .none, .none, .bool false, .none] }
abbrev newArgs (rest : List Value) : Obj := { cls := .type "tuple", data := .seq rest.toArray }
theorem exc_type_call (F : ExcBaseFacts B newId initId bmB) (T : OwnTail h bmB bm) {rest : List Value} {init : Value} {Q : Fin -> Shared -> Prop}
  (hC : h.get? C = some (excClassObj nm q C N bs bm hdct sn sub ab col dd k0 k1 k2 k3 k5 newId)) (hi : Looks (model prog w) h (typeLookup (.ref C) "__init__") (some init))
  (hb : ∀ self, Looks (model prog w) h (bindSpecial init self) (init, [self]))
  (hq : wpAny (model prog w) A (call init (.ref (h.objs.size + 1) :: rest)) (fun r s' => r = .none /\ Q (.done (.ret (.ref (h.objs.size + 1)))) s') E ⟨(h.push (newArgs rest)).push (newExc C h.objs.size none), g, d, t, os⟩) (hrest : rest.length <= sizeLine) :
  wpAny (model prog w) A (Builtin.«type.__call__» ⟨.ref C :: rest, []⟩) Q E ⟨h, g, d, t, os⟩ := by
 repeat (first | with_reducible refine wpAny_loadPart_at hC ?_ | with_reducible refine wpAny_madeBy_exc hC ?_ | wp_step)
 refine codeAny_call_builtin_code (Code.quiet_builtin _ F.quiet) (wpAny_check_new_subT F T hC ?_)
 refine codeAny_exc_new_subT F T hC ?_ hrest
 show wpAny _ _ _ _ _ _
 have up : ∀ b o, h.get? b = some o -> ((h.push (newArgs rest)).push (newExc C h.objs.size none)).get? b = some o := fun b o e => Heap.get?_push_of_some _ (Heap.get?_push_of_some _ e)
 have hC₁ := up _ _ hC
 have hget : ((h.push (newArgs rest)).push (newExc C h.objs.size none)).get? (h.objs.size + 1) = some (newExc C h.objs.size none) := by heap_get
 have hcC : (Value.ref C :: bm).contains (.ref C) = true := by simp
 unfold isInstance
 repeat (first | with_reducible refine wpAny_loadPart_at hget ?_ | (with_reducible refine wpAny_isSubtype_exc hC₁ ?_; rw [hcC]) | wp_step)
 show wpAny _ _ (typeLookup (.ref C) _) _ _ _
 refine hi _ _ _ _ up ?_
 refine wpAny_holding (wpAny_bind (hb _ _ _ _ _ up ?_))
 refine wpAny_bind (wpAny_mono hq (fun r s' hr => ?_) fun _ _ x => x)
 obtain ⟨rfl, hQ⟩ := hr
 wp_walk
 exact hQ
theorem exc_call (F : ExcBaseFacts B newId initId bmB) (T : OwnTail h bmB bm) {rest : List Value} {init : Value} {Q : Value -> Shared -> Prop}
  (hC : h.get? C = some (excClassObj nm q C N bs bm hdct sn sub ab col dd k0 k1 k2 k3 k5 newId)) (hi : Looks (model prog w) h (typeLookup (.ref C) "__init__") (some init))
  (hb : ∀ self, Looks (model prog w) h (bindSpecial init self) (init, [self]))
  (hq : wpAny (model prog w) (A.under (.builtin "type.__call__" ⟨.ref C :: rest, []⟩)) (call init (.ref (h.objs.size + 1) :: rest)) (fun r s' => r = .none /\ Q (.ref (h.objs.size + 1)) s') E
   ⟨(h.push (newArgs rest)).push (newExc C h.objs.size none), g, d, t, os⟩) (hrest : rest.length <= sizeLine) :
  wpAny (model prog w) A (call (.ref C) rest) Q E ⟨h, g, d, t, os⟩ := by
 have f1 := tc_lookup
 have f2 := tc_bind (.ref C)
 have hT : (⟨h, g, d, t, os⟩ : Shared).TypeIs (.ref C) "type" := ⟨_, hC, rfl⟩
 refine wpAny_call (codeAny_of_tree ?_)
 show wpAny _ _ (callAny (.ref C) _) _ _ _
 repeat (any_goals (first | assumption | with_reducible refine wpAny_loadPart_at hC ?_ | wp_step))
 refine ⟨rfl, ?_⟩
 refine codeAny_call_builtin_at (Code.quiet_builtin _ (by walk_at "k")) entry_typeCall (wpAny_check_type_call_sub hC (exc_type_call F T hC hi hb ?_ hrest))
 exact wpAny_mono hq (fun r s' z => z) fun _ _ z => z
theorem exc_init (F : ExcBaseFacts B newId initId bmB) (T : OwnTail h bmB bm) {e t0 : Addr} {rest : List Value} {Q : Value -> Shared -> Prop}
  (hC : h.get? C = some (excClassObj nm q C N bs bm hdct sn sub ab col dd k0 k1 k2 k3 k5 newId)) (he : h.get? e = some (newExc C t0 none))
  (hq : ∀ h', (∀ b o, b ≠ e -> h.get? b = some o -> h'.get? b = some o) -> h'.get? e = some (newExc C h.objs.size none) -> Q .none ⟨h', g, d, t, os⟩) (hrest : rest.length <= sizeLine) :
  wpAny (model prog w) A (call (.builtin initId) (.ref e :: rest)) Q E ⟨h, g, d, t, os⟩ := by
 refine wpAny_call (codeAny_call_builtin F.init.plain F.initEntry (wpAny_check_init_subT F T hC he rfl ?_))
 wp_walk
 show Q .none _
 refine hq _ (fun b o hb e0 => ?_) ?_
 ·rw [Heap.get?_update_other _ _ (Ne.symm hb)]
  exact Heap.get?_push_of_some _ e0
 ·exact Heap.get?_update_self _ (Heap.get?_push_of_some _ he) rfl
end
end L2
end
section
set_option maxHeartbeats 1000000
namespace L2
open PySem PySem.Spec PySem.W PySem.Calls PyProof.Rows
open Builtin Builtin.ObjectAttr
def xIn (K : Frag) (C : Addr) (bmB : List Value) (newId : String) : Bool := match K.lookup C with
 | some ⟨.type "type", _, .cls cd, sl⟩ => (match cd.mro, sl.toList with
  | .ref C' :: bm, [_, _, _, _, some (.builtin n), _] => C' == C && n == newId && !cd.hasDel && cd.hasDict && tailIn K bmB bm
  | _, _ => false)
 | _ => false
def XObj (h : Heap) (C : Addr) (bmB : List Value) (newId : String) : Prop :=
 ∃ nm q N bs bm sn sub ab col dd k0 k1 k2 k3 k5, h.get? C = some (excClassObj nm q C N bs bm true sn sub ab col dd k0 k1 k2 k3 k5 newId) /\ OwnTail h bmB bm
theorem x_of_in {K : Frag} {h : Heap} {C : Addr} {bmB : List Value} {newId : String} (X : K.In h) (e : xIn K C bmB newId = true) : XObj h C bmB newId := by
 unfold xIn at e
 split at e
 ·rename_i dd cd sl ho
  split at e
  ·rename_i C' bm k0 k1 k2 k3 n k5 hm hs
   simp only [Bool.and_eq_true, beq_iff_eq, Bool.not_eq_true'] at e
   obtain ⟨⟨⟨⟨rfl, rfl⟩, hdel⟩, hd⟩, ht⟩ := e
   obtain ⟨nm, bs, mro, ns, qn, hdct, sn, sub, ab, col, del⟩ := cd
   dsimp only at hm hdel hd
   subst hm hdel hd
   obtain ⟨sl⟩ := sl
   dsimp only at hs
   subst hs
   exact ⟨nm, qn, ns, bs, bm, sn, sub, ab, col, dd, k0, k1, k2, k3, k5, X _ _ ho, tail_of_in X ht⟩
  ·cases e
 ·cases e
end L2
end
section
set_option maxHeartbeats 1000000
namespace L2
open PySem PySem.Spec PyProof.Rows
def excO (e C : Addr) (d : Option Addr) : HO := .ext fun h => ∃ t : Addr, h.get? e = some (newExc C t d)
abbrev bmV : List Value := [.type "ValueError", .type "Exception", .type "BaseException", .type "object"]
structure XCl (K : PySem.W.Frag) (C : Addr) : Prop where
 cls : XCls K C
 obj : xIn K C bmV "ValueError.__new__" = true
 kp : PySem.W.keepIn K (.ref C) = true
 sa : PySem.W.findIn K (.ref C) "__setattr__" = some (some (.builtin "object.__setattr__"))
theorem ObjOk.exc {P : Program} {w : World} {H : Hp} {h : Heap} {e C t : Addr} {d : Option Addr} (he : h.get? e = some (newExc C t d)) : ObjOk P w H h e (excO e C d) :=
 ⟨⟨t, he⟩, ⟨_, he⟩, fun h1 h2 ⟨t', a⟩ k => ⟨t', k _ a⟩⟩
theorem HOk.exc {P : Program} {w : World} {H : Hp} {h : Heap} {e C : Addr} {d : Option Addr} (x : HOk P w H h) (q : H e = some (excO e C d)) : ∃ t, h.get? e = some (newExc C t d) :=
 (show ObjOk P w H h e (excO e C d) from x e _ q).1
section
variable {X : Cx} {pins : List (Addr × Obj)} {σ : St} {H : Hp} {s : Shared} {C : Addr} {Q : VK} {us : List Value} {vs : List V} {CX : CXT} {k : Nat} {f : Addr} {fd : FuncData} {ps : List Str} {sp : Sp} {E : XK}
theorem get_new {h : Heap} {rest : List Value} {C : Addr} : ((h.push (newArgs rest)).push (newExc C h.objs.size none)).get? (h.objs.size + 1) = some (newExc C h.objs.size none) := by heap_get
theorem run_exc (M : XCl X.K C) (hi : PySem.W.findIn X.K (.ref C) "__init__" = some (some (.builtin "ValueError.__init__"))) (I : Inv X pins σ H s) (r : Vals vs us) (hl : vs.length <= sizeLine)
  (h : ∀ e, H e = none -> Q (.ref e) (upd H e (excO e C none))) : wpAny (model X.prog X.w) X.A (call (.ref C) us) (EP X pins σ Q) X.xe s := by
 have hl' : us.length <= sizeLine := by rw [<- r.length]; exact hl
 have kin := I.kIn
 obtain ⟨nm, qn, N, bs, bm, sn, sub, ab, col, dd, k0, k1, k2, k3, k5, hC, T⟩ := x_of_in kin M.obj
 have hq := h (s.heap.objs.size + 1) (I.hok.fresh (Nat.le_succ _))
 obtain ⟨hh, g, d, t, os⟩ := s
 have up : ∀ b o, hh.get? b = some o -> ((hh.push (newArgs us)).push (L2.newExc C hh.objs.size none)).get? b = some o := fun b o e => Heap.get?_push_of_some _ (Heap.get?_push_of_some _ e)
 refine exc_call PySem.F.excBase_ValueError T hC (PySem.W.looks_findIn kin hi) (fun self => PySem.W.Looks.of_pure (PySem.F.excBase_ValueError.init.bind self)) ?_ hl'
 refine exc_init PySem.F.excBase_ValueError (T.keeps up) (up _ _ hC) get_new (fun h' kk e' => ⟨rfl, ?_⟩) hl'
 exact ⟨.ref (hh.objs.size + 1), _, I.laid (t' := t) (fun b u e => kk b u (fun z => by have z1 : b < hh.objs.size := Heap.lt_size e; exact absurd z1 (by rw [show b = hh.objs.size + 1 from z]; exact Nat.not_lt.mpr (Nat.le_succ _))) (up b u e)) (Nat.le_succ _) (ObjOk.exc e'), rfl, hq⟩
variable {x : Str} {p pos : Pos} {e : Expr} {es : List Expr} {t : TA}
def tExc (C : Addr) (t : TA) : TE := fun σ H Q => t σ H fun vs H1 => vs.length <= sizeLine /\ ∀ e, H1 e = none -> Q (.ref e) (upd H1 e (excO e C none))
theorem pe_exc (M : XCl X.K C) (hi : PySem.W.findIn X.K (.ref C) "__init__" = some (some (.builtin "ValueError.__init__"))) (hg : Gl X x) (hm : X.mg x = some (.ref C)) (ha : PA X (e :: es) t)
  (hdb : (x == ("__debug__" : Str)) = false := by decide) (he : starEach (e :: es) X.env = (false, eval e X.env) :: starEach es X.env := by rfl) (hpl : (backTo pos (starEach es X.env)).any (·.1) = false := by rfl) :
  PE X (.Call (.Name x p) (e :: es) [] pos) (tExc C t) := by
 intro pins s σ H Q I h
 refine wpAny_Call_Name_kw (ld_glob I hg hm ?_ hdb)
 refine PySem.W.callWith_K (h₀ := X.base) I.ok.mod.kin M.kp (thn (ha pos pins s σ H _ I h) fun us s1 ⟨vs, H1, I1, r, q⟩ => ⟨I1.kIn, ?_⟩) he hpl
 exact run_exc M hi I1 r q.1 q.2
structure XSup (K : PySem.W.Frag) (C : Addr) : Prop where
 reads : PySem.W.readsIn K C (.type "type") = true
 ga : PySem.W.specialIn K (.ref C) "__getattribute__" = some (some (.builtin "type.__getattribute__"))
 init : PySem.W.findCls K (.ref C) (.type "type") "__init__" = some (.val (.builtin "ValueError.__init__"))
variable {o value : Expr} {fl : Str} {pos' : Pos} {ta tv : TE}
end
end L2
end
section
set_option maxHeartbeats 1000000
namespace L2
open PySem PySem.Spec PyProof.Rows
end L2
end
section
set_option maxHeartbeats 1000000
namespace L2
open PySem PySem.Spec PyProof.Rows
section
variable {X : Cx}
def rNeL (K : PySem.W.Frag) : R2 := fun x y H Q => ∃ a b xs ys, x = .ref a /\ y = .ref b /\ SqL K H a xs /\ SqL K H b ys /\ xs.all flatV = true /\ ys.all flatV = true /\ Q (.bl (!eqVs xs ys)) H
theorem op_neL (hu : X.A.units < cLine) : OpR X (compareOp .NotEq) (rNeL X.K) := by
 intro pins s σ H x y v u Q I rx ry h
 obtain ⟨a, b, xs, ys, rfl, rfl, ha, hb, fa, fb, q⟩ := h
 cases rx
 cases ry
 obtain ⟨its, r1, p1, _⟩ := I.list ha
 obtain ⟨its2, r2, p2, _⟩ := I.list hb
 have l1 := r1.length
 have l2 := r2.length
 by_cases hl : xs.length = ys.length
 ·refine PySem.EqBoolInt.of_rcne (SeqAt.RcNeAt.lists (e := fun i => eqV (xs.getD i .non) (ys.getD i .non)) p1.isList p2.isList (by simp only [List.size_toArray]; omega) hu fun j h1 h2 => ?_) ⟨.bl _, H, I, rfl, ?_⟩
  ·have j1 : j < xs.length := by simp only [List.size_toArray] at h1; omega
   have j2 : j < ys.length := by simp only [List.size_toArray] at h2; omega
   obtain ⟨u1, e1, q1⟩ := r1.get (i := j) (x := xs[j]) (List.getElem?_eq_getElem j1)
   obtain ⟨u2, e2, q2⟩ := r2.get (i := j) (x := ys[j]) (List.getElem?_eq_getElem j2)
   have g1 : its.toArray[j] = u1 := by
    have : its[j]? = some its[j] := List.getElem?_eq_getElem (by omega)
    rw [e1] at this
    simpa using (Option.some.inj this).symm
   have g2 : its2.toArray[j] = u2 := by
    have : its2[j]? = some its2[j] := List.getElem?_eq_getElem (by omega)
    rw [e2] at this
    simpa using (Option.some.inj this).symm
   rw [g1, g2, List.getD_eq_getElem?_getD, List.getD_eq_getElem?_getD, List.getElem?_eq_getElem j1, List.getElem?_eq_getElem j2]
   exact eqAt_V q1 q2 (List.all_eq_true.mp fa _ (List.getElem_mem j1)) (List.all_eq_true.mp fb _ (List.getElem_mem j2))
  ·rw [List.size_toArray, <- l1, eqVs_range hl]
   exact q
 ·refine PySem.EqBoolInt.of_rcne (SeqAt.RcNeAt.lists_lengths p1.isList p2.isList (by simp only [List.size_toArray]; simp; omega) hu) ⟨.bl _, H, I, rfl, ?_⟩
  rw [eqVs_len hl] at q
  exact q
end
open PySem.W in
def ad (K : Frag) (x : Str) : Addr := match nsIn K mainGlobals x with | some (some (.ref C)) => C | _ => 0
theorem ad_of {K : PySem.W.Frag} {x : Str} {C : Addr} (e : PySem.W.nsIn K mainGlobals x = some (some (.ref C))) : ad K x = C := by unfold ad; rw [e]
def names11 : List Str := ["BadText", "Twice", "NoName", "NoCount", "WrongKind", "Lacks", "NotOwn", "Falls", "TooBig", "NoFit", "NoCode"]
def cAt (K : PySem.W.Frag) (i : Nat) : Addr := ad K (names11.getD i "")
open PySem.W in
def xclIn (K : Frag) (C : Addr) : Bool :=
 findIn K (.ref C) "__getattribute__" == some (some (.builtin "BaseException.__getattribute__")) && (findIn K (.ref C) "__getattr__" == some none && (mroIn K C (.type "BaseException") == some true && (mroIn K C (.type "object") == some true &&
 (hasDictIn K C && (findIn K (.ref C) "__class__" == some (some (.builtin "object.__class__")) && (specialIn K (.builtin "object.__class__") "__get__" == some (some (.builtin "getset_descriptor.__get__")) && (takesIn K (.builtin "object.__class__") == some true &&
 (xIn K C bmV "ValueError.__new__" && (keepIn K (.ref C) && findIn K (.ref C) "__setattr__" == some (some (.builtin "object.__setattr__")))))))))))
theorem xcl_of {K : PySem.W.Frag} {C : Addr} (e : xclIn K C = true) : XCl K C := by
 unfold xclIn at e
 simp only [Bool.and_eq_true, beq_iff_eq] at e
 obtain ⟨e1, e2, e3, e4, e5, e6, e7, e8, e9, e10, e11⟩ := e
 exact ⟨⟨e1, e2, e3, e4, e5, e6, e7, e8⟩, e9, e10, e11⟩
open PySem.W in
def xTable (K : Frag) : Bool :=
 (List.range 11).all (fun i => xclIn K (cAt K i)) && ((List.range 11).all (fun i => i == 0 || findIn K (.ref (cAt K i)) "__init__" == some (some (.builtin "ValueError.__init__"))) &&
 ((List.range 11).all (fun i => (List.range 11).all fun j => kitOne K (.ref (cAt K i)) (.ref (cAt K j)) == some (decide (i = j))) &&
 ((List.range 11).all (fun i => kitOne K (.ref (cAt K i)) (.ref (ad K "SwapError")) == some true && kitOne K (.ref (cAt K i)) (.type "ValueError") == some true) &&
 (readsIn K (ad K "SwapError") (.type "type") && (specialIn K (.ref (ad K "SwapError")) "__getattribute__" == some (some (.builtin "type.__getattribute__")) &&
 ((match findCls K (.ref (ad K "SwapError")) (.type "type") "__init__" with | some (.val v) => v == .builtin "ValueError.__init__" | _ => false) &&
 (findIn K (.ref (cAt K 0)) "at" == some none)))))))
structure XTab (K : PySem.W.Frag) : Prop where
 cl : ∀ i, i < 11 -> XCl K (cAt K i)
 ini : ∀ i, i < 11 -> i ≠ 0 -> PySem.W.findIn K (.ref (cAt K i)) "__init__" = some (some (.builtin "ValueError.__init__"))
 kit : ∀ i j, i < 11 -> j < 11 -> PySem.W.kitOne K (.ref (cAt K i)) (.ref (cAt K j)) = some (decide (i = j))
 kS : ∀ i, i < 11 -> PySem.W.kitOne K (.ref (cAt K i)) (.ref (ad K "SwapError")) = some true
 kV : ∀ i, i < 11 -> PySem.W.kitOne K (.ref (cAt K i)) (.type "ValueError") = some true
 sup : XSup K (ad K "SwapError")
 na : NoAttr K (cAt K 0) "at"
theorem xtab_of {K : PySem.W.Frag} (e : xTable K = true) : XTab K := by
 unfold xTable at e
 simp only [Bool.and_eq_true, List.all_eq_true, List.mem_range, beq_iff_eq, Bool.or_eq_true] at e
 obtain ⟨e1, e2, e3, e4, e5, e6, e7, e9⟩ := e
 refine ⟨fun i h => xcl_of (e1 i h), fun i h n => (e2 i h).resolve_left n, fun i j h h' => e3 i h j h', fun i h => (e4 i h).1, fun i h => (e4 i h).2, ⟨e5, e6, ?_⟩, e9⟩
 split at e7
 ·rename_i v q
  rw [q, beq_iff_eq.mp e7]
 ·cases e7
def clsDef (s : Stmt) (j : Nat) : Stmt := match s with
 | .ClassDef _ _ _ b _ _ _ _ _ _ _ => b.getD j (.Pass ⟨0, 0, 0, 0⟩)
 | _ => .Pass ⟨0, 0, 0, 0⟩
structure InitTx (K : PySem.W.Frag) (q : Str) (C : Addr) (st : Stmt) (ps : List Str) : Prop where
 ex : ∃ (f : Addr) (fd : FuncData), PySem.W.findIn K (.ref C) "__init__" = some (some (.ref f)) /\ PySem.W.isFn K (.ref f) = true /\ Fun K "__init__" q st f fd /\ ∀ us : List Value, us.length = ps.length -> bindArgs fd ⟨us, []⟩ = pure (ps.zip us)
theorem init_mk {K : PySem.W.Frag} {x q : Str} {C f : Addr} {st : Stmt} {ps : List Str} {oc : Value} {od an : Option Addr} {osl : Array (Option Value)} {kV doc pm cdv ct : Value} (a : PySem.W.nsIn K mainGlobals x = some (some (.ref C)))
  (i : PySem.W.findIn K (.ref C) "__init__" = some (some (.ref f))) (n : PySem.W.isFn K (.ref f) = true)
  (l : K.lookup f = some ⟨oc, od, .func (PySem.W.fnOf "__init__" q (defArgs st) (defBody st) (xab st) .none kV doc pm an cdv ct), osl⟩) (c : PySem.W.codeIn K cdv q = true) (k : PySem.W.keepIn K (.ref f) = true)
  (b : ∀ (kV doc pm : Value) (an : Option Addr) (cdv ct : Value) (us : List Value), us.length = ps.length -> bindArgs (PySem.W.fnOf "__init__" q (defArgs st) (defBody st) (xab st) .none kV doc pm an cdv ct) ⟨us, []⟩ = pure (ps.zip us)) : InitTx K q (ad K x) st ps := by
 rw [ad_of a]
 exact ⟨f, _, i, n, fun_mk (st := st) l c k, b kV doc pm an cdv ct⟩
end L2
end
section
namespace L2
open PySem PySem.Spec PyProof.Rows M
section
variable {X : Cx}
def rCatT0 (K : PySem.W.Frag) : R2 := fun x y H Q => ∃ a b xs ys, x = .ref a /\ y = .ref b /\ SqT K H a xs /\ SqT K H b ys /\ xs.length + ys.length <= sizeLine ∧
 (xs = [] -> Q (.ref b) H) /\ (xs ≠ [] -> ys = [] -> Q (.ref a) H) /\ (xs ≠ [] -> ys ≠ [] -> ∀ p, H p = none -> Q (.ref p) (upd H p (.tup (xs ++ ys))))
theorem op_catT0 : OpR X (binaryOp .Add) (rCatT0 X.K) := by
 intro pins s σ H x y v u Q I rx ry h
 obtain ⟨a, b, xs, ys, rfl, rfl, ha, hb, hz, q0, q1, q2⟩ := h
 by_cases hx : xs = []
 ·cases rx
  cases ry
  obtain ⟨its, r1, p1, _⟩ := I.tuple ha
  obtain ⟨its2, r2, p2, _⟩ := I.tuple hb
  obtain ⟨⟨cls, dd, data, sl⟩, ho, hc, n, hd⟩ := id p1
  obtain ⟨⟨cls2, dd2, data2, sl2⟩, ho2, hc2, n2, hd2⟩ := id p2
  simp only at hc hd hc2 hd2
  subst hc hd hc2 hd2
  exact concat_meets ⟨_, ho, rfl⟩ ⟨_, ho2, rfl⟩ noFill_tuple_add seq_tuple_add PySem.F.slot_tuple_add PySem.F.entry_tuple_add (PySem.F.args_tuple_add_2 _ _)
   (tuple_addW0 a b its.toArray its2.toArray n n2 dd dd2 sl sl2 (by rw [r1.nil_iff.mpr hx]; rfl)) ⟨ho, ho2, ⟨.ref b, H, I, rfl, q0 hx⟩⟩
 ·exact op_catT pins s σ H _ _ v u Q I rx ry ⟨a, b, xs, ys, rfl, rfl, ha, hb, hx, hz, q1 hx, q2 hx⟩
end
end L2
end
section
namespace L2
open PySem PySem.Spec PyProof.Rows M
end L2
namespace HT
open PySem PySem.Spec PyProof.Rows L2
section
variable {prog : Program} {w : World} {A : Around} {E : Value -> Shared -> Prop} {s : Shared}
theorem getItem_tuple_whole {t sl : Addr} {items : Array Value} {vl vu : Value} {lo hi : Option Int} {Q : Value -> Shared -> Prop} (ht : IsTup s.heap t items) (hs : s.heap.IsSliceOf sl vl vu .none) (pl : IsPart vl lo) (pu : IsPart vu hi)
  (hw : sIx items.size 0 lo = 0 /\ sIx items.size items.size hi = items.size)
  (h : Q (.ref t) s) : wpAny (model prog w) A (getItem (.ref t) (.ref sl)) Q E s := by
 obtain ⟨os, hos, hcs, hds⟩ := id hs
 have hTs : s.TypeIs (.ref sl) "slice" := ⟨os, hos, hcs⟩
 unfold getItem
 try with_reducible refine wpAny_holding ?_
 first | refine wpAny_bind (wpAny_pure ?_) | skip
 refine wpAny_bind (wpAny_sequenceKey ht.typeIs (by decide) ?_)
 refine wpAny_bind (wpAny_callSpecial?_slot (name := Str.ofString "__getitem__") ht.typeIs PyProof.Rows.slot_tuple_getitem
  (wpAny_call_entry PyProof.Rows.slot_tuple_getitem ht.typeIs entry_tuple_getitem ?_ (args_tuple_getitem _ _)))
 show wpAny _ _ (Builtin.Tuple.tupleItemsOf (.ref t) >>= _) _ _ s
 refine wpAny_bind (tupleItemsOf_ ht ?_)
 refine wpAny_bind (wpAny_typeOf hTs ?_)
 rw [if_pos (by decide)]
 refine wpAny_bind (sliceApplied_gen hs pl pu ?_)
 have hyes : (((sIx items.size 0 lo : Nat) : Int) == 0 && (1 : Int) == 1 && (sIx items.size items.size hi - sIx items.size 0 lo) == items.size) = true := by
  rw [hw.1, hw.2]
  simp
 show wpAny _ _ (if (((sIx items.size 0 lo : Nat) : Int) == 0 && (1 : Int) == 1 && (sIx items.size items.size hi - sIx items.size 0 lo) == items.size) = true then _ else _) _ _ s
 rw [if_pos hyes]
 unfold Builtin.Tuple.tupleIsExact
 refine wpAny_bind (wpAny_bind (wpAny_typeOf ht.typeIs (wpAny_pure ?_)))
 rw [if_pos (by decide)]
 exact wpAny_bind (wpAny_rule (wpAny_pure ⟨_, rfl, wpAny_pure h⟩))
end
end HT
namespace L2
open PySem PySem.Spec PyProof.Rows M
section
variable {X : Cx}
def rSlTW (K : PySem.W.Frag) : V -> Option Int -> Option Int -> Hp -> VK -> Prop := fun x lo hi H Q => ∃ a xs, x = .ref a /\ SqT K H a xs ∧
 ((HT.sIx xs.length 0 lo = 0 /\ HT.sIx xs.length xs.length hi = xs.length) -> Q (.ref a) H) ∧
 (¬ (HT.sIx xs.length 0 lo = 0 /\ HT.sIx xs.length xs.length hi = xs.length) -> ∀ p, H p = none -> Q (.ref p) (upd H p (.tup (cutV xs lo hi))))
theorem sl_tupW : SlR X (rSlTW X.K) := by
 intro pins s σ H x v vl vu lo hi sl Q I rx hs pl pu h
 obtain ⟨a, xs, rfl, hx, q1, q2⟩ := h
 by_cases hw : HT.sIx xs.length 0 lo = 0 /\ HT.sIx xs.length xs.length hi = xs.length
 ·cases rx
  obtain ⟨its, r, ht, hz⟩ := I.tuple hx
  have hlen : its.toArray.size = xs.length := by rw [List.size_toArray]; exact r.length.symm
  refine ⟨"tuple", _, PyProof.Rows.slot_tuple_getitem.lookup, ht.typeIs, ?_⟩
  exact HT.getItem_tuple_whole ht hs pl pu (by rw [hlen]; exact hw) ⟨.ref a, H, I, rfl, q1 hw⟩
 ·exact sl_tup pins s σ H _ v vl vu lo hi sl Q I rx hs pl pu ⟨a, xs, rfl, hx, hw, q2 hw⟩
end
end L2
end
section
namespace PySem
open Sem (wp)
section
variable {prog : Program} {w : World} {A : Around} {E : Value -> Shared -> Prop} {s : Shared}
theorem getAttrQ_miss_list {a : Addr} {xs : Array Value} {k : Nat} {sl : Array (Option Value)} {name : Str} {Q : Option Value -> Shared -> Prop}
  (hx : s.heap.get? a = some { cls := .type "list", dict := none, data := .seq xs k, slots := sl }) (hmiss : typeLookup (.type "list") name = pure none) (hname : (["__module__", "__name__", "__qualname__", "__doc__", "__annotations__"] : List Str).contains name = false) (hA : A.handled = none)
  (h : ∀ h' tk, (∀ b o, s.heap.get? b = some o -> h'.get? b = some o) -> Q none { s with heap := h', toks := tk }) (hsz : name.length + 100 <= sizeLine) :
  wpAny (model prog w) A (getAttr? (.ref a) name) Q E s := by
 obtain ⟨hp, g, d, tk, os⟩ := s
 have hT : ∀ tk', (⟨hp, g, d, tk', os⟩ : Shared).TypeIs (.ref a) "list" := fun _ => ⟨_, hx, rfl⟩
 have f1 := sub_AttributeError
 have f3 := F.slot_list_getattribute.lookup
 have f4 := F.slot_list_getattribute.bind (.ref a)
 have f5 := am_list_getattr_none
 unfold getAttr? getAttrBy? getAttrBy
 repeat (any_goals (first | assumption | exact hT _ | ((with_reducible show wpAny _ _ (call (Value.builtin "list.__getattribute__") _ _) _ _ _); refine call_meets F.slot_list_getattribute (hT _) am_entry_list_getattribute (F.args_list_getattribute_2 _ _) (meets_getattribute_miss_list a xs k sl name _ hmiss hname hsz) ⟨hx, hA, fun h' tk' e hx' => ?_⟩) | wp_step))
 obtain ⟨t', u', he⟩ := hx'.there
 show wpAny _ _ (getattributeRaised _ _ _ _ _ _ _) _ _ _
 unfold getattributeRaised
 repeat (any_goals (first | assumption | wp_step))
 all_goals first | exact h _ _ hx'.keeps | skip
end
end PySem
namespace L2
open PySem PySem.Spec PyProof.Rows
theorem plain_upd_loop : plainId "dict.update.loop" = true := by walk_at "k"
theorem entry_upd_loop : entryFor table "dict.update.loop" = some Builtin.«dict.update.loop» := entryFor_of_fast (by kernel_rfl)
section
variable {prog : Program} {w : World} {A : Around} {K : Type} [DecidableEq K] {knd : KeyKind prog w K}
def PairsAt (knd : KeyKind prog w K) (h : Heap) : List Value -> List (K × Value) -> Prop
 | [], [] => True
 | it :: its, p :: ps => (∃ a key, it = .ref a /\ h.IsTuple a #[key, p.2] /\ knd.is p.1 key = true) /\ PairsAt knd h its ps
 | _, _ => False
theorem PairsAt.keep {h h' : Heap} : ∀ {its : List Value} {ps : List (K × Value)}, PairsAt knd h its ps -> (∀ a xs, h.IsTuple a xs -> h'.IsTuple a xs) -> PairsAt knd h' its ps
 | [], [], _, _ => trivial
 | it :: its, p :: ps, ⟨⟨a, key, e, ha, hk⟩, r⟩, k => ⟨⟨a, key, e, k _ _ ha, hk⟩, PairsAt.keep r k⟩
 | [], _ :: _, h, _ => h.elim
 | _ :: _, [], h, _ => h.elim
theorem tup_ne_dict {h : Heap} {a d : Addr} {xs : Array Value} {kvs : List (K × Value)} (ht : h.IsTuple a xs) (hd : h.DictOf knd d kvs) : a ≠ d := fun e => by
 subst e
 obtain ⟨o, ho, hc, _⟩ := ht
 obtain ⟨t, _, _, ht2, hx2, _⟩ := hd
 have hc2 := hx2.1
 have : o = t := Option.some.inj (ho.symm.trans ht2)
 subst this
 rw [hc] at hc2
 exact absurd (Value.type.inj hc2) (by decide)
theorem tup_ne_iter {h : Heap} {a I l : Addr} {i : Nat} {xs : Array Value} (ht : h.IsTuple a xs) (hd : h.IsListIter I l i) : a ≠ I := fun e => by
 subst e
 obtain ⟨o, ho, hc, _⟩ := ht
 obtain ⟨t, ht2, hc2, _⟩ := hd
 have : o = t := Option.some.inj (ho.symm.trans ht2)
 subst this
 rw [hc] at hc2
 exact absurd (Value.type.inj hc2) (by decide)
theorem upd_loop {R : Result -> Shared -> Prop} {I l d : Addr} {its : List Value} {ps : List (K × Value)} (hh : A.in1.handled = none) (hne : l ≠ I) (hdl : l ≠ d) (hdI : I ≠ d) :
    ∀ (k i : Nat) (s : Shared) (cur : List (K × Value)), its.length - i = k -> i <= its.length -> s.heap.IsListIter I l i -> s.heap.IsList l its.toArray -> s.heap.DictOf knd d cur -> PairsAt knd s.heap (its.drop i) (ps.drop i) -> cur.length + (its.length - i) <= sizeLine ->
    (∀ h' tk, h'.DictOf knd d (merged cur (ps.drop i)) -> (∀ b o, b ≠ d -> b ≠ I -> s.heap.get? b = some o -> h'.get? b = some o) -> R (.ok (.ret .none)) { s with heap := h', toks := tk }) ->
    codeAny (model prog w) A (.builtin "dict.update.loop" ⟨[.ref d, .ref I, rawInt i, .none], []⟩) R s := by
  intro k
  induction k with
  | zero =>
    intro i s cur hk hi hit hl hd hp hsz hR
    have hin : i = its.length := by omega
    have W := Walks.list (prog := prog) (w := w) (A := A.in1) hh I l hne its.toArray
    refine codeAny_builtin entry_upd_loop ?_
    rw [Around.under_plainId plain_upd_loop _]
    show wpAny _ A.in1 (pyNext (.ref I) >>= _) _ _ s
    refine wpAny_bind (W.done s _ _ (by have e : its.toArray.size = i := by simp [hin]
                                        rw [e]; exact ⟨hit, hl⟩) fun h' tk hk' => ?_)
    show wpAny _ _ (Builtin.Dict.addKeywords d [] >>= _) _ _ _
    refine wpAny_bind (wpAny_pure (wpAny_pure ?_))
    have hps : ps.drop i = [] := by
      rw [hin, List.drop_length] at hp
      rw [hin]
      cases hq : ps.drop its.length with
      | nil => rfl
      | cons p r => rw [hq] at hp; exact hp.elim
    refine hR h' tk ?_ fun b o hb hbI e => hk' b o (by simpa using hbI) e
    rw [hps]
    exact hd.at fun o e => hk' d o (by simpa using (Ne.symm hdI)) e
  | succ k ih =>
    intro i s cur hk hi hit hl hd hp hsz hR
    have hlt : i < its.length := by omega
    have W := Walks.list (prog := prog) (w := w) (A := A.in1) hh I l hne its.toArray
    have hdi : its.drop i = its[i] :: its.drop (i + 1) := List.drop_eq_getElem_cons hlt
    rw [hdi] at hp
    obtain ⟨p, r, hpe⟩ : ∃ p r, ps.drop i = p :: r := by
      cases hq : ps.drop i with
      | nil => rw [hq] at hp; exact hp.elim
      | cons p r => exact ⟨p, r, rfl⟩
    have hpr : ps.drop (i + 1) = r := by rw [<- List.tail_drop, hpe]; rfl
    rw [hpe] at hp
    obtain ⟨⟨a, key, ea, hta, hkey⟩, hrest⟩ := hp
    refine codeAny_builtin entry_upd_loop ?_
    rw [Around.under_plainId plain_upd_loop _]
    show wpAny _ A.in1 (pyNext (.ref I) >>= _) _ _ s
    refine wpAny_bind (W.item i s _ _ (by simpa using hlt) ⟨hit, hl⟩ fun v h' tk hP hst' hk' => ?_)
    have hv : v = .ref a := by
      have : its[i]? = some v := by simpa using hP
      rw [List.getElem?_eq_getElem hlt, ea] at this
      exact (Option.some.inj this).symm
    subst hv
    have hta' : h'.IsTuple a #[key, p.2] := hta.at fun o e => hk' a o (by simpa using tup_ne_iter hta hit) e
    have hd' : h'.DictOf knd d cur := hd.at fun o e => hk' d o (by simpa using (Ne.symm hdI)) e
    obtain ⟨oa, hoa, hca, na, hda⟩ := id hta'
    refine wpAny_bind (wpAny_holding (wpAny_bind (wpAny_tryCatch ?_)))
    unfold Builtin.Dict.pairItems
    refine wpAny_bind (wpAny_typeOf ⟨oa, hoa, hca⟩ ?_)
    rw [if_pos (by decide)]
    refine wpAny_bind (wpAny_seqItems hoa hda (wpAny_pure ?_))
    show wpAny _ _ (holding [key, p.2] (dictSet d key p.2)) _ _ _
    refine wpAny_holding (wpAny_dictSet_pairs hkey hd' (fun h2 hd2 hs2 => ?_) (by omega))
    have st2 : h2.IsListIter I l (i + 1) /\ h2.IsList l its.toArray := ⟨hst'.1.at fun o e => (hs2.2 I hdI).trans e, hst'.2.at fun o e => (hs2.2 l hdl).trans e⟩
    refine wpAny_pure ⟨plainId_quiet plain_upd_loop _, ih (i + 1) _ _ (by omega) hlt st2.1 st2.2 hd2 ?_ ?_ fun h3 tk3 hd3 hk3 => ?_⟩
    · rw [hpr]
      exact hrest.keep fun b xs hb => by
        have h1 : h'.IsTuple b xs := hb.at fun o e => hk' b o (by simpa using tup_ne_iter hb hit) e
        exact h1.at fun o e => (hs2.2 b (tup_ne_dict h1 hd')).trans e
    · have := stored_length_le cur p.1 p.2
      omega
    · refine hR h3 tk3 ?_ fun b o hb hbI e => hk3 b o hb hbI ((hs2.2 b hb).trans (hk' b o (by simpa using hbI) e))
      rw [hpe]
      rw [hpr] at hd3
      exact hd3
end
end L2
namespace L2
open PySem PySem.Spec PyProof.Rows
theorem list_no_keys : typeLookup (.type "list") "keys" = pure none := am_miss_of_fast (by kernel_rfl)
section
variable {prog : Program} {w : World} {A : Around} {E : Value -> Shared -> Prop} {s : Shared} {K : Type} [DecidableEq K] {knd : KeyKind prog w K}
theorem dict_of_list {l : Addr} {its : List Value} {n : Nat} {ps : List (K × Value)} {Q : Value -> Shared -> Prop} (hh : A.handled = none) (hl : s.heap.get? l = some { cls := .type "list", data := .seq its.toArray n }) (hp : PairsAt knd s.heap its ps) (hsz : its.length <= sizeLine)
  (h : ∀ h' tk, h'.DictOf knd s.heap.objs.size (merged [] ps) -> (∀ b o, s.heap.get? b = some o -> h'.get? b = some o) -> Q (.ref s.heap.objs.size) { s with heap := h', toks := tk }) :
  wpAny (model prog w) A (call (.type "dict") [.ref l]) Q E s := by
 refine callType_codes (Q₁ := fun obj s₁ => obj = .ref s.heap.objs.size /\ s₁ = { s with heap := s.heap.push { cls := .type "dict", data := .dict #[] } }) F.kt_called_dict (F.kt_typeCall_dict_1 _) F.entry_dict_init (kt_code_dict_new _ ⟨rfl, rfl⟩) ?_
 rintro obj s₁ ⟨rfl, rfl⟩
 have hnew : (s.heap.push { cls := .type "dict", data := .dict #[] }).DictOf knd s.heap.objs.size [] := Heap.DictOf.new s.heap
 have ext0 : ∀ b o, s.heap.get? b = some o -> (s.heap.push { cls := .type "dict", data := .dict #[] }).get? b = some o := fun b o e => Heap.get?_push_of_some _ e
 have hl0 := ext0 _ _ hl
 have hT : (⟨s.heap.push { cls := .type "dict", data := .dict #[] }, s.gens, s.drawn, s.toks, s.os⟩ : Shared).TypeIs (.ref l) "list" := ⟨_, hl0, rfl⟩
 have hdl : l ≠ s.heap.objs.size := fun e => absurd (Heap.lt_size hl) (by rw [e]; exact Nat.lt_irrefl _)
 refine ⟨hnew.typeIs, F.args_dict_init_2 _ _, ?_⟩
 unfold Builtin.«dict.__init__»
 refine wpAny_bind ?_
 unfold Builtin.Dict.selfAndRest
 refine wpAny_bind (wpAny_notOrdered_dict hnew.typeIs ?_)
 show wpAny _ _ (pure (s.heap.objs.size, [Value.ref l])) _ _ _
 refine wpAny_pure ?_
 show wpAny _ _ (Builtin.Dict.updateFrom "dict.__init__" s.heap.objs.size (.ref l) [] .none) _ _ _
 unfold Builtin.Dict.updateFrom
 refine wpAny_bind (wpAny_typeOf hT ?_)
 rw [if_pos (by decide)]
 refine wpAny_bind (getAttrQ_miss_list (sl := #[]) hl0 list_no_keys (by walk_at "k") hh (fun h1 tk1 k1 => ?_) (by walk_at "k"))
 rw [if_pos (show (none : Option Value).isNone = true from rfl)]
 refine wpAny_bind (wpAny_rule ?_)
 have hl1 := k1 _ _ hl0
 have hL1 : h1.IsList l its.toArray := ⟨_, hl1, rfl, _, rfl⟩
 refine wpAny_bind (wpAny_pyIter_list hL1 (wpAny_pure ⟨plainId_quiet plain_upd_loop _, ?_⟩))
 have hsz1 : s.heap.objs.size < h1.objs.size := Heap.lt_size (k1 _ _ (Heap.get?_push_size _ rfl))
 have hlI : l < h1.objs.size := Heap.lt_size hl1
 have ext2 : ∀ b o, h1.get? b = some o -> (h1.push { cls := .type "list_iterator", data := .fields #[.ref l, .int 0 0] }).get? b = some o := fun b o e => Heap.get?_push_of_some _ e
 refine upd_loop (knd := knd) (A := A.in1) (ps := ps) (l := l) (d := s.heap.objs.size) (its := its) hh (Nat.ne_of_lt hlI) hdl (Nat.ne_of_gt hsz1) its.length 0 _ [] (Nat.sub_zero _) (Nat.zero_le _) ⟨_, Heap.get?_push_size _ rfl, rfl, rfl⟩ (hL1.push _) (hnew.at fun o e => ext2 _ _ (k1 _ _ e)) (hp.keep fun a xs ha => ha.at fun o e => ext2 _ _ (k1 _ _ (ext0 _ _ e))) (by simpa using hsz) fun h3 tk3 hd3 hk3 => ?_
 refine ⟨rfl, h h3 tk3 hd3 fun b o e => hk3 b o ?_ ?_ (ext2 _ _ (k1 _ _ (ext0 _ _ e)))⟩
 ·exact fun z => absurd (Heap.lt_size e) (by rw [z]; exact Nat.lt_irrefl _)
 ·exact fun z => absurd (Heap.lt_size e) (by rw [z]; exact Nat.not_lt_of_gt hsz1)
end
end L2
namespace L2
open PySem PySem.Spec PyProof.Rows
def PairsV (H : Hp) : List V -> List (Key × V) -> Prop
 | [], [] => True
 | y :: ys, kv :: kvs => (∃ b, y = .ref b /\ H b = some (.tup [kV kv.1, kv.2])) /\ PairsV H ys kvs
 | _, _ => False
theorem PairsV.length {H : Hp} : ∀ {ys : List V} {kvs : List (Key × V)}, PairsV H ys kvs -> ys.length = kvs.length
 | [], [], _ => rfl
 | y :: ys, kv :: kvs, ⟨_, r⟩ => by rw [List.length_cons, List.length_cons, PairsV.length r]
 | [], _ :: _, h => h.elim
 | _ :: _, [], h => h.elim
section
variable {X : Cx}
theorem pairs_at {pins : List (Addr × Obj)} {σ : St} {H : Hp} {s : Shared} (I : Inv X pins σ H s) : ∀ {ys : List V} {its : List Value} {kvs : List (Key × V)}, Vals ys its -> PairsV H ys kvs -> ∃ ps, KV kvs ps /\ PairsAt (xbb X.prog X.w) s.heap its ps
 | [], _, [], r, _ => by cases r; exact ⟨[], .nil, trivial⟩
 | y :: ys, _, kv :: kvs, r, ⟨⟨b, eb, hb⟩, rest⟩ => by
  subst eb
  cases r with
  | cons h t =>
   obtain ⟨ps, hk, hp⟩ := pairs_at I t rest
   obtain ⟨its2, r2, p2, _⟩ := I.tuple (SqT.of (K := X.K) hb)
   obtain ⟨u1, u2, rfl, e1, e2⟩ := r2.two
   exact ⟨(kv.1, u2) :: ps, .cons ⟨rfl, e2⟩ hk, ⟨b, u1, h, p2, kV_is e1⟩, hp⟩
 | [], _, _ :: _, _, h => h.elim
 | _ :: _, _, [], _, h => h.elim
theorem call_dictL (hc : X.calm = true) : CallR X (.type "dict") (fun xs H Q => ∃ a ys, ∃ kvs : List (Key × V), xs = [.ref a] /\ H a = some (.lst ys) /\ PairsV H ys kvs /\ ∀ p, H p = none -> Q (.ref p) (upd H p (.dK (xa8 [] kvs)))) := by
 intro pins s σ H xs us Q I r h
 obtain ⟨a, ys, kvs, rfl, ha, hp, q⟩ := h
 obtain ⟨u, rfl, ru⟩ := vals1 r
 obtain rfl : u = .ref a := ru
 obtain ⟨hz, its, n, rv, hl⟩ := (show ObjOk X.prog X.w H s.heap a (.lst ys) from I.hok a _ ha)
 obtain ⟨ps, hk, hpa⟩ := pairs_at I rv hp
 have hyl := hp.length
 refine dict_of_list (knd := xbb X.prog X.w) (I.ok.hd hc) hl hpa (by rw [<- rv.length]; exact hz) fun h' tk dd' k' => ?_
 have hz' : (xa8 [] kvs).length <= sizeLine := by
  have := length_mergeK kvs []
  rw [List.length_nil] at this
  omega
 exact ⟨.ref s.heap.objs.size, _, I.laid (a := s.heap.objs.size) (o := .dK (xa8 [] kvs)) (t' := tk) k' (Nat.le_refl _) (dk_new hz' (beq_eq_false_iff_ne.mpr (Ne.symm (Nat.ne_of_lt I.big))) (hk.merge .nil) dd'), rfl, q _ (I.hok.fresh (Nat.le_refl _))⟩
end
end L2
end
section
namespace L2
open PySem PySem.Spec PySem.W PyProof.Rows M
section
variable {X : Cx}
def rNeK : R2 := fun x y H Q => ∃ a b, ∃ kvs : List (Key × V), x = .ref a /\ y = .ref b /\ H a = some (.dK kvs) /\ H b = some (.dK kvs) /\ (∀ p ∈ kvs, ∃ d : D, RelD H p.2 d /\ d.deep <= 190) /\ Q (.bl false) H
theorem op_neK (hu : X.A.units + 200 < cLine) : OpR X (compareOp .NotEq) rNeK := by
 intro pins s σ H x y v u Q I rx ry h
 obtain ⟨a, b, kvs, rfl, rfl, ha, hb, hv, q⟩ := h
 obtain rfl : v = .ref a := rx
 obtain rfl : u = .ref b := ry
 obtain ⟨z, hda, vs, rel, dd⟩ := dk_of I.hok ha
 obtain ⟨z2, hdb, vs2, rel2, dd2⟩ := dk_of I.hok hb
 have nd2 : (vs2.map (·.1)).Nodup := let ⟨_, _, _, _, _, _, _, _, hn⟩ := dd2; hn
 have l1 := rel.length
 have l2 := rel2.length
 have hits : ∀ (ks : List (Key × V)) (us us2 : List (Key × Value)) (pre : List (Key × Value)), KV ks us -> KV ks us2 -> vs2 = pre ++ us2 -> (∀ p ∈ ks, ∃ d : D, RelD H p.2 d /\ d.deep <= 190) -> KeqHits X.A.in1 s vs2 us true := by
  intro ks
  induction ks with
  | nil => intro us us2 pre r1 r2 _ _; cases r1; exact .nil
  | cons k ks ih =>
   intro us us2 pre r1 r2 e hd
   cases r1 with
   | @cons _ u1 _ us' h1 t1 =>
    cases r2 with
    | @cons _ w1 _ us2' h2 t2 =>
     obtain ⟨d, rd, hdd⟩ := hd k (by simp)
     have hva : valueAt vs2 u1.1 = some w1.2 := by
      rw [show u1.1 = w1.1 from h1.1.symm.trans h2.1]
      exact valueAt_of_get nd2 (i := pre.length) (by rw [e]; simp)
     have := KeqHits.hit (e := true) (b := true) hva (eq_at I 190 d hdd rd rd h1.2 h2.2 (by show X.A.units + 1 + 190 < cLine; omega)) (ih us' us2' (pre ++ [w1]) t1 t2 (by rw [e]; simp) fun p hp => hd p (List.mem_cons_of_mem _ hp))
     exact this
 refine keq_ne hda hdb dd dd2 (by omega) (fun _ => hits kvs vs vs2 [] rel rel2 rfl hv) ⟨.bl false, H, I, ?_, q⟩
 rw [show vs.length = vs2.length by omega]
 simp
 rfl
end
end L2
end
section
namespace M
open PySem L2
inductive Vk (ks : List Kn) : Str -> D -> Prop
 | num (i : Int) (h : Nm i) : Vk ks (S "num") (.int i)
 | rc {x : Str} {k : Kn} {ws : List D} (hk : kAt ks x = some k) (hr : k.rc = true) (hl : ws.length = k.parts.length) (h : ∀ (i : Nat) (w : D) (p : Str × Str), ws[i]? = some w -> k.parts[i]? = some p -> Vk ks p.2 w) : Vk ks x (.tup [.str x, .tup ws])
 | al {x : Str} {k : Kn} {p : Str × Str} {w : D} (hk : kAt ks x = some k) (hr : k.rc = false) (hp : p ∈ k.parts) (h : Vk ks p.2 w) : Vk ks x (.tup [.str x, .str p.1, w])
theorem vk_num {ks : List Kn} (wf : KWf ks) {x : Str} {v : D} (hx : x = S "num") (h : Vk ks x v) : ∃ i, Nm i /\ v = .int i := by
 cases h with
 | num i hi => exact ⟨i, hi, rfl⟩
 | rc hk => rw [hx, wf.num] at hk; cases hk
 | al hk => rw [hx, wf.num] at hk; cases hk
theorem vk_rec {ks : List Kn} (wf : KWf ks) {x : Str} {k : Kn} {v : D} (hx : kAt ks x = some k) (hr : k.rc = true) (h : Vk ks x v) : ∃ ws, ws.length = k.parts.length /\ (∀ (i : Nat) w p, ws[i]? = some w -> k.parts[i]? = some p -> Vk ks p.2 w) /\ v = .tup [.str x, .tup ws] := by
 cases h with
 | num i hi => rw [wf.num] at hx; cases hx
 | rc hk hr' hl h =>
  rw [hx] at hk
  cases hk
  exact ⟨_, hl, h, rfl⟩
 | al hk hr' =>
  rw [hx] at hk
  cases hk
  rw [hr] at hr'
  cases hr'
theorem vk_alt {ks : List Kn} (wf : KWf ks) {x : Str} {k : Kn} {v : D} (hx : kAt ks x = some k) (hr : k.rc = false) (h : Vk ks x v) : ∃ p ∈ k.parts, ∃ w, Vk ks p.2 w /\ v = .tup [.str x, .str p.1, w] := by
 cases h with
 | num i hi => rw [wf.num] at hx; cases hx
 | rc hk hr' =>
  rw [hx] at hk
  cases hk
  rw [hr] at hr'
  cases hr'
 | @al _ _ p w hk hr' hp h =>
  rw [hx] at hk
  cases hk
  exact ⟨p, hp, w, h, rfl⟩
def FitB (ks : List Kn) (bs : List (Str × Str)) (env : En) : Prop := ∀ p ∈ bs, ∃ v, env p.1 = some v /\ Vk ks p.2 v
theorem FitB.put {ks : List Kn} {bs : List (Str × Str)} {env : En} {y k : Str} {v : D} (h : FitB ks bs env) (hy : ∀ p ∈ bs, p.1 ≠ y) (hv : Vk ks k v) : FitB ks (bs ++ [(y, k)]) (env.put y v) := fun p hp => by
 unfold En.put
 rcases List.mem_append.mp hp with hp | hp
 ·obtain ⟨v', h1, h2⟩ := h p hp
  exact ⟨v', by rw [if_neg (hy p hp)]; exact h1, h2⟩
 ·rw [List.mem_singleton.mp hp]
  exact ⟨v, by rw [if_pos rfl], hv⟩
def Sg (s : Str) : Prop := s = S "+" \/ s = S "-" \/ s = S "*" \/ s = S "<" \/ s = S "="
def SgD (d : D) : Prop := ∀ s a b, d = tOpD s a b -> Sg s
def Evs (ks : List Kn) : Nat -> En -> D -> D -> Prop
 | 0 => LeafEv
 | n + 1 => fun env d v => LeafEv env d v \/ (NodeEv ks (Evs ks n) env d v /\ SgD d)
theorem no_op {h : Str} {r : List D} (hne : h ≠ S "op") : SgD (.tup (.str h :: r)) := fun s a b e => by
 have e1 := D.tup.inj e
 have e2 := (List.cons.inj e1).1
 exact absurd (D.str.inj e2) hne
theorem sg_op {s : Str} {a b : D} (h : Sg s) : SgD (tOpD s a b) := fun s' a' b' e => by
 have e1 := D.tup.inj e
 have e2 := (List.cons.inj (List.cons.inj e1).2).1
 rw [<- D.str.inj e2]
 exact h
def TmOk (ks : List Kn) (n : Nat) (bs : List (Str × Str)) (d : D) (x : Str) : Prop := ∀ env, FitB ks bs env -> ∃ v, Evs ks n env d v /\ Vk ks x v
theorem ev_leaf {ks : List Kn} {n : Nat} {env : En} {d v : D} (h : LeafEv env d v) : Evs ks n env d v := by
 cases n with
 | zero => exact h
 | succ n => exact .inl h
theorem tm_num {ks : List Kn} {n : Nat} {bs : List (Str × Str)} {i : Int} (h : Nm i) : TmOk ks n bs (tNum i) (S "num") := fun env _ => ⟨.int i, ev_leaf (.inl ⟨i, rfl, rfl⟩), .num i h⟩
theorem tm_box {ks : List Kn} {n : Nat} {bs : List (Str × Str)} {y x : Str} (h : (y, x) ∈ bs) : TmOk ks n bs (tBox y) x := fun env hf => by
 obtain ⟨v, h1, h2⟩ := hf _ h
 exact ⟨v, ev_leaf (.inr ⟨y, h1, rfl⟩), h2⟩
theorem tm_op {ks : List Kn} (wf : KWf ks) {n : Nat} {bs : List (Str × Str)} {s : Str} {a b : D} (hs : Sg s) (ha : TmOk ks n bs a (S "num")) (hb : TmOk ks n bs b (S "num")) : TmOk ks (n + 1) bs (tOpD s a b) (S "num") := fun env hf => by
 obtain ⟨u, e1, k1⟩ := ha env hf
 obtain ⟨v, e2, k2⟩ := hb env hf
 obtain ⟨i, hi, rfl⟩ := vk_num wf rfl k1
 obtain ⟨j, hj, rfl⟩ := vk_num wf rfl k2
 exact ⟨_, .inr ⟨.inl ⟨s, a, b, i, j, e1, e2, hi, hj, rfl, rfl⟩, sg_op hs⟩, .num _ (opV_nm s i j)⟩
theorem tm_list {ks : List Kn} {n : Nat} {bs : List (Str × Str)} {env : En} (hf : FitB ks bs env) : ∀ {es : List D} {ps : List (Str × Str)}, All2 (fun e (p : Str × Str) => TmOk ks n bs e p.2) es ps -> ∃ vs, All2 (Evs ks n env) es vs /\ vs.length = ps.length /\ ∀ (i : Nat) w p, vs[i]? = some w -> ps[i]? = some p -> Vk ks p.2 w
 | _, _, .nil => ⟨[], .nil, rfl, fun i w p h => by simp at h⟩
 | _, _, .cons h t => by
  obtain ⟨v, h1, h2⟩ := h env hf
  obtain ⟨vs, k1, k2, k3⟩ := tm_list hf t
  refine ⟨v :: vs, .cons h1 k1, by rw [List.length_cons, List.length_cons, k2], fun i w p hw hp => ?_⟩
  cases i with
  | zero =>
   simp at hw hp
   subst hw hp
   exact h2
  | succ i => exact k3 i w p (by simpa using hw) (by simpa using hp)
theorem tm_rec {ks : List Kn} {n : Nat} {bs : List (Str × Str)} {x : Str} {k : Kn} {es : List D} (hk : kAt ks x = some k) (hr : k.rc = true) (hl : k.parts.length <= 1000) (h : All2 (fun e (p : Str × Str) => TmOk ks n bs e p.2) es k.parts) : TmOk ks (n + 1) bs (tRec x es) x := fun env hf => by
 obtain ⟨vs, h1, h2, h3⟩ := tm_list hf h
 exact ⟨_, .inr ⟨.inr (.inl ⟨x, es, vs, by rw [h.length]; exact hl, h1, rfl, rfl⟩), no_op (by walk_at "k")⟩, .rc hk hr h2 h3⟩
theorem idx_nodup {f : Str} : ∀ {l : List Str} {i : Nat}, l.Nodup -> l[i]? = some f -> l.findIdx? (fun z => decide (z = f)) = some i
 | [], i, _, h => by simp at h
 | y :: l, 0, _, h => by
  simp at h
  subst h
  simp [List.findIdx?_cons]
 | y :: l, i + 1, nd, h => by
  have hm : f ∈ l := List.mem_of_getElem? (by simpa using h)
  have hne : ¬ y = f := fun e => by subst e; exact (List.nodup_cons.mp nd).1 hm
  rw [List.findIdx?_cons, decide_eq_false hne]
  have := idx_nodup (l := l) (i := i) (List.nodup_cons.mp nd).2 (by simpa using h)
  simp [this]
theorem tm_get {ks : List Kn} (wf : KWf ks) {n : Nat} {bs : List (Str × Str)} {y : Str} {k : Kn} {a : D} {p : Str × Str} (hk : kAt ks y = some k) (hr : k.rc = true) (hp : p ∈ k.parts) (h : TmOk ks n bs a y) : TmOk ks (n + 1) bs (tGet a p.1) p.2 := fun env hf => by
 obtain ⟨v, h1, h2⟩ := h env hf
 obtain ⟨ws, hl, hw, rfl⟩ := vk_rec wf hk hr h2
 obtain ⟨i, hi, e⟩ := List.mem_iff_getElem.mp hp
 have hi2 : i < ws.length := by omega
 have hm := List.mem_of_find?_eq_some hk
 have ei : k.parts[i]? = some p := by rw [<- e]; exact List.getElem?_eq_getElem hi
 exact ⟨ws[i], .inr ⟨.inr (.inr (.inl ⟨a, y, ws, p.1, k, i, h1, hk, idx_nodup (wf.pnd k hm) (by rw [List.getElem?_map, ei]; rfl), List.getElem?_eq_getElem hi2, rfl⟩)), no_op (by walk_at "k")⟩, hw i _ p (List.getElem?_eq_getElem hi2) ei⟩
theorem tm_tag {ks : List Kn} {n : Nat} {bs : List (Str × Str)} {x : Str} {k : Kn} {a : D} {p : Str × Str} (hk : kAt ks x = some k) (hr : k.rc = false) (hp : p ∈ k.parts) (h : TmOk ks n bs a p.2) : TmOk ks (n + 1) bs (tTag x p.1 a) x := fun env hf => by
 obtain ⟨v, h1, h2⟩ := h env hf
 exact ⟨_, .inr ⟨.inr (.inr (.inr (.inl ⟨x, p.1, a, v, h1, rfl, rfl⟩))), no_op (by walk_at "k")⟩, .al hk hr hp h2⟩
theorem tm_case {ks : List Kn} (wf : KWf ks) {n : Nat} {bs : List (Str × Str)} {x y : Str} {k : Kn} {a : D} {rs : List (Str × Str × D)} (hk : kAt ks y = some k) (hr : k.rc = false) (ha : TmOk ks n bs a y) (hl : rs.length <= 1000) (nd : (rs.map (·.1)).Nodup)
  (h : ∀ p ∈ k.parts, ∃ z e, (p.1, z, e) ∈ rs /\ (∀ q ∈ bs, q.1 ≠ z) /\ TmOk ks n (bs ++ [(z, p.2)]) e x) : TmOk ks (n + 1) bs (tCase a rs) x := fun env hf => by
 obtain ⟨v, h1, h2⟩ := ha env hf
 obtain ⟨p, hp, w, hw, rfl⟩ := vk_alt wf hk hr h2
 obtain ⟨z, e, hm, hz, he⟩ := h p hp
 obtain ⟨v', h3, h4⟩ := he _ (hf.put hz hw)
 obtain ⟨i, hi, ei⟩ := List.mem_iff_getElem.mp hm
 have := find_nodup (f := fun r : Str × Str × D => r.1) (xs := rs) (i := i) (a := (p.1, z, e)) nd (by rw [<- ei]; exact List.getElem?_eq_getElem hi)
 exact ⟨v', .inr ⟨.inr (.inr (.inr (.inr (.inl ⟨a, rs, y, p.1, w, z, e, hl, h1, this, h3, rfl⟩)))), no_op (by walk_at "k")⟩, h4⟩
theorem tm_if {ks : List Kn} (wf : KWf ks) {n : Nat} {bs : List (Str × Str)} {x : Str} {a b c : D} (ha : TmOk ks n bs a (S "num")) (hb : TmOk ks n bs b x) (hc : TmOk ks n bs c x) : TmOk ks (n + 1) bs (tIfD a b c) x := fun env hf => by
 obtain ⟨u, e1, k1⟩ := ha env hf
 obtain ⟨i, hi, rfl⟩ := vk_num wf rfl k1
 by_cases h0 : i = 0
 ·obtain ⟨v, e2, k2⟩ := hc env hf
  exact ⟨v, .inr ⟨.inr (.inr (.inr (.inr (.inr ⟨a, b, c, i, e1, by rw [if_pos h0]; exact e2, rfl⟩)))), no_op (by walk_at "k")⟩, k2⟩
 ·obtain ⟨v, e2, k2⟩ := hb env hf
  exact ⟨v, .inr ⟨.inr (.inr (.inr (.inr (.inr ⟨a, b, c, i, e1, by rw [if_neg h0]; exact e2, rfl⟩)))), no_op (by walk_at "k")⟩, k2⟩
def smS (f : Str -> Int) (k : Kn) : Int := if k.rc = true then (k.parts.map fun p => f p.2).sum else match k.parts with | [] => 0 | p :: _ => f p.2
def hiS (f : Str -> Int) (k : Kn) : Int := if k.rc = true then maxD (k.parts.map fun p => f p.2) else match k.parts with | [] => 0 | p :: _ => f p.2
theorem smS_congr {f g : Str -> Int} {k : Kn} (h : ∀ p ∈ k.parts, f p.2 = g p.2) : smS f k = smS g k := by
 unfold smS
 rw [List.map_congr_left h]
 cases hq : k.parts with
 | nil => rfl
 | cons p r =>
  show (if k.rc = true then _ else f p.2) = (if k.rc = true then _ else g p.2)
  rw [h p (by rw [hq]; simp)]
theorem hiS_congr {f g : Str -> Int} {k : Kn} (h : ∀ p ∈ k.parts, f p.2 = g p.2) : hiS f k = hiS g k := by
 unfold hiS
 rw [List.map_congr_left h]
 cases hq : k.parts with
 | nil => rfl
 | cons p r =>
  show (if k.rc = true then _ else f p.2) = (if k.rc = true then _ else g p.2)
  rw [h p (by rw [hq]; simp)]
def smF : Nat -> List Kn -> Str -> Int
 | 0, _, _ => 1
 | n + 1, ks, x => match kAt ks x with
  | none => 1
  | some k => 1 + smS (smF n ks) k
def hiF : Nat -> List Kn -> Str -> Int
 | 0, _, _ => 1
 | n + 1, ks, x => match kAt ks x with
  | none => 1
  | some k => 1 + hiS (hiF n ks) k
theorem smF_none {n : Nat} {ks : List Kn} {x : Str} (h : kAt ks x = none) : smF (n + 1) ks x = 1 := by unfold smF; rw [h]
theorem smF_some {n : Nat} {ks : List Kn} {x : Str} {k : Kn} (h : kAt ks x = some k) : smF (n + 1) ks x = 1 + smS (smF n ks) k := by
 show (match kAt ks x with | none => 1 | some k => 1 + smS (smF n ks) k) = _
 rw [h]
theorem hiF_none {n : Nat} {ks : List Kn} {x : Str} (h : kAt ks x = none) : hiF (n + 1) ks x = 1 := by unfold hiF; rw [h]
theorem hiF_some {n : Nat} {ks : List Kn} {x : Str} {k : Kn} (h : kAt ks x = some k) : hiF (n + 1) ks x = 1 + hiS (hiF n ks) k := by
 show (match kAt ks x with | none => 1 | some k => 1 + hiS (hiF n ks) k) = _
 rw [h]
theorem smF_up {ks : List Kn} (wf : KWf ks) : ∀ (m : Nat) (x : Str), KIn ks m x -> smF (m + 2) ks x = smF (m + 1) ks x /\ hiF (m + 2) ks x = hiF (m + 1) ks x := by
 intro m
 induction m with
 | zero =>
  intro x h
  rcases h.look wf with ⟨_, e⟩ | ⟨j, k, e0, _⟩
  ·exact ⟨(smF_none e).trans (smF_none e).symm, (hiF_none e).trans (hiF_none e).symm⟩
  ·cases e0
 | succ m ih =>
  intro x h
  rcases h.look wf with ⟨_, e⟩ | ⟨j, k, e0, hk, hn, hm, hp⟩
  ·exact ⟨(smF_none e).trans (smF_none e).symm, (hiF_none e).trans (hiF_none e).symm⟩
  ·cases e0
   rw [smF_some hk, smF_some hk, hiF_some hk, hiF_some hk, smS_congr fun p hp' => (ih p.2 (hp p hp')).1, hiS_congr fun p hp' => (ih p.2 (hp p hp')).2]
   exact ⟨rfl, rfl⟩
def smK (ks : List Kn) (x : Str) : Int := smF 7 ks x
def hiK (ks : List Kn) (x : Str) : Int := hiF 7 ks x
theorem sm_is {ks : List Kn} (wf : KWf ks) {m : Nat} {x : Str} (h : KIn ks m x) (hm : m <= 6) : smF (m + 1) ks x = smK ks x /\ hiF (m + 1) ks x = hiK ks x := by
 have : ∀ k, smF (m + k + 1) ks x = smF (m + 1) ks x /\ hiF (m + k + 1) ks x = hiF (m + 1) ks x := fun k => by
  induction k with
  | zero => exact ⟨rfl, rfl⟩
  | succ k ih =>
   have u := smF_up wf (m + k) x (h.mono (by omega))
   exact ⟨u.1.trans ih.1, u.2.trans ih.2⟩
 have u := this (6 - m)
 rw [show m + (6 - m) + 1 = 7 by omega] at u
 exact ⟨u.1.symm, u.2.symm⟩
theorem sm_num {ks : List Kn} (wf : KWf ks) : smK ks (S "num") = 1 /\ hiK ks (S "num") = 1 := ⟨smF_none wf.num, hiF_none wf.num⟩
theorem sm_at {ks : List Kn} (wf : KWf ks) {x : Str} {k : Kn} (hk : kAt ks x = some k) : smK ks x = 1 + smS (smK ks) k /\ hiK ks x = 1 + hiS (hiK ks) k := by
 have hm := List.mem_of_find?_eq_some hk
 have hx : k.name = x := by
  have := List.find?_some hk
  exact of_decide_eq_true this
 have hin : KIn ks 6 x := (KIn.of (.inr ⟨k, hm, hx⟩)).mono wf.few
 rcases hin.look wf with ⟨_, e⟩ | ⟨j, k', e0, hk', hn, hm', hp⟩
 ·rw [e] at hk; cases hk
 ·cases e0
  rw [hk] at hk'
  cases hk'
  exact ⟨(smF_some (n := 6) hk).trans (congrArg (fun z => 1 + z) (smS_congr fun p hp' => (sm_is wf (hp p hp') (by omega)).1)), (hiF_some (n := 6) hk).trans (congrArg (fun z => 1 + z) (hiS_congr fun p hp' => (sm_is wf (hp p hp') (by omega)).2))⟩
theorem smF_bound {ks : List Kn} (hp : ∀ k ∈ ks, k.parts.length <= 5) : ∀ (n : Nat) (x : Str), (1 <= smF n ks x /\ smF n ks x <= 6 ^ n) /\ (1 <= hiF n ks x /\ hiF n ks x <= n + 1)
 | 0, x => ⟨⟨Int.le_refl _, Int.le_refl _⟩, ⟨Int.le_refl _, Int.le_refl _⟩⟩
 | n + 1, x => by
  have p1 : (1 : Int) <= 6 ^ n := Int.pow_pos (by decide)
  have e6 : (6 : Int) ^ (n + 1) = 6 * 6 ^ n := by rw [Int.pow_succ, Int.mul_comm]
  cases hk : kAt ks x with
  | none =>
   rw [smF_none hk, hiF_none hk]
   exact ⟨⟨Int.le_refl _, by rw [e6]; omega⟩, Int.le_refl _, by push_cast; omega⟩
  | some k =>
   rw [smF_some hk, hiF_some hk]
   have hk5 := hp k (List.mem_of_find?_eq_some hk)
   have ih := fun y => smF_bound hp n y
   have hs : ∀ (l : List (Str × Str)), 0 <= (l.map fun p => smF n ks p.2).sum /\ (l.map fun p => smF n ks p.2).sum <= l.length * 6 ^ n := by
    intro l
    induction l with
    | nil => simp
    | cons a r ih' =>
     have h1 := (ih a.2).1
     rw [List.map_cons, List.sum_cons, List.length_cons]
     push_cast
     rw [Int.add_mul]
     omega
   have hm : ∀ (l : List (Str × Str)), 0 <= maxD (l.map fun p => hiF n ks p.2) /\ maxD (l.map fun p => hiF n ks p.2) <= n + 1 := by
    intro l
    induction l with
    | nil => show 0 <= (0 : Int) /\ (0 : Int) <= n + 1; omega
    | cons a r ih' =>
     have h1 := (ih a.2).2
     have e : maxD ((a :: r).map fun p => hiF n ks p.2) = max (hiF n ks a.2) (maxD (r.map fun p => hiF n ks p.2)) := rfl
     rw [e]
     omega
   have h1 := hs k.parts
   have h2 : (k.parts.length : Int) * 6 ^ n <= 5 * 6 ^ n := Int.mul_le_mul_of_nonneg_right (by omega) (by omega)
   have h3 := hm k.parts
   unfold smS hiS
   push_cast
   cases k.rc with
   | true =>
    rw [if_pos rfl, if_pos rfl]
    refine ⟨⟨?_, ?_⟩, ?_, ?_⟩ <;> omega
   | false =>
    rw [if_neg (by decide), if_neg (by decide)]
    cases k.parts with
    | nil =>
     refine ⟨⟨?_, ?_⟩, ?_, ?_⟩ <;> dsimp only <;> omega
    | cons p r =>
     have h4 := ih p.2
     refine ⟨⟨?_, ?_⟩, ?_, ?_⟩ <;> dsimp only <;> omega
theorem sm_bound {ks : List Kn} (wf : KWf ks) (x : Str) : 1 <= smK ks x /\ smK ks x <= 279936 /\ 1 <= hiK ks x /\ hiK ks x <= 8 := by
 have := smF_bound wf.pts 7 x
 have e : (6 : Int) ^ 7 = 279936 := by decide
 unfold smK hiK
 omega
end M
end
section
namespace L2
open PySem PySem.Spec PyProof.Rows M
section
variable {X : Cx}
def rEqE (K : PySem.W.Frag) : R2 := fun x y H Q => ∃ a b xs, x = .ref a /\ y = .ref b /\ SqL K H a xs /\ SqL K H b [] /\ Q (.bl xs.isEmpty) H
theorem op_eqE (hu : X.A.units < cLine) : OpR X (compareOp .Eq) (rEqE X.K) := by
 intro pins s σ H x y v u Q I rx ry h
 obtain ⟨a, b, xs, rfl, rfl, ha, hb, q⟩ := h
 cases rx
 cases ry
 obtain ⟨its, r1, p1, _⟩ := I.list ha
 obtain ⟨its2, r2, p2, _⟩ := I.list hb
 have l1 := r1.length
 have l2 := r2.length
 cases xs with
 | nil =>
  refine SeqAt.eq_listAt (e := fun _ => true) p1.isList p2.isList (by simp only [List.size_toArray]; omega) hu (fun j h1 h2 => ?_) ⟨.bl _, H, I, rfl, ?_⟩
  ·simp only [List.size_toArray] at h1
   simp at l1
   omega
  ·have : its = [] := List.eq_nil_of_length_eq_zero (by simpa using l1.symm)
   subst this
   exact q
 | cons x xs =>
  refine PySem.EqBoolInt.of_rc (SeqAt.RcAt.lists_lengths p1.isList p2.isList (by simp only [List.size_toArray]; simp at l1 l2 ⊢; omega) hu) ⟨.bl _, H, I, rfl, ?_⟩
  simpa using q
end
end L2
end
section
set_option maxHeartbeats 1000000
namespace L2
open PySem PySem.Spec PyProof.Rows
def Trc (h : Heap) (e C : Addr) (d : Option Addr) (c2 : Value) (T : Option Addr) (fl : Value) : Prop :=
 ∃ vs : Array Value, (vs.size = 6 /\ vs[2]? = some c2) /\ h.get? e = some { cls := .ref C, dict := d, data := .fields vs } ∧
  match T with
  | none => vs[1]? = some .none
  | some T => vs[1]? = some (.ref T) /\ T ≠ e /\ ∃ oT ts, h.get? T = some oT /\ oT.data = .fields ts /\ ts[3]? = some fl
structure FlyTo (fs : List Addr) (e : Addr) (T : Option Addr) (h h' : Heap) : Prop where
 keep : ∀ b o, b ∉ fs -> b ≠ e -> T ≠ some b -> h.get? b = some o -> h'.get? b = some o
 slot : ∀ b o, b ∈ fs -> b ≠ e -> T ≠ some b -> h.get? b = some o -> ∃ sl, h'.get? b = some { o with slots := sl }
 size : h.objs.size <= h'.objs.size
theorem FlyTo.refl {fs : List Addr} {e : Addr} {T : Option Addr} {h : Heap} : FlyTo fs e T h h := ⟨fun _ _ _ _ _ q => q, fun _ o _ _ _ q => ⟨o.slots, q⟩, Nat.le_refl _⟩
theorem FlyTo.trans {fs : List Addr} {e T' : Addr} {T : Option Addr} {h h1 h2 : Heap} (a : FlyTo fs e T h h1) (b : FlyTo fs e (some T') h1 h2) (t : T = some T' \/ h.objs.size <= T') : FlyTo fs e T h h2 := by
 have nt : ∀ c o, T ≠ some c -> h.get? c = some o -> (some T' : Option Addr) ≠ some c := fun c o n q z => by
  have z' : T' = c := Option.some.inj z
  rcases t with t | t
  ·exact n (by rw [t, z'])
  ·exact absurd (Heap.lt_size q) (Nat.not_lt.mpr (by rw [<- z']; exact t))
 refine ⟨fun c o n1 n2 n3 q => b.keep c o n1 n2 (nt c o n3 q) (a.keep c o n1 n2 n3 q), fun c o n1 n2 n3 q => ?_, Nat.le_trans a.size b.size⟩
 obtain ⟨sl, q1⟩ := a.slot c o n1 n2 n3 q
 obtain ⟨sl', q2⟩ := b.slot c _ n1 n2 (nt c o n3 q) q1
 exact ⟨sl', q2⟩
section
variable {M : Model} {A : Around} {E : Value -> Shared -> Prop} {s : Shared} {c2 : Value}
theorem fly_flight {fs : List Addr} {e C T : Addr} {d fr : Option Addr} {fl : Value} {Q : Unit -> Shared -> Prop} (t : Trc s.heap e C d c2 (some T) fl)
  (h : ∀ h', FlyTo fs e (some T) s.heap h' -> Trc h' e C d c2 (some T) (fr.elim .none fun f => rawInt f) -> Q () { s with heap := h' }) : wpAny M A (setFlight (.ref e) fr) Q E s := by
 obtain ⟨vs, hz, he, h1, hTe, oT, ts, hT, hdT, h3⟩ := t
 have h1 : vs[1]? = some (.ref T) := h1
 have other : ∀ b, b ≠ T -> (s.heap.update T (Obj.mapFields (·.setIfInBounds 3 (fr.elim Value.none fun f => rawInt f)))).get? b = s.heap.get? b := fun b hb => Heap.get?_update_other _ _ (Ne.symm hb)
 unfold setFlight
 refine wpAny_bind (wpAny_field he rfl h1 ?_)
 rw [if_pos (show (Value.ref T != Value.none) = true from by simp)]
 have h3s : 3 < ts.size := (Array.getElem?_eq_some_iff.mp h3).1
 refine wpAny_setField hT hdT h3s (h _ ⟨fun b o _ _ n q => (other b fun z => n (by rw [z])).trans q, fun b o _ _ n q => ⟨o.slots, (other b fun z => n (by rw [z])).trans q⟩, ?_⟩ ?_)
 ·rw [Heap.size_after_update]; exact Nat.le_refl _
 ·exact ⟨vs, hz, (other e (Ne.symm hTe)).trans he, h1, hTe, _, _, Heap.get?_update_self _ hT (Obj.isFreed_of_fields (Obj.data_mapFields hdT _)), Obj.data_mapFields hdT _, by simp [h3s]⟩
theorem fly_new {base : Heap} {env : Env} {outer : List Env} {L e C : Addr} {d : Option Addr} {vs : Array Value} {head : Value} {hadNext : Bool} {Q : Unit -> Shared -> Prop}
  (hfr : A.frames = some (env :: outer)) (hl : s.heap.FunFrames base (env :: outer)) (hf : env.frame = some L)
  (he : s.heap.get? e = some { cls := .ref C, dict := d, data := .fields vs }) (hz : vs.size = 6 /\ vs[2]? = some c2)
  (h : ∀ h', FlyTo (frs (env :: outer)) e none s.heap h' -> Trc h' e C d c2 (some s.heap.objs.size) (rawInt L) -> Q () { s with heap := h' }) :
  wpAny M A (do let a <- frameOf env; let pl <- entryPlaceOf L hadNext; let b <- EntryCells.newEntry head a .none (rawInt L) .none pl; setField (.ref e) 1 b) Q E s := by
 have hene : e ∉ frs (env :: outer) := fun hm => by
  obtain ⟨_, o, ho, hnf⟩ := hl.mem hm
  rw [he] at ho; injection ho with ho; subst ho; exact hnf vs rfl
 refine wpAny_bind (wpAny_frameOf_fun hfr hl hf fun h₁ hs₁ => ?_)
 refine wpAny_bind (wpAny_entryPlaceOf fun pl hpl => ?_)
 unfold EntryCells.newEntry newFields
 refine wpAny_bind (wpAny_newObj_type ?_ (hpl.sizeOk5 _ _ _ _ _))
 have he₁ : h₁.get? e = some { cls := .ref C, dict := d, data := .fields vs } := (hs₁.2.1 e hene).trans he
 have hz₁ : h₁.objs.size = s.heap.objs.size := hs₁.1
 have he₂ := Heap.get?_push_of_some (h := h₁) { cls := .type "traceback", dict := none, data := .fields ([head, .ref L, .none, rawInt L, .none] ++ (if pl.isEmpty then List.replicate 6 Value.none else pl)).toArray } he₁
 refine wpAny_setField he₂ rfl (by rw [hz.1]; decide) ?_
 have hTe : h₁.objs.size ≠ e := Nat.ne_of_gt (Heap.lt_size he₁)
 have he₃ := Heap.get?_update_self (Obj.mapFields (·.setIfInBounds 1 (Value.ref h₁.objs.size))) he₂ rfl
 have hT₃ := (Heap.get?_update_other (h₁.push { cls := .type "traceback", dict := none, data := .fields ([head, .ref L, .none, rawInt L, .none] ++ (if pl.isEmpty then List.replicate 6 Value.none else pl)).toArray })
  (Obj.mapFields (·.setIfInBounds 1 (Value.ref h₁.objs.size))) (Ne.symm hTe)).trans (Heap.get?_push_size h₁ rfl)
 have keep : ∀ b o, b ≠ e -> h₁.get? b = some o ->
   ((h₁.push { cls := .type "traceback", dict := none, data := .fields ([head, .ref L, .none, rawInt L, .none] ++ (if pl.isEmpty then List.replicate 6 Value.none else pl)).toArray }).update e (Obj.mapFields (·.setIfInBounds 1 (Value.ref h₁.objs.size)))).get? b = some o := fun b o hbe hb => by
  rw [Heap.get?_update_other _ _ (Ne.symm hbe)]
  exact Heap.get?_push_of_some _ hb
 refine h _ ⟨fun b o hb n _ q => keep b o n ((hs₁.2.1 b hb).trans q), fun b o hb n _ q => ?_, ?_⟩ ?_
 ·obtain ⟨sl, hs⟩ := hs₁.2.2 b o q
  exact ⟨sl, keep b _ n hs⟩
 ·rw [Heap.size_after_update, Heap.size_push, hz₁]; exact Nat.le_succ _
 ·refine ⟨vs.setIfInBounds 1 (Value.ref h₁.objs.size), ⟨by simpa using hz.1, by rw [Array.getElem?_setIfInBounds_ne (by decide)]; exact hz.2⟩, ?_, ?_, ?_, ?_⟩
  ·exact he₃
  ·rw [hz₁]; simp [hz.1]
  ·rw [<- hz₁]; exact hTe
  ·refine ⟨{ cls := .type "traceback", dict := none, data := .fields ([head, .ref L, .none, rawInt L, .none] ++ (if pl.isEmpty then List.replicate 6 Value.none else pl)).toArray }, _, by rw [<- hz₁]; exact hT₃, rfl, ?_⟩
   first | (simp; done) | (rcases hpl with rfl | ⟨_, _, _, _, _, _, _, rfl⟩ <;> simp)
theorem fly_note {base : Heap} {env : Env} {outer : List Env} {L e C : Addr} {d T : Option Addr} {fl : Value} {Q : Unit -> Shared -> Prop}
  (hfr : A.frames = some (env :: outer)) (hl : s.heap.FunFrames base (env :: outer)) (hf : env.frame = some L) (t : Trc s.heap e C d c2 T fl)
  (h : ∀ h' T', FlyTo (frs (env :: outer)) e T s.heap h' -> (T = some T' \/ s.heap.objs.size <= T') -> Trc h' e C d c2 (some T') (rawInt L) -> Q () { s with heap := h' }) : wpAny M A (noteFrame (.ref e) env) Q E s := by
 obtain ⟨vs, hz, he, tt⟩ := id t
 unfold noteFrame
 simp only [hf]
 cases T with
 | none =>
  refine wpAny_bind (wpAny_field he rfl tt ?_)
  rw [if_neg (by decide)]
  exact fly_new hfr hl hf he hz fun h' a b => h h' _ a (.inr (Nat.le_refl _)) b
 | some T =>
  obtain ⟨h1, hTe, oT, ts, hT, hdT, h3⟩ := tt
  have h1 : vs[1]? = some (.ref T) := h1
  refine wpAny_bind (wpAny_field he rfl h1 ?_)
  rw [if_pos (show (Value.ref T != Value.none) = true from by simp)]
  refine wpAny_bind (wpAny_field hT hdT h3 ?_)
  by_cases q : (fl == rawInt L) = true
  ·rw [if_pos q]
   obtain rfl := beq_iff_eq.mp q
   exact wpAny_pure (h _ T FlyTo.refl (.inl rfl) t)
  ·rw [if_neg q]
   have h3s : 3 < ts.size := (Array.getElem?_eq_some_iff.mp h3).1
   refine wpAny_bind (wpAny_setField hT hdT h3s ?_)
   have other : ∀ b, b ≠ T -> (s.heap.update T (Obj.mapFields (·.setIfInBounds 3 Value.none))).get? b = s.heap.get? b := fun b hb => Heap.get?_update_other _ _ (Ne.symm hb)
   have noRecord : ∀ b o, s.heap.get? b = some o -> (∀ vs, o.data ≠ .fields vs) -> b ≠ T := fun b o hb hnf q => by
    rw [q, hT] at hb; injection hb with hb; subst hb; exact hnf ts hdT
   have hsz : (s.heap.update T (Obj.mapFields (·.setIfInBounds 3 Value.none))).objs.size = s.heap.objs.size := Heap.size_after_update ..
   refine fly_new (s := { s with heap := s.heap.update T (Obj.mapFields (·.setIfInBounds 3 Value.none)) }) hfr (hl.of_keeps fun b o hb hnf => ⟨o, (other b (noRecord b o hb hnf)).trans hb, rfl⟩) hf ((other e (Ne.symm hTe)).trans he) hz fun h' a b => ?_
   refine h h' _ ⟨fun c o n1 n2 n3 w => a.keep c o n1 n2 (fun z => nomatch z) ((other c fun z => n3 (by rw [z])).trans w), fun c o n1 n2 n3 w => a.slot c o n1 n2 (fun z => nomatch z) ((other c fun z => n3 (by rw [z])).trans w), ?_⟩ (.inr (Nat.le_refl _)) ?_
   ·rw [<- hsz]; exact a.size
   ·rw [<- hsz]; exact b
theorem fly_leave {base : Heap} {env : Env} {outer : List Env} {L e C : Addr} {d T : Option Addr} {fl : Value} {Q : Unit -> Shared -> Prop}
  (hfr : A.frames = some (env :: outer)) (hl : s.heap.FunFrames base (env :: outer)) (hf : env.frame = some L) (t : Trc s.heap e C d c2 T fl)
  (h : ∀ h' T', FlyTo (frs (env :: outer)) e T s.heap h' -> (T = some T' \/ s.heap.objs.size <= T') -> Trc h' e C d c2 (some T') .none -> Q () { s with heap := h' }) : wpAny M A (leaving env (.ref e)) Q E s := by
 unfold leaving
 refine wpAny_bind (fly_note hfr hl hf t fun h1 T' a w b => ?_)
 exact fly_flight (s := { s with heap := h1 }) (fs := frs (env :: outer)) (fr := none) b fun h2 a2 b2 => h h2 T' (a.trans a2 w) w b2
end
end L2
end
section
set_option maxHeartbeats 1000000
namespace L2
open PySem PySem.Spec PyProof.Rows
def excF (e C : Addr) (d : Option Addr) (c2 : Value) : HO := .ext fun h => ∃ vs : Array Value, (vs.size = 6 /\ vs[2]? = some c2) /\ h.get? e = some { cls := .ref C, dict := d, data := .fields vs }
theorem ObjOk.excF {P : Program} {w : World} {H : Hp} {h : Heap} {e C : Addr} {d : Option Addr} {c2 : Value} {vs : Array Value} (hz : vs.size = 6 /\ vs[2]? = some c2) (he : h.get? e = some { cls := .ref C, dict := d, data := .fields vs }) : ObjOk P w H h e (L2.excF e C d c2) :=
 ⟨⟨vs, hz, he⟩, ⟨_, he⟩, fun h1 h2 ⟨v, z, a⟩ k => ⟨v, z, k _ a⟩⟩
theorem HOk.excF {P : Program} {w : World} {H : Hp} {h : Heap} {e C : Addr} {d : Option Addr} {c2 : Value} (x : HOk P w H h) (q : H e = some (L2.excF e C d c2)) : ∃ vs : Array Value, (vs.size = 6 /\ vs[2]? = some c2) /\ h.get? e = some { cls := .ref C, dict := d, data := .fields vs } :=
 (show ObjOk P w H h e (L2.excF e C d c2) from x e _ q).1
section
variable {X : Cx} {pins : List (Addr × Obj)} {σ : St} {H : Hp} {s : Shared} {h' : Heap} {x C : Addr} {d T T1 : Option Addr} {fl c2 : Value}
theorem Inv.flight (I : Inv X pins σ H s) (hx : H x = some (excF x C d c2)) (hT : ∀ T', T = some T' -> FpOk X pins H T') (a : FlyTo (frs X.stack) x T s.heap h') (t : Trc h' x C d c2 T1 fl) : Inv X pins σ H { s with heap := h' } := by
 obtain ⟨vs, hz, he, _⟩ := t
 have nT : ∀ b u, H b = some u -> T ≠ some b := fun b u e z => by rw [(hT b z).1] at e; cases e
 have nF : ∀ b u, H b = some u -> b ∉ frs X.stack := fun b u e z => by rw [I.stkFree b z] at e; cases e
 have nx : ∀ b, H b = none -> b ≠ x := fun b n z => by rw [z, hx] at n; cases n
 have there : ∀ b o, T ≠ some b -> s.heap.get? b = some o -> ∃ o', h'.get? b = some o' := fun b o n q => by
  by_cases z : b = x
  ·exact ⟨_, by rw [z]; exact he⟩
  ·by_cases f : b ∈ frs X.stack
   ·obtain ⟨sl, w⟩ := a.slot b o f z n q
    exact ⟨_, w⟩
   ·exact ⟨_, a.keep b o f z n q⟩
 have tl : ∀ b, b ∉ T.toList -> T ≠ some b := fun b n z => n (by rw [z]; simp)
 refine I.call (g' := s.gens) (t' := s.toks) (d' := s.drawn) (ch := T.toList) ⟨fun b o q n hb hc => a.keep b o hb (nx b n) (tl b hc) q, fun b o q n hb hc => a.slot b o hb (nx b n) (tl b hc) q, fun _ _ _ n _ => n, fun b o q hc => there b o (tl b hc) q, fun _ _ q => q, fun _ _ _ q => q, fun b ps q => ⟨#[], by rw [q]; simp⟩⟩ (fun b u e => ?_) I.bare (fun b hb => ?_)
 ·by_cases z : b = x
  ·subst z
   rw [hx] at e
   cases e
   exact ObjOk.excF hz he
  ·refine (I.hok b u e).stay (fun c v hc q => ?_) (fun _ q => q) fun _ _ q => q
   rcases hc with w | w
   ·rw [w]
    rw [w] at q
    exact a.keep b v (nF b u e) z (nT b u e) q
   ·have cx : c ≠ x := fun z => by rw [z, hx] at w; cases w
    exact a.keep c v (nF c _ w) cx (nT c _ w) q
 ·have hb' : T = some b := by simpa using hb
  obtain ⟨f0, f1, f2, f3, f4, f5⟩ := hT b hb'
  exact ⟨f3, f1, f4, f5⟩
abbrev XS := Value -> Option Addr -> St -> Hp -> Prop
def Thrown (X : Cx) (E : XS) (e : Value) (s : Shared) : Prop :=
 ∃ (x C : Addr) (d T : Option Addr) (c2 fl : Value) (pins : List (Addr × Obj)) (σ : St) (H : Hp), e = .ref x /\ Inv X pins σ H s /\ H x = some (excF x C d c2) /\ (∀ T', T = some T' -> FpOk X pins H T') /\ Trc s.heap x C d c2 T fl /\ E (.ref x) d σ H
abbrev Cx.thr (X : Cx) (E : XS) : Cx := X.wish (Thrown X E)
def CX1 (P : Program) (w : World) : CXT := fun outer H s E e s' =>
 ∃ (x C : Addr) (d T : Option Addr) (c2 fl : Value) (H' : Hp), e = .ref x /\ s'.os = s.os /\ AllBare s'.gens /\ Un (frs outer) [] H H' s.heap s'.heap /\ HOk P w H' s'.heap /\ H' x = some (excF x C d c2) ∧
  (∀ T', T = some T' -> s.heap.objs.size <= T' /\ H' T' = none) /\ Trc s'.heap x C d c2 T fl /\ E (.ref x) d H'
theorem pass1 {E : XS} {e : Value} {s' : Shared} (I0 : Inv X pins σ H s) (h : CX1 X.prog X.w X.stack H s (fun v d H' => E v d σ H') e s') : Thrown X E e s' := by
 obtain ⟨x, C, d, T, c2, fl, H', rfl, os, bare, un, hok, hx, hT, t, q⟩ := h
 have I1 : Inv X pins σ H' s' := by
  obtain ⟨hh, g, dr, tk, os'⟩ := s'
  obtain rfl : os' = s.os := os
  exact I0.call (h' := hh) (g' := g) (d' := dr) (t' := tk) (ch := []) un hok bare (fun b z => absurd z (by simp))
 exact ⟨x, C, d, T, c2, fl, pins, σ, H', rfl, I1, hx, fun T' z => I0.fpOk (hT T' z).1 (hT T' z).2, t, q⟩
end
section
variable {P : Program} {w : World} {K : PySem.W.Frag} {mg : Str -> Option Value} {base : Heap} {N : List Str} {qual : Str} {scope : Scope} {f : Addr} {cd : Value} {A : Around} {outer : List Env} {s : Shared} {H : Hp} {E : XK}
theorem thr_leave {e : Value} {s' : Shared} (h : Thrown (cxOf (CX1 P w) P w K mg base N qual scope f cd A outer s H E) (fun v d _ H' => E v d H') e s') : (cxOf (CX1 P w) P w K mg base N qual scope f cd A outer s H E).xe e s' := by
 obtain ⟨x, C, d, T, c2, fl, pins, σ, H', rfl, I, hx, hT, t, q⟩ := h
 show wpAny (model P w) (A.deeper (envOfC qual scope s.heap.objs.size f cd)) (leaving (envOfC qual scope s.heap.objs.size f cd) (.ref x)) _ _ s'
 refine fly_leave (base := base) I.ok.frames I.stack rfl t fun h2 T' a w2 t2 => ?_
 have I2 := I.flight hx hT a t2
 refine ⟨x, C, d, some T', c2, .none, H', rfl, I2.os, I2.bare, I2.base, I2.hok, hx, fun T2 z => ?_, t2, q⟩
 cases z
 rcases w2 with z | z
 ·obtain ⟨f0, f1, f2, f3, f4, f5⟩ := hT T' z
  refine ⟨?_, f0⟩
  rcases f3 with y | y
  ·exact absurd y (by show T' ∉ ([] : List Addr); simp)
  ·exact y
 ·exact ⟨Nat.le_trans I.sz z, I.hok.fresh z⟩
theorem PSs.thr {E : XS} {X : Cx} {st : List Stmt} {t : TS} (h : PSs (X.thr E) st t) (hx : ∀ e s', Thrown X E e s' -> X.xe e s') : PSs X st t := fun pins s σ H D I hw =>
 wpAny_mono (h pins s σ H D (I.wish _) hw) (fun _ _ q => q.unwish) fun e s' z => hx e s' z
end
section
variable {X : Cx} {E : XS}
theorem thr_own (hs : X.stack = X.env :: X.outer) (hf : X.env.frame = some X.env.locals) : PassesOwn (model X.prog X.w) X.A X.env (Thrown X E) := by
 intro e s h
 obtain ⟨x, C, d, T, c2, fl, pins, σ, H, rfl, I, hx, hT, t, q⟩ := h
 have fr : X.A.frames = some (X.env :: X.outer) := by rw [I.ok.frames, hs]
 have fn : s.heap.FunFrames X.base (X.env :: X.outer) := by rw [<- hs]; exact I.stack
 refine fly_note (base := X.base) fr fn hf t fun h1 T' a w t1 => ?_
 rw [<- hs] at a
 have I1 := I.flight hx hT a t1
 have hT1 : FpOk X pins H T' := by
  rcases w with z | z
  ·exact hT T' z
  ·exact I.fpOk z (I.hok.fresh z)
 show wpAny _ _ _ _ _ _
 obtain ⟨vs, hz, he, h1', _⟩ := id t1
 have h1' : vs[1]? = some (.ref T') := h1'
 refine wpAny_bind (wpAny_field he rfl h1' ?_)
 rw [if_neg (show ¬ ((Value.ref T' == Value.none) = true) from Bool.false_ne_true)]
 show wpAny _ _ (setFlight (.ref x) X.env.frame) _ _ _
 refine fly_flight (fs := frs X.stack) t1 fun h2 a2 t2 => ?_
 exact ⟨x, C, d, some T', c2, _, pins, σ, H, rfl, I1.flight hx (fun T2 z => by cases z; exact hT1) a2 t2, hx, fun T2 z => by cases z; exact hT1, t2, q⟩
end
end L2
end
section
set_option maxHeartbeats 1000000
namespace L2
open PySem PySem.Spec PyProof.Rows
section
variable {M : Model} {A : Around} {E' : Value -> Shared -> Prop} {env : Env}
theorem raise_made {s : Shared} {x : Sem Value} {Q : Flow -> Shared -> Prop} (hh : A.handled = none)
  (h : wpAny M A x (fun v s₁ => ∃ e t C d bmB, v = .ref e /\ bmB.contains (.type "BaseException") = true /\ XObj s₁.heap C bmB "ValueError.__new__" /\ s₁.heap.get? e = some (newExc C t d) /\ E' (.ref e) s₁) E' s) :
  wpAny M A (raiseStmt env (some x) none) Q E' s := by
 unfold raiseStmt
 refine wpAny_bind (wpAny_mono h (fun v s₁ h₁ => ?_) fun _ _ x => x)
 obtain ⟨e, t, C, d, bmB, rfl, hbase, ⟨nm, qn, N, bs, bm, sn, sub, ab, col, dd, k0, k1, k2, k3, k5, hC, T⟩, he, hE⟩ := h₁
 have hcB : (Value.ref C :: bm).contains (.type "BaseException") = true := by rw [List.contains_cons, T.hasType hbase, Bool.or_true]
 obtain ⟨hp, g, d, tk, os⟩ := s₁
 repeat (first | with_reducible refine wpAny_loadPart_at he ?_ | with_reducible refine wpAny_loadPart_at hC ?_ | (with_reducible refine wpAny_isSubtype_exc hC ?_; rw [hcB]) | wp_step)
 exact wpAny_raiseNew_none hh hE
end
section
variable {X : Cx} {E : XS} {ex : Expr} {te : TE} {pos : Pos}
def sRaise (K : PySem.W.Frag) (E : XS) (te : TE) : TS := fun _ σ H => te σ H fun v H1 => ∃ x C d, v = .ref x /\ H1 x = some (excO x C d) /\ XCl K C /\ E (.ref x) d σ (upd H1 x (excF x C d .none))
theorem xa9 (hc : X.calm = true) (he : PE (X.thr E) ex te) : PS (X.thr E) (.Raise (some ex) none pos) (sRaise X.K E te) := by
 intro pins s σ H D I h
 rw [arm_exec_Raise]
 simp only [evalOpt, Option.map]
 refine wpAny_bind (wpAny_standAt (raise_made (I.ok.hd hc) ?_))
 refine wpAny_bind (wpAny_mono (he pins s σ H _ I h) (fun v s1 h1 => wpAny_bind (wpAny_standAt (wpAny_pure ?_))) fun _ _ z => z)
 obtain ⟨u, H1, I1, r, x, C, d, ex, ea, c, q⟩ := h1
 subst ex
 obtain rfl : v = Value.ref x := r
 obtain ⟨t0, hx⟩ := I1.hok.exc ea
 refine ⟨x, t0, C, d, bmV, rfl, by decide, x_of_in I1.kIn c.obj, hx, ?_⟩
 have I2 : Inv X pins σ (upd H1 x (excF x C d .none)) s1 := by
  have mu : Mut (H1 x) := by rw [ea]; exact True.intro
  exact I1.unwish.write (h' := s1.heap) (t' := s1.toks) (x := x) (e := x) mu (.inl rfl) (fun _ _ _ q => q) ⟨_, hx⟩ (ObjOk.excF (vs := #[.ref t0, .none, .none, .none, .bool false, .none]) ⟨rfl, rfl⟩ hx)
 exact ⟨x, C, d, none, .none, .none, pins, σ, _, rfl, I2, ups, fun T' z => (nomatch z), ⟨#[.ref t0, .none, .none, .none, .bool false, .none], ⟨rfl, rfl⟩, hx, rfl⟩, q⟩
end
structure DefXs (P : Program) (w : World) (K : PySem.W.Frag) (mg : Str -> Option Value) (base : Heap) (n : Nat) (x : Str) (ps : List Str) (sp : Sp) : Prop where
 ex : ∃ (f : Addr) (fd : FuncData), FnOk P w K mg base (CX1 P w) n f fd ps sp /\ Binds K fd ps [] /\ PySem.W.keepIn K (.ref f) = true /\ mg x = some (.ref f) /\ ∃ oc od osl, K.lookup f = some ⟨oc, od, .func fd, osl⟩
section
variable {P : Program} {w : World} {K : PySem.W.Frag} {mg : Str -> Option Value} {base : Heap} {n m : Nat} {x : Str} {ps N : List Str} {sp : Sp} {st : Stmt}
theorem DefXs.mono (D : DefXs P w K mg base n x ps sp) (h : n <= m) : DefXs P w K mg base m x ps sp := by
 obtain ⟨f, fd, F, r⟩ := D.ex
 exact ⟨f, fd, F.mono h, r⟩
theorem DefXs.imp {sp' : Sp} (D : DefXs P w K mg base n x ps sp) (h : ∀ vs H Q E, sp' vs H Q E -> sp vs H Q E) : DefXs P w K mg base n x ps sp' := by
 obtain ⟨f, fd, F, r⟩ := D.ex
 exact ⟨f, fd, F.imp h, r⟩
theorem DefXs.of (T : DefTx K mg x st ps) (S : FnScope N ps (xab st)) (len : ∀ vs H Q E, sp vs H Q E -> vs.length = ps.length)
  (hbody : ∀ (f : Addr) (cdv : Value) (A : Around) (outer : List Env) (s : Shared) (H : Hp) (vs : List V) (Q : VK) (E : XK), Room n (A.deeper (envOfC x (xab st) s.heap.objs.size f cdv)) -> sp vs H Q E ->
   ∃ t, PSs ((cxOf (CX1 P w) P w K mg base N x (xab st) f cdv A outer s H E).thr fun v d _ H' => E v d H') (defBody st) t /\ t { nx := fun _ H' => Q .non H', rt := Q } (start N vs) H) : DefXs P w K mg base (n + 1) x ps sp := by
 obtain ⟨f, fd, F, m, b⟩ := T.ex
 refine ⟨f, fd, ?_, Binds.all b, F.kp, m, fun_at F⟩
 obtain ⟨oc, od, kV, doc, pm, an, cdv, ct, osl, rfl, lk, hcd⟩ := F.ex
 refine fn_of lk hcd S len fun A outer s H vs Q E hr hsp => ?_
 obtain ⟨t, h, q⟩ := hbody f cdv A outer s H vs Q E hr hsp
 exact ⟨t, h.thr fun e s' z => thr_leave z, q⟩
theorem DefXs.none (T : DefTx K mg x st ps) (no : ∀ vs H Q E, ¬ sp vs H Q E) : DefXs P w K mg base n x ps sp := by
 obtain ⟨f, fd, F, m, b⟩ := T.ex
 exact ⟨f, fd, ⟨fun vs H Q E h => absurd h (no vs H Q E), fun A outer s H args us vs Q E _ _ _ _ h => absurd h (no vs H Q E)⟩, Binds.all b, F.kp, m, fun_at F⟩
end
section
variable {X : Cx} {E : XS} {n : Nat} {x : Str} {ps : List Str} {sp : Sp} {e : Expr} {es : List Expr} {p pos : Pos} {t : TA}
def tCallX (sp : Sp) (E : XS) (t : TA) : TE := fun σ H Q => t σ H fun vs H1 => sp vs H1 Q fun v d H' => E v d σ H'
theorem xan (D : DefXs X.prog X.w X.K X.mg X.base n x ps sp) (hr : Room n X.A) (ha : PA (X.thr E) (e :: es) t) (hg : Gl X x := by rfl) (hdb : (x == ("__debug__" : Str)) = false := by decide)
  (he : starEach (e :: es) X.env = (false, eval e X.env) :: starEach es X.env := by rfl) (hpl : (backTo pos (starEach es X.env)).any (·.1) = false := by rfl) : PE (X.thr E) (.Call (.Name x p) (e :: es) [] pos) (tCallX sp E t) := by
 obtain ⟨f, fd, F, b, k, m, _⟩ := D.ex
 intro pins s σ H Q I h
 refine wpAny_Call_Name_kw (ld_glob (X := X.thr E) I hg m ?_ hdb)
 refine PySem.W.callWith_K (h₀ := X.base) I.ok.mod.kin k (thn (ha pos pins s σ H _ I h) fun us s1 ⟨vs, H1, I1, r, q⟩ => ⟨I1.kIn, ?_⟩) he hpl
 have hl : (us ++ []).length = ps.length := by rw [List.append_nil, <- r.length]; exact F.len _ _ _ _ q
 have hb := b s1 us I1.kIn hl
 rw [List.append_nil] at hb
 refine wpAny_call (codeAny_mono (F.run X.A X.stack s1 H1 ⟨us, []⟩ us vs Q _ hr I1.unwish.env0 hb r q) fun r s' hq => ?_)
 cases r with
 | error e => exact pass1 I1.unwish hq
 | ok fl =>
  cases fl with
  | ret u => exact I1.after hq
  | next => exact False.elim hq
  | brk => exact False.elim hq
  | cont => exact False.elim hq
end
end L2
end
section
set_option maxHeartbeats 1000000
namespace L2
open PySem PySem.Spec PyProof.Rows
abbrev Cx.mkd (X : Cx) (e : Value) : Cx := { X with A := X.A.mark (some e), calm := false }
abbrev Cx.pnd (X : Cx) (pn : List (Addr × Obj)) : Cx := { X with pn := pn }
section
variable {X : Cx} {pins pn : List (Addr × Obj)} {σ : St} {H : Hp} {s : Shared} {e : Value}
theorem Cx.Ok.mkd (ok : X.Ok) (e : Value) : (X.mkd e).Ok :=
 ⟨ok.mod, ok.kind, ok.glob, ok.blt, ok.above, ok.inj, ok.has, ok.cab, fun z => Bool.noConfusion z, ok.frames, ok.stk, ok.exf, ok.bs, ok.bsz, ok.noex, ok.exfs, ok.funs, ok.frf⟩
theorem Cx.Ok.pnd (ok : X.Ok) (pn : List (Addr × Obj)) : (X.pnd pn).Ok :=
 ⟨ok.mod, ok.kind, ok.glob, ok.blt, ok.above, ok.inj, ok.has, ok.cab, ok.hd, ok.frames, ok.stk, ok.exf, ok.bs, ok.bsz, ok.noex, ok.exfs, ok.funs, ok.frf⟩
theorem Inv.mkd (I : Inv X pins σ H s) (e : Value) : Inv (X.mkd e) pins σ H s := ⟨I.ok.mkd e, I.os, I.bare, I.base, I.loc, I.cell, I.free, I.freeC, I.pin, I.hok, I.len⟩
theorem Inv.unmkd (ok : X.Ok) (I : Inv (X.mkd e) pins σ H s) : Inv X pins σ H s := ⟨ok, I.os, I.bare, I.base, I.loc, I.cell, I.free, I.freeC, I.pin, I.hok, I.len⟩
theorem Inv.pnd (I : Inv X pins σ H s) : Inv (X.pnd (X.pn ++ pins)) [] σ H s :=
 ⟨I.ok.pnd _, I.os, I.bare, I.base, I.loc, I.cell, I.free, I.freeC, fun p hp => I.pin p (by simpa using hp), I.hok, I.len⟩
theorem Inv.unpnd {pins' : List (Addr × Obj)} (ok : X.Ok) (I : Inv (X.pnd (X.pn ++ pins)) pins' σ H s) : Inv X pins σ H s :=
 ⟨ok, I.os, I.bare, I.base, I.loc, I.cell, I.free, I.freeC, fun p hp => I.pin p (List.mem_append_left _ hp), I.hok, I.len⟩
theorem FpOk.unpnd {pins' : List (Addr × Obj)} {b : Addr} (h : FpOk (X.pnd (X.pn ++ pins)) pins' H b) : FpOk X pins H b :=
 ⟨h.1, h.2.1, h.2.2.1, h.2.2.2.1, h.2.2.2.2.1, fun p hp => h.2.2.2.2.2 p (List.mem_append_left _ hp)⟩
theorem SP.unpnd {D : Ends} {f : Flow} {s' : Shared} (ok : X.Ok) (h : SP (X.pnd (X.pn ++ pins)) [] D f s') : SP X pins D f s' := by
 cases f with
 | next => obtain ⟨σ', H', I, q⟩ := h; exact ⟨σ', H', I.unpnd ok, q⟩
 | brk => obtain ⟨σ', H', I, q⟩ := h; exact ⟨σ', H', I.unpnd ok, q⟩
 | cont => obtain ⟨σ', H', I, q⟩ := h; exact ⟨σ', H', I.unpnd ok, q⟩
 | ret u => obtain ⟨v, σ', H', I, r, q⟩ := h; exact ⟨v, σ', H', I.unpnd ok, r, q⟩
theorem Inv.forget {h' : Heap} {t' i : Nat} {x : Str} {m : Str -> Option Value} {u : Option Value} (I : Inv X pins σ H s) (hN : X.N.Nodup) (hi : X.N[i]? = some x) (hk : X.env.scope.names.lookup x = some .local)
  (hm : ∀ m, s.heap.Ns X.env.locals m -> ∃ u, h'.Ns X.env.locals (fun y => if y = x then u else m y)) (hs : ∀ b, b ≠ X.env.locals -> h'.get? b = s.heap.get? b) : Inv X pins (σ.set i none) H { s with heap := h', toks := t' } := by
 obtain ⟨m, hn, hl⟩ := id I.loc
 have hiσ : i < σ.length := by rw [I.len]; exact (List.getElem?_eq_some_iff.mp hi).1
 have cne := I.cne
 obtain ⟨u, hn'⟩ := hm m hn
 obtain ⟨oL, _, _, hoL, _⟩ := id hn
 refine ⟨I.ok, I.os, I.bare, ⟨fun b o e n hb hx => ?_, fun b o e n hb hx => ?_, I.base.free, fun b o e hx => ?_, I.base.tups, I.base.frzs, I.base.tbls⟩, ⟨_, hn', fun j y v' e1 e2 e3 => ?_⟩, fun y c e => ?_, I.free, I.freeC, fun p hp => ?_, fun b ob e => ?_, by simpa using I.len⟩
 ·exact (hs b (Nat.ne_of_lt (Nat.lt_of_lt_of_le (Heap.lt_size e) I.ok.above))).trans (I.base.keep b o e n hb hx)
 ·obtain ⟨sl, e1⟩ := I.base.slot b o e n hb hx
  exact ⟨sl, (hs b (Nat.ne_of_lt (Nat.lt_of_lt_of_le (Heap.lt_size e) I.ok.above))).trans e1⟩
 ·obtain ⟨o', e1⟩ := I.base.there b o e hx
  exact ⟨o', (hs b (Nat.ne_of_lt (Nat.lt_of_lt_of_le (Heap.lt_size e) I.ok.above))).trans e1⟩
 ·by_cases hj : j = i
  ·subst hj
   rw [List.getElem?_set_self hiσ] at e2
   cases e2
  ·rw [List.getElem?_set_ne (Ne.symm hj)] at e2
   obtain ⟨u', r', q⟩ := hl j y v' e1 e2 e3
   refine ⟨u', r', ?_⟩
   rcases q with ⟨k, e⟩ | ⟨k, c, e, z⟩
   ·refine .inl ⟨k, ?_⟩
    have : y ≠ x := fun e => hj (nodup_ix hN e1 (e ▸ hi))
    simp [this, e]
   ·obtain ⟨o, ho, hd⟩ := z
    exact .inr ⟨k, c, e, ⟨o, (hs c (cne y c e)).trans ho, hd⟩⟩
 ·obtain ⟨w', o, ho, hd⟩ := I.cell y c e
  exact ⟨w', o, (hs c (cne y c e)).trans ho, hd⟩
 ·obtain ⟨e, n, ne, nf, d⟩ := I.pin p hp
  exact ⟨(hs p.1 ne).trans e, n, ne, nf, d⟩
 ·refine (I.hok b ob e).stay (fun c w' hc q => (hs c ?_).trans q) (fun _ q => q) fun _ _ q => q
  rintro rfl
  rcases hc with rfl | hc
  ·rw [I.free] at e; cases e
  ·rw [I.free] at hc; cases hc
theorem exc_match {M : Model} {A : Around} {E' : Value -> Shared -> Prop} {s : Shared} {K : PySem.W.Frag} {x C C0 : Addr} {d : Option Addr} {vs : Array Value} {Q : Bool -> Shared -> Prop} (hx : s.heap.get? x = some { cls := .ref C, dict := d, data := .fields vs })
  (O : XObj s.heap C bmV "ValueError.__new__") (O0 : XObj s.heap C0 bmV "ValueError.__new__") (kin : K.In s.heap) (hsub : PySem.W.mroIn K C (.ref C0) = some true) (hq : Q true s) : wpAny M A (excMatches (.ref x) (.ref C0)) Q E' s := by
 obtain ⟨nm, qn, N, bs, bm, sn, sub, ab, col, dd, k0, k1, k2, k3, k5, hC, T⟩ := O
 obtain ⟨nm', qn', N', bs', bm', sn', sub', ab', col', dd', k0', k1', k2', k3', k5', hC0, T'⟩ := O0
 have hcB : (Value.ref C0 :: bm').contains (.type "BaseException") = true := by rw [List.contains_cons, T'.hasType (show bmV.contains (.type "BaseException") = true by decide), Bool.or_true]
 have LS := PySem.W.looks_mroIn (M := M) kin hsub
 have f := tc_notTuple
 obtain ⟨hp, g, dr, tk, os⟩ := s
 unfold excMatches
 repeat (first | with_reducible refine wpAny_loadPart_at hx ?_ | with_reducible refine wpAny_loadPart_at hC0 ?_ | (with_reducible refine wpAny_isSubtype_exc hC0 ?_; rw [hcB]) | with_reducible refine LS.at ?_ | wp_step)
 exact hq
end
end L2
end
section
set_option maxHeartbeats 1000000
namespace L2
open PySem PySem.Spec PyProof.Rows
section
variable {X : Cx} {pins : List (Addr × Obj)} {σ : St} {H : Hp} {s : Shared}
theorem name_goes {M : Model} {A : Around} {E' : Value -> Shared -> Prop} {Q : Unit -> Shared -> Prop} {i : Nat} {n : Str} {hpos : Pos} (I : Inv X pins σ H s) (hN : X.N.Nodup) (hi : X.N[i]? = some n) (hk : X.env.scope.names.lookup n = some .local)
  (h : ∀ s', Inv X pins (σ.set i none) H s' -> Q () s') : wpAny M A (do bindName X.env n .none; unbindBehindTheSuite X.env n hpos) Q E' s := by
 obtain ⟨m, hn, _⟩ := id I.loc
 have hcls : (X.env.scope.kind == .class || (X.env.scope.kind == .module && X.env.locals != X.env.globals)) = false := by rw [I.ok.kind]; rfl
 refine wpAny_nameGoes_keeps hk hn hcls fun h' v hn' hs => h _ ?_
 refine I.forget (m := m) (u := v) hN hi hk (fun m2 hm2 => ?_) (fun b hb => hs.2 b hb)
 obtain ⟨o, es, ep, ho, hd, hkk, hm⟩ := hn
 obtain ⟨o2, es2, ep2, ho2, hd2, hkk2, hm2⟩ := hm2
 rw [ho] at ho2
 cases ho2
 rw [hd] at hd2
 cases hd2
 have e : m2 = m := funext fun y => by rw [<- hm y, <- hm2 y]
 exact ⟨v, by rw [e]; exact hn'⟩
def sTryAs (K : PySem.W.Frag) (C0 : Addr) (i : Nat) (tb : XS -> TS) (ts : TS) : TS := fun D σ H => ∃ Es : XS, tb Es D σ H /\ ∀ x C d c2 σ' H', Es (.ref x) d σ' H' -> H' x = some (excF x C d c2) ->
 XCl K C /\ PySem.W.mroIn K C (.ref C0) = some true ∧
 ts { nx := fun σ2 H2 => D.nx (σ2.set i none) H2, rt := D.rt, bk := fun σ2 H2 => D.bk (σ2.set i none) H2, ct := fun σ2 H2 => D.ct (σ2.set i none) H2 } (σ'.set i (some (.ref x))) H'
theorem ps_tryAs {body : List Stmt} {b0 : Stmt} {suite : List Stmt} {tb : XS -> TS} {ts : TS} {i : Nat} {n y : Str} {C0 : Addr} {np hpos pos : Pos} (hs : X.stack = X.env :: X.outer) (hf : X.env.frame = some X.env.locals) (hN : X.N.Nodup) (hi : X.N[i]? = some n)
  (hk : X.env.scope.names.lookup n = some .local) (hm : X.mg y = some (.ref C0)) (M0 : xIn X.K C0 bmV "ValueError.__new__" = true) (hb : ∀ pn Es, PSs ((X.pnd pn).thr Es) body (tb Es)) (hsu : ∀ e, PSs ((X.mkd e).nox) (b0 :: suite) ts)
  (hg : Gl X y := by rfl) (hdb : (y == ("__debug__" : Str)) = false := by decide) : PS X (.Try body [.ExceptHandler (some (.Name y np)) (some n) (b0 :: suite) hpos] [] [] pos) (sTryAs X.K C0 i tb ts) := by
 intro pins s σ H D I h
 obtain ⟨Es, hb', hh⟩ := h
 refine wpAny_Try_except ?_
 refine wpAny_mono (hb (X.pn ++ pins) Es [] s σ H D (I.pnd.wish _) hb') (fun f s1 q => ?_) (fun e s1 q => ?_)
 ·have q' : SP X pins D f s1 := SP.unpnd I.ok q.unwish
  cases f with
  | next => exact wpAny_execs_nil q'
  | brk => exact q'
  | cont => exact q'
  | ret u => exact q'
 ·obtain ⟨x, C, d, T, c2, fl, pins', σ', H', rfl, I1, hx, hT, t, qe⟩ := q
  have I1' : Inv X pins σ' H' s1 := I1.unpnd I.ok
  have hT' : ∀ T', T = some T' -> FpOk X pins H' T' := fun T' z => (hT T' z).unpnd
  obtain ⟨M, hsub, qs⟩ := hh x C d c2 σ' H' qe hx
  have fr : X.A.frames = some (X.env :: X.outer) := by rw [I.ok.frames, hs]
  have fn : s1.heap.FunFrames X.base (X.env :: X.outer) := by rw [<- hs]; exact I1'.stack
  refine fly_note (base := X.base) fr fn hf t fun h1 T' a w t1 => ?_
  rw [<- hs] at a
  have I2 := I1'.flight hx hT' a t1
  have hT1 : ∀ T2, some T' = some T2 -> FpOk X pins H' T2 := fun T2 z => by
   cases z
   rcases w with z | z
   ·exact hT' T' z
   ·exact I1'.fpOk z (I1'.hok.fresh z)
  refine fly_flight (s := { s1 with heap := h1 }) (fs := frs X.stack) (fr := none) t1 fun h2 a2 t2 => ?_
  have I3 := I2.flight hx hT1 a2 t2
  refine wpAny_handleBy_cons (codeAny_handlers_test ?_) (by intro q; cases q)
  refine ld_glob (X := X.mkd (.ref x)) (I3.mkd _) hg hm ?_ hdb
  obtain ⟨vs, hz, he, _⟩ := id t2
  refine exc_match he (x_of_in I3.kIn M.obj) (x_of_in I3.kIn M0) I3.kIn hsub ?_
  refine codeAny_handlers_suite_as ?_
  refine fly_flight (s := { s1 with heap := h2 }) (fs := frs X.stack) (fr := none) t2 fun h3 a3 t3 => ?_
  have I4 := I3.flight hx hT1 a3 t3
  refine store_ok (X := X.mkd (.ref x)) (I4.mkd _) hN hi (.inl hk) (v := .ref x) rfl (fun s5 I5 => ?_) (.inr hk)
  refine wpAny_mono (hsu (.ref x) pins s5 _ H' _ (I5.wish _) qs) (fun f s6 q6 => ?_) (fun _ _ z => False.elim z)
  have q7 := q6.unwish
  show wpAny _ _ (do bindName X.env n .none; unbindBehindTheSuite X.env n hpos) (fun _ s3 => SP X pins D f s3) _ s6
  cases f with
  | next => obtain ⟨σ2, H2, I6, q⟩ := q7; exact name_goes (I6.unmkd I.ok) hN hi hk fun s7 I7 => ⟨_, H2, I7, q⟩
  | brk => obtain ⟨σ2, H2, I6, q⟩ := q7; exact name_goes (I6.unmkd I.ok) hN hi hk fun s7 I7 => ⟨_, H2, I7, q⟩
  | cont => obtain ⟨σ2, H2, I6, q⟩ := q7; exact name_goes (I6.unmkd I.ok) hN hi hk fun s7 I7 => ⟨_, H2, I7, q⟩
  | ret u => obtain ⟨v, σ2, H2, I6, r, q⟩ := q7; exact name_goes (I6.unmkd I.ok) hN hi hk fun s7 I7 => ⟨v, _, H2, I7, r, q⟩
end
end L2
end
section
set_option maxHeartbeats 1000000
namespace L2
open PySem PySem.Spec PyProof.Rows
section
variable {X : Cx} {pins : List (Addr × Obj)} {σ : St} {H : Hp} {s : Shared} {C : Addr} {o : Expr} {fl : Str} {pos : Pos} {ta : TE}
theorem excF_inst {a : Addr} {dx : Option Addr} {c2 : Value} (I : Inv X pins σ H s) (ea : H a = some (excF a C dx c2)) (hd : ∀ d, dx = some d -> ∃ fs, H d = some (.xd fs)) : ∃ ox od, PySem.W.InstAt s.heap a ox C od := by
 obtain ⟨vs, hz, hx⟩ := I.hok.excF ea
 cases dx with
 | none => exact ⟨_, none, hx, rfl, rfl, True.intro⟩
 | some d =>
  obtain ⟨fs, ed⟩ := hd d rfl
  obtain ⟨mA, hn, hr⟩ := (show ObjOk X.prog X.w H s.heap d (.xd fs) from I.hok d _ ed)
  obtain ⟨od, hod, hl⟩ := lookIn_ns hn
  exact ⟨_, some od, hx, rfl, rfl, hod⟩
theorem call_isinstF : CallR X (.builtin "isinstance") (fun xs H Q => ∃ a C dx c2 y c b, xs = [.ref a, y] /\ (∀ u, RelV y u -> u = c) /\ H a = some (excF a C dx c2) /\ (∀ d, dx = some d -> ∃ fs, H d = some (.xd fs)) /\ XCl X.K C ∧
  PySem.W.kitOne X.K (.ref C) c = some b /\ Q (.bl b) H) := by
 intro pins s σ H xs us Q I r h
 obtain ⟨a, C, dx, c2, y, c, b, rfl, hy, ea, hd, M, e, q⟩ := h
 obtain ⟨u, v, rfl, ru, rv⟩ := r.two
 obtain rfl := hy v rv
 obtain rfl : u = Value.ref a := ru
 exact PySem.W.kia_one (kitx_exc M.cls) I.kIn (excF_inst I ea hd) e (fun z => nomatch z) fun tk => ⟨.bl b, H, I.tok tk, rfl, q⟩
theorem refs_of : ∀ {cs : List Addr} {us : List Value}, Vals (cs.map V.ref) us -> us = cs.map Value.ref
 | [], _, .nil => rfl
 | c :: cs, _, .cons r t => by
  rw [List.map_cons, <- refs_of t]
  exact congrArg (· :: _) r
theorem call_isinstFT : CallR X (.builtin "isinstance") (fun xs H Q => ∃ (a C : Addr) (dx : Option Addr) (c2 : Value) (tp : Addr) (cs : List Addr) (b : Bool), xs = [.ref a, .ref tp] /\ H tp = some (.tup (cs.map V.ref)) /\ H a = some (excF a C dx c2) /\ (∀ d, dx = some d -> ∃ fs, H d = some (.xd fs)) /\ XCl X.K C ∧
  PySem.W.kitAny X.K (.ref C) (cs.map Value.ref) = some b /\ Q (.bl b) H) := by
 intro pins s σ H xs us Q I r h
 obtain ⟨a, C, dx, c2, tp, cs, b, rfl, et, ea, hd, M, e, q⟩ := h
 obtain ⟨u, v, rfl, ru, rv⟩ := r.two
 obtain rfl : u = Value.ref a := ru
 obtain rfl : v = Value.ref tp := rv
 obtain ⟨_, its, rv2, ⟨oc, od, dt, sl⟩, h1, h2, n, h3⟩ := (show ObjOk X.prog X.w H s.heap tp (.tup (cs.map V.ref)) from I.hok tp _ et)
 obtain rfl := refs_of rv2
 dsimp only at h2 h3
 subst h2 h3
 exact PySem.W.kia_tup (kitx_exc M.cls) I.kIn (excF_inst I ea hd) h1 e (fun z => nomatch z) fun tk => ⟨.bl b, H, I.tok tk, rfl, q⟩
end
end L2
end
section
set_option maxHeartbeats 1000000
namespace L2
open PySem PySem.Spec PyProof.Rows
section
variable {X : Cx} {E : XS}
theorem thr_ownT (hs : X.stack = X.env :: X.outer) (hf : X.env.frame = some X.env.locals) : PassesOwn (model (X.thr E).prog (X.thr E).w) (X.thr E).A (X.thr E).env (X.thr E).xe := thr_own hs hf
end
end L2
end
section
set_option maxHeartbeats 1000000
namespace L2
open PySem PySem.Spec PyProof.Rows
end L2
end
section
namespace St
open PySem PySem.Spec PyProof.Rows
theorem met_all {ns : List Str} : ∀ i, i <= ns.length -> (met (fun i => ns.getD i Str.empty) i).length = i -> met (fun i => ns.getD i Str.empty) i = ns.take i /\ (ns.take i).Nodup
 | 0, _, _ => ⟨rfl, List.nodup_nil⟩
 | i + 1, h, e => by
  have hl := met_len (fun i => ns.getD i Str.empty) i
  have e1 : ns.getD i Str.empty = ns[i] := by simp [List.getD, List.getElem?_eq_getElem (show i < ns.length by omega)]
  rw [met_succ] at e ⊢
  rw [dd_len] at e
  by_cases c : (met (fun i => ns.getD i Str.empty) i).any (· == (fun i => ns.getD i Str.empty) i) = true
  ·rw [if_pos c] at e
   omega
  ·rw [if_neg c] at e
   have hm0 : (met (fun i => ns.getD i Str.empty) i).length = i := by omega
   obtain ⟨a, b⟩ := met_all i (by omega) hm0
   have c' : ns[i] ∉ ns.take i := fun hm => c (by
    rw [a]
    exact List.any_eq_true.mpr ⟨ns[i], hm, by rw [show (fun i => ns.getD i Str.empty) i = ns[i] from e1]; simp⟩)
   have et : ns.take (i + 1) = ns.take i ++ [ns[i]] := by rw [List.take_add_one, List.getElem?_eq_getElem (show i < ns.length by omega)]; rfl
   refine ⟨?_, ?_⟩
   ·unfold step_dedup
    rw [if_neg c, a, et]
    show ns.take i ++ [ns.getD i Str.empty] = _
    rw [e1]
   ·rw [et]
    exact List.nodup_append.mpr ⟨b, by simp, fun x hx y hy => by rw [List.mem_singleton.mp hy]; exact fun q => c' (by rw [<- q]; exact hx)⟩
theorem met_iff (ns : List Str) : (met (fun i => ns.getD i Str.empty) ns.length).length = ns.length ↔ ns.Nodup := by
 constructor
 ·intro h
  have := (met_all ns.length (Nat.le_refl _) h).2
  rwa [List.take_length] at this
 ·intro h
  rw [met_nodup h _ (Nat.le_refl _), List.take_length]
end St
namespace L2
open PySem PySem.Spec PyProof.Rows
def tLenSetG (te : TE) : TE := fun σ H Q => te σ H fun x H1 => ∃ p, ∃ ns : List Str, x = .ref p /\ H1 p = some (.lst (ns.map V.str)) /\ ns.length <= 1000 /\ ∀ m : Nat, m <= ns.length -> (m = ns.length ↔ ns.Nodup) -> Q (.int m) H1
theorem pe_lenSetG {X : Cx} {e : Expr} {te : TE} {p1 p2 q1 q2 : Pos} (hc : X.calm = true) (hg1 : Gl X "len") (hm1 : X.mg "len" = none) (hg2 : Gl X "set") (hm2 : X.mg "set" = none) (he : PE X e te)
  (hs2 : starEach [e] X.env = [(false, eval e X.env)] := by rfl)
  (hs1 : starEach [Expr.Call (.Name "set" p2) [e] [] q2] X.env = [(false, eval (.Call (.Name "set" p2) [e] [] q2) X.env)] := by rfl) :
  PE X (.Call (.Name "len" p1) [.Call (.Name "set" p2) [e] [] q2] [] q1) (tLenSetG te) := by
 intro pins s σ H Q I h
 refine wpAny_Call_Name_kw (ld_blt I hg1 hm1 PySem.boot_len ?_ (by decide) (by decide))
 refine PyProof.Rows.callWith_builtin1 ?_ hs1 rfl
 rw [hs1]
 refine Calls.spliced_cons ?_
 refine wpAny_Call_Name_kw (ld_blt I hg2 hm2 PyProof.Rows.boot_set ?_ (by decide) (by decide))
 refine PyProof.Rows.callWith_type1 (thn ((pc he pN hs2) q2 pins s σ H (fun vs H1 => match vs with
  | [x] => ∃ p, ∃ ns : List Str, x = .ref p /\ H1 p = some (.lst (ns.map V.str)) /\ ns.length <= 1000 /\ ∀ m : Nat, m <= ns.length -> (m = ns.length ↔ ns.Nodup) -> Q (.int m) H1
  | _ => False) I h) fun us s1 ⟨vs, H1, I1, r1, q⟩ => ?_) hs2 rfl
 match vs, r1, q with
 | [x], r1, q =>
  obtain ⟨p, ns, rfl, hp, hle, q⟩ := q
  obtain ⟨u, rfl, ru⟩ := vals1 r1
  cases ru
  obtain ⟨its, rv, pl, hz⟩ := I1.list (SqL.of (K := X.K) hp)
  have hlen : ns.length = its.length := by have := rv.length; rw [List.length_map] at this; exact this
  refine St.call_set_strs (ns := ns) (I.ok.hd hc) pl.isList (by simpa using strs_are rv) (by show its.toArray.size + 1 < 4096; rw [List.size_toArray]; omega) fun h2 tk hS hk => Calls.spliced_nil ?_
  obtain ⟨o, es, ep, t, ho, hex, hd, _, _, _, hf, hsz⟩ := hS
  have hsz' : es.size = (St.met (fun i => ns.getD i Str.empty) ns.length).length := by
   rw [hsz]
   have : its.toArray.size = ns.length := by simp [hlen]
   rw [this]
  have hml := St.met_len (fun i => ns.getD i Str.empty) ns.length
  refine call_len_set ho hex hd hf (by rw [hsz']; omega) ⟨.int es.size, H1, ?_, ⟨_, rfl⟩, q es.size (by rw [hsz']; exact hml) (by rw [hsz']; exact St.met_iff ns)⟩
  exact I1.kept fun b u eb => hk b u (Heap.lt_size eb) eb
theorem kit_none {K : PySem.W.Frag} {t : Value} : ∀ {cs : List Value}, (∀ c ∈ cs, PySem.W.kitOne K t c = some false) -> PySem.W.kitAny K t cs = some false
 | [], _ => rfl
 | c :: cs, h => by
  unfold PySem.W.kitAny
  rw [h c (by simp)]
  exact kit_none fun d hd => h d (by simp [hd])
open PySem.W in
def xTable2 (K : Frag) : Bool := xIn K (ad K "SwapError") bmV "ValueError.__new__" && (List.range 11).all (fun i => mroIn K (cAt K i) (.ref (ad K "SwapError")) == some true)
structure XTab2 (K : PySem.W.Frag) : Prop where
 obj : xIn K (ad K "SwapError") bmV "ValueError.__new__" = true
 mro : ∀ i, i < 11 -> PySem.W.mroIn K (cAt K i) (.ref (ad K "SwapError")) = some true
theorem xtab2_of {K : PySem.W.Frag} (e : xTable2 K = true) : XTab2 K := by
 unfold xTable2 at e
 simp only [Bool.and_eq_true, List.all_eq_true, List.mem_range, beq_iff_eq] at e
 exact ⟨e.1, e.2⟩
end L2
namespace L2
open PySem PySem.Spec PyProof.Rows
theorem excF_inj {e C C' : Addr} {d d' : Option Addr} {c c' : Value} (h : excF e C d c = excF e C' d' c') : C = C' /\ d = d' := by
 unfold excF at h
 injection h with h
 let o : Obj := { cls := .ref C, dict := d, data := .fields #[.none, .none, c, .none, .none, .none] }
 let hp : Heap := { objs := Array.replicate (e + 1) o }
 have hg : hp.get? e = some o := by
  unfold Heap.get?
  have : hp.objs[e]? = some o := by
   show (Array.replicate (e + 1) o)[e]? = some o
   simp
  rw [this]
 have h1 := congrFun h hp
 have h2 : ∃ vs : Array Value, (vs.size = 6 /\ vs[2]? = some c) /\ hp.get? e = some { cls := .ref C, dict := d, data := .fields vs } := ⟨_, ⟨rfl, rfl⟩, hg⟩
 rw [h1] at h2
 obtain ⟨vs, _, h3⟩ := h2
 rw [hg] at h3
 have h4 := Option.some.inj h3
 have h5 : Value.ref C = Value.ref C' := congrArg Obj.cls h4
 have h6 : d = d' := congrArg Obj.dict h4
 exact ⟨by injection h5, h6⟩
end L2
end
section
namespace K18
open PySem L2 M
seal L2.PE L2.PA L2.PS L2.PSs L2.PT L2.PW L2.PI L2.PG L2.PJ L2.PTs
def top (i : Nat) : Stmt := PySem.Challenge.pw_swapstride_k18_terms_refused.main.body.getD i (.Pass ⟨0, 0, 0, 0⟩)
abbrev s_need_once : Stmt := top 14
theorem sc_need_once : FnScope ["names", "things"] ["names", "things"] (xab s_need_once) := by walk_at "q"
abbrev s_sort_of : Stmt := top 15
theorem sc_sort_of : FnScope ["kinds", "K", "name", "sort", "parts"] ["kinds", "K"] (xab s_sort_of) := by walk_at "q"
abbrev s_parts_of : Stmt := top 16
theorem sc_parts_of : FnScope ["kinds", "K", "name", "sort", "parts"] ["kinds", "K"] (xab s_parts_of) := by walk_at "q"
abbrev s_kind_of : Stmt := top 19
theorem sc_kind_of : FnScope ["kinds", "term", "boxes", "head"] ["kinds", "term", "boxes"] (xab s_kind_of) := by walk_at "q"
abbrev s_num_kind : Stmt := top 20
theorem sc_num_kind : FnScope ["n"] ["n"] (xab s_num_kind) := by walk_at "q"
abbrev s_box_kind : Stmt := top 21
theorem sc_box_kind : FnScope ["x", "boxes"] ["x", "boxes"] (xab s_box_kind) := by walk_at "q"
abbrev s_op_kind : Stmt := top 22
theorem sc_op_kind : FnScope ["kinds", "term", "boxes"] ["kinds", "term", "boxes"] (xab s_op_kind) := by walk_at "q"
abbrev s_rec_kind : Stmt := top 23
theorem sc_rec_kind : FnScope ["kinds", "term", "boxes", "name", "parts", "part", "inner"] ["kinds", "term", "boxes"] (xab s_rec_kind) := by walk_at "q"
abbrev s_get_kind : Stmt := top 24
theorem sc_get_kind : FnScope ["kinds", "term", "boxes", "kind"] ["kinds", "term", "boxes"] (xab s_get_kind) := by walk_at "q"
abbrev s_tag_kind : Stmt := top 25
theorem sc_tag_kind : FnScope ["kinds", "term", "boxes", "name"] ["kinds", "term", "boxes"] (xab s_tag_kind) := by walk_at "q"
abbrev s_case_kind : Stmt := top 26
theorem sc_case_kind : FnScope ["kinds", "term", "boxes", "kind", "arms", "inner", "arm"] ["kinds", "term", "boxes"] (xab s_case_kind) := by walk_at "q"
abbrev s_arm_kind : Stmt := top 27
theorem sc_arm_kind : FnScope ["kinds", "kind", "arm", "boxes", "x"] ["kinds", "kind", "arm", "boxes"] (xab s_arm_kind) := by walk_at "q"
abbrev s_if_kind : Stmt := top 28
theorem sc_if_kind : FnScope ["kinds", "term", "boxes", "kind"] ["kinds", "term", "boxes"] (xab s_if_kind) := by walk_at "q"
abbrev s_need_kind : Stmt := top 29
theorem sc_need_kind : FnScope ["kinds", "term", "boxes", "kind"] ["kinds", "term", "boxes", "kind"] (xab s_need_kind) := by walk_at "q"
abbrev s_need_same : Stmt := top 30
theorem sc_need_same : FnScope ["found", "kind"] ["found", "kind"] (xab s_need_same) := by walk_at "q"
abbrev s_need_sort : Stmt := top 31
theorem sc_need_sort : FnScope ["kinds", "name", "sort", "found"] ["kinds", "name", "sort"] (xab s_need_sort) := by walk_at "q"
abbrev s_kind_of_sort : Stmt := top 32
theorem sc_kind_of_sort : FnScope ["kinds", "term", "boxes", "sort", "kind"] ["kinds", "term", "boxes", "sort"] (xab s_kind_of_sort) := by walk_at "q"
abbrev s_part_kind : Stmt := top 33
theorem sc_part_kind : FnScope ["kinds", "kind", "name", "part"] ["kinds", "kind", "name"] (xab s_part_kind) := by walk_at "q"
abbrev s_need_tags : Stmt := top 34
theorem sc_need_tags : FnScope ["kinds", "kind", "arms", "own", "tags", "tag"] ["kinds", "kind", "arms"] (xab s_need_tags) := by walk_at "q"
abbrev s_with_box : Stmt := top 35
theorem sc_with_box : FnScope ["boxes", "x", "thing", "more"] ["boxes", "x", "thing"] (xab s_with_box) := by walk_at "q"
abbrev sl_feed : Stmt := top 37
theorem scl_feed : FnScope ["_law_script", "_law_k", "_law_cell"] ["_law_script", "_law_k"] (xab sl_feed) := by walk_at "q"
abbrev sl_take : Stmt := top 38
theorem scl_take : FnScope ["_law_feed_here", "_law_many", "_law_digit", "_law_one"] ["_law_feed_here", "_law_many"] (xab sl_take) := by walk_at "q"
abbrev sl_names : Stmt := top 39
theorem scl_names : FnScope ["_law_cell", "_law_many", "_law_letters", "_law_size_here", "_law_at", "_law_common", "_law_found"] ["_law_cell", "_law_many"] (xab sl_names) := by walk_at "q"
abbrev sl_number : Stmt := top 40
theorem scl_number : FnScope ["_law_feed_here", "_law_form"] ["_law_feed_here"] (xab sl_number) := by walk_at "q"
abbrev sl_sort_of : Stmt := top 41
theorem scl_sort_of : FnScope ["_law_kinds_here", "_law_kind", "_law_name", "_law_sort", "_law_parts_here"] ["_law_kinds_here", "_law_kind"] (xab sl_sort_of) := by walk_at "q"
abbrev sl_size : Stmt := top 42
theorem scl_size : FnScope ["_law_kinds_here", "_law_kind", "_law_sort", "_law_parts_here", "_law_sizes"] ["_law_kinds_here", "_law_kind"] (xab sl_size) := by walk_at "q"
abbrev sl_small : Stmt := top 43
theorem scl_small : FnScope ["_law_kinds_here", "_law_kind", "_law_sort", "_law_parts_here"] ["_law_kinds_here", "_law_kind"] (xab sl_small) := by walk_at "q"
abbrev sl_parts : Stmt := top 44
theorem scl_parts : FnScope ["_law_feed_here", "_law_kinds_here", "_law_sort", "_law_names_here", "_law_parts_here", "_law_left", "_law_j", "_law_kind"] ["_law_feed_here", "_law_kinds_here", "_law_sort", "_law_names_here"] (xab sl_parts) := by walk_at "q"
abbrev sl_kinds : Stmt := top 45
theorem scl_kinds : FnScope ["_law_feed_here", "_law_names_here", "_law_kinds_here", "_law_k", "_law_sort"] ["_law_feed_here", "_law_names_here"] (xab sl_kinds) := by walk_at "q"
abbrev sl_high : Stmt := top 46
theorem scl_high : FnScope ["_law_kinds_here", "_law_kind", "_law_sort", "_law_parts_here"] ["_law_kinds_here", "_law_kind"] (xab sl_high) := by walk_at "q"
abbrev sl_any_kind : Stmt := top 47
theorem scl_any_kind : FnScope ["_law_feed_here", "_law_kinds_here"] ["_law_feed_here", "_law_kinds_here"] (xab sl_any_kind) := by walk_at "q"
abbrev sl_arms : Stmt := top 48
theorem scl_arms : FnScope ["_law_feed_here", "_law_kinds_here", "_law_boxes", "_law_parts_here", "_law_kind", "_law_room", "_law_nest", "_law_arms_here", "_law_t", "_law_part", "_law_x"] ["_law_feed_here", "_law_kinds_here", "_law_boxes", "_law_parts_here", "_law_kind", "_law_room", "_law_nest"] (xab sl_arms) := by walk_at "q"
abbrev sl_case : Stmt := top 49
theorem scl_case : FnScope ["_law_feed_here", "_law_kinds_here", "_law_boxes", "_law_kind", "_law_room", "_law_nest", "_law_small_here", "_law_some", "_law_name", "_law_sort", "_law_parts_here", "_law_more", "_law_one"] ["_law_feed_here", "_law_kinds_here", "_law_boxes", "_law_kind", "_law_room", "_law_nest"] (xab sl_case) := by walk_at "q"
abbrev sl_get : Stmt := top 50
theorem scl_get : FnScope ["_law_feed_here", "_law_kinds_here", "_law_boxes", "_law_kind", "_law_room", "_law_nest", "_law_some", "_law_name", "_law_sort", "_law_parts_here", "_law_f"] ["_law_feed_here", "_law_kinds_here", "_law_boxes", "_law_kind", "_law_room", "_law_nest"] (xab sl_get) := by walk_at "q"
abbrev sl_whole_term : Stmt := top 51
theorem scl_whole_term : FnScope ["_law_feed_here", "_law_kinds_here", "_law_boxes", "_law_kind", "_law_room", "_law_nest", "_law_sort", "_law_parts_here", "_law_one", "_law_other", "_law_some", "_law_t", "_law_part", "_law_more", "_law_terms", "_law_f"] ["_law_feed_here", "_law_kinds_here", "_law_boxes", "_law_kind", "_law_room", "_law_nest"] (xab sl_whole_term) := by walk_at "q"
abbrev sl_term : Stmt := top 52
theorem scl_term : FnScope ["_law_feed_here", "_law_kinds_here", "_law_boxes", "_law_kind", "_law_room", "_law_nest", "_law_form", "_law_some", "_law_small_here", "_law_found", "_law_more", "_law_one", "_law_first"] ["_law_feed_here", "_law_kinds_here", "_law_boxes", "_law_kind", "_law_room", "_law_nest"] (xab sl_term) := by walk_at "q"
abbrev sl_cell_0 : Stmt := top 53
theorem scl_cell_0 : FnScope ["_law_script"] ["_law_script"] (xab sl_cell_0) := by walk_at "q"
abbrev sl_good : Stmt := top 54
theorem scl_good : FnScope ["_law_feed_here", "_law_kinds_here", "_law_boxes", "_law_kind"] ["_law_feed_here", "_law_kinds_here", "_law_boxes", "_law_kind"] (xab sl_good) := by walk_at "q"
abbrev sl_few : Stmt := top 55
theorem scl_few : FnScope ["_law_feed_here", "_law_kinds_here", "_law_most", "_law_some"] ["_law_feed_here", "_law_kinds_here", "_law_most"] (xab sl_few) := by walk_at "q"
abbrev sl_more_kinds : Stmt := top 56
theorem scl_more_kinds : FnScope ["_law_feed_here", "_law_kinds_here", "_law_names_here", "_law_kind", "_law_rec", "_law_alt"] ["_law_feed_here", "_law_kinds_here", "_law_names_here"] (xab sl_more_kinds) := by walk_at "q"
abbrev sl_arms_of : Stmt := top 57
theorem scl_arms_of : FnScope ["_law_feed_here", "_law_kinds_here", "_law_boxes", "_law_names_here", "_law_kind", "_law_one"] ["_law_feed_here", "_law_kinds_here", "_law_boxes", "_law_names_here", "_law_kind"] (xab sl_arms_of) := by walk_at "q"
abbrev sl_plain_fault : Stmt := top 58
theorem scl_plain_fault : FnScope ["_law_feed_here", "_law_kinds_here", "_law_boxes", "_law_names_here", "_law_way", "_law_rec", "_law_one", "_law_great", "_law_some", "_law_last", "_law_other", "_law_alt"] ["_law_feed_here", "_law_kinds_here", "_law_boxes", "_law_names_here", "_law_way"] (xab sl_plain_fault) := by walk_at "q"
abbrev sl_case_fault : Stmt := top 59
theorem scl_case_fault : FnScope ["_law_feed_here", "_law_kinds_here", "_law_boxes", "_law_names_here", "_law_way", "_law_alt", "_law_kind", "_law_arms_here", "_law_x", "_law_at", "_law_arm", "_law_other", "_law_last", "_law_inner"] ["_law_feed_here", "_law_kinds_here", "_law_boxes", "_law_names_here", "_law_way"] (xab sl_case_fault) := by walk_at "q"
abbrev sl_last_fault : Stmt := top 60
theorem scl_last_fault : FnScope ["_law_feed_here", "_law_kinds_here", "_law_boxes", "_law_names_here", "_law_way", "_law_rec", "_law_one", "_law_alt"] ["_law_feed_here", "_law_kinds_here", "_law_boxes", "_law_names_here", "_law_way"] (xab sl_last_fault) := by walk_at "q"
abbrev sl_fault : Stmt := top 61
theorem scl_fault : FnScope ["_law_feed_here", "_law_kinds_here", "_law_boxes", "_law_names_here", "_law_way"] ["_law_feed_here", "_law_kinds_here", "_law_boxes", "_law_names_here"] (xab sl_fault) := by walk_at "q"
abbrev sl_within : Stmt := top 62
theorem scl_within : FnScope ["_law_feed_here", "_law_kinds_here", "_law_boxes", "_law_names_here", "_law_kind", "_law_term_here", "_law_held", "_law_pick", "_law_one", "_law_other", "_law_arms_here"] ["_law_feed_here", "_law_kinds_here", "_law_boxes", "_law_names_here", "_law_kind", "_law_term_here", "_law_held"] (xab sl_within) := by walk_at "q"
abbrev sl_refused : Stmt := top 63
theorem scl_refused : FnScope ["_law_kinds_here", "_law_term_here", "_law_boxes", "_law_told", "e"] ["_law_kinds_here", "_law_term_here", "_law_boxes"] (xab sl_refused) := by walk_at "q"
abbrev s_law : Stmt := top 64
theorem sc_law : FnScope ["_law_script", "_law_names_here", "_law_feed_here", "_law_kinds_here", "_law_at", "_law_boxes", "_law_k", "_law_word", "_law_kind", "_law_term_here", "_law_turn", "_law_handed", "_law_due"] ["_law_script"] (xab s_law) := by walk_at "q"
abbrev s_init : Stmt := clsDef (top 2) 0
structure Tx (K : PySem.W.Frag) (mg : Str -> Option Value) : Prop where
 d_need_once : DefTx K mg "need_once" s_need_once ["names", "things"]
 d_sort_of : DefTx K mg "sort_of" s_sort_of ["kinds", "K"]
 d_parts_of : DefTx K mg "parts_of" s_parts_of ["kinds", "K"]
 d_kind_of : DefTx K mg "kind_of" s_kind_of ["kinds", "term", "boxes"]
 d_num_kind : DefTx K mg "num_kind" s_num_kind ["n"]
 d_box_kind : DefTx K mg "box_kind" s_box_kind ["x", "boxes"]
 d_op_kind : DefTx K mg "op_kind" s_op_kind ["kinds", "term", "boxes"]
 d_rec_kind : DefTx K mg "rec_kind" s_rec_kind ["kinds", "term", "boxes"]
 d_get_kind : DefTx K mg "get_kind" s_get_kind ["kinds", "term", "boxes"]
 d_tag_kind : DefTx K mg "tag_kind" s_tag_kind ["kinds", "term", "boxes"]
 d_case_kind : DefTx K mg "case_kind" s_case_kind ["kinds", "term", "boxes"]
 d_arm_kind : DefTx K mg "arm_kind" s_arm_kind ["kinds", "kind", "arm", "boxes"]
 d_if_kind : DefTx K mg "if_kind" s_if_kind ["kinds", "term", "boxes"]
 d_need_kind : DefTx K mg "need_kind" s_need_kind ["kinds", "term", "boxes", "kind"]
 d_need_same : DefTx K mg "need_same" s_need_same ["found", "kind"]
 d_need_sort : DefTx K mg "need_sort" s_need_sort ["kinds", "name", "sort"]
 d_kind_of_sort : DefTx K mg "kind_of_sort" s_kind_of_sort ["kinds", "term", "boxes", "sort"]
 d_part_kind : DefTx K mg "part_kind" s_part_kind ["kinds", "kind", "name"]
 d_need_tags : DefTx K mg "need_tags" s_need_tags ["kinds", "kind", "arms"]
 d_with_box : DefTx K mg "with_box" s_with_box ["boxes", "x", "thing"]
 dl_feed : DefTx K mg "_law_feed" sl_feed ["_law_script", "_law_k"]
 dl_take : DefTx K mg "_law_take" sl_take ["_law_feed_here", "_law_many"]
 dl_names : DefTx K mg "_law_names" sl_names ["_law_cell", "_law_many"]
 dl_number : DefTx K mg "_law_number" sl_number ["_law_feed_here"]
 dl_sort_of : DefTx K mg "_law_sort_of" sl_sort_of ["_law_kinds_here", "_law_kind"]
 dl_size : DefTx K mg "_law_size" sl_size ["_law_kinds_here", "_law_kind"]
 dl_small : DefTx K mg "_law_small" sl_small ["_law_kinds_here", "_law_kind"]
 dl_parts : DefTx K mg "_law_parts" sl_parts ["_law_feed_here", "_law_kinds_here", "_law_sort", "_law_names_here"]
 dl_kinds : DefTx K mg "_law_kinds" sl_kinds ["_law_feed_here", "_law_names_here"]
 dl_high : DefTx K mg "_law_high" sl_high ["_law_kinds_here", "_law_kind"]
 dl_any_kind : DefTx K mg "_law_any_kind" sl_any_kind ["_law_feed_here", "_law_kinds_here"]
 dl_arms : DefTx K mg "_law_arms" sl_arms ["_law_feed_here", "_law_kinds_here", "_law_boxes", "_law_parts_here", "_law_kind", "_law_room", "_law_nest"]
 dl_case : DefTx K mg "_law_case" sl_case ["_law_feed_here", "_law_kinds_here", "_law_boxes", "_law_kind", "_law_room", "_law_nest"]
 dl_get : DefTx K mg "_law_get" sl_get ["_law_feed_here", "_law_kinds_here", "_law_boxes", "_law_kind", "_law_room", "_law_nest"]
 dl_whole_term : DefTx K mg "_law_whole_term" sl_whole_term ["_law_feed_here", "_law_kinds_here", "_law_boxes", "_law_kind", "_law_room", "_law_nest"]
 dl_term : DefTx K mg "_law_term" sl_term ["_law_feed_here", "_law_kinds_here", "_law_boxes", "_law_kind", "_law_room", "_law_nest"]
 dl_cell_0 : DefTx K mg "_law_cell_0" sl_cell_0 ["_law_script"]
 dl_good : DefTx K mg "_law_good" sl_good ["_law_feed_here", "_law_kinds_here", "_law_boxes", "_law_kind"]
 dl_few : DefTx K mg "_law_few" sl_few ["_law_feed_here", "_law_kinds_here", "_law_most"]
 dl_more_kinds : DefTx K mg "_law_more_kinds" sl_more_kinds ["_law_feed_here", "_law_kinds_here", "_law_names_here"]
 dl_arms_of : DefTx K mg "_law_arms_of" sl_arms_of ["_law_feed_here", "_law_kinds_here", "_law_boxes", "_law_names_here", "_law_kind"]
 dl_plain_fault : DefTx K mg "_law_plain_fault" sl_plain_fault ["_law_feed_here", "_law_kinds_here", "_law_boxes", "_law_names_here", "_law_way"]
 dl_case_fault : DefTx K mg "_law_case_fault" sl_case_fault ["_law_feed_here", "_law_kinds_here", "_law_boxes", "_law_names_here", "_law_way"]
 dl_last_fault : DefTx K mg "_law_last_fault" sl_last_fault ["_law_feed_here", "_law_kinds_here", "_law_boxes", "_law_names_here", "_law_way"]
 dl_fault : DefTx K mg "_law_fault" sl_fault ["_law_feed_here", "_law_kinds_here", "_law_boxes", "_law_names_here"]
 dl_within : DefTx K mg "_law_within" sl_within ["_law_feed_here", "_law_kinds_here", "_law_boxes", "_law_names_here", "_law_kind", "_law_term_here", "_law_held"]
 dl_refused : DefTx K mg "_law_refused" sl_refused ["_law_kinds_here", "_law_term_here", "_law_boxes"]
 d_law : DefTx K mg "law" s_law ["_law_script"]
 g_WIDE : ∃ t, mg "WIDE" = some (.int 4294967296 t)
 z_ValueError : mg "ValueError" = none
 z_dict : mg "dict" = none
 z_int : mg "int" = none
 z_isinstance : mg "isinstance" = none
 z_len : mg "len" = none
 z_max : mg "max" = none
 z_range : mg "range" = none
 z_set : mg "set" = none
 z_sum : mg "sum" = none
 z_tuple : mg "tuple" = none
 z_zip : mg "zip" = none
 c_BadText : mg "BadText" = some (.ref (cAt K 0))
 c_Twice : mg "Twice" = some (.ref (cAt K 1))
 c_NoName : mg "NoName" = some (.ref (cAt K 2))
 c_NoCount : mg "NoCount" = some (.ref (cAt K 3))
 c_WrongKind : mg "WrongKind" = some (.ref (cAt K 4))
 c_Lacks : mg "Lacks" = some (.ref (cAt K 5))
 c_NotOwn : mg "NotOwn" = some (.ref (cAt K 6))
 c_Falls : mg "Falls" = some (.ref (cAt K 7))
 c_TooBig : mg "TooBig" = some (.ref (cAt K 8))
 c_NoFit : mg "NoFit" = some (.ref (cAt K 9))
 c_NoCode : mg "NoCode" = some (.ref (cAt K 10))
 c_SwapError : mg "SwapError" = some (.ref (ad K "SwapError"))
 xt2 : XTab2 K
 xt : XTab K
 it : InitTx K "BadText.__init__" (cAt K 0) s_init ["self", "at"]
theorem fits {n : Nat} (h : n <= 4000000) : n <= sizeLine := Nat.le_trans h (by decide)
theorem xa1 {n : Nat} (h : n <= 4000000) : n < sizeLine := Nat.lt_of_le_of_lt h (by decide)
theorem boot_VE : bootBuiltins "ValueError" = some (.type "ValueError") := by walk_at "k"
end K18
end
section
local macro_rules | `(tactic| walk_at "rd1") => `(tactic| first
 | refine ⟨_, rfl, ?_⟩
 | refine ⟨_, _, rfl, rfl, ?_⟩
 | refine ⟨_, _, _, _, rfl, rfl, (by assumption), (by first | rfl | assumption), ?_⟩
 | refine ⟨_, _, rfl, .inl (by assumption), ?_⟩
 | refine ⟨(by first | exact .inr ⟨by decide, by decide⟩ | exact .inl ⟨by decide, by decide⟩ | exact ⟨by decide, by decide, by decide⟩ | exact ⟨by decide, by decide⟩ | exact ⟨by assumption, by assumption⟩ | (show (0 : Int) < _; first | decide | assumption)), ?_⟩
 | refine ⟨rfl, ?_⟩)
local macro_rules | `(tactic| walk_at "rd") => `(tactic| repeat walk_at "rd1")
namespace K18
open PySem L2 M
seal L2.PE L2.PA L2.PS L2.PSs L2.PT L2.PW L2.PI L2.PG L2.PJ L2.PTs
def spFeed (K : PySem.W.Frag) : Sp := fun vs H Q _ => ∃ (a : Addr) (ns : List Int) (k : Int), vs = [.ref a, .int k] /\ SqL K H a (ns.map V.int) /\ ns.length <= 63 /\ 0 <= k /\ ∀ (r : Addr) (p q : Int), H r = none -> Q (.ref r) (upd H r (.lst [.int p, .int q]))
def xbc : Sp := fun vs H Q _ => ∃ (a : Addr) (p q m : Int), vs = [.ref a, .int m] /\ H a = some (.lst [.int p, .int q]) /\ 0 < m /\ m < 2 ^ 64 /\ ∀ (r : Int) (H' : Hp), 0 <= r -> r < m -> Fed a H H' -> Q (.int r) H'
section
variable {P : Program} {w : World} {K : PySem.W.Frag} {mg : Str -> Option Value} {base : Heap} {n : Nat}
theorem at_ints {ns : List Int} {k : Int} (h0 : 0 <= k) (h : k < (ns.length : Int)) : ∃ v : Int, atI (ns.map V.int) k = some (.int v) := by
 have hk : k.toNat < ns.length := by omega
 have ek : k = ((k.toNat : Nat) : Int) := by omega
 refine ⟨ns[k.toNat], ?_⟩
 have q : atI (ns.map V.int) ((k.toNat : Nat) : Int) = some (.int ns[k.toNat]) := xai (by rw [List.getElem?_map, List.getElem?_eq_getElem hk] <;> rfl)
 rw [<- ek] at q
 exact q
theorem two_fits : 2 <= sizeLine := by decide
theorem okl_feed (T : Tx K mg) : DefIs P w K mg base (n + 1) "_law_feed" ["_law_script", "_law_k"] (spFeed K) := by
 refine DefIs.of T.dl_feed scl_feed ?_ ?_ <;> walk_at "i"
 ·obtain ⟨a, ns, k, rfl, _⟩ := h
  rfl
 obtain ⟨a, ns, k, rfl, hS, h63, hk, q⟩ := h
 have nd := scl_feed.nd
 have hl : (ns.map V.int).length = ns.length := List.length_map _
 refine ⟨_, (zpn (xae (i := 2) nd rfl (by walk_at "o") pI)
   (zpn (xap (pR op_lt (pv 1) (xam xaj rfl T.z_len PySem.boot_len (pc (pv 0) pN zsn)) (nM _)) (po (xae (i := 2) nd rfl (by walk_at "o") (xac iL (pv 0) (pv 1) (fun _ _ => rfl)))) pQ)
   (zpn (xap (PW.pt (pw_and (pR op_gt (xam xaj rfl T.z_len PySem.boot_len (pc (pv 0) pN zsn)) pI (nM _)) (pw_and1 (pR xaq (xah op_mod (xac iL (pv 0) pI (fun _ _ => rfl)) pI) pI (nM _))))) (po (xad (xat (pc (pv 2) (pc (xah xas (xah op_mod (xah xas (xah op_mul (xah op_mod (pv 2) pI) pI) (xah op_mul pI (pv 1))) pI) pI) pN xak) zsn)))) pQ)
   (zpn (xap (PW.pt (pw_and (pR op_ge (pv 1) (xam xaj rfl T.z_len PySem.boot_len (pc (pv 0) pN zsn)) (nM _)) (pw_and1 (pR op_gt (xam xaj rfl T.z_len PySem.boot_len (pc (pv 0) pN zsn)) pI (nM _))))) (po (xae (i := 2) nd rfl (by walk_at "o") (xah xas (xac iL (pv 0) (xah op_mod (pv 1) (xam xaj rfl T.z_len PySem.boot_len (pc (pv 0) pN zsn))) (fun _ _ => rfl)) (xah op_mul pI (pv 1))))) pQ)
   (po (xad (xat (pc pI (pc (xah xas (xah op_mod (xah xas (xah op_mul (xah op_mod (pv 2) pI) pI) (xah op_mul pI (pv 1))) pI) pI) pN xak) zso)))))))), ?_⟩
 have h0 : 0 < ns.length -> ∃ v : Int, atI (ns.map V.int) 0 = some (.int v) := fun h => at_ints (Int.le_refl 0) (by omega)
 walk_at "rd"
 refine ite2 (fun c => ?_) (fun c => ?_)
 ·have c' := of_decide_eq_true c
  rw [hl] at c'
  obtain ⟨v, hv⟩ := at_ints (ns := ns) hk c'
  obtain ⟨v0, hv0⟩ := h0 (by omega)
  walk_at "rd"
  refine ite2 (fun c2 => ?_) (fun c2 => ?_)
  ·walk_at "rd"
   refine ite2 (fun c3 => ?_) (fun c3 => ?_)
   ·walk_at "rd"
    exact ⟨two_fits, fun l hl' => q l _ _ hl'⟩
   ·walk_at "rd"
    refine ite2 (fun c4 => ?_) (fun c4 => ?_)
    ·have c4' := of_decide_eq_true c4
     rw [hl] at c4'
     omega
    ·refine iteF ?_
     walk_at "rd"
     exact ⟨two_fits, fun l hl' => q l _ _ hl'⟩
  ·have c2' := of_decide_eq_false (Bool.eq_false_iff.mpr c2)
   rw [hl] at c2'
   omega
 ·have c' := of_decide_eq_false (Bool.eq_false_iff.mpr c)
  rw [hl] at c'
  walk_at "rd"
  refine ite2 (fun c2 => ?_) (fun c2 => ?_)
  ·have c2' := of_decide_eq_true c2
   rw [hl] at c2'
   obtain ⟨v0, hv0⟩ := h0 (by omega)
   walk_at "rd"
   refine ite2 (fun c3 => ?_) (fun c3 => ?_)
   ·walk_at "rd"
    exact ⟨two_fits, fun l hl' => q l _ _ hl'⟩
   ·walk_at "rd"
    refine ite2 (fun c4 => ?_) (fun c4 => ?_)
    ·walk_at "rd"
     refine ite2 (fun c5 => ?_) (fun c5 => ?_)
     ·obtain ⟨v, hv⟩ := at_ints (ns := ns) (k := k % (ns.length : Int)) (Int.emod_nonneg _ (by omega)) (Int.emod_lt_of_pos _ (by omega))
      rw [<- hl] at hv
      have hp : (0 : Int) < ((ns.map V.int).length : Nat) := by rw [hl]; omega
      walk_at "rd"
      exact ⟨two_fits, fun l hl' => q l _ _ hl'⟩
     ·walk_at "rd"
      exact ⟨two_fits, fun l hl' => q l _ _ hl'⟩
    ·refine iteF ?_
     walk_at "rd"
     exact ⟨two_fits, fun l hl' => q l _ _ hl'⟩
  ·refine iteF ?_
   walk_at "rd"
   refine ite2 (fun c4 => ?_) (fun c4 => ?_)
   ·walk_at "rd"
    refine ite2 (fun c5 => ?_) (fun c5 => ?_)
    ·have c2' := of_decide_eq_false (Bool.eq_false_iff.mpr c2)
     exact absurd (of_decide_eq_true c5) c2'
    ·walk_at "rd"
     exact ⟨two_fits, fun l hl' => q l _ _ hl'⟩
   ·refine iteF ?_
    walk_at "rd"
    exact ⟨two_fits, fun l hl' => q l _ _ hl'⟩
theorem okl_take (T : Tx K mg) : DefIs P w K mg base (n + 1) "_law_take" ["_law_feed_here", "_law_many"] xbc := by
 refine DefIs.of T.dl_take scl_take ?_ ?_ <;> walk_at "i"
 ·obtain ⟨a, p, q, m, rfl, _⟩ := h
  rfl
 obtain ⟨a, p, q, m, rfl, ha, m0, m1, k⟩ := h
 have nd := scl_take.nd
 have hS : SqL K H a [.int p, .int q] := SqL.of ha
 refine ⟨_, (zpn (xap (pR op_gt (xac iL (pv 0) pI (fun _ _ => rfl)) pI (nM _)) (zpn (xae (i := 2) nd rfl (by walk_at "o") (xah op_mod (xac iL (pv 0) pI (fun _ _ => rfl)) (pv 1)))
   (zpn (ps_asg (xah xa5 (xac iL (pv 0) pI (fun _ _ => rfl)) (pv 1)) (pg_sub (pv 0) pI set_list))
   (po (xad (pv 2))))) pQ)
   (zpn (xae (i := 3) nd rfl (by walk_at "o") (xah op_mod (xah op_mul (xac iL (pv 0) pI (fun _ _ => rfl)) pI) pI))
   (zpn (ps_asg (xah xas (xah op_mod (xah xas (xah op_mul (pv 3) pI) pI) pI) pI) (pg_sub (pv 0) pI set_list))
   (po (xad (xah op_mod (xah xa5 (xah xas (xah op_mul (pv 3) pI) (xac iL (pv 0) pI (fun _ _ => rfl))) pI) (pv 1))))))), ?_⟩
 walk_at "rd"
 refine ite2 (fun c => ?_) (fun c => ?_)
 ·walk_at "rd"
  refine k _ _ (Int.emod_nonneg _ (by omega)) (Int.emod_lt_of_pos _ m0) Fed.of
 ·walk_at "rd"
  refine ⟨_, _, _, _, rfl, rfl, SqL.of ups, rfl, ?_⟩
  walk_at "rd"
  refine k _ _ (Int.emod_nonneg _ (by omega)) (Int.emod_lt_of_pos _ m0) Fed.of
end
end K18
end
section
namespace M
open PySem L2
def byN (j : Nat) : Str := ofL [98, 121, 97 + j]
theorem byN_inj {i j : Nat} (h : byN i = byN j) : i = j := by
 have := congrArg L h
 unfold byN at this
 rw [L_ofL, L_ofL] at this
 simp at this
 exact this
def NoBy (x : Str) : Prop := ∀ j : Nat, x ≠ byN j
theorem nb_of {l : List Nat} (h : l[0]? ≠ some 98 \/ l[1]? ≠ some 121) : NoBy (ofL l) := fun j e => by
 have := congrArg L e
 unfold byN at this
 rw [L_ofL, L_ofL] at this
 subst this
 simp at h
theorem five_ne {c : Nat} (h : c ∈ five) : c ≠ 98 /\ c ≠ 121 := by
 revert h
 unfold five
 simp
 omega
theorem nmA_nb {cs : List Nat} (h5 : ∀ c ∈ cs, c ∈ five) (a : Nat) (b : Int) (k : Nat) (t : List Nat) (ht : ∀ c ∈ t, c ∈ five) : NoBy (ofL (nmA cs a b k ++ t)) := by
 apply nb_of
 unfold nmA
 cases hcs : cs.take a with
 | nil =>
  right
  rw [List.nil_append, List.cons_append, List.getElem?_cons_succ]
  intro e
  have hm := List.mem_of_getElem? e
  rcases List.mem_append.mp hm with hm | hm
  ·exact (five_ne (h5 _ (List.mem_of_mem_drop hm))).2 rfl
  ·exact (five_ne (ht _ hm)).2 rfl
 | cons c r =>
  left
  intro e
  simp at e
  have : c ∈ cs.take a := by rw [hcs]; simp
  exact (five_ne (h5 c (List.mem_of_mem_take this))).1 e
theorem nmsA_nb {cs : List Nat} {a : Nat} {b : Int} (h5 : ∀ c ∈ cs, c ∈ five) : ∀ z ∈ ((List.range 26).map fun k => ofL (nmA cs a b k)), NoBy z := fun z hz => by
 obtain ⟨k, _, rfl⟩ := List.mem_map.mp hz
 have := nmA_nb h5 a b k [] (fun _ h => nomatch h)
 rw [List.append_nil] at this
 exact this
theorem nmsB_nb {cs : List Nat} {a : Nat} {b : Int} (h5 : ∀ c ∈ cs, c ∈ five) : ∀ z ∈ ((List.range 26).map fun k => ofL (nmB cs a b k)), NoBy z := fun z hz => by
 obtain ⟨k, _, rfl⟩ := List.mem_map.mp hz
 unfold nmB
 exact nmA_nb h5 a b _ _ fun c hc => by rw [List.eq_of_mem_replicate hc]; decide
theorem eight_at {i : Nat} (h : i < 8) : atI (S "abcdefgh").cps.toList (i : Int) = some (97 + i) := by
 have all : ∀ k, k < 8 -> (S "abcdefgh").cps.toList[k]? = some (97 + k) := by walk_at "k"
 exact xai (all i h)
theorem byN_text (i : Nat) : S "by" ++ (⟨#[97 + i]⟩ : Str) = byN i := by
 apply L_inj
 rw [L_append, show L (S "by") = [98, 121] by walk_at "k"]
 rfl
def BxAt (H : Hp) (f : Addr) (bv : V) (bs : List (Str × Str)) : Prop := ∃ bl us, bv = .ref bl /\ H bl = some (.lst us) /\ RelDs H us (bs.map dPart) /\ bl ≠ f
def BFree (bs : List (Str × Str)) (m : Nat) : Prop := ∀ b ∈ bs, ∀ j, j < m -> b.1 ≠ byN j
def PNB (ks : List Kn) : Prop := ∀ k ∈ ks, ∀ p ∈ k.parts, NoBy p.1
structure TIn (H : Hp) (f : Addr) (kv bv : V) (ks : List Kn) (bs : List (Str × Str)) (m : Nat) : Prop where
 fd : ∃ p q : Int, H f = some (.lst [.int p, .int q])
 kd : RelD H kv (dKinds ks)
 wf : KWf ks
 nb : PNB ks
 bx : BxAt H f bv bs
 nd : (bs.map (·.1)).Nodup
 bl : bs.length + m <= 30
 fr : BFree bs m
 kn : ∀ b ∈ bs, KIn ks 6 b.2
theorem TIn.same {H H' : Hp} {f : Addr} {kv bv : V} {ks : List Kn} {bs : List (Str × Str)} {m : Nat} (h : TIn H f kv bv ks bs m) (s : Same H H') : TIn H' f kv bv ks bs m := by
 obtain ⟨p, q, hf⟩ := h.fd
 obtain ⟨bl, us, e, hb, hu, n⟩ := h.bx
 exact ⟨⟨p, q, s _ _ hf⟩, h.kd.same s _, h.wf, h.nb, ⟨bl, us, e, s _ _ hb, hu.same s _, n⟩, h.nd, h.bl, h.fr, h.kn⟩
theorem TIn.fed {H H' : Hp} {f : Addr} {kv bv : V} {ks : List Kn} {bs : List (Str × Str)} {m : Nat} (h : TIn H f kv bv ks bs m) (s : Fed f H H') : TIn H' f kv bv ks bs m := by
 obtain ⟨bl, us, e, hb, hu, n⟩ := h.bx
 exact ⟨s.2, h.kd.tups (xal h.fd s) _, h.wf, h.nb, ⟨bl, us, e, s.1 _ _ hb n, hu.tups (xal h.fd s) _, n⟩, h.nd, h.bl, h.fr, h.kn⟩
theorem TIn.down {H : Hp} {f : Addr} {kv bv : V} {ks : List Kn} {bs : List (Str × Str)} {m m' : Nat} (h : TIn H f kv bv ks bs m) (l : m' <= m) : TIn H f kv bv ks bs m' :=
 ⟨h.fd, h.kd, h.wf, h.nb, h.bx, h.nd, by have := h.bl; omega, fun b hb j hj => h.fr b hb j (by omega), h.kn⟩
theorem max_is {ns : List Int} (h0 : ∀ n ∈ ns, 0 <= n) {m : Int} (hm : m ∈ ns ++ [0]) (h : ∀ n ∈ ns ++ [0], n <= m) : m = maxD ns := by
 have h00 := h 0 (by simp)
 by_cases he : ns = []
 ·subst he
  simp at hm
  rw [hm]
  rfl
 ·have h1 := maxD_mem he h0
  have h2 := h _ (List.mem_append_left _ h1)
  have h3 := h0 _ h1
  rcases List.mem_append.mp hm with hm | hm
  ·have := maxD_ge hm
   omega
  ·rw [List.mem_singleton.mp hm] at h2 ⊢
   omega
end M
namespace M
open PySem L2
end M
end
section
namespace M
open PySem L2
def ArmN (ks : List Kn) (z : Str) : Prop := (∃ j, z = byN j) \/ ∃ k ∈ ks, ∃ p ∈ k.parts, p.1 = z
def FitK (ks : List Kn) (bs : List (Str × Str)) (env : En) : Prop := (∀ p ∈ bs, env p.1 = some (.str p.2)) /\ ∀ z, ArmN ks z -> (∀ q ∈ bs, q.1 ≠ z) -> env z = none
theorem FitK.put {ks : List Kn} {bs : List (Str × Str)} {env : En} {y k : Str} (h : FitK ks bs env) (hy : ∀ p ∈ bs, p.1 ≠ y) : FitK ks (bs ++ [(y, k)]) (env.put y (.str k)) := by
 refine ⟨fun p hp => ?_, fun z hz hq => ?_⟩
 ·unfold En.put
  rcases List.mem_append.mp hp with hp | hp
  ·rw [if_neg (hy p hp)]; exact h.1 p hp
  ·rw [List.mem_singleton.mp hp, if_pos rfl]
 ·unfold En.put
  have hzy : y ≠ z := hq (y, k) (by simp)
  rw [if_neg (Ne.symm hzy)]
  exact h.2 z hz fun q hq' => hq q (by simp [hq'])
def TmK (ks : List Kn) (n : Nat) (bs : List (Str × Str)) (d : D) (x : Str) : Prop := ∀ env, FitK ks bs env -> Kd True ks n env d x
def TmB (ks : List Kn) (n : Nat) (bs : List (Str × Str)) (d : D) (x : Str) : Prop := TmOk ks n bs d x /\ TmK ks n bs d x
theorem kd_leaf {ks : List Kn} {n : Nat} {env : En} {d : D} {x : Str} (h : LeafKd env d x) : Kd True ks n env d x := by
 cases n with
 | zero => exact h
 | succ n => exact .inl h
theorem tb_num {ks : List Kn} {n : Nat} {bs : List (Str × Str)} {i : Int} (h : Nm i) : TmB ks n bs (tNum i) (S "num") := ⟨tm_num h, fun env _ => kd_leaf (.inl ⟨i, h, rfl, rfl⟩)⟩
theorem tb_box {ks : List Kn} {n : Nat} {bs : List (Str × Str)} {y x : Str} (h : (y, x) ∈ bs) : TmB ks n bs (tBox y) x := ⟨tm_box h, fun env hf => kd_leaf (.inr ⟨y, hf.1 _ h, rfl⟩)⟩
theorem tb_op {ks : List Kn} (wf : KWf ks) {n : Nat} {bs : List (Str × Str)} {s : Str} {a b : D} (hs : Sg s) (ha : TmB ks n bs a (S "num")) (hb : TmB ks n bs b (S "num")) : TmB ks (n + 1) bs (tOpD s a b) (S "num") :=
 ⟨tm_op wf hs ha.1 hb.1, fun env hf => .inr (.inl ⟨s, a, b, ha.2 env hf, hb.2 env hf, rfl, rfl⟩)⟩
theorem tb_rec {ks : List Kn} {n : Nat} {bs : List (Str × Str)} {x : Str} {k : Kn} {es : List D} (hk : kAt ks x = some k) (hr : k.rc = true) (hl : k.parts.length <= 1000) (h : All2 (fun e (p : Str × Str) => TmB ks n bs e p.2) es k.parts) : TmB ks (n + 1) bs (tRec x es) x :=
 ⟨tm_rec hk hr hl (h.imp fun _ _ h => h.1), fun env hf => .inr (.inr (.inl ⟨es, k, hk, hr, h.imp fun _ _ h => h.2 env hf, rfl⟩))⟩
theorem part_at {k : Kn} {p : Str × Str} (nd : (k.parts.map (·.1)).Nodup) (hp : p ∈ k.parts) : xav k p.1 = some p.2 := by
 unfold xav
 obtain ⟨i, hi, e⟩ := List.mem_iff_getElem.mp hp
 have := find_nodup (f := fun r : Str × Str => r.1) (xs := k.parts) (i := i) (a := p) nd (by rw [<- e]; exact List.getElem?_eq_getElem hi)
 rw [this]
 rfl
theorem tb_get {ks : List Kn} (wf : KWf ks) {n : Nat} {bs : List (Str × Str)} {y : Str} {k : Kn} {a : D} {p : Str × Str} (hk : kAt ks y = some k) (hr : k.rc = true) (hp : p ∈ k.parts) (h : TmB ks n bs a y) : TmB ks (n + 1) bs (tGet a p.1) p.2 :=
 ⟨tm_get wf hk hr hp h.1, fun env hf => .inr (.inr (.inr (.inl ⟨a, y, p.1, k, h.2 env hf, hk, hr, part_at (wf.pnd k (List.mem_of_find?_eq_some hk)) hp, rfl⟩)))⟩
theorem tb_tag {ks : List Kn} (wf : KWf ks) {n : Nat} {bs : List (Str × Str)} {x : Str} {k : Kn} {a : D} {p : Str × Str} (hk : kAt ks x = some k) (hr : k.rc = false) (hp : p ∈ k.parts) (h : TmB ks n bs a p.2) : TmB ks (n + 1) bs (tTag x p.1 a) x :=
 ⟨tm_tag hk hr hp h.1, fun env hf => .inr (.inr (.inr (.inr (.inl ⟨p.1, a, k, p.2, hk, hr, part_at (wf.pnd k (List.mem_of_find?_eq_some hk)) hp, h.2 env hf, rfl⟩))))⟩
theorem nodup_inj {α β : Type} {f : α -> β} : ∀ {l : List α}, (l.map f).Nodup -> ∀ {a b : α}, a ∈ l -> b ∈ l -> f a = f b -> a = b
 | [], _, a, _, ha, _, _ => nomatch ha
 | c :: l, nd, a, b, ha, hb, e => by
  rw [List.map_cons, List.nodup_cons] at nd
  rcases List.mem_cons.mp ha with h1 | h1 <;> rcases List.mem_cons.mp hb with h2 | h2
  ·rw [h1, h2]
  ·rw [h1] at e
   exact absurd (by rw [e]; exact List.mem_map_of_mem h2) nd.1
  ·rw [h2] at e
   exact absurd (by rw [<- e]; exact List.mem_map_of_mem h1) nd.1
  ·exact nodup_inj nd.2 h1 h2 e
theorem tb_case {ks : List Kn} (wf : KWf ks) {n : Nat} {bs : List (Str × Str)} {x y : Str} {k : Kn} {a : D} {rs : List (Str × Str × D)} (hk : kAt ks y = some k) (hr : k.rc = false) (ha : TmB ks n bs a y) (hl : rs.length <= 1000) (nd : (rs.map (·.1)).Nodup)
  (hlen : rs.length = k.parts.length) (hsub : ∀ r ∈ rs, ∃ p ∈ k.parts, p.1 = r.1)
  (h : ∀ p ∈ k.parts, ∃ z e, (p.1, z, e) ∈ rs /\ (∀ q ∈ bs, q.1 ≠ z) /\ ArmN ks z /\ TmB ks n (bs ++ [(z, p.2)]) e x) : TmB ks (n + 1) bs (tCase a rs) x := by
 have hm := List.mem_of_find?_eq_some hk
 refine ⟨tm_case wf hk hr ha.1 hl nd fun p hp => ?_, fun env hf => .inr (.inr (.inr (.inr (.inr (.inl ⟨True.intro, a, rs, y, k, ha.2 env hf, hk, hr, ?_, hlen, nd, fun r hrr => ?_, rfl⟩)))))⟩
 ·obtain ⟨z, e, g1, g2, g3, g4⟩ := h p hp
  exact ⟨z, e, g1, g2, g4.1⟩
 ·intro e
  have h0 : k.parts = [] := List.eq_nil_of_length_eq_zero (by rw [<- hlen, e]; rfl)
  exact wf.alt k hm hr h0
 ·obtain ⟨p, hp, e⟩ := hsub r hrr
  obtain ⟨z, e', g1, g2, g3, g4⟩ := h p hp
  have er : r = (p.1, z, e') := nodup_inj nd hrr g1 e.symm
  subst er
  exact ⟨hf.2 z g3 g2, p.2, part_at (wf.pnd k hm) hp, g4.2 _ (hf.put g2)⟩
theorem tb_if {ks : List Kn} (wf : KWf ks) {n : Nat} {bs : List (Str × Str)} {x : Str} {a b c : D} (ha : TmB ks n bs a (S "num")) (hb : TmB ks n bs b x) (hc : TmB ks n bs c x) : TmB ks (n + 1) bs (tIfD a b c) x :=
 ⟨tm_if wf ha.1 hb.1 hc.1, fun env hf => .inr (.inr (.inr (.inr (.inr (.inr ⟨a, b, c, ha.2 env hf, hb.2 env hf, hc.2 env hf, rfl⟩)))))⟩
theorem kd_head {ks : List Kn} {n : Nat} {env : En} {d : D} {x : Str} (h : Kd True ks n env d x) : (∃ a rs, d = tCase a rs) \/ ∃ hd r, d = .tup (.str hd :: r) /\ hd ≠ S "case" := by
 have lf : LeafKd env d x -> (∃ a rs, d = tCase a rs) \/ ∃ hd r, d = .tup (.str hd :: r) /\ hd ≠ S "case" := fun z => by
  rcases z with ⟨i, _, e, _⟩ | ⟨y, _, e⟩
  ·exact .inr ⟨_, _, e, by walk_at "k"⟩
  ·exact .inr ⟨_, _, e, by walk_at "k"⟩
 cases n with
 | zero => exact lf h
 | succ m =>
  rcases h with h | ⟨s, a', b, h1, h2, e, _⟩ | ⟨es, kn, h1, h2, h3, e⟩ | ⟨a', k1, f, kn, h1, h2, h3, h4, e⟩ | ⟨t, a', kn, k1, h1, h2, h3, h4, e⟩ | ⟨_, a', rs, k1, kn, h1, h2, h3, h4, h5, h6, h7, e⟩ | ⟨a', b, c, h1, h2, h3, e⟩
  ·exact lf h
  ·exact .inr ⟨_, _, e, by walk_at "k"⟩
  ·exact .inr ⟨_, _, e, by walk_at "k"⟩
  ·exact .inr ⟨_, _, e, by walk_at "k"⟩
  ·exact .inr ⟨_, _, e, by walk_at "k"⟩
  ·exact .inl ⟨a', rs, e⟩
  ·exact .inr ⟨_, _, e, by walk_at "k"⟩
end M
end
section
namespace M
open PySem L2
abbrev Res := Except Nat Str
abbrev RKt := En -> D -> Res -> Prop
def nk (k : Str) : Res -> Option Nat
 | .ok k' => if k' = k then none else some 4
 | .error c => some c
def fin (o : Option Nat) (k : Str) : Res := match o with
 | some c => .error c
 | none => .ok k
def LeafKt (env : En) (d : D) (r : Res) : Prop :=
 (∃ i : Int, d = tNum i /\ 0 <= i /\ i < 10 ^ 18 /\ r = if i < 4294967296 then .ok (S "num") else .error 4) ∨
 ∃ x : Str, d = tBox x /\ ((∃ k, env x = some (.str k) /\ r = .ok k) \/ (env x = none /\ x.length <= 100 /\ r = .error 2))
def OpKt (R : RKt) : RKt := fun env d r => ∃ s a b ra, d = tOpD s a b /\ R env a ra /\ ((∃ c, nk (S "num") ra = some c /\ r = .error c) \/ (nk (S "num") ra = none /\ ∃ rb, R env b rb /\ r = fin (nk (S "num") rb) (S "num")))
def IfKt (R : RKt) : RKt := fun env d r => ∃ a b c ra, d = tIfD a b c /\ R env a ra /\ ((∃ e, nk (S "num") ra = some e /\ r = .error e) \/ (nk (S "num") ra = none /\ ∃ rb, R env b rb /\ ((∃ e, rb = .error e /\ r = .error e) \/ ∃ k rc, rb = .ok k /\ R env c rc /\ r = fin (nk k rc) k)))
def sortR (ks : List Kn) (x so : Str) : Option Nat := match kAt ks x with
 | none => some 2
 | some kn => if kn.sort = so then none else some 4
def ksR (ks : List Kn) (so : Str) : Res -> Res
 | .error c => .error c
 | .ok k => match kAt ks k with
  | none => .error 4
  | some kn => if kn.sort = so then .ok k else .error 4
def partR (kn : Kn) (f : Str) : Res := match xav kn f with
 | some k => .ok k
 | none => .error 2
def AllN (R : D -> Res -> Prop) : List D -> List (Str × Str) -> Option Nat -> Prop
 | [], [], o => o = none
 | e :: es, p :: ps, o => ∃ re, R e re /\ ((∃ c, nk p.2 re = some c /\ o = some c) \/ (nk p.2 re = none /\ AllN R es ps o))
 | _, _, _ => False
def RecKt (ks : List Kn) (R : RKt) : RKt := fun env d r => ∃ x es, d = tRec x es /\ ((∃ c, sortR ks x (S "rec") = some c /\ x.length <= 100 /\ r = .error c) \/ (sortR ks x (S "rec") = none /\ ∃ kn, kAt ks x = some kn ∧
 ((es.length ≠ kn.parts.length /\ r = .error 3) \/ (es.length = kn.parts.length /\ ∃ o, AllN (R env) es kn.parts o /\ r = fin o x))))
def GetKt (ks : List Kn) (R : RKt) : RKt := fun env d r => ∃ a f ra, d = tGet a f /\ R env a ra /\ ((∃ c, ksR ks (S "rec") ra = .error c /\ r = .error c) \/ ∃ k kn, ksR ks (S "rec") ra = .ok k /\ kAt ks k = some kn /\ r = partR kn f /\ (xav kn f = none -> f.length <= 100))
def TagKt (ks : List Kn) (R : RKt) : RKt := fun env d r => ∃ x t a, d = tTag x t a /\ ((∃ c, sortR ks x (S "alt") = some c /\ x.length <= 100 /\ r = .error c) \/ (sortR ks x (S "alt") = none /\ ∃ kn, kAt ks x = some kn ∧
 ((xav kn t = none /\ t.length <= 100 /\ r = .error 2) \/ ∃ k1 ra, xav kn t = some k1 /\ R env a ra /\ r = fin (nk k1 ra) x)))
abbrev Arm3 := Str × Str × D
def tagsR (kn : Kn) (rs : List Arm3) : Option Nat :=
 if ¬ (∀ r ∈ rs, r.1 ∈ kn.parts.map (·.1)) then some 2 else if ¬ (rs.map (·.1)).Nodup then some 1 else if rs.length < kn.parts.length then some 5 else none
def ArmR (kn : Kn) (R : RKt) (env : En) (r : Arm3) (q : Res) : Prop := (env r.2.1 ≠ none /\ r.2.1.length <= 100 /\ q = .error 1) \/ (env r.2.1 = none /\ ((xav kn r.1 = none /\ r.1.length <= 100 /\ q = .error 2) \/ ∃ k2, xav kn r.1 = some k2 /\ R (env.put r.2.1 (.str k2)) r.2.2 q))
def ArmsN (A : Arm3 -> Res -> Prop) (k : Str) : List Arm3 -> Option Nat -> Prop
 | [], o => o = none
 | r :: rs, o => ∃ q, A r q /\ ((∃ c, nk k q = some c /\ o = some c) \/ (nk k q = none /\ ArmsN A k rs o))
def CaseKt (ks : List Kn) (R : RKt) : RKt := fun env d r => ∃ a rs ra, d = tCase a rs /\ rs.length <= 1000 /\ R env a ra /\ ((∃ c, ksR ks (S "alt") ra = .error c /\ r = .error c) \/ ∃ k1 kn, ksR ks (S "alt") ra = .ok k1 /\ kAt ks k1 = some kn ∧
 ((∃ c, tagsR kn rs = some c /\ (∀ z ∈ rs, z.1.length <= 100) /\ r = .error c) \/ (tagsR kn rs = none /\ ∃ r0 rest q0, rs = r0 :: rest /\ ArmR kn R env r0 q0 /\ ((∃ c, q0 = .error c /\ r = .error c) \/ ∃ k o, q0 = .ok k /\ ArmsN (ArmR kn R env) k rest o /\ r = fin o k))))
def NodeKt (ks : List Kn) (R : RKt) : RKt := fun env d r => OpKt R env d r \/ RecKt ks R env d r \/ GetKt ks R env d r \/ TagKt ks R env d r \/ CaseKt ks R env d r \/ IfKt R env d r
def Kt (ks : List Kn) : Nat -> RKt
 | 0 => LeafKt
 | n + 1 => fun env d r => LeafKt env d r \/ NodeKt ks (Kt ks n) env d r
def KLn (ks : List Kn) : Prop := ∀ k ∈ ks, k.name.length <= 100 /\ ∀ p ∈ k.parts, p.1.length <= 100 /\ p.2.length <= 100
def EnvL (env : En) : Prop := ∀ x k, env x = some (.str k) -> k.length <= 100
def ResL (r : Res) : Prop := ∀ k, r = .ok k -> k.length <= 100
theorem EnvL.put {env : En} {y k : Str} (h : EnvL env) (hk : k.length <= 100) : EnvL (env.put y (.str k)) := fun x k' e => by
 unfold En.put at e
 split at e
 ·cases e; exact hk
 ·exact h x k' e
theorem num_le : (S "num").length <= 100 := by walk_at "k"
theorem fin_len {o : Option Nat} {k : Str} (h : k.length <= 100) : ResL (fin o k) := fun k' e => by
 cases o with
 | none => cases e; exact h
 | some c => cases e
theorem kat_len {ks : List Kn} (h : KLn ks) {x : Str} {kn : Kn} (hk : kAt ks x = some kn) : x.length <= 100 /\ ∀ p ∈ kn.parts, p.1.length <= 100 /\ p.2.length <= 100 := by
 have hm := List.mem_of_find?_eq_some hk
 have hx : kn.name = x := by
  have := List.find?_some hk
  exact of_decide_eq_true this
 rw [<- hx]
 exact h kn hm
theorem part_len {ks : List Kn} (h : KLn ks) {x f k2 : Str} {kn : Kn} (hk : kAt ks x = some kn) (hp : xav kn f = some k2) : k2.length <= 100 := by
 unfold xav at hp
 obtain ⟨p, hp', rfl⟩ := Option.map_eq_some_iff.mp hp
 exact ((kat_len h hk).2 p (List.mem_of_find?_eq_some hp')).2
theorem kt_len {ks : List Kn} (hk : KLn ks) : ∀ (n : Nat) (env : En) (d : D) (r : Res), EnvL env -> Kt ks n env d r -> ResL r
 | 0, env, d, r, he, h => by
  rcases h with ⟨i, _, _, _, rfl⟩ | ⟨x, _, ⟨k, e, rfl⟩ | ⟨_, _, rfl⟩⟩
  ·intro k e; split at e
   ·cases e; exact num_le
   ·cases e
  ·intro k' e'; cases e'; exact he _ _ e
  ·intro k e; cases e
 | n + 1, env, d, r, he, h => by
  rcases h with h | ⟨s, a, b, ra, _, _, ⟨c, _, rfl⟩ | ⟨_, rb, _, rfl⟩⟩ | ⟨x, es, _, ⟨c, _, _, rfl⟩ | ⟨_, kn, hkn, ⟨_, rfl⟩ | ⟨_, o, _, rfl⟩⟩⟩ | ⟨a, f, ra, _, hra, ⟨c, _, rfl⟩ | ⟨k, kn, _, hkn, rfl, _⟩⟩ | ⟨x, t, a, _, ⟨c, _, _, rfl⟩ | ⟨_, kn, hkn, ⟨_, _, rfl⟩ | ⟨k1, ra, _, _, rfl⟩⟩⟩ | ⟨a, rs, ra, _, _, hra, ⟨c, _, rfl⟩ | ⟨k1, kn, _, hkn, ⟨c, _, _, rfl⟩ | ⟨_, r0, rest, q0, _, ha, ⟨c, _, rfl⟩ | ⟨k, o, rfl, _, rfl⟩⟩⟩⟩ | ⟨a, b, c, ra, _, _, ⟨e, _, rfl⟩ | ⟨_, rb, hrb, ⟨e, _, rfl⟩ | ⟨k, rc, rfl, _, rfl⟩⟩⟩
  ·exact kt_len hk 0 env d r he h
  ·intro k e; cases e
  ·exact fin_len num_le
  ·intro k e; cases e
  ·intro k e; cases e
  ·exact fin_len (kat_len hk hkn).1
  ·intro k e; cases e
  ·intro k' e
   unfold partR at e
   split at e
   ·rename_i hp; cases e; exact part_len hk hkn hp
   ·cases e
  ·intro k e; cases e
  ·intro k e; cases e
  ·exact fin_len (kat_len hk hkn).1
  ·intro k e; cases e
  ·intro k e; cases e
  ·intro k e; cases e
  ·refine fin_len ?_
   rcases ha with ⟨_, _, e⟩ | ⟨_, ⟨_, _, e⟩ | ⟨k2, hp, hq⟩⟩
   ·cases e
   ·cases e
   ·exact kt_len hk n _ _ _ (he.put (part_len hk hkn hp)) hq k rfl
  ·intro k e; cases e
  ·intro k e; cases e
  ·exact fin_len (kt_len hk n _ _ _ he hrb k rfl)
theorem nk_ok {k : Str} : nk k (.ok k) = none := if_pos rfl
theorem nk_ne {k k' : Str} (h : k' ≠ k) : nk k (.ok k') = some 4 := if_neg h
theorem sort_rec {kn : Kn} (h : kn.rc = true) : kn.sort = S "rec" := by unfold Kn.sort; rw [if_pos h]
theorem sort_alt {kn : Kn} (h : kn.rc = false) : kn.sort = S "alt" := by unfold Kn.sort; rw [if_neg (by rw [h]; decide)]
theorem sortR_ok {ks : List Kn} {x so : Str} {kn : Kn} (h : kAt ks x = some kn) (hs : kn.sort = so) : sortR ks x so = none := by unfold sortR; rw [h]; simp only; rw [if_pos hs]
theorem sortR_ne {ks : List Kn} {x so : Str} {kn : Kn} (h : kAt ks x = some kn) (hs : kn.sort ≠ so) : sortR ks x so = some 4 := by unfold sortR; rw [h]; simp only; rw [if_neg hs]
theorem sortR_none {ks : List Kn} {x so : Str} (h : kAt ks x = none) : sortR ks x so = some 2 := by unfold sortR; rw [h]
theorem ksR_is {ks : List Kn} {x so : Str} {kn : Kn} (h : kAt ks x = some kn) (hs : kn.sort = so) : ksR ks so (.ok x) = .ok x := by unfold ksR; simp only; rw [h]; simp only; rw [if_pos hs]
theorem ksR_ne {ks : List Kn} {x so : Str} {kn : Kn} (h : kAt ks x = some kn) (hs : kn.sort ≠ so) : ksR ks so (.ok x) = .error 4 := by unfold ksR; simp only; rw [h]; simp only; rw [if_neg hs]
theorem ksR_none {ks : List Kn} {x so : Str} (h : kAt ks x = none) : ksR ks so (.ok x) = .error 4 := by unfold ksR; simp only; rw [h]
theorem tagsR_ok {kn : Kn} {rs : List Arm3} (h1 : ∀ r ∈ rs, r.1 ∈ kn.parts.map (·.1)) (h2 : (rs.map (·.1)).Nodup) (h3 : rs.length = kn.parts.length) : tagsR kn rs = none := by
 unfold tagsR
 rw [if_neg (fun z => z h1), if_neg (fun z => z h2), if_neg (by omega)]
theorem all_n {R : D -> Res -> Prop} : ∀ {es : List D} {ps : List (Str × Str)}, All2 (fun e (p : Str × Str) => R e (.ok p.2)) es ps -> AllN R es ps none
 | _, _, .nil => rfl
 | _, _, .cons h t => ⟨_, h, .inr ⟨nk_ok, all_n t⟩⟩
theorem arms_n {A : Arm3 -> Res -> Prop} {k : Str} : ∀ {rs : List Arm3}, (∀ r ∈ rs, A r (.ok k)) -> ArmsN A k rs none
 | [], _ => rfl
 | r :: rs, h => ⟨_, h r (by simp), .inr ⟨nk_ok, arms_n fun r hr => h r (by simp [hr])⟩⟩
theorem part_in {kn : Kn} {f k2 : Str} (h : xav kn f = some k2) : f ∈ kn.parts.map (·.1) := by
 unfold xav at h
 obtain ⟨p, hp, _⟩ := Option.map_eq_some_iff.mp h
 have h2 := List.find?_some hp
 rw [<- of_decide_eq_true h2]
 exact List.mem_map_of_mem (List.mem_of_find?_eq_some hp)
theorem partR_ok {kn : Kn} {f k2 : Str} (h : xav kn f = some k2) : partR kn f = .ok k2 := by unfold partR; rw [h]
theorem fin_ok {k k2 : Str} : fin (nk k (.ok k)) k2 = .ok k2 := by rw [nk_ok]; rfl
theorem kd_kt {ks : List Kn} (hP : ∀ k ∈ ks, k.parts.length <= 100) : ∀ (n : Nat) (env : En) (d : D) (x : Str), Kd True ks n env d x -> Kt ks n env d (.ok x)
 | 0, env, d, x, h => by
  rcases h with ⟨i, hi, rfl, rfl⟩ | ⟨y, hy, rfl⟩
  ·exact .inl ⟨i, rfl, hi.1, by have := hi.2; omega, by rw [if_pos hi.2]⟩
  ·exact .inr ⟨y, rfl, .inl ⟨x, hy, rfl⟩⟩
 | n + 1, env, d, x, h => by
  have ih := kd_kt hP n
  rcases h with h | ⟨s, a, b, h1, h2, rfl, rfl⟩ | ⟨es, kn, h1, h2, h3, rfl⟩ | ⟨a, k1, f, kn, h1, h2, h3, h4, rfl⟩ | ⟨t, a, kn, k1, h1, h2, h3, h4, rfl⟩ | ⟨_, a, rs, k1, kn, h1, h2, h3, h4, h5, h6, h7, rfl⟩ | ⟨a, b, c, h1, h2, h3, rfl⟩
  ·exact .inl (kd_kt hP 0 env d x h)
  ·exact .inr (.inl ⟨s, a, b, _, rfl, ih _ _ _ h1, .inr ⟨nk_ok, _, ih _ _ _ h2, fin_ok.symm⟩⟩)
  ·exact .inr (.inr (.inl ⟨x, es, rfl, .inr ⟨sortR_ok h1 (sort_rec h2), kn, h1, .inr ⟨h3.length, none, all_n (h3.imp fun _ _ h => ih _ _ _ h), rfl⟩⟩⟩))
  ·exact .inr (.inr (.inr (.inl ⟨a, f, _, rfl, ih _ _ _ h1, .inr ⟨k1, kn, ksR_is h2 (sort_rec h3), h2, (partR_ok h4).symm, fun e => by rw [h4] at e; cases e⟩⟩)))
  ·exact .inr (.inr (.inr (.inr (.inl ⟨x, t, a, rfl, .inr ⟨sortR_ok h1 (sort_alt h2), kn, h1, .inr ⟨k1, _, h3, ih _ _ _ h4, fin_ok.symm⟩⟩⟩))))
  ·have arm : ∀ r ∈ rs, ArmR kn (Kt ks n) env r (.ok x) := fun r hr => by
    obtain ⟨g1, k2, g2, g3⟩ := h7 r hr
    exact .inr ⟨g1, .inr ⟨k2, g2, ih _ _ _ g3⟩⟩
   have hl : rs.length <= 1000 := by
    have := hP kn (List.mem_of_find?_eq_some h2)
    omega
   cases rs with
   | nil => exact absurd rfl h4
   | cons r0 rest =>
    refine .inr (.inr (.inr (.inr (.inr (.inl ⟨a, r0 :: rest, _, rfl, hl, ih _ _ _ h1, .inr ⟨k1, kn, ksR_is h2 (sort_alt h3), h2, .inr ⟨tagsR_ok (fun r hr => ?_) h6 h5, r0, rest, _, rfl, arm r0 (by simp), .inr ⟨x, none, rfl, arms_n fun r hr => arm r (by simp [hr]), rfl⟩⟩⟩⟩)))))
    obtain ⟨_, k2, g2, _⟩ := h7 r hr
    exact part_in g2
  ·exact .inr (.inr (.inr (.inr (.inr (.inr ⟨a, b, c, _, rfl, ih _ _ _ h1, .inr ⟨nk_ok, _, ih _ _ _ h2, .inr ⟨x, _, rfl, ih _ _ _ h3, fin_ok.symm⟩⟩⟩)))))
end M
end
section
namespace M
open PySem L2
def ioN : List Str := [S "ina", S "inb", S "outa", S "outb", S "outc"]
def NoIO (x : Str) : Prop := x ∉ ioN
theorem io_of {l : List Nat} (h1 : l[0]? ≠ some 105 \/ l[1]? ≠ some 110) (h2 : l[0]? ≠ some 111 \/ l[1]? ≠ some 117) : NoIO (ofL l) := fun hm => by
 have key : ∀ y ∈ ioN, ((L y)[0]? = some 105 /\ (L y)[1]? = some 110) \/ ((L y)[0]? = some 111 /\ (L y)[1]? = some 117) := by walk_at "k"
 have := key _ hm
 rw [L_ofL] at this
 rcases this with ⟨a, b⟩ | ⟨a, b⟩
 ·rcases h1 with h | h
  ·exact h a
  ·exact h b
 ·rcases h2 with h | h
  ·exact h a
  ·exact h b
theorem nmA_two {cs : List Nat} (h5 : ∀ c ∈ cs, c ∈ five) (a : Nat) (b : Int) (k : Nat) (t : List Nat) (ht : ∀ c ∈ t, c ∈ five) (p q : Nat) (hp : p ∉ five) (hq : q ∉ five) : (nmA cs a b k ++ t)[0]? ≠ some p \/ (nmA cs a b k ++ t)[1]? ≠ some q := by
 unfold nmA
 cases hcs : cs.take a with
 | nil =>
  right
  rw [List.nil_append, List.cons_append, List.getElem?_cons_succ]
  intro e
  have hm := List.mem_of_getElem? e
  rcases List.mem_append.mp hm with hm | hm
  ·exact hq (h5 _ (List.mem_of_mem_drop hm))
  ·exact hq (ht _ hm)
 | cons c r =>
  left
  intro e
  simp at e
  have : c ∈ cs.take a := by rw [hcs]; simp
  exact hp (by rw [<- e]; exact h5 c (List.mem_of_mem_take this))
theorem nmA_io {cs : List Nat} (h5 : ∀ c ∈ cs, c ∈ five) (a : Nat) (b : Int) (k : Nat) (t : List Nat) (ht : ∀ c ∈ t, c ∈ five) : NoIO (ofL (nmA cs a b k ++ t)) :=
 io_of (nmA_two h5 a b k t ht _ _ (by decide) (by decide)) (nmA_two h5 a b k t ht _ _ (by decide) (by decide))
theorem nmsA_io {cs : List Nat} {a : Nat} {b : Int} (h5 : ∀ c ∈ cs, c ∈ five) : ∀ z ∈ ((List.range 26).map fun k => ofL (nmA cs a b k)), NoIO z := fun z hz => by
 obtain ⟨k, _, rfl⟩ := List.mem_map.mp hz
 have := nmA_io h5 a b k [] (fun _ h => nomatch h)
 rw [List.append_nil] at this
 exact this
theorem nmsB_io {cs : List Nat} {a : Nat} {b : Int} (h5 : ∀ c ∈ cs, c ∈ five) : ∀ z ∈ ((List.range 26).map fun k => ofL (nmB cs a b k)), NoIO z := fun z hz => by
 obtain ⟨k, _, rfl⟩ := List.mem_map.mp hz
 unfold nmB
 exact nmA_io h5 a b _ _ fun c hc => by rw [List.eq_of_mem_replicate hc]; decide
theorem by_io (j : Nat) : NoIO (byN j) := by
 unfold byN
 exact io_of (.inl (by simp)) (.inl (by simp))
def nm (nms : List Str) (i : Nat) : Str := nms.getD i Str.empty
theorem nm_at {nms : List Str} (ok : NmsOk nms) {i : Nat} (h : i < 26) : nms[i]? = some (nm nms i) := by
 have hi : i < nms.length := by rw [ok.1]; exact h
 unfold nm
 rw [List.getD_eq_getElem?_getD, List.getElem?_eq_getElem hi]
 rfl
theorem nm_mem {nms : List Str} (ok : NmsOk nms) {i : Nat} (h : i < 26) : nm nms i ∈ nms := List.mem_of_getElem? (nm_at ok h)
theorem nm_inj {nms : List Str} (ok : NmsOk nms) {i j : Nat} (hi : i < 26) (hj : j < 26) (h : nm nms i = nm nms j) : i = j := by
 have h1 := nm_at ok hi
 rw [h, <- nm_at ok hj] at h1
 exact (List.getElem?_inj (by rw [ok.1]; exact hi) ok.2.1).mp h1
theorem nm_v {nms : List Str} (ok : NmsOk nms) {i : Nat} (h : i < 26) : atI (nms.map V.str) (i : Int) = some (.str (nm nms i)) := xai (by rw [List.getElem?_map, nm_at ok h]; rfl)
theorem nm_name {nms : List Str} (ok : NmsOk nms) {i : Nat} (h : i < 26) : Name (nm nms i) := ok.2.2 _ (nm_mem ok h)
theorem Name.l6 {x : Str} (h : Name x) : x.length <= 6 := by
 have hnl := h.le
 rw [Array.length_toList] at hnl
 exact hnl
theorem nm_len {nms : List Str} (ok : NmsOk nms) {i : Nat} (h : i < 26) : (nm nms i).length <= 100 := Nat.le_trans (nm_name ok h).l6 (by decide)
theorem nm_num {nms : List Str} (ok : NmsOk nms) {i : Nat} (h : i < 26) : nm nms i ≠ S "num" := name_ne_num (nm_name ok h)
def kR (nms : List Str) (x : Str) : Kn := ⟨nm nms 4, true, [(nm nms 8, S "num"), (nm nms 9, x)]⟩
def kA (nms : List Str) : Kn := ⟨nm nms 5, false, [(nm nms 8, S "num"), (nm nms 9, nm nms 4)]⟩
structure KC (nms : List Str) (ks : List Kn) (x : Str) : Prop where
 ok : NmsOk nms
 wf : KWf ks
 nb : PNB ks
 a4 : kAt ks (nm nms 4) = some (kR nms x)
 a5 : kAt ks (nm nms 5) = some (kA nms)
 a23 : kAt ks (nm nms 23) = none
 kx : KIn ks 6 x
 k4 : KIn ks 6 (nm nms 4)
 k5 : KIn ks 6 (nm nms 5)
 last : ∃ ks0, ks = ks0 ++ [kR nms x, kA nms]
 io : ∀ z ∈ nms, NoIO z
 pn : ∀ k ∈ ks, ∀ p ∈ k.parts, p.1 ∈ nms
 ln : KLn ks
theorem KWf.kln {ks : List Kn} (wf : KWf ks) : KLn ks := fun k hk => ⟨Nat.le_trans (wf.nm k hk).l6 (by decide), fun p hp => ⟨Nat.le_trans (wf.pnm k hk p hp).l6 (by decide), by
 obtain ⟨i, hi, e⟩ := List.mem_iff_getElem.mp hk
 rcases wf.ref i k (by rw [<- e]; exact List.getElem?_eq_getElem hi) p hp with e' | ⟨j, k', _, hj, e'⟩
 ·rw [e']; decide +kernel
 ·rw [<- e']; exact Nat.le_trans (wf.nm k' (List.mem_of_getElem? hj)).l6 (by decide)⟩⟩
theorem kin_len {ks : List Kn} (wf : KWf ks) {n : Nat} {x : Str} (h : KIn ks n x) : x.length <= 100 := by
 rcases h with rfl | ⟨j, k, _, hj, rfl⟩
 ·decide +kernel
 ·exact Nat.le_trans (wf.nm k (List.mem_of_getElem? hj)).l6 (by decide)
theorem kc_of {nms : List Str} {ks : List Kn} {x : Str} (ok : NmsOk nms) (h : KOver nms ks) (hn : ∀ z ∈ nms, NoBy z /\ NoIO z) (hx : KIn ks ks.length x) : KC nms (ks ++ [kR nms x, kA nms]) x := by
 obtain ⟨wf, h4, hnm, hp⟩ := h
 have notin : ∀ i, 4 <= i -> i < 26 -> nm nms i ∉ ks.map Kn.name := fun i hi hi2 hm => by
  rw [hnm] at hm
  obtain ⟨j, hj, e⟩ := List.mem_iff_getElem.mp hm
  rw [List.length_take] at hj
  rw [List.getElem_take] at e
  have : nm nms j = nm nms i := by
   have h1 := nm_at ok (i := j) (by omega)
   rw [List.getElem?_eq_getElem (by omega)] at h1
   rw [<- e]
   exact (Option.some.inj h1).symm
  have := nm_inj ok (by omega) hi2 this
  omega
 have w1 : KWf (ks ++ [kR nms x]) := wf.snoc (k := kR nms x) (notin 4 (by omega) (by omega)) (nm_name ok (by omega)) (fun p hp => by
   rcases List.mem_cons.mp hp with rfl | hp
   ·exact .inl rfl
   ·rw [List.mem_singleton.mp hp]; exact hx) (fun e => by cases e) (by omega) (by show 2 <= 5; decide)
  (by
   show [nm nms 8, nm nms 9].Nodup
   simp only [List.nodup_cons, List.mem_singleton, List.not_mem_nil, not_false_eq_true, List.nodup_nil, and_true]
   exact fun e => absurd (nm_inj ok (by omega) (by omega) e) (by decide))
  (fun p hp => by
   rcases List.mem_cons.mp hp with rfl | hp
   ·exact nm_name ok (by omega)
   ·rw [List.mem_singleton.mp hp]; exact nm_name ok (by omega))
 have w2 : KWf ((ks ++ [kR nms x]) ++ [kA nms]) := w1.snoc (k := kA nms) (fun hm => by
   rw [List.map_append] at hm
   rcases List.mem_append.mp hm with hm | hm
   ·exact notin 5 (by omega) (by omega) hm
   ·have : nm nms 5 = nm nms 4 := by simpa [kR, kA] using hm
    exact absurd (nm_inj ok (by omega) (by omega) this) (by decide)) (nm_name ok (by omega)) (fun p hp => by
   rcases List.mem_cons.mp hp with rfl | hp
   ·exact .inl rfl
   ·rw [List.mem_singleton.mp hp]
    exact KIn.of (.inr ⟨kR nms x, by simp, rfl⟩)) (fun _ e => by cases e) (by rw [List.length_append, List.length_singleton]; omega) (by show 2 <= 5; decide)
  (by
   show [nm nms 8, nm nms 9].Nodup
   simp only [List.nodup_cons, List.mem_singleton, List.not_mem_nil, not_false_eq_true, List.nodup_nil, and_true]
   exact fun e => absurd (nm_inj ok (by omega) (by omega) e) (by decide))
  (fun p hp => by
   rcases List.mem_cons.mp hp with rfl | hp
   ·exact nm_name ok (by omega)
   ·rw [List.mem_singleton.mp hp]; exact nm_name ok (by omega))
 have e2 : (ks ++ [kR nms x]) ++ [kA nms] = ks ++ [kR nms x, kA nms] := by simp
 rw [e2] at w2
 have pn : ∀ k ∈ ks ++ [kR nms x, kA nms], ∀ p ∈ k.parts, p.1 ∈ nms := fun k hk p hpp => by
  rcases List.mem_append.mp hk with hk | hk
  ·have hm : p.1 ∈ k.parts.map (·.1) := List.mem_map_of_mem hpp
   rw [(hp k hk).2] at hm
   exact List.mem_of_mem_drop (List.mem_of_mem_take (List.mem_of_mem_take hm))
  ·have hk' : k = kR nms x \/ k = kA nms := by simpa using hk
   have : p.1 = nm nms 8 \/ p.1 = nm nms 9 := by
    rcases hk' with rfl | rfl
    ·rcases List.mem_cons.mp hpp with rfl | hpp
     ·exact .inl rfl
     ·rw [List.mem_singleton.mp hpp]; exact .inr rfl
    ·rcases List.mem_cons.mp hpp with rfl | hpp
     ·exact .inl rfl
     ·rw [List.mem_singleton.mp hpp]; exact .inr rfl
   rcases this with e | e <;> rw [e]
   ·exact nm_mem ok (by omega)
   ·exact nm_mem ok (by omega)
 have at' : ∀ k ∈ ks ++ [kR nms x, kA nms], kAt (ks ++ [kR nms x, kA nms]) k.name = some k := fun k hk => by
  obtain ⟨i, hi, e⟩ := List.mem_iff_getElem.mp hk
  exact w2.at (i := i) (by rw [<- e]; exact List.getElem?_eq_getElem hi)
 have k6 : ∀ k ∈ ks ++ [kR nms x, kA nms], KIn (ks ++ [kR nms x, kA nms]) 6 k.name := fun k hk => (KIn.of (.inr ⟨k, hk, rfl⟩)).mono w2.few
 refine ⟨ok, w2, fun k hk p hpp => (hn _ (pn k hk p hpp)).1, at' (kR nms x) (by simp), at' (kA nms) (by simp), KWf.no fun k hk e => ?_, (hx.ap).mono (by omega), k6 (kR nms x) (by simp), k6 (kA nms) (by simp), ⟨ks, rfl⟩, fun z hz => (hn z hz).2, pn, w2.kln⟩
 rcases List.mem_append.mp hk with hk | hk
 ·exact notin 23 (by omega) (by omega) (by rw [<- e]; exact List.mem_map_of_mem hk)
 ·have hk' : k = kR nms x \/ k = kA nms := by simpa using hk
  rcases hk' with rfl | rfl
  ·exact absurd (nm_inj ok (by omega) (by omega) e) (by decide)
  ·exact absurd (nm_inj ok (by omega) (by omega) e) (by decide)
structure Fx (nms : List Str) (ks : List Kn) (bs : List (Str × Str)) (env : En) : Prop where
 fk : FitK ks bs env
 el : EnvL env
 oo : env (S "outa") = none /\ env (S "outb") = none /\ env (S "outc") = none
 nn : env (nm nms 22) = none /\ env (nm nms 23) = none
theorem arm_io {nms : List Str} {ks : List Kn} {x : Str} (c : KC nms ks x) {z y : Str} (h : ArmN ks z) (hy : y ∈ ioN) : z ≠ y := fun e => by
 subst e
 rcases h with ⟨j, rfl⟩ | ⟨k, hk, p, hp, rfl⟩
 ·exact by_io j hy
 ·exact c.io _ (c.pn k hk p hp) hy
theorem fitk_put {nms : List Str} {ks : List Kn} {x : Str} (c : KC nms ks x) {bs : List (Str × Str)} (hb : ∀ b ∈ bs, b.1 ∈ nms) {env : En} (h : FitK ks bs env) {y : Str} (hy : y ∈ ioN) (d : D) : FitK ks bs (env.put y d) := by
 refine ⟨fun p hp => ?_, fun z hz hq => ?_⟩
 ·unfold En.put
  rw [if_neg fun e => c.io _ (hb p hp) (by rw [e]; exact hy)]
  exact h.1 p hp
 ·unfold En.put
  rw [if_neg (arm_io c hz hy)]
  exact h.2 z hz hq
theorem put_ne {env : En} {y z : Str} {d : D} (h : z ≠ y) : env.put y d z = env z := by unfold En.put; rw [if_neg h]
theorem Fx.put {nms : List Str} {ks : List Kn} {x : Str} (c : KC nms ks x) {bs : List (Str × Str)} (hb : ∀ b ∈ bs, b.1 ∈ nms) {env : En} (h : Fx nms ks bs env) {y k : Str} (hy : y = S "ina" \/ y = S "inb") (hk : k.length <= 100) : Fx nms ks bs (env.put y (.str k)) := by
 have hy' : y ∈ ioN := by rcases hy with rfl | rfl <;> decide +kernel
 have n1 : S "outa" ≠ y /\ S "outb" ≠ y /\ S "outc" ≠ y := by rcases hy with rfl | rfl <;> decide +kernel
 have n2 : ∀ i, i < 26 -> nm nms i ≠ y := fun i hi e => c.io _ (nm_mem c.ok hi) (by rw [e]; exact hy')
 refine ⟨fitk_put c hb h.fk hy' _, h.el.put hk, ⟨?_, ?_, ?_⟩, ⟨?_, ?_⟩⟩
 ·rw [put_ne n1.1]; exact h.oo.1
 ·rw [put_ne n1.2.1]; exact h.oo.2.1
 ·rw [put_ne n1.2.2]; exact h.oo.2.2
 ·rw [put_ne (n2 22 (by omega))]; exact h.nn.1
 ·rw [put_ne (n2 23 (by omega))]; exact h.nn.2
theorem AllN.mono {R R' : D -> Res -> Prop} (k : ∀ d r, R d r -> R' d r) : ∀ {es : List D} {ps : List (Str × Str)} {o : Option Nat}, AllN R es ps o -> AllN R' es ps o
 | [], [], _, h => h
 | [], _ :: _, _, h => h.elim
 | _ :: _, [], _, h => h.elim
 | e :: es, p :: ps, o, h => by
  obtain ⟨re, h1, h2⟩ := h
  refine ⟨re, k _ _ h1, ?_⟩
  rcases h2 with h2 | ⟨h2, h3⟩
  ·exact .inl h2
  ·exact .inr ⟨h2, h3.mono k⟩
theorem ArmR.mono {kn : Kn} {R R' : RKt} (k : ∀ env d r, R env d r -> R' env d r) {env : En} {z : Arm3} {q : Res} (h : ArmR kn R env z q) : ArmR kn R' env z q := by
 rcases h with h | ⟨h1, h2 | ⟨k2, h3, h4⟩⟩
 ·exact .inl h
 ·exact .inr ⟨h1, .inl h2⟩
 ·exact .inr ⟨h1, .inr ⟨k2, h3, k _ _ _ h4⟩⟩
theorem ArmsN.mono {A A' : Arm3 -> Res -> Prop} (k : ∀ z q, A z q -> A' z q) {x : Str} : ∀ {rs : List Arm3} {o : Option Nat}, ArmsN A x rs o -> ArmsN A' x rs o
 | [], _, h => h
 | r :: rs, o, h => by
  obtain ⟨q, h1, h2⟩ := h
  refine ⟨q, k _ _ h1, ?_⟩
  rcases h2 with h2 | ⟨h2, h3⟩
  ·exact .inl h2
  ·exact .inr ⟨h2, h3.mono k⟩
theorem NodeKt.mono {ks : List Kn} {R R' : RKt} (k : ∀ env d r, R env d r -> R' env d r) {env : En} {d : D} {r : Res} (h : NodeKt ks R env d r) : NodeKt ks R' env d r := by
 rcases h with ⟨s, a, b, ra, e, h1, h2⟩ | ⟨x, es, e, h1⟩ | ⟨a, f, ra, e, h1, h2⟩ | ⟨x, t, a, e, h1⟩ | ⟨a, rs, ra, e, hl, h1, h2⟩ | ⟨a, b, c, ra, e, h1, h2⟩
 ·refine .inl ⟨s, a, b, ra, e, k _ _ _ h1, ?_⟩
  rcases h2 with h2 | ⟨h2, rb, h3, h4⟩
  ·exact .inl h2
  ·exact .inr ⟨h2, rb, k _ _ _ h3, h4⟩
 ·refine .inr (.inl ⟨x, es, e, ?_⟩)
  rcases h1 with h1 | ⟨h1, kn, h2, h3 | ⟨h3, o, h4, h5⟩⟩
  ·exact .inl h1
  ·exact .inr ⟨h1, kn, h2, .inl h3⟩
  ·exact .inr ⟨h1, kn, h2, .inr ⟨h3, o, h4.mono (k env), h5⟩⟩
 ·exact .inr (.inr (.inl ⟨a, f, ra, e, k _ _ _ h1, h2⟩))
 ·refine .inr (.inr (.inr (.inl ⟨x, t, a, e, ?_⟩)))
  rcases h1 with h1 | ⟨h1, kn, h2, h3 | ⟨k1, ra, h3, h4, h5⟩⟩
  ·exact .inl h1
  ·exact .inr ⟨h1, kn, h2, .inl h3⟩
  ·exact .inr ⟨h1, kn, h2, .inr ⟨k1, ra, h3, k _ _ _ h4, h5⟩⟩
 ·refine .inr (.inr (.inr (.inr (.inl ⟨a, rs, ra, e, hl, k _ _ _ h1, ?_⟩))))
  rcases h2 with h2 | ⟨k1, kn, h2, h3, h4 | ⟨h4, r0, rest, q0, h5, h6, h7 | ⟨kk, o, h7, h8, h9⟩⟩⟩
  ·exact .inl h2
  ·exact .inr ⟨k1, kn, h2, h3, .inl h4⟩
  ·exact .inr ⟨k1, kn, h2, h3, .inr ⟨h4, r0, rest, q0, h5, h6.mono k, .inl h7⟩⟩
  ·exact .inr ⟨k1, kn, h2, h3, .inr ⟨h4, r0, rest, q0, h5, h6.mono k, .inr ⟨kk, o, h7, h8.mono fun z q h => h.mono k, h9⟩⟩⟩
 ·refine .inr (.inr (.inr (.inr (.inr ⟨a, b, c, ra, e, k _ _ _ h1, ?_⟩))))
  rcases h2 with h2 | ⟨h2, rb, h3, h4 | ⟨kk, rc, h4, h5, h6⟩⟩
  ·exact .inl h2
  ·exact .inr ⟨h2, rb, k _ _ _ h3, .inl h4⟩
  ·exact .inr ⟨h2, rb, k _ _ _ h3, .inr ⟨kk, rc, h4, k _ _ _ h5, h6⟩⟩
theorem kt_up {ks : List Kn} : ∀ (n : Nat) (env : En) (d : D) (r : Res), Kt ks n env d r -> Kt ks (n + 1) env d r
 | 0, _, _, _, h => .inl h
 | n + 1, env, d, r, h => by
  rcases h with h | h
  ·exact .inl h
  ·exact .inr (h.mono (kt_up n))
theorem kt_le {ks : List Kn} {n m : Nat} (l : n <= m) {env : En} {d : D} {r : Res} (h : Kt ks n env d r) : Kt ks m env d r := by
 obtain ⟨k, rfl⟩ : ∃ k, m = n + k := ⟨m - n, by omega⟩
 clear l
 induction k with
 | zero => exact h
 | succ k ih => exact kt_up _ _ _ _ ih
section
variable {ks : List Kn} {n : Nat} {env : En} {c : Nat}
theorem kt_num {i : Int} (h : 4294967296 <= i) (h2 : i < 10 ^ 18) : Kt ks n env (tNum i) (.error 4) := kt_le (Nat.zero_le n) (.inl ⟨i, rfl, by omega, h2, by rw [if_neg (by omega)]⟩)
theorem kt_box {x : Str} (h : env x = none) (hl : x.length <= 100) : Kt ks n env (tBox x) (.error 2) := kt_le (Nat.zero_le n) (.inr ⟨x, rfl, .inr ⟨h, hl, rfl⟩⟩)
theorem kt_opA {s : Str} {a b : D} {ra : Res} (h : Kt ks n env a ra) (e : nk (S "num") ra = some c) : Kt ks (n + 1) env (tOpD s a b) (.error c) := .inr (.inl ⟨s, a, b, ra, rfl, h, .inl ⟨c, e, rfl⟩⟩)
theorem kt_opB {s : Str} {a b : D} {rb : Res} (h : Kt ks n env a (.ok (S "num"))) (h2 : Kt ks n env b rb) (e : nk (S "num") rb = some c) : Kt ks (n + 1) env (tOpD s a b) (.error c) := .inr (.inl ⟨s, a, b, _, rfl, h, .inr ⟨nk_ok, rb, h2, by rw [e]; rfl⟩⟩)
theorem kt_if1 {a b d : D} {ra : Res} (h : Kt ks n env a ra) (e : nk (S "num") ra = some c) : Kt ks (n + 1) env (tIfD a b d) (.error c) := .inr (.inr (.inr (.inr (.inr (.inr ⟨a, b, d, ra, rfl, h, .inl ⟨c, e, rfl⟩⟩)))))
theorem kt_if2 {a b d : D} (h : Kt ks n env a (.ok (S "num"))) (h2 : Kt ks n env b (.error c)) : Kt ks (n + 1) env (tIfD a b d) (.error c) := .inr (.inr (.inr (.inr (.inr (.inr ⟨a, b, d, _, rfl, h, .inr ⟨nk_ok, _, h2, .inl ⟨c, rfl, rfl⟩⟩⟩)))))
theorem kt_if3 {a b d : D} {k : Str} {r : Res} (h : Kt ks n env a (.ok (S "num"))) (h2 : Kt ks n env b (.ok k)) (h3 : Kt ks n env d r) (e : nk k r = some c) : Kt ks (n + 1) env (tIfD a b d) (.error c) := .inr (.inr (.inr (.inr (.inr (.inr ⟨a, b, d, _, rfl, h, .inr ⟨nk_ok, _, h2, .inr ⟨k, r, rfl, h3, by rw [e]; rfl⟩⟩⟩)))))
theorem kt_recS {x : Str} {es : List D} (e : sortR ks x (S "rec") = some c) (hl : x.length <= 100) : Kt ks (n + 1) env (tRec x es) (.error c) := .inr (.inr (.inl ⟨x, es, rfl, .inl ⟨c, e, hl, rfl⟩⟩))
theorem kt_recN {x : Str} {es : List D} {kn : Kn} (hk : kAt ks x = some kn) (hr : kn.rc = true) (hn : es.length ≠ kn.parts.length) : Kt ks (n + 1) env (tRec x es) (.error 3) := .inr (.inr (.inl ⟨x, es, rfl, .inr ⟨sortR_ok hk (sort_rec hr), kn, hk, .inl ⟨hn, rfl⟩⟩⟩))
theorem kt_recF {x : Str} {es : List D} {kn : Kn} (hk : kAt ks x = some kn) (hr : kn.rc = true) (hn : es.length = kn.parts.length) (ha : AllN (Kt ks n env) es kn.parts (some c)) : Kt ks (n + 1) env (tRec x es) (.error c) := .inr (.inr (.inl ⟨x, es, rfl, .inr ⟨sortR_ok hk (sort_rec hr), kn, hk, .inr ⟨hn, _, ha, rfl⟩⟩⟩))
theorem kt_getS {a : D} {f : Str} {ra : Res} (h : Kt ks n env a ra) (e : ksR ks (S "rec") ra = .error c) : Kt ks (n + 1) env (tGet a f) (.error c) := .inr (.inr (.inr (.inl ⟨a, f, ra, rfl, h, .inl ⟨c, e, rfl⟩⟩)))
theorem kt_getP {a : D} {f k : Str} {kn : Kn} (h : Kt ks n env a (.ok k)) (hk : kAt ks k = some kn) (hr : kn.rc = true) (hp : xav kn f = none) (hl : f.length <= 100) : Kt ks (n + 1) env (tGet a f) (.error 2) := .inr (.inr (.inr (.inl ⟨a, f, _, rfl, h, .inr ⟨k, kn, ksR_is hk (sort_rec hr), hk, by unfold partR; rw [hp], fun _ => hl⟩⟩)))
theorem kt_tagS {x t : Str} {a : D} (e : sortR ks x (S "alt") = some c) (hl : x.length <= 100) : Kt ks (n + 1) env (tTag x t a) (.error c) := .inr (.inr (.inr (.inr (.inl ⟨x, t, a, rfl, .inl ⟨c, e, hl, rfl⟩⟩))))
theorem kt_tagP {x t : Str} {a : D} {kn : Kn} (hk : kAt ks x = some kn) (hr : kn.rc = false) (hp : xav kn t = none) (hl : t.length <= 100) : Kt ks (n + 1) env (tTag x t a) (.error 2) := .inr (.inr (.inr (.inr (.inl ⟨x, t, a, rfl, .inr ⟨sortR_ok hk (sort_alt hr), kn, hk, .inl ⟨hp, hl, rfl⟩⟩⟩))))
theorem kt_tagF {x t k1 : Str} {a : D} {kn : Kn} {ra : Res} (hk : kAt ks x = some kn) (hr : kn.rc = false) (hp : xav kn t = some k1) (h : Kt ks n env a ra) (e : nk k1 ra = some c) : Kt ks (n + 1) env (tTag x t a) (.error c) := .inr (.inr (.inr (.inr (.inl ⟨x, t, a, rfl, .inr ⟨sortR_ok hk (sort_alt hr), kn, hk, .inr ⟨k1, ra, hp, h, by rw [e]; rfl⟩⟩⟩))))
theorem kt_tag {x t k1 : Str} {a : D} {kn : Kn} (hk : kAt ks x = some kn) (hr : kn.rc = false) (hp : xav kn t = some k1) (h : Kt ks n env a (.ok k1)) : Kt ks (n + 1) env (tTag x t a) (.ok x) := .inr (.inr (.inr (.inr (.inl ⟨x, t, a, rfl, .inr ⟨sortR_ok hk (sort_alt hr), kn, hk, .inr ⟨k1, _, hp, h, fin_ok.symm⟩⟩⟩))))
theorem kt_caseS {a : D} {rs : List Arm3} {ra : Res} (hl : rs.length <= 1000) (h : Kt ks n env a ra) (e : ksR ks (S "alt") ra = .error c) : Kt ks (n + 1) env (tCase a rs) (.error c) := .inr (.inr (.inr (.inr (.inr (.inl ⟨a, rs, ra, rfl, hl, h, .inl ⟨c, e, rfl⟩⟩)))))
theorem kt_caseT {a : D} {rs : List Arm3} {k : Str} {kn : Kn} (hl : rs.length <= 1000) (h : Kt ks n env a (.ok k)) (hk : kAt ks k = some kn) (hr : kn.rc = false) (e : tagsR kn rs = some c) (hz : ∀ z ∈ rs, z.1.length <= 100) : Kt ks (n + 1) env (tCase a rs) (.error c) :=
 .inr (.inr (.inr (.inr (.inr (.inl ⟨a, rs, _, rfl, hl, h, .inr ⟨k, kn, ksR_is hk (sort_alt hr), hk, .inl ⟨c, e, hz, rfl⟩⟩⟩)))))
theorem kt_case0 {a : D} {r0 : Arm3} {rest : List Arm3} {k : Str} {kn : Kn} (hl : (r0 :: rest).length <= 1000) (h : Kt ks n env a (.ok k)) (hk : kAt ks k = some kn) (hr : kn.rc = false) (e : tagsR kn (r0 :: rest) = none) (h0 : ArmR kn (Kt ks n) env r0 (.error c)) : Kt ks (n + 1) env (tCase a (r0 :: rest)) (.error c) :=
 .inr (.inr (.inr (.inr (.inr (.inl ⟨a, _, _, rfl, hl, h, .inr ⟨k, kn, ksR_is hk (sort_alt hr), hk, .inr ⟨e, r0, rest, _, rfl, h0, .inl ⟨c, rfl, rfl⟩⟩⟩⟩)))))
theorem kt_case1 {a : D} {r0 r1 : Arm3} {k x : Str} {kn : Kn} {q : Res} (h : Kt ks n env a (.ok k)) (hk : kAt ks k = some kn) (hr : kn.rc = false) (e : tagsR kn [r0, r1] = none) (h0 : ArmR kn (Kt ks n) env r0 (.ok x)) (h1 : ArmR kn (Kt ks n) env r1 q) (e1 : nk x q = some c) : Kt ks (n + 1) env (tCase a [r0, r1]) (.error c) :=
 .inr (.inr (.inr (.inr (.inr (.inl ⟨a, _, _, rfl, by show 2 <= 1000; decide, h, .inr ⟨k, kn, ksR_is hk (sort_alt hr), hk, .inr ⟨e, r0, [r1], _, rfl, h0, .inr ⟨x, some c, rfl, ⟨q, h1, .inl ⟨c, e1, rfl⟩⟩, rfl⟩⟩⟩⟩)))))
theorem kt_case {a : D} {r0 r1 : Arm3} {k x : Str} {kn : Kn} (h : Kt ks n env a (.ok k)) (hk : kAt ks k = some kn) (hr : kn.rc = false) (e : tagsR kn [r0, r1] = none) (h0 : ArmR kn (Kt ks n) env r0 (.ok x)) (h1 : ArmR kn (Kt ks n) env r1 (.ok x)) : Kt ks (n + 1) env (tCase a [r0, r1]) (.ok x) :=
 .inr (.inr (.inr (.inr (.inr (.inl ⟨a, _, _, rfl, by show 2 <= 1000; decide, h, .inr ⟨k, kn, ksR_is hk (sort_alt hr), hk, .inr ⟨e, r0, [r1], _, rfl, h0, .inr ⟨x, none, rfl, ⟨_, h1, .inr ⟨nk_ok, rfl⟩⟩, rfl⟩⟩⟩⟩)))))
end
end M
end
section
namespace K18
open PySem L2 M
seal L2.PE L2.PA L2.PS L2.PSs L2.PT L2.PW L2.PI L2.PG L2.PJ L2.PTs
def spNames : Sp := fun vs H Q _ => ∃ c : Int, vs = [.int c, .int 26] /\ ∀ (b : Addr) (H' : Hp) (nms : List Str), Same H H' -> H b = none -> H' b = some (.lst (nms.map V.str)) -> NmsOk nms -> (∀ z ∈ nms, NoBy z /\ NoIO z) -> Q (.ref b) H'
section
variable {P : Program} {w : World} {K : PySem.W.Frag} {mg : Str -> Option Value} {base : Heap} {n m : Nat}
theorem okl_names (T : Tx K mg) : DefIs P w K mg base (n + 1) "_law_names" ["_law_cell", "_law_many"] spNames := by
 refine DefIs.of T.dl_names scl_names ?_ ?_ <;> walk_at "i"
 ·obtain ⟨_, rfl, _⟩ := h
  rfl
 obtain ⟨c, rfl, k⟩ := h
 have nd := scl_names.nd
 refine ⟨_, (zpn (xae (i := 2) nd rfl (by walk_at "o") pS)
   (zpn (xae (i := 3) nd rfl (by walk_at "o") (xah op_mod (pv 0) pI))
   (zpn (xae (i := 4) nd rfl (by walk_at "o") (xah op_mod (xah xa5 (pv 0) pI) (xah xas (pv 3) pI)))
   (zpn (xae (i := 5) nd rfl (by walk_at "o") (pe_bm PySem.F.plainAttrs_str PySem.F.slot_str_join PySem.F.type_str_join mt_join pS (pc (pe_comp ["_law_j", "_law_cell"] [none, some 0] rfl (by kernel_rfl) (pi_range1 rfl T.z_range (pc (pv 3) pN zsn)) (fun _ _ _ _ => (xaf (i := 0) (by show List.Nodup (["_law_j", "_law_cell"] : List Str); decide +kernel) rfl (Or.inl rfl))) (fun _ _ _ _ => pts_nil) (fun _ _ _ _ => (xac ix_str pS (xah op_mod (xah xas (xah xa5 (pv 1) pI) (pv 0)) pI) (fun _ _ => rfl)))) pN star_comp)))
   (zpn (xae (i := 6) nd rfl (by walk_at "o") (pe_comp ["_law_k", "_law_common", "_law_letters", "_law_at", "_law_cell"] [none, some 5, some 2, some 4, some 0] rfl (by kernel_rfl) (pi_range1 rfl T.z_range (pc (pv 1) pN zsn)) (fun _ _ _ _ => (xaf (i := 0) (by show List.Nodup (["_law_k", "_law_common", "_law_letters", "_law_at", "_law_cell"] : List Str); decide +kernel) rfl (Or.inl rfl))) (fun _ _ _ _ => pts_nil) (fun _ _ _ _ => (xah op_add_str (xah op_add_str (pe_slice sl_str (pv 1) po_none (po_some (pv 3))) (xac ix_str (pv 2) (xah op_mod (xah xas (xah xa5 (pv 4) pI) (xah op_mul pI (pv 0))) pI) (fun _ _ => rfl))) (pe_slice sl_str (pv 1) (po_some (pv 3)) po_none)))))
   (zpn (xap (pR xaq (xah op_mod (xah xa5 (pv 0) pI) pI) pI (nM _)) (po (xad (pv 6))) pQ)
   (po (xad (pe_comp ["_law_k", "_law_found"] [none, some 6] rfl (by kernel_rfl) (pi_range1 rfl T.z_range (pc (pv 1) pN zsn)) (fun _ _ _ _ => (xaf (i := 0) (by show List.Nodup (["_law_k", "_law_found"] : List Str); decide +kernel) rfl (Or.inl rfl))) (fun _ _ _ _ => pts_nil) (fun _ _ _ _ => (xah op_add_str (xac (ix_listC (K := K) rfl) (pv 1) (xah xa2 (pv 0) (xah op_mod (pv 0) pI)) (fun _ _ => rfl)) (xah op_mulS pS (xah op_mod (pv 0) pI))))))))))))), ?_⟩
 have m0 : 0 <= c % 5 := Int.emod_nonneg _ (by decide)
 have m5 : c % 5 < 5 := Int.emod_lt_of_pos _ (by decide)
 refine ⟨_, rfl, _, _, rfl, rfl, (by show (0 : Int) < 5; decide), ?_⟩
 have hp : 0 < (c % 5) + 1 := by omega
 refine ⟨_, rfl, _, _, rfl, rfl, ⟨by decide, by decide⟩, _, rfl, _, _, rfl, rfl, _, _, rfl, rfl, hp, ?_⟩
 have a0 : 0 <= c / 5 % ((c % 5) + 1) := Int.emod_nonneg _ (by omega)
 have a1 : c / 5 % ((c % 5) + 1) < (c % 5) + 1 := Int.emod_lt_of_pos _ hp
 refine ⟨rfl, _, rfl, _, rfl, by omega, by omega, ?_⟩
 refine comp_range (j := 0) (fun i ys H' => H' = H /\ ∃ cs : List Nat, ys = (cs.map single).map V.str /\ ∀ c ∈ cs, c ∈ five) (by rfl) ⟨rfl, [], rfl, fun _ h => nomatch h⟩ (xa1 (by omega)) ?_ ?_
 ·rintro i ys H' hi hl ⟨rfl, cs, rfl, hcs⟩
  refine ⟨_, rfl, _, _, rfl, rfl, ⟨by decide, by decide⟩, _, rfl, _, _, rfl, rfl, _, _, rfl, rfl, (by show (0 : Int) < 5; decide), ?_⟩
  obtain ⟨ch, hch, hat⟩ := five_at (Int.emod_nonneg (c / 25 + (0 + (i : Int))) (by decide : (5 : Int) ≠ 0)) (Int.emod_lt_of_pos _ (by decide))
  refine ⟨_, _, ch, rfl, rfl, by walk_at "k", hat, ?_⟩
  exact nxt hi hl ⟨rfl, cs ++ [ch], by simp [single], fun x hx => by
   rcases List.mem_append.mp hx with hx | hx
   ·exact hcs x hx
   ·rw [List.mem_singleton.mp hx]; exact hch⟩
 ·rintro ys H' hl ⟨rfl, cs, rfl, hcs⟩ D hD
  rw [List.length_map, List.length_map] at hl
  refine ⟨S "", D, cs.map single, rfl, rfl, SqL.of ups, ?_, ?_⟩
  ·rw [sum_singles, show (S "").length = 0 by walk_at "k"]
   omega
  rw [join_singles]
  have sD := Same.new hD (.lst ((cs.map single).map V.str))
  generalize upd H' D (.lst ((cs.map single).map V.str)) = H1 at sD ⊢
  have hlen : (ofL cs).length = cs.length := by rw [<- L_length, L_ofL]
  have c4 : cs.length <= 4 := by omega
  refine ⟨_, rfl, _, rfl, by decide, by decide, ?_⟩
  refine comp_range (j := 0) (fun i ys H2 => H2 = H1 /\ ys = ((List.range i).map fun k => ofL (nmA cs (c / 5 % (c % 5 + 1)).toNat (c / 125) k)).map V.str) (by rfl) ⟨rfl, rfl⟩ (xa1 (by decide)) ?_ ?_
  ·rintro i ys H2 hi hl2 ⟨rfl, rfl⟩
   have e0 : (0 + (i : Int)) = (i : Int) := by omega
   have li0 : 0 <= (c / 125 + 5 * (0 + (i : Int))) % 26 := Int.emod_nonneg _ (by decide)
   have li1 : (c / 125 + 5 * (0 + (i : Int))) % 26 < 26 := Int.emod_lt_of_pos _ (by decide)
   refine ⟨_, rfl, _, rfl, _, rfl, _, rfl, fits (by rw [hlen]; omega), ?_⟩
   refine ⟨_, rfl, _, rfl, _, _, rfl, rfl, ⟨by decide, by decide⟩, _, rfl, _, _, rfl, rfl, .inl ⟨by decide, by decide⟩, _, _, rfl, rfl, _, _, rfl, rfl, (by show (0 : Int) < 26; decide), ?_⟩
   refine ⟨_, _, _, rfl, rfl, by walk_at "k", letter_is li0 li1, ?_⟩
   rw [slice_to (ofL cs) a0 (by rw [hlen]; omega)]
   refine ⟨_, _, rfl, rfl, ?_, ?_⟩
   ·refine fits ?_
    rw [show (ofL ((L (ofL cs)).take (c / 5 % (c % 5 + 1)).toNat)).length = (cs.take (c / 5 % (c % 5 + 1)).toNat).length by rw [<- L_length, L_ofL, L_ofL], List.length_take]
    show _ + 1 <= _
    omega
   refine ⟨_, rfl, _, rfl, _, rfl, _, rfl, fits (by rw [hlen]; omega), ?_⟩
   rw [slice_from (ofL cs) a0 (by rw [hlen]; omega), L_ofL]
   refine ⟨_, _, rfl, rfl, ?_, ?_⟩
   ·refine fits ?_
    rw [Str.length_append, show (ofL (cs.take (c / 5 % (c % 5 + 1)).toNat)).length = (cs.take (c / 5 % (c % 5 + 1)).toNat).length by rw [<- L_length, L_ofL], show (ofL (cs.drop (c / 5 % (c % 5 + 1)).toNat)).length = (cs.drop (c / 5 % (c % 5 + 1)).toNat).length by rw [<- L_length, L_ofL], List.length_take, List.length_drop]
    show _ + 1 + _ <= _
    omega
   rw [name_text]
   refine nxt hi hl2 ⟨rfl, ?_⟩
   rw [List.range_succ, List.map_append, List.map_append, e0]
   rfl
  ·rintro ys H2 hl2 ⟨rfl, rfl⟩ D2 hD2
   have sD2 := Same.new hD2 (.lst (((List.range 26).map fun k => ofL (nmA cs (c / 5 % (c % 5 + 1)).toNat (c / 125) k)).map V.str))
   refine ⟨_, rfl, _, _, rfl, rfl, ⟨by decide, by decide⟩, _, _, rfl, rfl, (by show (0 : Int) < 3; decide), rfl, _, rfl, ite2 (fun cc => ?_) (fun cc => ?_)⟩
   ·exact ⟨_, rfl, k D2 _ _ (sD.trans sD2) (none_of_same sD hD2) ups (nmsA c4 hcs) (fun z hz => ⟨nmsA_nb hcs z hz, nmsA_io hcs z hz⟩)⟩
   ·refine ⟨_, rfl, _, rfl, by decide, by decide, ?_⟩
    obtain ⟨H3, hH3⟩ : ∃ H3, H3 = upd H2 D2 (.lst (((List.range 26).map fun k => ofL (nmA cs (c / 5 % (c % 5 + 1)).toNat (c / 125) k)).map V.str)) := ⟨_, rfl⟩
    have hb : H3 D2 = some (.lst (((List.range 26).map fun k => ofL (nmA cs (c / 5 % (c % 5 + 1)).toNat (c / 125) k)).map V.str)) := by rw [hH3]; exact ups
    rw [<- hH3] at sD2
    refine comp_range (j := 0) (fun i ys H4 => H4 = H3 /\ ys = ((List.range i).map fun k => ofL (nmB cs (c / 5 % (c % 5 + 1)).toNat (c / 125) k)).map V.str) (by rfl) ⟨hH3.symm, rfl⟩ (xa1 (by decide)) ?_ ?_
    ·rintro i ys H4 hi hl3 ⟨rfl, rfl⟩
     have hi' : i < 26 := hi
     have er : (0 + (i : Int)) % 2 = ((i % 2 : Nat) : Int) := by omega
     have es : (0 + (i : Int)) - (0 + (i : Int)) % 2 = ((i - i % 2 : Nat) : Int) := by omega
     refine ⟨_, rfl, _, rfl, _, rfl, _, _, rfl, rfl, (by show (0 : Int) < 2; decide), _, _, rfl, rfl, D2, _, _, .str (ofL (nmA cs (c / 5 % (c % 5 + 1)).toNat (c / 125) (i - i % 2))), rfl, rfl, SqL.of hb, ?_, ?_⟩
     ·rw [es]
      refine xai ?_
      rw [List.getElem?_map, List.getElem?_map, List.getElem?_range (by omega)]
      rfl
     refine ⟨_, rfl, _, _, rfl, rfl, (by show (0 : Int) < 2; decide), _, _, rfl, rfl, by omega, ?_⟩
     refine ⟨_, _, rfl, rfl, ?_, ?_⟩
     ·refine fits ?_
      rw [show (ofL (nmA cs (c / 5 % (c % 5 + 1)).toNat (c / 125) (i - i % 2))).length = cs.length + 1 by rw [<- L_length, L_ofL, nmA_len]]
      have : (if (0 + (i : Int)) % 2 = 1 then S "q" else Str.empty).length <= 1 := by split <;> decide +kernel
      show _ + (if (0 + (i : Int)) % 2 = 1 then S "q" else Str.empty).length <= _
      omega
     refine nxt hi hl3 ⟨rfl, ?_⟩
     rw [List.range_succ, List.map_append, List.map_append]
     congr 1
     show [V.str _] = [V.str _]
     congr 2
     apply L_inj
     rw [L_append, L_ofL, L_ofL]
     unfold nmB
     congr 1
     rw [er]
     rcases Nat.mod_two_eq_zero_or_one i with e | e
     ·rw [e]; decide +kernel
     ·rw [e]; decide +kernel
    ·rintro ys H4 hl3 ⟨rfl, rfl⟩ D4 hD4
     have sD4 := Same.new hD4 (.lst (((List.range 26).map fun k => ofL (nmB cs (c / 5 % (c % 5 + 1)).toNat (c / 125) k)).map V.str))
     exact k D4 _ _ (sD.trans (sD2.trans sD4)) (none_of_same (sD.trans sD2) hD4) ups (nmsB c4 hcs) (fun z hz => ⟨nmsB_nb hcs z hz, nmsB_io hcs z hz⟩)
end
end K18
end
section
namespace K18
open PySem L2 M
seal L2.PE L2.PA L2.PS L2.PSs L2.PT L2.PW L2.PI L2.PG L2.PJ L2.PTs
def spLSort : Sp := fun vs H Q _ => ∃ v ks x, vs = [v, .str x] /\ KsSeq H v ks /\ ∀ t pv H', Same H H' -> H' t = some (.tup [.str (sortS (kAt ks x)), pv]) -> RelD H' pv (partsD (kAt ks x)) -> Q (.ref t) H'
def spSize (m : Nat) : Sp := fun vs H Q _ => ∃ v ks x, vs = [v, .str x] /\ KsSeq H v ks /\ KWf ks /\ KIn ks m x /\ ∀ H', Same H H' -> Q (.int (szF (m + 1) ks x)) H'
section
variable {P : Program} {w : World} {K : PySem.W.Frag} {mg : Str -> Option Value} {base : Heap} {n m : Nat}
theorem xba (T : Tx K mg) : DefIs P w K mg base (n + 1) "_law_sort_of" ["_law_kinds_here", "_law_kind"] spLSort := by
  refine DefIs.of T.dl_sort_of scl_sort_of ?_ ?_ <;> walk_at "i"
  · obtain ⟨_, _, _, rfl, _⟩ := h
    rfl
  obtain ⟨v, ks, x, rfl, ⟨a, us, rfl, hau, hR⟩, q⟩ := h
  have nd := scl_sort_of.nd
  refine ⟨_, (zpn (ps_for PassesOwn.never rfl (pi_or (pi_list (pv 0)) (pi_tup (pv 0))) (pg_tup rfl (xag (xaf (i := 2) nd rfl (by walk_at "o")) (xag (xaf (i := 3) nd rfl (by walk_at "o")) (xag (xaf (i := 4) nd rfl (by walk_at "o")) xax))))
      (po (xap (pR xaq (pv 2) (pv 1) (nM _)) (po (xad (xaa (pc (pv 3) (pc (pv 4) pN zsn) zsn)))) pQ)))
      (po (xad (xaa (pc pS (pc (xaa pN) pN sT) zso))))), ?_⟩
  have hl := hR.length
  rw [List.length_map] at hl
  have turn : ∀ (i : Nat) (v : V), us[i]? = some v -> (ks.take i).find? (fun k => decide (k.name = x)) = none -> ∃ k b pv, ks[i]? = some k /\ v = .ref b /\ H b = some (.tup [.str k.name, .str k.sort, pv]) /\ RelD H pv (dParts k.parts) := fun i v hv hn => by
    obtain ⟨d, hd, rd⟩ := hR.get hv
    rw [List.getElem?_map] at hd
    obtain ⟨k, hk', rfl⟩ := Option.map_eq_some_iff.mp hd
    obtain ⟨b, ws, rfl, hb, _, _, rfl, rfl, _, _, rfl, rfl, v3, _, rfl, r3, rfl⟩ := rd
    exact ⟨k, b, v3, hk', rfl, hb, r3⟩
  rcases hau with ha | ha
  case' inl =>
    refine .inl ⟨_, rfl, a, rfl, ⟨_, SqL.of ha⟩, ?_⟩
    refine for_list (xs := us) (fun i σ H' => ∃ o2 o3 o4, σ = [some (.ref a), some (.str x), o2, o3, o4] /\ H' = H /\ (ks.take i).find? (fun k => decide (k.name = x)) = none) ⟨none, none, none, rfl, rfl, rfl⟩ (fun i σ H' _ p => by obtain ⟨_, _, _, _, rfl, _⟩ := p; exact SqL.of ha) ?_ ?_
  case' inr =>
    refine .inr ⟨_, rfl, a, rfl, ⟨_, SqT.of ha⟩, ?_⟩
    refine for_tup (xs := us) (fun i σ H' => ∃ o2 o3 o4, σ = [some (.ref a), some (.str x), o2, o3, o4] /\ H' = H /\ (ks.take i).find? (fun k => decide (k.name = x)) = none) ⟨none, none, none, rfl, rfl, rfl⟩ (fun i σ H' _ p => by obtain ⟨_, _, _, _, rfl, _⟩ := p; exact SqT.of ha) ?_ ?_
  all_goals first
    | (rintro i v σ H' hv ⟨o2, o3, o4, rfl, rfl, hn⟩
       obtain ⟨k, b, pv, hk', rfl, hb, r3⟩ := turn i v hv hn
       refine ⟨b, _, rfl, SqT.of hb, rfl, _, _, rfl, _, _, rfl, _, _, rfl, rfl, ?_⟩
       refine ⟨_, rfl, _, rfl, rfl, _, rfl, ite2 (fun c => ?_) (fun c => ?_)⟩
       · have e : k.name = x := V.str.inj (of_decide_eq_true c)
         have e2 : kAt ks x = some k := (find_step hn hk').1 (decide_eq_true e)
         refine ⟨_, rfl, _, rfl, (by walk_at "s"), fun t ht => ?_⟩
         have st := Same.new ht (.tup [.str k.sort, pv])
         rw [e2] at q
         exact q t pv _ st ups (r3.same st _)
       · have e : ¬ k.name = x := fun z => c (decide_eq_true (congrArg V.str z))
         exact ⟨_, _, _, rfl, rfl, (find_step hn hk').2 (decide_eq_false e)⟩)
    | (rintro σ H' ⟨o2, o3, o4, rfl, rfl, hn⟩
       rw [List.take_of_length_le (by omega)] at hn
       rw [show kAt ks x = none from hn] at q
       refine ⟨(by walk_at "s"), fun e he => ⟨(by walk_at "s"), fun t ht => ?_⟩⟩
       have se := Same.new he (.tup [])
       have st := Same.new ht (.tup [.str (S "num"), .ref e])
       exact q t (.ref e) _ (se.trans st) ups ⟨e, [], rfl, st _ _ ups, rfl⟩)
theorem okl_size (T : Tx K mg) (spc : Sp) (Dl_sort_of : DefIs P w K mg base n "_law_sort_of" ["_law_kinds_here", "_law_kind"] spLSort) (Dl_size : DefIs P w K mg base n "_law_size" ["_law_kinds_here", "_law_kind"] spc) (hspc : ∀ j, m = j + 1 -> spc = spSize j) (hm : m <= 6) :
  DefIs P w K mg base (n + 1) "_law_size" ["_law_kinds_here", "_law_kind"] (spSize m) := by
 refine DefIs.of T.dl_size scl_size ?_ ?_ <;> walk_at "i"
 ·obtain ⟨_, _, _, rfl, _⟩ := h
  rfl
 obtain ⟨v, ks, x, rfl, hk, wf, hin, q⟩ := h
 have nd := scl_size.nd
 refine ⟨_, (zpn (ps_asg (pd Dl_sort_of hr (pc (pv 0) (pc (pv 1) pN zsn) zsn)) (pg_tup rfl (xag (xaf (i := 2) nd rfl (by walk_at "o")) (xag (xaf (i := 3) nd rfl (by walk_at "o")) xax))))
   (zpn (ps_setComp (i := 4) ["_law_name", "_law_part", "_law_kinds_here"] [none, none, some 0] rfl (by kernel_rfl) nd rfl (by walk_at "o") (pi_tup (pv 3)) (fun _ _ _ _ => (pg_tupC (K := K) (n := 2) rfl rfl (xag (xaf (i := 0) (by show List.Nodup (["_law_name", "_law_part", "_law_kinds_here"] : List Str); decide +kernel) rfl (Or.inl rfl)) (xag (xaf (i := 1) (by show List.Nodup (["_law_name", "_law_part", "_law_kinds_here"] : List Str); decide +kernel) rfl (Or.inl rfl)) xax)))) (fun _ _ _ _ => pts_nil) (fun _ _ _ _ => (pd Dl_size hr (pc (pv 2) (pc (pv 1) pN zsn) zsn))))
   (zpn (xap (pR xaq (pv 2) pS (nM _)) (po (xad (xah xas pI (xam (call_maxL rfl) rfl T.z_max PyProof.Rows.boot_max (pc (pv 4) pN zsn))))) pQ)
   (po (xad (xah xas pI (xam (call_sumL rfl) rfl T.z_sum PyProof.Rows.boot_sum (pc (pv 4) pN zsn)))))))), ?_⟩
 refine ⟨_, rfl, _, rfl, v, ks, x, rfl, hk, fun t pv H1 s1 ht rp => ?_⟩
 refine ⟨t, _, rfl, SqT.of ht, rfl, _, _, rfl, _, _, rfl, rfl, ?_⟩
 have key : ∃ ps : List (Str × Str), partsD (kAt ks x) = dParts ps /\ ps.length <= 5 /\ (∀ p ∈ ps, ∃ j, m = j + 1 /\ KIn ks j p.2) /\ (sortS (kAt ks x) = S "alt" -> ps ≠ [] /\ szF (m + 1) ks x = 1 + maxD (ps.map fun p => szF m ks p.2)) ∧
   (sortS (kAt ks x) ≠ S "alt" -> szF (m + 1) ks x = 1 + (ps.map fun p => szF m ks p.2).sum) := by
  cases hx : kAt ks x with
  | none =>
   refine ⟨[], rfl, by decide, (fun _ h => nomatch h), (fun h => absurd h (by walk_at "k")), fun _ => ?_⟩
   unfold szF
   rw [hx]
   rfl
  | some k =>
   have hmem : k ∈ ks := List.mem_of_find?_eq_some hx
   have hname : k.name = x := by
    have := List.find?_some hx
    simpa using this
   refine ⟨k.parts, rfl, wf.pts k hmem, fun p hp => ?_, fun h => ?_, fun h => ?_⟩
   ·rcases hin with rfl | ⟨j, k', hj, hk', e⟩
    ·exact absurd hname (name_ne_num (wf.nm k hmem))
    ·have e2 : kAt ks k'.name = some k' := wf.at hk'
     rw [e, hx] at e2
     cases e2
     refine ⟨m - 1, by omega, ?_⟩
     rcases wf.ref j k hk' p hp with z | ⟨i, k2, hi, z⟩
     ·exact .inl z
     ·exact .inr ⟨i, k2, by omega, z⟩
   ·have hrc : k.rc = false := by
     cases hc : k.rc with
     | false => rfl
     | true =>
      have : k.sort = S "alt" := h
      unfold Kn.sort at this
      rw [hc, if_pos rfl] at this
      exact absurd this (by walk_at "k")
    refine ⟨wf.alt k hmem hrc, ?_⟩
    conv => lhs; unfold szF
    rw [hx]
    show 1 + (if k.rc = true then _ else _) = _
    rw [if_neg (by rw [hrc]; decide)]
   ·have hrc : k.rc = true := by
     cases hc : k.rc with
     | true => rfl
     | false =>
      refine absurd ?_ h
      show k.sort = S "alt"
      unfold Kn.sort
      rw [hc, if_neg (by decide)]
    conv => lhs; unfold szF
    rw [hx]
    show 1 + (if k.rc = true then _ else _) = _
    rw [if_pos hrc]
 obtain ⟨ps, eps, h5, hpin, halt, hrec⟩ := key
 rw [eps] at rp
 obtain ⟨e, us, rfl, he, hus⟩ := rp
 have hl := hus.length
 rw [List.length_map] at hl
 refine ⟨_, rfl, e, rfl, ⟨_, SqT.of he⟩, ?_⟩
 refine comp_tupG (xs := us) (fun i ys H' => Same H1 H' /\ ys = ((ps.take i).map fun p => szF m ks p.2).map V.int) ⟨Same.refl _, rfl⟩ (xa1 (by omega)) (fun i ys H' _ p => SqT.of (p.1 _ _ he)) ?_ ?_
 ·rintro i z ys H' hz hi hly ⟨sm, rfl⟩
  obtain ⟨d, hd, rd⟩ := hus.get hz
  rw [List.getElem?_map] at hd
  obtain ⟨p, hp, rfl⟩ := Option.map_eq_some_iff.mp hd
  obtain ⟨b, ws, rfl, hb, _, _, rfl, rfl, _, _, rfl, rfl, rfl⟩ := rd
  obtain ⟨j, rfl, hj⟩ := hpin p (List.mem_of_getElem? hp)
  have D' := hspc j rfl
  subst D'
  refine ⟨b, _, rfl, SqT.of (sm _ _ hb), rfl, _, _, rfl, _, _, rfl, rfl, ext2 rfl rfl, yes_go ?_⟩
  refine ⟨_, rfl, _, rfl, _, ks, p.2, rfl, hk.same (s1.trans sm), wf, hj, fun H2 s2 => nxtG hi hly ⟨sm.trans s2, ?_⟩⟩
  rw [List.take_add_one, hp]
  simp
 ·rintro ys H' hly ⟨sm, rfl⟩ D hD
  rw [List.take_of_length_le (by omega)]
  have sD := Same.new hD (.lst ((ps.map fun p => szF m ks p.2).map V.int))
  have sAll := s1.trans (sm.trans sD)
  have hb : ∀ n ∈ ps.map (fun p => szF m ks p.2), 0 <= n /\ n <= 1000000 := fun n hn => by
   obtain ⟨p, _, rfl⟩ := List.mem_map.mp hn
   have h1 := szF_bound wf.pts m p.2
   have h2 : (6 : Int) ^ m <= 6 ^ 6 := by
    rcases (show m = 0 \/ m = 1 \/ m = 2 \/ m = 3 \/ m = 4 \/ m = 5 \/ m = 6 by omega) with h | h | h | h | h | h | h <;> subst h <;> decide
   have h3 : (6 : Int) ^ 6 = 46656 := by decide
   omega
  refine ⟨_, rfl, rfl, _, rfl, ite2 (fun c => ?_) (fun c => ?_)⟩
  ·obtain ⟨hne, ez⟩ := halt (V.str.inj (of_decide_eq_true c))
   refine ⟨_, rfl, D, _, rfl, SqL.of ups, (fun z => hne (List.map_eq_nil_iff.mp z)), fun mx h1 h2 => ⟨_, _, rfl, rfl, ?_⟩⟩
   have := q _ sAll
   rw [ez, <- maxD_is (fun z => hne (List.map_eq_nil_iff.mp z)) (fun n hn => (hb n hn).1) h1 h2] at this
   exact this
  ·have ez := hrec (fun z => c (decide_eq_true (congrArg V.str z)))
   refine ⟨_, rfl, D, _, rfl, SqL.of ups, hb, by rw [List.length_map]; omega, _, _, rfl, rfl, ?_⟩
   have := q _ sAll
   rw [ez] at this
   exact this
theorem size_is (T : Tx K mg) : ∀ m, m <= 6 -> DefIs P w K mg base (m + 2) "_law_size" ["_law_kinds_here", "_law_kind"] (spSize m)
 | 0, h => okl_size (n := 1) T (fun _ _ _ _ => False) (xba T) (DefIs.none T.dl_size fun _ _ _ _ h => h) (fun j e => by cases e) h
 | m + 1, h => okl_size (n := m + 2) T (spSize m) (xba T) (size_is T m (by omega)) (fun j e => by cases e; rfl) h
end
end K18
end
section
namespace K18
open PySem L2 M
seal L2.PE L2.PA L2.PS L2.PSs L2.PT L2.PW L2.PI L2.PG L2.PJ L2.PTs
def spParts : Sp := fun vs H Q _ => ∃ (f l nb : Addr) (srt : Str) (p q : Int) (ws : List V) (ks : List Kn) (n4 : List Str), vs = [.ref f, .ref l, .str srt, .ref nb] /\ H f = some (.lst [.int p, .int q]) /\ H l = some (.lst ws) /\ RelDs H ws (ks.map Kn.d) /\ KWf ks ∧
 H nb = some (.lst (n4.map V.str)) /\ n4.length = 4 /\ (srt = S "rec" \/ srt = S "alt") /\ l ≠ f /\ nb ≠ f ∧
 ∀ v ps (H' : Hp), Fed f H H' -> RelD H' v (dParts ps) -> ps.length <= 4 -> ps.map (·.1) = n4.take ps.length -> (srt = S "alt" -> ps ≠ []) -> (∀ p ∈ ps, KIn ks ks.length p.2) -> (ps.map fun p => sz ks p.2).sum <= 29 -> Q v H'
theorem if_asg {D : Ends} {σ : St} {H : Hp} {c : Bool} {B : Prop} {i : Nat} {v x : V} (σk : V -> St) (h1 : σ.set i (some v) = σk v) (h2 : σ = σk x) (hB : D.nx σ H -> B) (h : ∀ y, (y = v \/ (y = x /\ c = false)) -> D.nx (σk y) H) : if c = true then tAsg (tC v) (gName i) D σ H else B := by
 cases c with
 | false => exact hB (by rw [h2]; exact h x (.inr ⟨rfl, rfl⟩))
 | true =>
  show D.nx (σ.set i (some v)) H
  rw [h1]
  exact h v (.inl rfl)
theorem and2 {tb : TE} {σ : St} {H : Hp} {Q : VK} {c cA : Bool} (hA : Q (.bl cA) H -> tb σ H Q) (h : ∀ b : Bool, (b = true -> cA = true) -> Q (.bl b) H) : if c = true then tb σ H Q else Q (.bl false) H := by
 cases c with
 | false => exact h false (fun e => by cases e)
 | true => exact hA (h cA id)
theorem maxD_sum : ∀ {ns : List Int}, (∀ n ∈ ns, 0 <= n) -> maxD ns <= ns.sum /\ 0 <= ns.sum
 | [], _ => ⟨Int.le_refl _, Int.le_refl _⟩
 | n :: ns, h => by
  have h1 := h n (by simp)
  have h2 := maxD_sum (ns := ns) fun m hm => h m (by simp [hm])
  rw [List.sum_cons]
  show max n (maxD ns) <= _ /\ _
  omega
theorem inSz_sum {ks : List Kn} (wf : KWf ks) {x : Str} {b : Bool} {ps : List (Str × Str)} (h : (ps.map fun p => sz ks p.2).sum <= 29) : inSz (Kn.mk x b ps) (sz ks) <= 29 := by
 have := maxD_sum (ns := ps.map fun p => sz ks p.2) fun n hn => by
  obtain ⟨p, _, rfl⟩ := List.mem_map.mp hn
  have := sz_ge wf p.2
  omega
 unfold inSz
 show (if b = true then (ps.map fun p => sz ks p.2).sum else maxD (ps.map fun p => sz ks p.2)) <= 29
 split <;> omega
section
variable {P : Program} {w : World} {K : PySem.W.Frag} {mg : Str -> Option Value} {base : Heap} {n m : Nat}
theorem okl_parts (T : Tx K mg) (Dl_take : DefIs P w K mg base n "_law_take" ["_law_feed_here", "_law_many"] xbc) (Dl_size : DefIs P w K mg base n "_law_size" ["_law_kinds_here", "_law_kind"] (spSize 6)) : DefIs P w K mg base (n + 1) "_law_parts" ["_law_feed_here", "_law_kinds_here", "_law_sort", "_law_names_here"] spParts := by
  refine DefIs.of T.dl_parts scl_parts ?_ ?_ <;> walk_at "i"
  · obtain ⟨_, _, _, _, _, _, _, _, _, rfl, _⟩ := h
    rfl
  obtain ⟨f', l, nb, srt, p, q, ws, ks, n4, rfl, hf, hl, hws, wf, hnb, h4, hs, lf, nf, k⟩ := h
  have nd := scl_parts.nd
  refine ⟨_, (zpn (xae (i := 4) nd rfl (by walk_at "o") (xat pN))
      (zpn (xae (i := 5) nd rfl (by walk_at "o") pI)
      (zpn (ps_for PassesOwn.never rfl (pi_range1 rfl T.z_range (pc (xah xas (xah xas (pd Dl_take hr (pc (pv 0) (pc pI pN zso) zsn)) (xa0 call_int1 rfl T.z_int PyProof.Rows.boot_int (pc (pe_cmpR xaq (pv 2) pS (nM _)) pN star_cmp))) (xa0 call_int1 rfl T.z_int PyProof.Rows.boot_int (pc (pe_and (pe_cmpR xaq (pd Dl_take hr (pc (pv 0) (pc pI pN zso) zsn)) pI (nM _)) (pe_one (pe_cmpR xaq (pv 2) pS (nM _)))) pN star_bool))) pN xak)) (xaf (i := 6) nd rfl (by walk_at "o"))
      (zpn (xae (i := 7) nd rfl (by walk_at "o") (xac iL (xah op_cat (xat (pc pS pN zso)) (pe_comp ["_law_row"] [none] rfl (by kernel_rfl) (pi_list (pv 1)) (fun _ _ _ _ => (xaf (i := 0) (by show List.Nodup (["_law_row"] : List Str); decide +kernel) rfl (Or.inl rfl))) (fun _ _ _ _ => pts_nil) (fun _ _ _ _ => (xac (ix_tupC (K := K) rfl) (pv 0) pI (fun _ _ => rfl))))) (pd Dl_take hr (pc (pv 0) (pc (xah xas pI (xam xaj rfl T.z_len PySem.boot_len (pc (pv 1) pN zsn))) pN xak) zsn)) (fun _ _ => rfl)))
      (zpn (xap (pR op_gt (pd Dl_size hr (pc (pv 1) (pc (pv 7) pN zsn) zsn)) (pv 5) (nM _)) (po (xae (i := 7) nd rfl (by walk_at "o") pS)) pQ)
      (zpn (xae (i := 5) nd rfl (by walk_at "o") (xah xa2 (pv 5) (pd Dl_size hr (pc (pv 1) (pc (pv 7) pN zsn) zsn))))
      (po (xay (pe_bm PySem.F.plainAttrs_list PySem.F.slot_list_append PySem.F.type_list_append mt_append (pv 4) (pc (xaa (pc (xac iL (pv 3) (pv 6) (fun _ _ => rfl)) (pc (pv 7) pN zsn) zss)) pN sT))))))))
      (po (xad (xa0 call_tuple_of rfl T.z_tuple PyProof.Rows.boot_tuple (pc (pe_slice sl_list (pv 4) po_none (po_some pI)) pN zss))))))), ?_⟩
  refine ⟨(by walk_at "s"), fun pl hpl => ?_⟩
  have s0 := Same.new hpl (.lst [])
  have plf : pl ≠ f' := Ne.symm (neN hf hpl)
  have hfew := wf.few
  have hwl := hws.length
  rw [List.length_map] at hwl
  refine ⟨_, rfl, f', p, q, 4, rfl, s0 _ _ hf, by decide, by decide, fun r1 H1 r10 r11 f1 => ?_⟩
  obtain ⟨p1, q1, h1⟩ := f1.2
  have F1 : Fed f' H H1 := ⟨s0.but.trans f1.1, f1.2⟩
  have hp1 : H1 pl = some (.lst []) := f1.1 _ _ ups plf
  have hAB : ∃ cA cB : Bool, decide (V.str srt = V.str (S "rec")) = cA /\ decide (V.str srt = V.str (S "alt")) = cB /\ 0 <= (if cA = true then (1 : Int) else 0) /\ 0 <= (if cB = true then (1 : Int) else 0) /\ (if cA = true then (1 : Int) else 0) + (if cB = true then (1 : Int) else 0) <= 1 /\ (srt = S "alt" -> (if cB = true then (1 : Int) else 0) = 1) := by
    rcases hs with rfl | rfl
    · exact ⟨true, false, by walk_at "k", by walk_at "k", by decide, by decide, by decide, fun e => absurd e (by walk_at "k")⟩
    · exact ⟨false, true, by walk_at "k", by walk_at "k", by decide, by decide, by decide, fun _ => rfl⟩
  obtain ⟨cA, cB, eA, eB, hb0, hb1, hb2, hbA⟩ := hAB
  refine ⟨_, rfl, rfl, .inr ⟨cB, congrArg (fun b => [V.bl b]) eB, r1, (if cB = true then 1 else 0), rfl, rfl, ?_⟩⟩
  refine ⟨_, rfl, f', p1, q1, 9, rfl, h1, by decide, by decide, fun r2 H2 r20 r21 f2 => ⟨rfl, _, rfl, and2 (cA := decide (V.str srt = V.str (S "rec"))) (fun z => ⟨_, rfl, rfl, z⟩) (fun b hb => ?_)⟩⟩
  rw [eA] at hb
  have hbb : 0 <= (if b = true then (1 : Int) else 0) /\ (if b = true then (1 : Int) else 0) <= (if cA = true then (1 : Int) else 0) := by
    cases b with
    | false => exact ⟨Int.le_refl _, hb0⟩
    | true => rw [hb rfl]; exact ⟨by decide, by decide⟩
  refine .inr ⟨b, rfl, _, (if b = true then 1 else 0), rfl, rfl, _, rfl, by omega, by omega, ?_⟩
  all_goals
      have F2 : Fed f' H H2 := F1.trans f2
      have hp2 : H2 pl = some (.lst []) := f2.1 _ _ hp1 plf
      refine for_range (fun i σ H' => ∃ us, ∃ ps : List (Str × Str), ∃ left o6 o7, σ = [some (.ref f'), some (.ref l), some (.str _), some (.ref nb), some (.ref pl), some (.int left), o6, o7] /\ Fed f' H H' /\ H' pl = some (.lst us) /\ RelDs H' us (ps.map dPart) /\ ps.length = i /\ ps.map (·.1) = n4.take i /\ (∀ p ∈ ps, KIn ks ks.length p.2) /\ (ps.map fun p => sz ks p.2).sum + left = 25 /\ -(i : Int) <= left)
        ⟨[], [], 25, none, none, rfl, F2, hp2, rfl, rfl, rfl, (fun _ h => nomatch h), rfl, by decide⟩ ?_ ?_
      · rintro i σ H3 hi ⟨us, ps, left, o6, o7, rfl, F, hpu, hus, hpl', hpn, hin, hsum, hleft⟩
        have hi4 : i < 4 := by omega
        obtain ⟨p3, q3, h3⟩ := F.2
        have hl3 := F.1 l _ hl lf
        have hn3 := F.1 nb _ hnb nf
        have hws3 := hws.tups (xal ⟨p, q, hf⟩ F) _
        refine ⟨(by walk_at "s"), fun l1 hl1 => ?_⟩
        have s1 := Same.new hl1 (.lst [.str (S "num")])
        refine ⟨_, rfl, l, rfl, ⟨_, SqL.of (s1 _ _ hl3)⟩, ?_⟩
        refine comp_list (j := 0) (xs := ws) (fun i ys H' => H' = upd H3 l1 (.lst [.str (S "num")]) /\ ys = ((ks.take i).map Kn.name).map V.str) (by rfl) ⟨rfl, rfl⟩ (xa1 (by omega)) (fun i ys H' _ p => by obtain ⟨rfl, _⟩ := p; exact SqL.of (s1 _ _ hl3)) ?_ ?_
        · rintro i' x ys H' hx hly ⟨rfl, rfl⟩
          obtain ⟨d, hd, rd⟩ := (hws3.same s1 _).get hx
          rw [List.getElem?_map] at hd
          obtain ⟨k', hk', rfl⟩ := Option.map_eq_some_iff.mp hd
          obtain ⟨b, vs', rfl, hb, _, _, rfl, rfl, _, _, rfl, rfl, v3, _, rfl, r3, rfl⟩ := rd
          have hi' : i' < ws.length := (List.getElem?_eq_some_iff.mp hx).1
          refine ⟨_, rfl, b, _, _, _, rfl, rfl, SqT.of hb, rfl, nxt hi' hly ⟨rfl, ?_⟩⟩
          rw [List.take_add_one, hk']
          simp
        rintro ys H' hly ⟨rfl, rfl⟩ D2 hD2
        rw [List.take_of_length_le (by omega)]
        have s2 := Same.new hD2 (.lst ((ks.map Kn.name).map V.str))
        refine ⟨l1, D2, _, _, rfl, rfl, s2 _ _ ups, ups, fits (by rw [List.length_map, List.length_map]; show 1 + _ <= _; omega), fun l3 hl3' => ?_⟩
        have s3 := Same.new hl3' (.lst ([.str (S "num")] ++ (ks.map Kn.name).map V.str))
        have s13 := s1.trans (s2.trans s3)
        have l3f : l3 ≠ f' := Ne.symm (neN (s2 _ _ (s1 _ _ h3)) hl3')
        refine ⟨_, rfl, _, rfl, l, _, rfl, .inl (SqL.of (s13 _ _ hl3)), _, _, rfl, rfl, ?_⟩
        refine ⟨f', p3, q3, _, rfl, s13 _ _ h3, by omega, by omega, fun r H4 r0 r1' f4 => ?_⟩
        rw [hwl] at r1'
        obtain ⟨x, hx, hxin⟩ := names_at r0 r1'
        have hl34 : H4 l3 = some (.lst ([.str (S "num")] ++ (ks.map Kn.name).map V.str)) := f4.1 _ _ ups l3f
        refine ⟨l3, _, _, _, rfl, rfl, SqL.of hl34, hx, ?_⟩
        have F4 : Fed f' H H4 := (F.same s13).trans f4
        have hpu4 := f4.1 _ _ (s13 _ _ hpu) plf
        have hus4 := (hus.same s13 _).tups (xal ⟨p3, q3, s13 _ _ h3⟩ f4) _
        have hl4 := F4.1 l _ hl lf
        have hn4 := F4.1 nb _ hnb nf
        have hws4 := hws.tups (xal ⟨p, q, hf⟩ F4) _
        have seq4 : KsSeq H4 (.ref l) ks := ⟨l, ws, rfl, .inl hl4, hws4⟩
        refine ⟨_, rfl, _, rfl, _, ks, x, rfl, seq4, wf, hxin.mono hfew, fun H5 s5 => ⟨_, rfl, _, _, rfl, rfl, _, rfl, if_asg (x := .str x) (fun y => [some (.ref f'), some (.ref l), some (.str srt), some (.ref nb), some (.ref pl), some (.int left), some (.int (0 + (i : Int))), some y]) rfl rfl id (fun y hy => ?_)⟩⟩
        obtain ⟨kd, rfl, hx', hkl⟩ : ∃ kd, y = .str kd /\ KIn ks ks.length kd /\ -((i : Int) + 1) <= left - sz ks kd := by
          rcases hy with rfl | ⟨rfl, hcf⟩
          · exact ⟨S "num", rfl, .inl rfl, by have h1 : sz ks (S "num") = 1 := sz_num wf
                                              omega⟩
          · refine ⟨_, rfl, hxin, ?_⟩
            have h0 : ¬ left < sz ks x := of_decide_eq_false hcf
            omega
        · refine ⟨_, rfl, _, rfl, _, rfl, _, ks, kd, rfl, seq4.same s5, wf, hx'.mono hfew, fun H6 s6 => ⟨_, _, rfl, rfl, ?_⟩⟩
          have s56 := s5.trans s6
          have hpu6 := s56 _ _ hpu4
          have hi4' : i < n4.length := by omega
          refine ⟨_, rfl, .inl ⟨rfl, _, SqL.of hpu6⟩, _, rfl, _, rfl, nb, _, _, _, rfl, rfl, SqL.of (s56 _ _ hn4), strs_get hi4', _, rfl, (by walk_at "s"), fun t ht => ?_⟩
          have s47 : ∀ o, Same H4 (upd H6 t o) := fun o => s56.trans (Same.new ht o)
          have hul := hus.length
          rw [List.length_map] at hul
          refine ⟨pl, us, _, rfl, rfl, s47 _ _ _ hpu4, xa1 (by omega), ?_⟩
          refine ⟨_, ps ++ [(n4[i], kd)], _, _, _, rfl, Fed.put (F4.same (s47 _)) hpl plf _, ups, ?_, by rw [List.length_append, List.length_singleton, hpl'], ?_, fun z hz => ?_, ?_, by push_cast; exact hkl⟩
          · rw [List.map_append]
            refine RelDs.append ((hus4.same (s47 _) _).tups (xau (s47 _ _ _ hpu4) _) _) ?_
            exact ⟨_, [], rfl, ⟨t, _, rfl, xau (s47 _ _ _ hpu4) _ _ _ ups, _, _, rfl, rfl, _, _, rfl, rfl, rfl⟩, rfl⟩
          · rw [List.map_append, hpn, List.take_add_one, List.getElem?_eq_getElem hi4']
            rfl
          · rcases List.mem_append.mp hz with hz | hz
            · exact hin z hz
            · rw [List.mem_singleton.mp hz]; exact hx'
          · show ((ps ++ [(n4[i], kd)]).map fun p => sz ks p.2).sum + (left - sz ks kd) = 25
            rw [List.map_append, List.sum_append]
            simp only [List.map_cons, List.map_nil, List.sum_cons, List.sum_nil]
            omega
      · rintro σ H3 ⟨us, ps, left, o6, o7, rfl, F, hpu, hus, hpl', hpn, hin, hsum, hleft⟩
        have hul := hus.length
        rw [List.length_map] at hul
        refine ⟨_, rfl, _, rfl, pl, us, rfl, SqL.of hpu, fun c2 hc2 => ?_⟩
        have ecut : cutV us none (some 4) = us := by
          unfold cutV
          rw [show HT.sIx us.length 0 none = 0 from rfl, List.drop_zero, Nat.sub_zero]
          refine List.take_of_length_le ?_
          unfold HT.sIx
          simp
          omega
        have s1 := Same.new hc2 (.lst (cutV us none (some 4)))
        refine ⟨c2, _, rfl, .inl ⟨SqL.of ups, fun t ht => ?_⟩⟩
        have s2 := Same.new ht (.tup (cutV us none (some 4)))
        refine k _ ps _ (F.same (s1.trans s2)) ⟨t, us, rfl, by rw [ecut]; exact ups, hus.same (s1.trans s2) _⟩ (by omega) (by rw [hpl']; exact hpn) ?_ hin (by omega)
        intro ha e
        have h9 := hbA ha
        rw [e] at hpl'
        simp only [List.length_nil] at hpl'
        omega
def spKinds : Sp := fun vs H Q _ => ∃ (f nb : Addr) (p q : Int) (nms : List Str), vs = [.ref f, .ref nb] /\ H f = some (.lst [.int p, .int q]) /\ H nb = some (.lst (nms.map V.str)) /\ NmsOk nms /\ nb ≠ f /\ ∀ v ks (H' : Hp), Fed f H H' -> RelD H' v (dKinds ks) -> KOver nms ks -> Fit ks -> Q v H'
theorem okl_kinds (T : Tx K mg) (Dl_take : DefIs P w K mg base n "_law_take" ["_law_feed_here", "_law_many"] xbc) (Dl_parts : DefIs P w K mg base n "_law_parts" ["_law_feed_here", "_law_kinds_here", "_law_sort", "_law_names_here"] spParts) : DefIs P w K mg base (n + 1) "_law_kinds" ["_law_feed_here", "_law_names_here"] spKinds := by
 refine DefIs.of T.dl_kinds scl_kinds ?_ ?_ <;> walk_at "i"
 ·obtain ⟨_, _, _, _, _, rfl, _⟩ := h
  rfl
 obtain ⟨f', nb, p, q, nms, rfl, hf, hnb, hok, nf, k⟩ := h
 have nd := scl_kinds.nd
 refine ⟨_, (zpn (xae (i := 2) nd rfl (by walk_at "o") (xat pN))
   (zpn (ps_for PassesOwn.never rfl (pi_range1 rfl T.z_range (pc (pd Dl_take hr (pc (pv 0) (pc pI pN zso) zsn)) pN zsc)) (xaf (i := 3) nd rfl (by walk_at "o"))
   (zpn (xae (i := 4) nd rfl (by walk_at "o") (xac iL (xat (pc pS (pc pS pN zso) zso)) (pd Dl_take hr (pc (pv 0) (pc pI pN zso) zsn)) (fun _ _ => rfl)))
   (po (xay (pe_bm PySem.F.plainAttrs_list PySem.F.slot_list_append PySem.F.type_list_append mt_append (pv 2) (pc (xaa (pc (xac iL (pv 1) (pv 3) (fun _ _ => rfl)) (pc (pv 4) (pc (pd Dl_parts hr (pc (pv 0) (pc (pv 2) (pc (pv 4) (pc (pe_slice sl_list (pv 1) (po_some pI) (po_some pI)) pN zss) zsn) zsn) zsn)) pN zsc) zsn) zss)) pN sT))))))
   (po (xad (xa0 call_tuple_of rfl T.z_tuple PyProof.Rows.boot_tuple (pc (pv 2) pN zsn)))))), ?_⟩
 refine ⟨(by walk_at "s"), fun l hl => ?_⟩
 have s0 := Same.new hl (.lst [])
 have lf : l ≠ f' := Ne.symm (neN hf hl)
 have hlen := hok.1
 refine ⟨_, rfl, f', p, q, 5, rfl, s0 _ _ hf, by decide, by decide, fun r1 H1 r10 r11 f1 => ⟨_, rfl, by omega, by omega, ?_⟩⟩
 have F1 : Fed f' H H1 := ⟨s0.but.trans f1.1, f1.2⟩
 have hp1 : H1 l = some (.lst []) := f1.1 _ _ ups lf
 refine for_range (fun i σ H' => ∃ us, ∃ ks : List Kn, ∃ o3 o4, σ = [some (.ref f'), some (.ref nb), some (.ref l), o3, o4] /\ Fed f' H H' /\ H' l = some (.lst us) /\ RelDs H' us (ks.map Kn.d) /\ ks.length = i /\ Fit ks /\ KOver nms ks)
  ⟨[], [], none, none, rfl, F1, hp1, rfl, rfl, Fit.nil, KWf.nil, Nat.zero_le _, rfl, fun _ h => nomatch h⟩ ?_ ?_
 ·rintro i σ H2 hi ⟨us, ks, o3, o4, rfl, F, hlu, hus, hki, hfit, wf, hk4, hkn, hkp⟩
  have hi4 : i < 4 := by omega
  have hul := hus.length
  rw [List.length_map] at hul
  obtain ⟨p2, q2, h2⟩ := F.2
  refine ⟨(by walk_at "s"), fun l1 hl1 => ?_⟩
  have s1 := Same.new hl1 (.lst [.str (S "rec"), .str (S "alt")])
  have l1f : l1 ≠ f' := Ne.symm (neN h2 hl1)
  refine ⟨_, rfl, f', p2, q2, 2, rfl, s1 _ _ h2, by decide, by decide, fun r H3 r0 r1' f3 => ?_⟩
  have key : ∃ srt : Str, atI [V.str (S "rec"), V.str (S "alt")] r = some (.str srt) /\ (srt = S "rec" \/ srt = S "alt") := by
   rcases (show r = 0 \/ r = 1 by omega) with rfl | rfl
   ·exact ⟨S "rec", rfl, .inl rfl⟩
   ·exact ⟨S "alt", rfl, .inr rfl⟩
  obtain ⟨srt, hat, hsrt⟩ := key
  refine ⟨l1, _, _, _, rfl, rfl, SqL.of (f3.1 _ _ ups l1f), hat, ?_⟩
  have F3 : Fed f' H H3 := (F.same s1).trans f3
  obtain ⟨p3, q3, h3⟩ := f3.2
  have hlu3 := f3.1 _ _ (s1 _ _ hlu) lf
  have hus3 := (hus.same s1 _).tups (xal ⟨p2, q2, s1 _ _ h2⟩ f3) _
  have hn3 := F3.1 nb _ hnb nf
  have hin : i < nms.length := by omega
  refine ⟨_, rfl, .inl ⟨rfl, _, SqL.of hlu3⟩, _, rfl, _, rfl, nb, _, _, _, rfl, rfl, SqL.of hn3, strs_get hin, _, rfl, ?_⟩
  refine ⟨_, rfl, _, rfl, _, rfl, _, rfl, _, rfl, _, rfl, nb, _, rfl, SqL.of hn3, fun c hc => ?_⟩
  rw [cut812 hlen]
  have sc := Same.new hc (.lst (((nms.drop 8).take 4).map V.str))
  have cf : c ≠ f' := Ne.symm (neN h3 hc)
  refine ⟨f', l, c, srt, p3, q3, us, ks, (nms.drop 8).take 4, rfl, sc _ _ h3, sc _ _ hlu3, hus3.same sc _, wf, ups, by rw [List.length_take, List.length_drop, hlen]; rfl, hsrt, lf, cf, fun v ps H4 f4 rv h4 hpn halt hpin hsum => ?_⟩
  have F4 : Fed f' H H4 := (F3.same sc).trans f4
  have hlu4 := f4.1 _ _ (sc _ _ hlu3) lf
  have hus4 := (hus3.same sc _).tups (xal ⟨p3, q3, sc _ _ h3⟩ f4) _
  refine ⟨(by walk_at "s"), fun t ht => ?_⟩
  have s5 : ∀ o, Same H4 (upd H4 t o) := fun o => Same.new ht o
  refine ⟨l, us, _, rfl, rfl, s5 _ _ _ hlu4, xa1 (by omega), ?_⟩
  have hP4 := part4 hok ps.length
  have hsort : (Kn.mk nms[i] (decide (srt = S "rec")) ps).sort = srt := by
   unfold Kn.sort
   rcases hsrt with rfl | rfl
   ·rfl
   ·show (if decide (S "alt" = S "rec") = true then _ else _) = _
    rw [if_neg (by walk_at "k")]
  have hname : ks.map Kn.name = nms.take i := by rw [hkn, hki]
  have w2 : KWf (ks ++ [Kn.mk nms[i] (decide (srt = S "rec")) ps]) := by
   refine wf.snoc ?_ (hok.2.2 _ (List.getElem_mem hin)) hpin ?_ (by omega) (by show ps.length <= 5; omega) (by show (ps.map (·.1)).Nodup; rw [hpn]; exact hP4.1) (fun z hz => hP4.2 z.1 (by rw [<- hpn]; exact List.mem_map_of_mem hz))
   ·show nms[i] ∉ ks.map Kn.name
    rw [hname]
    exact not_ahead hok.2.1 hin
   ·intro hrc
    refine halt ?_
    rcases hsrt with e | e
    ·exact absurd hrc (by show ¬ decide (srt = S "rec") = false; rw [e]; decide +kernel)
    ·exact e
  refine ⟨_, ks ++ [Kn.mk nms[i] (decide (srt = S "rec")) ps], _, _, rfl, Fed.put (F4.same (s5 _)) hl lf _, ups, ?_, by rw [List.length_append, List.length_singleton, hki], hfit.snoc wf w2 hpin (inSz_sum wf hsum), ?_⟩
  ·rw [List.map_append]
   refine RelDs.append ((hus4.same (s5 _) _).tups (xau (s5 _ _ _ hlu4) _) _) ?_
   refine ⟨_, [], rfl, ⟨t, _, rfl, xau (s5 _ _ _ hlu4) _ _ _ ups, _, _, rfl, rfl, _, _, rfl, ?_, _, _, rfl, (rv.same (s5 _) _).tups (xau (s5 _ _ _ hlu4) _) _, rfl⟩, rfl⟩
   show V.str srt = V.str _
   rw [hsort]
  ·refine ⟨w2, by rw [List.length_append, List.length_singleton]; omega, ?_, ?_⟩
   ·rw [List.map_append, hname, List.length_append, List.length_singleton, hki, List.take_add_one, List.getElem?_eq_getElem hin]
    rfl
   ·intro z hz
    rcases List.mem_append.mp hz with hz | hz
    ·exact hkp z hz
    ·rw [List.mem_singleton.mp hz]
     exact ⟨h4, hpn⟩
 ·rintro σ H2 ⟨us, ks, o3, o4, rfl, F, hlu, hus, hki, hfit, hK⟩
  refine ⟨_, rfl, l, us, rfl, .inl ⟨SqL.of hlu, fun t ht => ?_⟩⟩
  have s1 := Same.new ht (.tup us)
  exact k _ ks _ (F.same s1) ⟨t, us, rfl, ups, hus.same s1 _⟩ hK hfit
end
end K18
end
section
namespace K18
open PySem L2 M
seal L2.PE L2.PA L2.PS L2.PSs L2.PT L2.PW L2.PI L2.PG L2.PJ L2.PTs
def spLNum : Sp := fun vs H Q _ => ∃ (a : Addr) (p q : Int), vs = [.ref a] /\ H a = some (.lst [.int p, .int q]) /\ ∀ (i : Int) (H' : Hp), Nm i -> Fed a H H' -> Q (.int i) H'
section
variable {P : Program} {w : World} {K : PySem.W.Frag} {mg : Str -> Option Value} {base : Heap} {n m : Nat}
theorem okl_number (T : Tx K mg) (Dl_take : DefIs P w K mg base n "_law_take" ["_law_feed_here", "_law_many"] xbc) : DefIs P w K mg base (n + 1) "_law_number" ["_law_feed_here"] spLNum := by
 refine DefIs.of T.dl_number scl_number ?_ ?_ <;> walk_at "i"
 ·obtain ⟨a, p, q, rfl, _⟩ := h
  rfl
 obtain ⟨a, p, q, rfl, ha, k⟩ := h
 have nd := scl_number.nd
 have e2 : (2 : Int) ^ (32 : Int).toNat = 4294967296 := by decide
 refine ⟨_, (zpn (xae (i := 1) nd rfl (by walk_at "o") (pd Dl_take hr (pc (pv 0) (pc pI pN zso) zsn)))
   (zpn (xap (pR op_lt (pv 1) pI (nM _)) (po (xad (pd Dl_take hr (pc (pv 0) (pc pI pN zso) zsn)))) pQ)
   (zpn (xap (pR xaq (pv 1) pI (nM _)) (po (xad (xah xa2 (xah xa2 (xah op_pow pI pI) pI) (pd Dl_take hr (pc (pv 0) (pc pI pN zso) zsn))))) pQ)
   (po (xad (pd Dl_take hr (pc (pv 0) (pc (xah op_pow pI pI) pN xak) zsn))))))), ?_⟩
 refine ⟨_, rfl, a, p, q, 4, rfl, ha, by decide, by decide, fun r1 H1 r10 r11 f1 => ?_⟩
 obtain ⟨p1, q1, h1⟩ := f1.2
 refine ⟨_, rfl, _, _, rfl, rfl, _, rfl, ?_⟩
 refine ite2 (fun c => ?_) (fun c => ?_)
 ·exact ⟨_, rfl, a, p1, q1, 6, rfl, h1, by decide, by decide, fun r2 H2 r20 r21 f2 => k _ _ ⟨r20, by omega⟩ (f1.trans f2)⟩
 refine ⟨_, rfl, rfl, _, rfl, ?_⟩
 refine ite2 (fun c => ?_) (fun c => ?_)
 ·refine ⟨_, _, rfl, rfl, ⟨by decide, by decide, by decide⟩, _, _, rfl, rfl, _, rfl, a, p1, q1, 6, rfl, h1, by decide, by decide, fun r2 H2 r20 r21 f2 => ⟨_, _, rfl, rfl, k _ _ ⟨by omega, by omega⟩ (f1.trans f2)⟩⟩
 ·refine ⟨_, rfl, _, _, rfl, rfl, ⟨by decide, by decide, by decide⟩, a, p1, q1, _, rfl, h1, by omega, by omega, fun r2 H2 r20 r21 f2 => k _ _ ⟨r20, by omega⟩ (f1.trans f2)⟩
end
end K18
end
section
namespace K18
open PySem L2 M
seal L2.PE L2.PA L2.PS L2.PSs L2.PT L2.PW L2.PI L2.PG L2.PJ L2.PTs
def spSortOf : Sp := fun vs H Q _ => ∃ v ks x, vs = [v, .str x] /\ KsAt H v ks /\ Q (sortV (kAt ks x)) H
def spPartsOf : Sp := fun vs H Q _ => ∃ v ks x, vs = [v, .str x] /\ KsAt H v ks /\ ∀ u H', Same H H' -> RelD H' u (partsD (kAt ks x)) -> Q u H'
section
variable {P : Program} {w : World} {K : PySem.W.Frag} {mg : Str -> Option Value} {base : Heap} {n : Nat}
theorem ok_sort_of (T : Tx K mg) : DefIs P w K mg base (n + 1) "sort_of" ["kinds", "K"] spSortOf := by
 refine DefIs.of T.d_sort_of sc_sort_of ?_ ?_ <;> walk_at "i"
 ·obtain ⟨_, _, _, rfl, _⟩ := h
  rfl
 obtain ⟨v, ks, x, rfl, hk, q⟩ := h
 have nd := sc_sort_of.nd
 refine ⟨_, (zpn (ps_for PassesOwn.never rfl (pi_tup (pv 0)) (pg_tup rfl (xag (xaf (i := 2) nd rfl (by walk_at "o")) (xag (xaf (i := 3) nd rfl (by walk_at "o")) (xag (xaf (i := 4) nd rfl (by walk_at "o")) xax))))
   (po (xap (pR xaq (pv 2) (pv 1) (nM _)) (po (xad (pv 3))) pQ)))
   (po (xad pe_non))), ?_⟩
 obtain ⟨a, us, rfl, ha, hR⟩ := hk.1
 refine ⟨_, rfl, a, rfl, ⟨_, SqT.of ha⟩, ?_⟩
 have hl := hR.length
 rw [List.length_map] at hl
 refine for_tup (xs := us) (fun i σ H' => ∃ o2 o3 o4, σ = [some (.ref a), some (.str x), o2, o3, o4] /\ H' = H /\ (ks.take i).find? (fun k => decide (k.name = x)) = none) ⟨none, none, none, rfl, rfl, rfl⟩ (fun i σ H' _ p => ?_) ?_ ?_
 ·obtain ⟨_, _, _, _, rfl, _⟩ := p
  exact SqT.of ha
 ·rintro i v σ H' hv ⟨o2, o3, o4, rfl, rfl, hn⟩
  obtain ⟨d, hd, rd⟩ := hR.get hv
  rw [List.getElem?_map] at hd
  obtain ⟨k, hk', rfl⟩ := Option.map_eq_some_iff.mp hd
  obtain ⟨b, ws, rfl, hb, _, _, rfl, rfl, _, _, rfl, rfl, v3, _, rfl, r3, rfl⟩ := rd
  refine ⟨b, _, rfl, SqT.of hb, rfl, _, _, rfl, _, _, rfl, _, _, rfl, rfl, ?_⟩
  refine ⟨_, rfl, _, rfl, rfl, _, rfl, ite2 (fun c => ?_) (fun c => ?_)⟩
  ·have e : k.name = x := V.str.inj (of_decide_eq_true c)
   have e2 : kAt ks x = some k := (find_step hn hk').1 (decide_eq_true e)
   refine ⟨_, rfl, ?_⟩
   rw [e2] at q
   exact q
  ·have e : ¬ k.name = x := fun z => c (decide_eq_true (congrArg V.str z))
   exact ⟨_, _, _, rfl, rfl, (find_step hn hk').2 (decide_eq_false e)⟩
 ·rintro σ H' ⟨o2, o3, o4, rfl, rfl, hn⟩
  rw [List.take_of_length_le (by omega)] at hn
  rw [show kAt ks x = none from hn] at q
  exact q
theorem ok_parts_of (T : Tx K mg) : DefIs P w K mg base (n + 1) "parts_of" ["kinds", "K"] spPartsOf := by
 refine DefIs.of T.d_parts_of sc_parts_of ?_ ?_ <;> walk_at "i"
 ·obtain ⟨_, _, _, rfl, _⟩ := h
  rfl
 obtain ⟨v, ks, x, rfl, hk, q⟩ := h
 have nd := sc_parts_of.nd
 refine ⟨_, (zpn (ps_for PassesOwn.never rfl (pi_tup (pv 0)) (pg_tup rfl (xag (xaf (i := 2) nd rfl (by walk_at "o")) (xag (xaf (i := 3) nd rfl (by walk_at "o")) (xag (xaf (i := 4) nd rfl (by walk_at "o")) xax))))
   (po (xap (pR xaq (pv 2) (pv 1) (nM _)) (po (xad (pv 4))) pQ)))
   (po (xad (xaa pN)))), ?_⟩
 obtain ⟨a, us, rfl, ha, hR⟩ := hk.1
 refine ⟨_, rfl, a, rfl, ⟨_, SqT.of ha⟩, ?_⟩
 have hl := hR.length
 rw [List.length_map] at hl
 refine for_tup (xs := us) (fun i σ H' => ∃ o2 o3 o4, σ = [some (.ref a), some (.str x), o2, o3, o4] /\ H' = H /\ (ks.take i).find? (fun k => decide (k.name = x)) = none) ⟨none, none, none, rfl, rfl, rfl⟩ (fun i σ H' _ p => ?_) ?_ ?_
 ·obtain ⟨_, _, _, _, rfl, _⟩ := p
  exact SqT.of ha
 ·rintro i v σ H' hv ⟨o2, o3, o4, rfl, rfl, hn⟩
  obtain ⟨d, hd, rd⟩ := hR.get hv
  rw [List.getElem?_map] at hd
  obtain ⟨k, hk', rfl⟩ := Option.map_eq_some_iff.mp hd
  obtain ⟨b, ws, rfl, hb, _, _, rfl, rfl, _, _, rfl, rfl, v3, _, rfl, r3, rfl⟩ := rd
  refine ⟨b, _, rfl, SqT.of hb, rfl, _, _, rfl, _, _, rfl, _, _, rfl, rfl, ?_⟩
  refine ⟨_, rfl, _, rfl, rfl, _, rfl, ite2 (fun c => ?_) (fun c => ?_)⟩
  ·have e : k.name = x := V.str.inj (of_decide_eq_true c)
   have e2 : kAt ks x = some k := (find_step hn hk').1 (decide_eq_true e)
   refine ⟨_, rfl, ?_⟩
   rw [e2] at q
   exact q _ _ (Same.refl _) r3
  ·have e : ¬ k.name = x := fun z => c (decide_eq_true (congrArg V.str z))
   exact ⟨_, _, _, rfl, rfl, (find_step hn hk').2 (decide_eq_false e)⟩
 ·rintro σ H' ⟨o2, o3, o4, rfl, rfl, hn⟩
  rw [List.take_of_length_le (by omega)] at hn
  rw [show kAt ks x = none from hn] at q
  exact ⟨(by walk_at "s"), fun p hp => q _ _ (Same.new hp _) ⟨p, [], rfl, ups, rfl⟩⟩
end
end K18
end
section
namespace K18
open PySem L2 M
seal L2.PE L2.PA L2.PS L2.PSs L2.PT L2.PW L2.PI L2.PG L2.PJ L2.PTs
theorem rec_sort {k : Kn} (h : k.rc = true) : k.sort = S "rec" := by unfold Kn.sort; rw [if_pos h]
theorem alt_sort {k : Kn} (h : k.rc = false) : k.sort = S "alt" := by unfold Kn.sort; rw [if_neg (by rw [h]; decide)]
theorem iteBT {c : Bool} {A B : Prop} (h : c = true) (a : A) : if c = true then A else B := by rw [if_pos h]; exact a
def spSm (F : List Kn -> Str -> Int) (m : Nat) : Sp := fun vs H Q _ => ∃ v ks x, vs = [v, .str x] /\ RelD H v (dKinds ks) /\ KWf ks /\ KIn ks m x /\ ∀ H', Same H H' -> Q (.int (F ks x)) H'
section
variable {P : Program} {w : World} {K : PySem.W.Frag} {mg : Str -> Option Value} {base : Heap} {n m : Nat}
theorem okl_small (T : Tx K mg) (spc : Sp) (Dl_sort_of : DefIs P w K mg base n "_law_sort_of" ["_law_kinds_here", "_law_kind"] spLSort) (Dl_small : DefIs P w K mg base n "_law_small" ["_law_kinds_here", "_law_kind"] spc) (hspc : ∀ j, m = j + 1 -> spc = spSm smK j) :
  DefIs P w K mg base (n + 1) "_law_small" ["_law_kinds_here", "_law_kind"] (spSm smK m) := by
 refine DefIs.of T.dl_small scl_small ?_ ?_ <;> walk_at "i"
 ·obtain ⟨_, _, _, rfl, _⟩ := h
  rfl
 obtain ⟨v, ks, x, rfl, hk, wf, hin, q⟩ := h
 have nd := scl_small.nd
 refine ⟨_, (zpn (ps_asg (pd Dl_sort_of hr (pc (pv 0) (pc (pv 1) pN zsn) zsn)) (pg_tup rfl (xag (xaf (i := 2) nd rfl (by walk_at "o")) (xag (xaf (i := 3) nd rfl (by walk_at "o")) xax))))
   (zpn (xap (pR xaq (pv 2) pS (nM _)) (po (xad (xah xas pI (pd Dl_small hr (pc (pv 0) (pc (xac xao (xac xao (pv 3) pI (fun _ _ => rfl)) pI (fun _ _ => rfl)) pN zss) zsn))))) pQ)
   (po (xad (xah xas pI (xam (call_sumL rfl) rfl T.z_sum PyProof.Rows.boot_sum (pc (pe_comp ["_law_name", "_law_part", "_law_kinds_here"] [none, none, some 0] rfl (by kernel_rfl) (pi_tup (pv 3)) (fun _ _ _ _ => (pg_tupC (K := K) (n := 2) rfl rfl (xag (xaf (i := 0) (by show List.Nodup (["_law_name", "_law_part", "_law_kinds_here"] : List Str); decide +kernel) rfl (Or.inl rfl)) (xag (xaf (i := 1) (by show List.Nodup (["_law_name", "_law_part", "_law_kinds_here"] : List Str); decide +kernel) rfl (Or.inl rfl)) xax)))) (fun _ _ _ _ => pts_nil) (fun _ _ _ _ => (pd Dl_small hr (pc (pv 2) (pc (pv 1) pN zsn) zsn)))) pN star_comp))))))), ?_⟩
 refine ⟨_, rfl, _, rfl, v, ks, x, rfl, (wf.ksAt hk).seq, fun t pv' H1 s1 ht rp => ?_⟩
 refine ⟨t, _, rfl, SqT.of ht, rfl, _, _, rfl, _, _, rfl, rfl, ?_⟩
 rcases hin.look wf with ⟨rfl, hkx⟩ | ⟨j, k, rfl, hkx, hn, hm, hp⟩
 ·refine ⟨_, rfl, rfl, _, rfl, iteKF (decide_eq_false (by rw [hkx]; decide +kernel)) ?_⟩
  rw [hkx] at rp
  obtain ⟨a, us, rfl, ha, hus⟩ := rp
  obtain rfl : us = [] := hus
  refine ⟨_, rfl, a, rfl, ⟨_, SqT.of ha⟩, ?_⟩
  refine comp_tupG (xs := []) (fun i ys H' => H' = H1 /\ ys = []) ⟨rfl, rfl⟩ (xa1 (by decide)) (fun i ys H' _ p => by obtain ⟨rfl, _⟩ := p; exact SqT.of ha) (fun i y ys H' hy => by simp at hy) ?_
  rintro ys H' hly ⟨rfl, rfl⟩ D hD
  refine ⟨D, [], rfl, SqL.of ups, (fun _ h => nomatch h), by decide, _, _, rfl, rfl, ?_⟩
  have e := (sm_num wf).1
  rw [e] at q
  exact q _ (s1.trans (Same.new hD _))
 ·have D' := hspc j rfl
  subst D'
  rw [hkx] at rp
  obtain ⟨a, us, rfl, ha, hus⟩ := rp
  have hl := hus.length
  rw [List.length_map] at hl
  have h5 := wf.pts k hm
  have hss : sortS (kAt ks x) = k.sort := by rw [hkx]; rfl
  have e := (sm_at wf hkx).1
  unfold smS at e
  cases hc : k.rc with
  | false =>
   rw [if_neg (by rw [hc]; decide)] at e
   refine ⟨_, rfl, rfl, _, rfl, iteKT (decide_eq_true (by rw [hss, alt_sort hc]; rfl)) ?_⟩
   cases hpp : k.parts with
   | nil => exact absurd hpp (wf.alt k hm hc)
   | cons p r =>
    rw [hpp] at hus e
    obtain ⟨vp, rest, rfl, rp, _⟩ := hus
    obtain ⟨b, ws, rfl, hb, _, _, rfl, rfl, _, _, rfl, rfl, rfl⟩ := rp
    refine ⟨_, rfl, _, rfl, a, _, _, _, rfl, rfl, SqT.of ha, xai (j := 0) rfl, b, _, _, _, rfl, rfl, SqT.of hb, rfl, ?_⟩
    refine ⟨v, ks, p.2, rfl, hk.same s1 _, wf, hp p (by rw [hpp]; simp), fun H2 s2 => ⟨_, _, rfl, rfl, ?_⟩⟩
    rw [e] at q
    exact q _ (s1.trans s2)
  | true =>
   rw [if_pos hc] at e
   refine ⟨_, rfl, rfl, _, rfl, iteKF (decide_eq_false (by rw [hss, rec_sort hc]; decide +kernel)) ?_⟩
   refine ⟨_, rfl, a, rfl, ⟨_, SqT.of ha⟩, ?_⟩
   refine comp_tupG (xs := us) (fun i ys H' => Same H1 H' /\ ys = ((k.parts.take i).map fun p => smK ks p.2).map V.int) ⟨Same.refl _, rfl⟩ (xa1 (by omega)) (fun i ys H' _ p => SqT.of (p.1 _ _ ha)) ?_ ?_
   ·rintro i y ys H' hy hi' hly ⟨sm', rfl⟩
    obtain ⟨d, hd, rd⟩ := hus.get hy
    rw [List.getElem?_map] at hd
    obtain ⟨pr, hpr, rfl⟩ := Option.map_eq_some_iff.mp hd
    obtain ⟨b, ws, rfl, hb, _, _, rfl, rfl, _, _, rfl, rfl, rfl⟩ := rd
    refine ⟨b, _, rfl, SqT.of (sm' _ _ hb), rfl, _, _, rfl, _, _, rfl, rfl, ext2 rfl rfl, yes_go ?_⟩
    refine ⟨_, rfl, _, rfl, v, ks, pr.2, rfl, hk.same (s1.trans sm') _, wf, hp pr (List.mem_of_getElem? hpr), fun H2 s2 => nxtG hi' hly ⟨sm'.trans s2, ?_⟩⟩
    rw [List.take_add_one, hpr, List.map_append, List.map_append]
    rfl
   ·rintro ys H' hly ⟨sm', rfl⟩ D hD
    rw [List.take_of_length_le (by omega)]
    refine ⟨D, k.parts.map fun p => smK ks p.2, rfl, SqL.of ups, fun z hz => ?_, by rw [List.length_map]; omega, _, _, rfl, rfl, ?_⟩
    ·obtain ⟨p, _, rfl⟩ := List.mem_map.mp hz
     have := sm_bound wf p.2
     omega
    ·rw [e] at q
     exact q _ (s1.trans (sm'.trans (Same.new hD _)))
theorem small_is (T : Tx K mg) : ∀ m, DefIs P w K mg base (m + 2) "_law_small" ["_law_kinds_here", "_law_kind"] (spSm smK m)
 | 0 => okl_small (n := 1) T (fun _ _ _ _ => False) (xba T) (DefIs.none T.dl_small fun _ _ _ _ h => h) (fun j e => by cases e)
 | m + 1 => okl_small (n := m + 2) T (spSm smK m) (xba T) (small_is T m) (fun j e => by cases e; rfl)
theorem okl_high (T : Tx K mg) (spc : Sp) (Dl_sort_of : DefIs P w K mg base n "_law_sort_of" ["_law_kinds_here", "_law_kind"] spLSort) (Dl_high : DefIs P w K mg base n "_law_high" ["_law_kinds_here", "_law_kind"] spc) (hspc : ∀ j, m = j + 1 -> spc = spSm hiK j) :
  DefIs P w K mg base (n + 1) "_law_high" ["_law_kinds_here", "_law_kind"] (spSm hiK m) := by
 refine DefIs.of T.dl_high scl_high ?_ ?_ <;> walk_at "i"
 ·obtain ⟨_, _, _, rfl, _⟩ := h
  rfl
 obtain ⟨v, ks, x, rfl, hk, wf, hin, q⟩ := h
 have nd := scl_high.nd
 refine ⟨_, (zpn (ps_asg (pd Dl_sort_of hr (pc (pv 0) (pc (pv 1) pN zsn) zsn)) (pg_tup rfl (xag (xaf (i := 2) nd rfl (by walk_at "o")) (xag (xaf (i := 3) nd rfl (by walk_at "o")) xax))))
   (zpn (xap (pR xaq (pv 2) pS (nM _)) (po (xad (xah xas pI (pd Dl_high hr (pc (pv 0) (pc (xac xao (xac xao (pv 3) pI (fun _ _ => rfl)) pI (fun _ _ => rfl)) pN zss) zsn))))) pQ)
   (po (xad (xah xas pI (xam (call_maxL rfl) rfl T.z_max PyProof.Rows.boot_max (pc (xah op_cat (pe_comp ["_law_name", "_law_part", "_law_kinds_here"] [none, none, some 0] rfl (by kernel_rfl) (pi_tup (pv 3)) (fun _ _ _ _ => (pg_tupC (K := K) (n := 2) rfl rfl (xag (xaf (i := 0) (by show List.Nodup (["_law_name", "_law_part", "_law_kinds_here"] : List Str); decide +kernel) rfl (Or.inl rfl)) (xag (xaf (i := 1) (by show List.Nodup (["_law_name", "_law_part", "_law_kinds_here"] : List Str); decide +kernel) rfl (Or.inl rfl)) xax)))) (fun _ _ _ _ => pts_nil) (fun _ _ _ _ => (pd Dl_high hr (pc (pv 2) (pc (pv 1) pN zsn) zsn)))) (xat (pc pI pN zso))) pN xak))))))), ?_⟩
 refine ⟨_, rfl, _, rfl, v, ks, x, rfl, (wf.ksAt hk).seq, fun t pv' H1 s1 ht rp => ?_⟩
 refine ⟨t, _, rfl, SqT.of ht, rfl, _, _, rfl, _, _, rfl, rfl, ?_⟩
 rcases hin.look wf with ⟨rfl, hkx⟩ | ⟨j, k, rfl, hkx, hn, hm, hp⟩
 ·refine ⟨_, rfl, rfl, _, rfl, iteKF (decide_eq_false (by rw [hkx]; decide +kernel)) ?_⟩
  rw [hkx] at rp
  obtain ⟨a, us, rfl, ha, hus⟩ := rp
  obtain rfl : us = [] := hus
  refine ⟨_, rfl, a, rfl, ⟨_, SqT.of ha⟩, ?_⟩
  refine comp_tupG (xs := []) (fun i ys H' => H' = H1 /\ ys = []) ⟨rfl, rfl⟩ (xa1 (by decide)) (fun i ys H' _ p => by obtain ⟨rfl, _⟩ := p; exact SqT.of ha) (fun i y ys H' hy => by simp at hy) ?_
  rintro ys H' hly ⟨rfl, rfl⟩ D hD
  have sD := Same.new hD (.lst [])
  refine ⟨(by walk_at "s"), fun l0 hl0 => ?_⟩
  have s0 := Same.new hl0 (.lst [.int 0])
  refine ⟨D, l0, _, _, rfl, rfl, s0 _ _ ups, ups, (by walk_at "s"), fun l hl => ?_⟩
  refine ⟨l, [0], rfl, SqL.of ups, by simp, fun m' hm' _ => ⟨_, _, rfl, rfl, ?_⟩⟩
  obtain rfl : m' = 0 := List.mem_singleton.mp hm'
  have e := (sm_num wf).2
  rw [e] at q
  exact q _ (s1.trans (sD.trans (s0.trans (Same.new hl _))))
 ·have D' := hspc j rfl
  subst D'
  rw [hkx] at rp
  obtain ⟨a, us, rfl, ha, hus⟩ := rp
  have hl := hus.length
  rw [List.length_map] at hl
  have h5 := wf.pts k hm
  have hss : sortS (kAt ks x) = k.sort := by rw [hkx]; rfl
  have e := (sm_at wf hkx).2
  unfold hiS at e
  cases hc : k.rc with
  | false =>
   rw [if_neg (by rw [hc]; decide)] at e
   refine ⟨_, rfl, rfl, _, rfl, iteKT (decide_eq_true (by rw [hss, alt_sort hc]; rfl)) ?_⟩
   cases hpp : k.parts with
   | nil => exact absurd hpp (wf.alt k hm hc)
   | cons p r =>
    rw [hpp] at hus e
    obtain ⟨vp, rest, rfl, rp, _⟩ := hus
    obtain ⟨b, ws, rfl, hb, _, _, rfl, rfl, _, _, rfl, rfl, rfl⟩ := rp
    refine ⟨_, rfl, _, rfl, a, _, _, _, rfl, rfl, SqT.of ha, xai (j := 0) rfl, b, _, _, _, rfl, rfl, SqT.of hb, rfl, ?_⟩
    refine ⟨v, ks, p.2, rfl, hk.same s1 _, wf, hp p (by rw [hpp]; simp), fun H2 s2 => ⟨_, _, rfl, rfl, ?_⟩⟩
    rw [e] at q
    exact q _ (s1.trans s2)
  | true =>
   rw [if_pos hc] at e
   refine ⟨_, rfl, rfl, _, rfl, iteKF (decide_eq_false (by rw [hss, rec_sort hc]; decide +kernel)) ?_⟩
   refine ⟨_, rfl, a, rfl, ⟨_, SqT.of ha⟩, ?_⟩
   refine comp_tupG (xs := us) (fun i ys H' => Same H1 H' /\ ys = ((k.parts.take i).map fun p => hiK ks p.2).map V.int) ⟨Same.refl _, rfl⟩ (xa1 (by omega)) (fun i ys H' _ p => SqT.of (p.1 _ _ ha)) ?_ ?_
   ·rintro i y ys H' hy hi' hly ⟨sm', rfl⟩
    obtain ⟨d, hd, rd⟩ := hus.get hy
    rw [List.getElem?_map] at hd
    obtain ⟨pr, hpr, rfl⟩ := Option.map_eq_some_iff.mp hd
    obtain ⟨b, ws, rfl, hb, _, _, rfl, rfl, _, _, rfl, rfl, rfl⟩ := rd
    refine ⟨b, _, rfl, SqT.of (sm' _ _ hb), rfl, _, _, rfl, _, _, rfl, rfl, ext2 rfl rfl, yes_go ?_⟩
    refine ⟨_, rfl, _, rfl, v, ks, pr.2, rfl, hk.same (s1.trans sm') _, wf, hp pr (List.mem_of_getElem? hpr), fun H2 s2 => nxtG hi' hly ⟨sm'.trans s2, ?_⟩⟩
    rw [List.take_add_one, hpr, List.map_append, List.map_append]
    rfl
   ·rintro ys H' hly ⟨sm', rfl⟩ D hD
    rw [List.take_of_length_le (by omega)]
    have sD := Same.new hD (.lst ((k.parts.map fun p => hiK ks p.2).map V.int))
    refine ⟨(by walk_at "s"), fun l0 hl0 => ?_⟩
    have s0 := Same.new hl0 (.lst [.int 0])
    refine ⟨D, l0, _, _, rfl, rfl, s0 _ _ ups, ups, fits (by rw [List.length_map, List.length_map]; show _ + 1 <= _; omega), fun l hl => ?_⟩
    refine ⟨l, (k.parts.map fun p => hiK ks p.2) ++ [0], rfl, SqL.of (by rw [List.map_append]; exact ups), by simp, fun m' hm' hmax => ⟨_, _, rfl, rfl, ?_⟩⟩
    have em := max_is (fun z hz => by
     obtain ⟨p, _, rfl⟩ := List.mem_map.mp hz
     have := sm_bound wf p.2
     omega) hm' hmax
    rw [e, <- em] at q
    exact q _ (s1.trans (sm'.trans (sD.trans (s0.trans (Same.new hl _)))))
theorem high_is (T : Tx K mg) : ∀ m, DefIs P w K mg base (m + 2) "_law_high" ["_law_kinds_here", "_law_kind"] (spSm hiK m)
 | 0 => okl_high (n := 1) T (fun _ _ _ _ => False) (xba T) (DefIs.none T.dl_high fun _ _ _ _ h => h) (fun j e => by cases e)
 | m + 1 => okl_high (n := m + 2) T (spSm hiK m) (xba T) (high_is T m) (fun j e => by cases e; rfl)
def spAny : Sp := fun vs H Q _ => ∃ (f : Addr) (kv : V) (p q : Int) (ks : List Kn), vs = [.ref f, kv] /\ H f = some (.lst [.int p, .int q]) /\ RelD H kv (dKinds ks) /\ KWf ks /\ ∀ x H', KIn ks ks.length x -> Fed f H H' -> Q (.str x) H'
theorem okl_any_kind (T : Tx K mg) (Dl_take : DefIs P w K mg base n "_law_take" ["_law_feed_here", "_law_many"] xbc) : DefIs P w K mg base (n + 1) "_law_any_kind" ["_law_feed_here", "_law_kinds_here"] spAny := by
 refine DefIs.of T.dl_any_kind scl_any_kind ?_ ?_ <;> walk_at "i"
 ·obtain ⟨_, _, _, _, _, rfl, _⟩ := h
  rfl
 obtain ⟨f', kv, p1, q1, ks, rfl, h1, hk, wf, q⟩ := h
 have nd := scl_any_kind.nd
 have hfew := wf.few
 refine ⟨_, (po (xad (xac iL (xah op_cat (xat (pc pS pN zso)) (pe_comp ["_law_row"] [none] rfl (by kernel_rfl) (pi_tup (pv 1)) (fun _ _ _ _ => (xaf (i := 0) (by show List.Nodup (["_law_row"] : List Str); decide +kernel) rfl (Or.inl rfl))) (fun _ _ _ _ => pts_nil) (fun _ _ _ _ => (xac (ix_tupC (K := K) rfl) (pv 0) pI (fun _ _ => rfl))))) (pd Dl_take hr (pc (pv 0) (pc (xah xas pI (xam xaj rfl T.z_len PySem.boot_len (pc (pv 1) pN zsn))) pN xak) zsn)) (fun _ _ => rfl)))), ?_⟩
 refine ⟨(by walk_at "s"), fun l2 hl2 => ?_⟩
 have s2 := Same.new hl2 (.lst [.str (S "num")])
 obtain ⟨ka, us, rfl, hka, hus⟩ := hk
 have hul := hus.length
 rw [List.length_map] at hul
 refine ⟨_, rfl, ka, rfl, ⟨_, SqT.of (s2 _ _ hka)⟩, ?_⟩
 refine comp_tup (j := 0) (xs := us) (fun i ys H' => H' = upd H l2 (.lst [.str (S "num")]) /\ ys = ((ks.take i).map Kn.name).map V.str) (by rfl) ⟨rfl, rfl⟩ (xa1 (by omega)) (fun i ys H' _ p => by obtain ⟨rfl, _⟩ := p; exact SqT.of (s2 _ _ hka)) ?_ ?_
 ·rintro i' x ys H' hx hly ⟨rfl, rfl⟩
  obtain ⟨d, hd, rd⟩ := (hus.same s2 _).get hx
  rw [List.getElem?_map] at hd
  obtain ⟨k', hk', rfl⟩ := Option.map_eq_some_iff.mp hd
  obtain ⟨b, vs', rfl, hb, _, _, rfl, rfl, _, _, rfl, rfl, v3, _, rfl, r3, rfl⟩ := rd
  have hi' : i' < us.length := (List.getElem?_eq_some_iff.mp hx).1
  refine ⟨_, rfl, b, _, _, _, rfl, rfl, SqT.of hb, rfl, nxt hi' hly ⟨rfl, ?_⟩⟩
  rw [List.take_add_one, hk']
  simp
 rintro ys H' hly ⟨rfl, rfl⟩ D2 hD2
 rw [List.take_of_length_le (by omega)]
 have s3 := Same.new hD2 (.lst ((ks.map Kn.name).map V.str))
 refine ⟨l2, D2, _, _, rfl, rfl, s3 _ _ ups, ups, fits (by rw [List.length_map, List.length_map]; show 1 + _ <= _; omega), fun l3 hl3 => ?_⟩
 have s4 := Same.new hl3 (.lst ([.str (S "num")] ++ (ks.map Kn.name).map V.str))
 have s24 := s2.trans (s3.trans s4)
 have l3f : l3 ≠ f' := Ne.symm (neN ((s2.trans s3) _ _ h1) hl3)
 refine ⟨_, rfl, _, rfl, ka, _, rfl, .inr (SqT.of (s24 _ _ hka)), _, _, rfl, rfl, f', p1, q1, _, rfl, s24 _ _ h1, by omega, by omega, fun r5 H5 r50 r51 f5 => ?_⟩
 obtain ⟨x, hx, hxin⟩ := names_at (ks := ks) r50 (by rw [<- hul]; exact r51)
 exact ⟨l3, _, _, _, rfl, rfl, SqL.of (f5.1 _ _ ups l3f), hx, q x _ hxin (((Fed.refl h1).same s24).trans f5)⟩
end
end K18
end
section
namespace K18
open PySem L2 M
seal L2.PE L2.PA L2.PS L2.PSs L2.PT L2.PW L2.PI L2.PG L2.PJ L2.PTs
theorem RelDs.rev {H : Hp} : ∀ {vs : List V} {ds : List D}, RelDs H vs ds -> RelDs H vs.reverse ds.reverse
 | vs, [], h => by rw [show vs = [] from h]; rfl
 | vs, d :: ds, ⟨v, r, e, h1, h2⟩ => by
  subst e
  rw [List.reverse_cons, List.reverse_cons]
  exact (RelDs.rev h2).append ⟨v, [], rfl, h1, rfl⟩
theorem nodup_rev {α : Type} {l : List α} (h : l.Nodup) : l.reverse.Nodup := List.pairwise_reverse.mpr (h.imp fun h => Ne.symm h)
theorem over_none {H H' : Hp} {p : Addr} (s : Same H H') (hp : H p = none) (o : HO) : Same H (upd H' p o) := fun b u q => by
 rw [xar (neN q hp)]
 exact s b u q
def bKV (bs : List (Str × Str)) : List (Key × V) := bs.map fun b => (Sum.inr b.1, .str b.2)
theorem pairs_bs {H : Hp} : ∀ {us : List V} {bs : List (Str × Str)}, RelDs H us (bs.map dPart) -> PairsV H us (bKV bs)
 | us, [], h => by rw [show us = [] from h]; trivial
 | us, b :: bs, ⟨v, r, e, h1, h2⟩ => by
  subst e
  obtain ⟨a, ws, rfl, ha, _, _, rfl, rfl, _, _, rfl, rfl, rfl⟩ := h1
  exact ⟨⟨a, rfl, ha⟩, pairs_bs h2⟩
theorem val_merge {t : Str} : ∀ (kvs : List (Key × V)) (acc : List (Key × V)), ((valV acc (Sum.inr t)).isSome = true \/ ∃ p ∈ kvs, p.1 = Sum.inr t) -> (valV (xa8 acc kvs) (Sum.inr t)).isSome = true
 | [], acc, h => by
  rcases h with h | ⟨p, hp, _⟩
  ·exact h
  ·exact nomatch hp
 | kv :: kvs, acc, h => by
  refine val_merge kvs (putK acc kv.1 kv.2) ?_
  rw [valV_put]
  by_cases e : Sum.inr t = kv.1
  ·exact .inl (by rw [if_pos e]; rfl)
  ·rcases h with h | ⟨p, hp, hpt⟩
   ·exact .inl (by rw [if_neg e]; exact h)
   ·rcases List.mem_cons.mp hp with rfl | hp
    ·exact absurd hpt.symm e
    ·exact .inr ⟨p, hp, hpt⟩
theorem not_in_bs {t : Str} {bs : List (Str × Str)} (h : valV (xa8 [] (bKV bs)) (Sum.inr t) = none) : ∀ b ∈ bs, b.1 ≠ t := fun b hb e => by
 have := val_merge (t := t) (bKV bs) [] (.inr ⟨(Sum.inr b.1, .str b.2), List.mem_map_of_mem hb, by rw [e]⟩)
 rw [h] at this
 cases this
def spTm (m : Nat) : Sp := fun vs H Q _ => ∃ (f : Addr) (kv bv : V) (ks : List Kn) (bs : List (Str × Str)) (x : Str) (room : Int), vs = [.ref f, kv, bv, .str x, .int room, .int (m : Int)] /\ TIn H f kv bv ks bs m /\ m <= 8 /\ KIn ks 6 x /\ smK ks x <= room /\ hiK ks x <= m /\ ∀ u d H', Fed f H H' -> RelD H' u d -> TmB ks m bs d x -> Q u H'
def spOpt (m : Nat) : Sp := fun vs H Q _ => ∃ (f : Addr) (kv bv : V) (ks : List Kn) (bs : List (Str × Str)) (x : Str) (room : Int), vs = [.ref f, kv, bv, .str x, .int room, .int (m : Int)] /\ TIn H f kv bv ks bs m /\ m <= 8 /\ KIn ks 6 x /\ smK ks x <= room /\ hiK ks x <= m /\ (∀ H', Fed f H H' -> Q .non H') /\ ∀ a d H', Fed f H H' -> RelD H' (.ref a) d -> TmB ks m bs d x -> Q (.ref a) H'
def spOptC (m : Nat) : Sp := fun vs H Q _ => ∃ (f : Addr) (kv bv : V) (ks : List Kn) (bs : List (Str × Str)) (x : Str) (room : Int), vs = [.ref f, kv, bv, .str x, .int room, .int (m : Int)] /\ TIn H f kv bv ks bs m /\ m <= 8 /\ KIn ks 6 x /\ smK ks x <= room /\ hiK ks x < m /\ (∀ H', Fed f H H' -> Q .non H') /\ ∀ a d H', Fed f H H' -> RelD H' (.ref a) d -> TmB ks m bs d x -> Q (.ref a) H'
def spArms (m : Nat) : Sp := fun vs H Q _ => ∃ (f : Addr) (kv bv pvv : V) (ks : List Kn) (bs ps : List (Str × Str)) (x : Str) (room : Int), vs = [.ref f, kv, bv, pvv, .str x, .int room, .int (m : Int)] /\ TIn H f kv bv ks bs (m + 1) /\ m < 8 /\ RelD H pvv (dParts ps) /\ ps.length <= 5 /\ (ps.map (·.1)).Nodup /\ (∀ p ∈ ps, NoBy p.1 /\ KIn ks 6 p.2 /\ ArmN ks p.1) /\ KIn ks 6 x /\ smK ks x <= room /\ hiK ks x <= m ∧
 ∀ (u : V) (rs : List (Str × Str × D)) (H' : Hp), Fed f H H' -> RelD H' u (.tup (rs.map dArm)) -> rs.length = ps.length -> (∀ r ∈ rs, ∃ p ∈ ps, p.1 = r.1) -> (rs.map (·.1)).Nodup -> (∀ p ∈ ps, ∃ z e, (p.1, z, e) ∈ rs /\ (∀ q ∈ bs, q.1 ≠ z) /\ ArmN ks z /\ TmB ks m (bs ++ [(z, p.2)]) e x) -> Q u H'
section
variable {P : Program} {w : World} {K : PySem.W.Frag} {mg : Str -> Option Value} {base : Heap} {n m : Nat}
theorem okl_arms (T : Tx K mg) (Dl_take : DefIs P w K mg base n "_law_take" ["_law_feed_here", "_law_many"] xbc) (Dl_term : DefIs P w K mg base n "_law_term" ["_law_feed_here", "_law_kinds_here", "_law_boxes", "_law_kind", "_law_room", "_law_nest"] (spTm m)) : DefIs P w K mg base (n + 1) "_law_arms" ["_law_feed_here", "_law_kinds_here", "_law_boxes", "_law_parts_here", "_law_kind", "_law_room", "_law_nest"] (spArms m) := by
 refine DefIs.of T.dl_arms scl_arms ?_ ?_ <;> walk_at "i"
 ·obtain ⟨_, _, _, _, _, _, _, _, _, rfl, _⟩ := h
  rfl
 obtain ⟨f', kv, bv, pvv, ks, bs, ps, x, room, rfl, ti, m8, hps, h5, hnd, hpn, hxin, hroom, hhi, q⟩ := h
 have nd := scl_arms.nd
 have hu := hu_of hr
 refine ⟨_, (zpn (xae (i := 7) nd rfl (by walk_at "o") (xat pN))
   (zpn (ps_for PassesOwn.never rfl (pi_tup (pv 3)) (pg_tup rfl (xag (xaf (i := 8) nd rfl (by walk_at "o")) (xag (xaf (i := 9) nd rfl (by walk_at "o")) xax)))
   (zpn (xae (i := 10) nd rfl (by walk_at "o") (xah op_add_str pS (xac ix_str pS (pv 6) (fun _ _ => rfl))))
   (zpn (xap (PW.pt (pw_and (pR xaq (pd Dl_take hr (pc (pv 0) (pc pI pN zso) zsn)) pI (nM _)) (pw_and1 (pt_cmp (pc_dnotin hu (pv 8) (xa0 (call_dictL rfl) rfl T.z_dict PyProof.Rows.boot_dict (pc (pv 2) pN zsn))))))) (po (xae (i := 10) nd rfl (by walk_at "o") (pv 8))) pQ)
   (po (xay (pe_bm PySem.F.plainAttrs_list PySem.F.slot_list_append PySem.F.type_list_append mt_append (pv 7) (pc (xaa (pc (pv 8) (pc (pv 10) (pc (pd Dl_term hr (pc (pv 0) (pc (pv 1) (pc (xah op_cat (pv 2) (xat (pc (xaa (pc (pv 10) (pc (pv 9) pN zsn) zsn)) pN sT))) (pc (pv 4) (pc (pv 5) (pc (pv 6) pN zsn) zsn) zsn) xak) zsn) zsn)) pN zsc) zsn) zsn)) pN sT)))))))
   (zpn (xap (pR xaq (pd Dl_take hr (pc (pv 0) (pc pI pN zso) zsn)) pI (nM _)) (po (xay (pe_bm0 PySem.F.plainAttrs_list PySem.F.slot_list_reverse PySem.F.type_list_reverse mt_reverse (pv 7)))) pQ)
   (po (xad (xa0 call_tuple_of rfl T.z_tuple PyProof.Rows.boot_tuple (pc (pv 7) pN zsn))))))), ?_⟩
 refine ⟨(by walk_at "s"), fun al hal => ?_⟩
 have s0 := Same.new hal (.lst [])
 obtain ⟨p0, q0, hf⟩ := ti.fd
 have alf : al ≠ f' := Ne.symm (neN hf hal)
 obtain ⟨pa, us, rfl, hpa, hus⟩ := hps
 have hl := hus.length
 rw [List.length_map] at hl
 refine ⟨_, rfl, pa, rfl, ⟨_, SqT.of (s0 _ _ hpa)⟩, ?_⟩
 refine for_tup (xs := us) (fun i σ H' => ∃ (ws : List V) (rs : List (Str × Str × D)) (o8 o9 o10 : Option V), σ = [some (.ref f'), some kv, some bv, some (.ref pa), some (.str x), some (.int room), some (.int (m : Int)), some (.ref al), o8, o9, o10] /\ Fed f' H H' /\ H' al = some (.lst ws) /\ RelDs H' ws (rs.map dArm) /\ rs.map (·.1) = (ps.take i).map (·.1) /\ ∀ p ∈ ps.take i, ∃ z e, (p.1, z, e) ∈ rs /\ (∀ q ∈ bs, q.1 ≠ z) /\ ArmN ks z /\ TmB ks m (bs ++ [(z, p.2)]) e x)
  ⟨[], [], none, none, none, rfl, (Fed.refl hf).same s0, ups, rfl, rfl, fun p hp => by rw [List.take_zero] at hp; exact nomatch hp⟩ (fun i σ H' _ p => ?_) ?_ ?_
 ·obtain ⟨_, _, _, _, _, _, fm, _⟩ := p
  exact SqT.of (xal ti.fd fm _ _ hpa)
 ·rintro i vv σ H1 hvv ⟨ws, rs, o8, o9, o10, rfl, fm, hws, rws, hrn, hrs⟩
  have tp := xal ti.fd fm
  obtain ⟨d, hd, rd⟩ := hus.get hvv
  rw [List.getElem?_map] at hd
  obtain ⟨pr, hpr, rfl⟩ := Option.map_eq_some_iff.mp hd
  obtain ⟨b, wz, rfl, hb, _, _, rfl, rfl, _, _, rfl, rfl, rfl⟩ := rd
  have hpm := List.mem_of_getElem? hpr
  have hi' : i < us.length := (List.getElem?_eq_some_iff.mp hvv).1
  have hwl := rws.length
  have hrl : rs.length <= 5 := by
   have := congrArg List.length hrn
   rw [List.length_map, List.length_map, List.length_take] at this
   omega
  rw [List.length_map] at hwl
  refine ⟨b, _, rfl, SqT.of (tp _ _ hb), rfl, _, _, rfl, _, _, rfl, rfl, ?_⟩
  have e2 : (Str.ofString "by").length = 2 := by walk_at "k"
  refine ⟨_, rfl, _, _, _, rfl, rfl, by walk_at "k", eight_at m8, _, _, rfl, rfl, fits (by rw [e2]; show 2 + 1 <= _; decide), ?_⟩
  rw [show Str.ofString "by" ++ (⟨#[97 + m]⟩ : Str) = byN m from byN_text m]
  obtain ⟨p1, q1, h1⟩ := fm.2
  refine ⟨_, rfl, f', p1, q1, _, rfl, h1, by decide, by decide, fun r H2 r0 r1 f2 => ⟨rfl, _, rfl, ite2 (fun c => ?_) (fun c => ?_)⟩⟩
  ·have t2 := (ti.fed fm).fed f2
   obtain ⟨bl, ub, rfl, hbl, hub, blf⟩ := t2.bx
   refine ⟨_, rfl, _, rfl, bl, ub, bKV bs, rfl, hbl, pairs_bs hub, fun dp hdp => ?_⟩
   have sd := Same.new hdp (.dK (xa8 [] (bKV bs)))
   refine ⟨dp, _, rfl, DGet.k (k := Sum.inr pr.1) ups, _, rfl, ?_⟩
   cases hval : valV (xa8 [] (bKV bs)) (Sum.inr pr.1) with
   | none =>
    refine iteT ⟨_, rfl, ?_⟩
    have hy := not_in_bs hval
    have hyf : ∀ j, j < m -> pr.1 ≠ byN j := fun j _ => (hpn pr hpm).1 j
    have F3 : Fed f' H1 _ := f2.same sd
    have t3 := (ti.fed fm).fed F3
    obtain ⟨bl3, ub3, e3, hbl3, hub3, blf3⟩ := t3.bx
    cases e3
    have hws3 := F3.1 _ _ hws alf
    have rws3 := rws.tups (xal fm.2 F3) _
    obtain ⟨p3, q3, h3⟩ := F3.2
    refine ⟨_, rfl, .inl ⟨rfl, _, SqL.of hws3⟩, _, rfl, _, rfl, _, rfl, _, rfl, _, rfl, _, rfl, _, rfl, (by walk_at "s"), fun t1 ht1 => ⟨(by walk_at "s"), fun l1 hl1 => ?_⟩⟩
    have y1 := Same.new ht1 (.tup [.str pr.1, .str pr.2])
    have y2 := Same.new hl1 (.lst [.ref t1])
    have hul3 := hub3.length
    rw [List.length_map] at hul3
    have hbl30 := ti.bl
    refine ⟨_, l1, _, _, rfl, rfl, (y1.trans y2) _ _ hbl3, ups, fits (by show _ + 1 <= _; omega), fun l2 hl2 => ?_⟩
    have y3 := Same.new hl2 (.lst (ub3 ++ [.ref t1]))
    have y13 := y1.trans (y2.trans y3)
    have t4 := t3.same y13
    have l2f : l2 ≠ f' := Ne.symm (neN ((y1.trans y2) _ _ h3) hl2)
    refine ⟨_, rfl, _, rfl, _, rfl, f', kv, .ref l2, ks, bs ++ [(pr.1, pr.2)], x, room, rfl, ⟨t4.fd, t4.kd, t4.wf, t4.nb, ⟨l2, _, rfl, ups, ?_, l2f⟩, ?_, ?_, ?_, ?_⟩, by omega, hxin, hroom, hhi, fun u dd H6 f6 ru htm => ?_⟩
    ·rw [List.map_append]
     exact (hub3.same y13 _).append ⟨_, [], rfl, ⟨t1, _, rfl, (y2.trans y3) _ _ ups, _, _, rfl, rfl, _, _, rfl, rfl, rfl⟩, rfl⟩
    ·rw [List.map_append]
     exact nd_snoc ti.nd fun hm => by
      obtain ⟨b', hb', e'⟩ := List.mem_map.mp hm
      exact hy b' hb' e'
    ·rw [List.length_append, List.length_singleton]
     omega
    ·intro b' hb' j hj
     rcases List.mem_append.mp hb' with hb' | hb'
     ·exact ti.fr b' hb' j (by omega)
     ·rw [List.mem_singleton.mp hb']
      exact hyf j hj
    ·intro b' hb'
     rcases List.mem_append.mp hb' with hb' | hb'
     ·exact ti.kn b' hb'
     ·rw [List.mem_singleton.mp hb']
      exact (hpn pr hpm).2.1
    refine ⟨(by walk_at "s"), fun t6 ht6 => ?_⟩
    have F6 : Fed f' H1 H6 := (F3.same y13).trans f6
    have st := Same.new ht6 (.tup [.str pr.1, .str pr.1, u])
    have hw6 := st _ _ (F6.1 _ _ hws alf)
    have rw6 := (rws.tups (xal fm.2 F6) _).same st _
    refine ⟨al, ws, _, rfl, rfl, hw6, xa1 (by omega), _, rs ++ [(pr.1, pr.1, dd)], _, _, _, rfl, Fed.put ((fm.trans F6).same st) hal alf _, ups, ?_, ?_, fun p hp => ?_⟩
    ·rw [List.map_append]
     exact (rw6.tups (xau hw6 _) _).append ⟨_, [], rfl, ⟨t6, _, rfl, xau hw6 _ _ _ ups, _, _, rfl, rfl, _, _, rfl, rfl, _, _, rfl, (ru.same st _).tups (xau hw6 _) _, rfl⟩, rfl⟩
    ·rw [List.map_append, hrn, List.take_add_one, hpr, List.map_append]
     rfl
    ·rw [List.take_add_one, hpr] at hp
     rcases List.mem_append.mp hp with hp | hp
     ·obtain ⟨z, e, g1, g2, g3⟩ := hrs p hp
      exact ⟨z, e, List.mem_append_left _ g1, g2, g3⟩
     ·have ep : p = pr := by simpa using hp
      rw [ep]
      exact ⟨pr.1, dd, List.mem_append_right _ (by simp), hy, (hpn pr hpm).2.2, htm⟩
   | some v' =>
    refine iteF ?_
    have hy : ∀ b ∈ bs, b.1 ≠ byN m := fun b hb => ti.fr b hb m (Nat.lt_succ_self _)
    have hyf : ∀ j, j < m -> byN m ≠ byN j := fun j hj e => by have := byN_inj e; omega
    have F3 : Fed f' H1 _ := f2.same sd
    have t3 := (ti.fed fm).fed F3
    obtain ⟨bl3, ub3, e3, hbl3, hub3, blf3⟩ := t3.bx
    cases e3
    have hws3 := F3.1 _ _ hws alf
    have rws3 := rws.tups (xal fm.2 F3) _
    obtain ⟨p3, q3, h3⟩ := F3.2
    refine ⟨_, rfl, .inl ⟨rfl, _, SqL.of hws3⟩, _, rfl, _, rfl, _, rfl, _, rfl, _, rfl, _, rfl, _, rfl, (by walk_at "s"), fun t1 ht1 => ⟨(by walk_at "s"), fun l1 hl1 => ?_⟩⟩
    have y1 := Same.new ht1 (.tup [.str (byN m), .str pr.2])
    have y2 := Same.new hl1 (.lst [.ref t1])
    have hul3 := hub3.length
    rw [List.length_map] at hul3
    have hbl30 := ti.bl
    refine ⟨_, l1, _, _, rfl, rfl, (y1.trans y2) _ _ hbl3, ups, fits (by show _ + 1 <= _; omega), fun l2 hl2 => ?_⟩
    have y3 := Same.new hl2 (.lst (ub3 ++ [.ref t1]))
    have y13 := y1.trans (y2.trans y3)
    have t4 := t3.same y13
    have l2f : l2 ≠ f' := Ne.symm (neN ((y1.trans y2) _ _ h3) hl2)
    refine ⟨_, rfl, _, rfl, _, rfl, f', kv, .ref l2, ks, bs ++ [((byN m), pr.2)], x, room, rfl, ⟨t4.fd, t4.kd, t4.wf, t4.nb, ⟨l2, _, rfl, ups, ?_, l2f⟩, ?_, ?_, ?_, ?_⟩, by omega, hxin, hroom, hhi, fun u dd H6 f6 ru htm => ?_⟩
    ·rw [List.map_append]
     exact (hub3.same y13 _).append ⟨_, [], rfl, ⟨t1, _, rfl, (y2.trans y3) _ _ ups, _, _, rfl, rfl, _, _, rfl, rfl, rfl⟩, rfl⟩
    ·rw [List.map_append]
     exact nd_snoc ti.nd fun hm => by
      obtain ⟨b', hb', e'⟩ := List.mem_map.mp hm
      exact hy b' hb' e'
    ·rw [List.length_append, List.length_singleton]
     omega
    ·intro b' hb' j hj
     rcases List.mem_append.mp hb' with hb' | hb'
     ·exact ti.fr b' hb' j (by omega)
     ·rw [List.mem_singleton.mp hb']
      exact hyf j hj
    ·intro b' hb'
     rcases List.mem_append.mp hb' with hb' | hb'
     ·exact ti.kn b' hb'
     ·rw [List.mem_singleton.mp hb']
      exact (hpn pr hpm).2.1
    refine ⟨(by walk_at "s"), fun t6 ht6 => ?_⟩
    have F6 : Fed f' H1 H6 := (F3.same y13).trans f6
    have st := Same.new ht6 (.tup [.str pr.1, .str (byN m), u])
    have hw6 := st _ _ (F6.1 _ _ hws alf)
    have rw6 := (rws.tups (xal fm.2 F6) _).same st _
    refine ⟨al, ws, _, rfl, rfl, hw6, xa1 (by omega), _, rs ++ [(pr.1, (byN m), dd)], _, _, _, rfl, Fed.put ((fm.trans F6).same st) hal alf _, ups, ?_, ?_, fun p hp => ?_⟩
    ·rw [List.map_append]
     exact (rw6.tups (xau hw6 _) _).append ⟨_, [], rfl, ⟨t6, _, rfl, xau hw6 _ _ _ ups, _, _, rfl, rfl, _, _, rfl, rfl, _, _, rfl, (ru.same st _).tups (xau hw6 _) _, rfl⟩, rfl⟩
    ·rw [List.map_append, hrn, List.take_add_one, hpr, List.map_append]
     rfl
    ·rw [List.take_add_one, hpr] at hp
     rcases List.mem_append.mp hp with hp | hp
     ·obtain ⟨z, e, g1, g2, g3⟩ := hrs p hp
      exact ⟨z, e, List.mem_append_left _ g1, g2, g3⟩
     ·have ep : p = pr := by simpa using hp
      rw [ep]
      exact ⟨(byN m), dd, List.mem_append_right _ (by simp), hy, .inl ⟨m, rfl⟩, htm⟩
  ·refine iteF ?_
   have hy : ∀ b ∈ bs, b.1 ≠ byN m := fun b hb => ti.fr b hb m (Nat.lt_succ_self _)
   have hyf : ∀ j, j < m -> byN m ≠ byN j := fun j hj e => by have := byN_inj e; omega
   have F3 : Fed f' H1 _ := f2
   have t3 := (ti.fed fm).fed F3
   obtain ⟨bl3, ub3, e3, hbl3, hub3, blf3⟩ := t3.bx
   cases e3
   have hws3 := F3.1 _ _ hws alf
   have rws3 := rws.tups (xal fm.2 F3) _
   obtain ⟨p3, q3, h3⟩ := F3.2
   refine ⟨_, rfl, .inl ⟨rfl, _, SqL.of hws3⟩, _, rfl, _, rfl, _, rfl, _, rfl, _, rfl, _, rfl, _, rfl, (by walk_at "s"), fun t1 ht1 => ⟨(by walk_at "s"), fun l1 hl1 => ?_⟩⟩
   have y1 := Same.new ht1 (.tup [.str (byN m), .str pr.2])
   have y2 := Same.new hl1 (.lst [.ref t1])
   have hul3 := hub3.length
   rw [List.length_map] at hul3
   have hbl30 := ti.bl
   refine ⟨_, l1, _, _, rfl, rfl, (y1.trans y2) _ _ hbl3, ups, fits (by show _ + 1 <= _; omega), fun l2 hl2 => ?_⟩
   have y3 := Same.new hl2 (.lst (ub3 ++ [.ref t1]))
   have y13 := y1.trans (y2.trans y3)
   have t4 := t3.same y13
   have l2f : l2 ≠ f' := Ne.symm (neN ((y1.trans y2) _ _ h3) hl2)
   refine ⟨_, rfl, _, rfl, _, rfl, f', kv, .ref l2, ks, bs ++ [((byN m), pr.2)], x, room, rfl, ⟨t4.fd, t4.kd, t4.wf, t4.nb, ⟨l2, _, rfl, ups, ?_, l2f⟩, ?_, ?_, ?_, ?_⟩, by omega, hxin, hroom, hhi, fun u dd H6 f6 ru htm => ?_⟩
   ·rw [List.map_append]
    exact (hub3.same y13 _).append ⟨_, [], rfl, ⟨t1, _, rfl, (y2.trans y3) _ _ ups, _, _, rfl, rfl, _, _, rfl, rfl, rfl⟩, rfl⟩
   ·rw [List.map_append]
    exact nd_snoc ti.nd fun hm => by
     obtain ⟨b', hb', e'⟩ := List.mem_map.mp hm
     exact hy b' hb' e'
   ·rw [List.length_append, List.length_singleton]
    omega
   ·intro b' hb' j hj
    rcases List.mem_append.mp hb' with hb' | hb'
    ·exact ti.fr b' hb' j (by omega)
    ·rw [List.mem_singleton.mp hb']
     exact hyf j hj
   ·intro b' hb'
    rcases List.mem_append.mp hb' with hb' | hb'
    ·exact ti.kn b' hb'
    ·rw [List.mem_singleton.mp hb']
     exact (hpn pr hpm).2.1
   refine ⟨(by walk_at "s"), fun t6 ht6 => ?_⟩
   have F6 : Fed f' H1 H6 := (F3.same y13).trans f6
   have st := Same.new ht6 (.tup [.str pr.1, .str (byN m), u])
   have hw6 := st _ _ (F6.1 _ _ hws alf)
   have rw6 := (rws.tups (xal fm.2 F6) _).same st _
   refine ⟨al, ws, _, rfl, rfl, hw6, xa1 (by omega), _, rs ++ [(pr.1, (byN m), dd)], _, _, _, rfl, Fed.put ((fm.trans F6).same st) hal alf _, ups, ?_, ?_, fun p hp => ?_⟩
   ·rw [List.map_append]
    exact (rw6.tups (xau hw6 _) _).append ⟨_, [], rfl, ⟨t6, _, rfl, xau hw6 _ _ _ ups, _, _, rfl, rfl, _, _, rfl, rfl, _, _, rfl, (ru.same st _).tups (xau hw6 _) _, rfl⟩, rfl⟩
   ·rw [List.map_append, hrn, List.take_add_one, hpr, List.map_append]
    rfl
   ·rw [List.take_add_one, hpr] at hp
    rcases List.mem_append.mp hp with hp | hp
    ·obtain ⟨z, e, g1, g2, g3⟩ := hrs p hp
     exact ⟨z, e, List.mem_append_left _ g1, g2, g3⟩
    ·have ep : p = pr := by simpa using hp
     rw [ep]
     exact ⟨(byN m), dd, List.mem_append_right _ (by simp), hy, .inl ⟨m, rfl⟩, htm⟩
 ·rintro σ H1 ⟨ws, rs, o8, o9, o10, rfl, fm, hws, rws, hrn, hrs⟩
  rw [List.take_of_length_le (by omega)] at hrn hrs
  have hrl : rs.length = ps.length := by
   have := congrArg List.length hrn
   rwa [List.length_map, List.length_map] at this
  have hsub : ∀ r ∈ rs, ∃ p ∈ ps, p.1 = r.1 := fun r hr => by
   have : r.1 ∈ rs.map (·.1) := List.mem_map_of_mem hr
   rw [hrn] at this
   obtain ⟨p, hp, e⟩ := List.mem_map.mp this
   exact ⟨p, hp, e⟩
  obtain ⟨p1, q1, h1⟩ := fm.2
  refine ⟨_, rfl, f', p1, q1, _, rfl, h1, by decide, by decide, fun r H2 r0 r1 f2 => ⟨rfl, _, rfl, ite2 (fun c => ?_) (fun c => ?_)⟩⟩
  ·have hw2 := f2.1 _ _ hws alf
   have rw2 := rws.tups (xal fm.2 f2) _
   refine ⟨_, rfl, .inl ⟨rfl, _, SqL.of hw2⟩, al, ws, rfl, rfl, hw2, ?_⟩
   refine ⟨_, rfl, al, _, rfl, .inl ⟨SqL.of ups, fun t ht => ?_⟩⟩
   have st := Same.new ht (.tup ws.reverse)
   refine q _ rs.reverse _ ((Fed.put (fm.trans f2) hal alf _).same st) ⟨t, _, rfl, ups, ?_⟩ (by rw [List.length_reverse]; exact hrl) (fun r hr => hsub r (List.mem_reverse.mp hr)) ?_ fun p hp => ?_
   ·rw [List.map_reverse]
    exact (RelDs.rev (rw2.tups (xau hw2 _) _)).same st _
   ·rw [List.map_reverse]
    exact nodup_rev (by rw [hrn]; exact hnd)
   ·obtain ⟨z, e, h1, h2, h3⟩ := hrs p hp
    exact ⟨z, e, List.mem_reverse.mpr h1, h2, h3⟩
  ·refine ⟨_, rfl, al, _, rfl, .inl ⟨SqL.of (f2.1 _ _ hws alf), fun t ht => ?_⟩⟩
   have st := Same.new ht (.tup ws)
   exact q _ rs _ ((fm.trans f2).same st) ⟨t, _, rfl, ups, (rws.tups (xal fm.2 f2) _).same st _⟩ hrl hsub (by rw [hrn]; exact hnd) hrs
end
end K18
end
section
namespace K18
open PySem L2 M
seal L2.PE L2.PA L2.PS L2.PSs L2.PT L2.PW L2.PI L2.PG L2.PJ L2.PTs
def CsAt (H : Hp) (ks : List Kn) (m : Nat) (w : V) : Prop := ∃ (b : Addr) (pvv : V) (k : Kn) (more : Int), w = .ref b /\ H b = some (.tup [.str k.name, pvv, .int more]) /\ RelD H pvv (dParts k.parts) /\ k ∈ ks /\ k.rc = false /\ 0 <= more /\ hiK ks k.name < m
theorem CsAt.tups {H H' : Hp} {ks : List Kn} {m : Nat} {w : V} (h : CsAt H ks m w) (s : ∀ b us, H b = some (.tup us) -> H' b = some (.tup us)) : CsAt H' ks m w := by
 obtain ⟨b, pvv, k, more, e, hb, hp, r⟩ := h
 exact ⟨b, pvv, k, more, e, s _ _ hb, hp.tups s _, r⟩
def GtAt (H : Hp) (ks : List Kn) (m : Nat) (room : Int) (x : Str) (w : V) : Prop := ∃ (b : Addr) (k : Kn) (p : Str × Str), w = .ref b /\ H b = some (.tup [.str k.name, .str p.1]) /\ k ∈ ks /\ k.rc = true /\ p ∈ k.parts /\ p.2 = x /\ smK ks k.name < room /\ hiK ks k.name < m
theorem GtAt.tups {H H' : Hp} {ks : List Kn} {m : Nat} {room : Int} {x : Str} {w : V} (h : GtAt H ks m room x w) (s : ∀ b us, H b = some (.tup us) -> H' b = some (.tup us)) : GtAt H' ks m room x w := by
 obtain ⟨b, k, p, e, hb, r⟩ := h
 exact ⟨b, k, p, e, s _ _ hb, r⟩
theorem args6 {a b c d r : V} {i j : Int} (h : i = j) : [a, b, c, d, r, V.int i] = [a, b, c, d, r, V.int j] := by rw [h]
theorem args7 {a b c d e r : V} {i j : Int} (h : i = j) : [a, b, c, d, e, r, V.int i] = [a, b, c, d, e, r, V.int j] := by rw [h]
theorem kin_of {ks : List Kn} (wf : KWf ks) {k : Kn} (h : k ∈ ks) : KIn ks 6 k.name := (KIn.of (.inr ⟨k, h, rfl⟩)).mono wf.few
theorem kat_of {ks : List Kn} (wf : KWf ks) {k : Kn} (h : k ∈ ks) : kAt ks k.name = some k := by
 obtain ⟨i, hi, e⟩ := List.mem_iff_getElem.mp h
 exact wf.at (i := i) (by rw [<- e]; exact List.getElem?_eq_getElem hi)
theorem kin_part6 {ks : List Kn} (wf : KWf ks) {k : Kn} (h : k ∈ ks) {p : Str × Str} (hp : p ∈ k.parts) : KIn ks 6 p.2 := by
 obtain ⟨i, hi, e⟩ := List.mem_iff_getElem.mp h
 have := wf.few
 exact KIn.mono (n := i) (wf.ref i k (by rw [<- e]; exact List.getElem?_eq_getElem hi) p hp) (by omega)
section
variable {P : Program} {w : World} {K : PySem.W.Frag} {mg : Str -> Option Value} {base : Heap} {n m : Nat}
theorem okl_case (T : Tx K mg) (Dl_take : DefIs P w K mg base n "_law_take" ["_law_feed_here", "_law_many"] xbc) (Dl_small : DefIs P w K mg base n "_law_small" ["_law_kinds_here", "_law_kind"] (spSm smK 6)) (Dl_high : DefIs P w K mg base n "_law_high" ["_law_kinds_here", "_law_kind"] (spSm hiK 6)) (Dl_term : DefIs P w K mg base n "_law_term" ["_law_feed_here", "_law_kinds_here", "_law_boxes", "_law_kind", "_law_room", "_law_nest"] (spTm m)) (Dl_arms : DefIs P w K mg base n "_law_arms" ["_law_feed_here", "_law_kinds_here", "_law_boxes", "_law_parts_here", "_law_kind", "_law_room", "_law_nest"] (spArms m)) :
  DefIs P w K mg base (n + 1) "_law_case" ["_law_feed_here", "_law_kinds_here", "_law_boxes", "_law_kind", "_law_room", "_law_nest"] (spOptC (m + 1)) := by
 refine DefIs.of T.dl_case scl_case ?_ ?_ <;> walk_at "i"
 ·obtain ⟨_, _, _, _, _, _, _, rfl, _⟩ := h
  rfl
 obtain ⟨f', kv, bv, ks, bs, x, room, rfl, ti, m8, hxin, hroom, hlt, qn, q⟩ := h
 have nd := scl_case.nd
 have hu := hu_of hr
 have wf := ti.wf
 have hfew := wf.few
 refine ⟨_, (zpn (xae (i := 6) nd rfl (by walk_at "o") (pd Dl_small hr (pc (pv 1) (pc (pv 3) pN zsn) zsn)))
   (zpn (xae (i := 7) nd rfl (by walk_at "o") (xat pN))
   (zpn (ps_for PassesOwn.never rfl (pi_tup (pv 1)) (pg_tup rfl (xag (xaf (i := 8) nd rfl (by walk_at "o")) (xag (xaf (i := 9) nd rfl (by walk_at "o")) (xag (xaf (i := 10) nd rfl (by walk_at "o")) xax))))
   (zpn (xae (i := 11) nd rfl (by walk_at "o") (xah xa2 (xah xa2 (xah xa2 (pv 4) pI) (pd Dl_small hr (pc (pv 1) (pc (pv 8) pN zsn) zsn))) (xah op_mul (pv 6) (xam xaj rfl T.z_len PySem.boot_len (pc (pv 10) pN zsn)))))
   (po (xap (PW.pt (pw_and (pR xaq (pv 9) pS (nM _)) (pw_and (pR op_ge (pv 11) pI (nM _)) (pw_and1 (pR op_lt (pd Dl_high hr (pc (pv 1) (pc (pv 8) pN zsn) zsn)) (pv 5) (nM _)))))) (po (xay (pe_bm PySem.F.plainAttrs_list PySem.F.slot_list_append PySem.F.type_list_append mt_append (pv 7) (pc (xaa (pc (pv 8) (pc (pv 10) (pc (xah xa5 (pv 11) pI) pN xak) zsn) zsn)) pN sT)))) pQ))))
   (zpn (xap (pR (op_eqE (Nat.lt_of_succ_lt hu)) (pv 7) (xat pN) (nM _)) (po (xad pe_non)) pQ)
   (zpn (ps_asg (xac iL (pv 7) (pd Dl_take hr (pc (pv 0) (pc (xam xaj rfl T.z_len PySem.boot_len (pc (pv 7) pN zsn)) pN zsc) zsn)) (fun _ _ => rfl)) (pg_tup rfl (xag (xaf (i := 8) nd rfl (by walk_at "o")) (xag (xaf (i := 10) nd rfl (by walk_at "o")) (xag (xaf (i := 11) nd rfl (by walk_at "o")) xax)))))
   (zpn (xae (i := 12) nd rfl (by walk_at "o") (pd Dl_term hr (pc (pv 0) (pc (pv 1) (pc (pv 2) (pc (pv 8) (pc (xah xas (pd Dl_small hr (pc (pv 1) (pc (pv 8) pN zsn) zsn)) (pv 11)) (pc (xah xa2 (pv 5) pI) pN xak) xak) zsn) zsn) zsn) zsn)))
   (po (xad (xaa (pc pS (pc (pv 12) (pc (pd Dl_arms hr (pc (pv 0) (pc (pv 1) (pc (pv 2) (pc (pv 10) (pc (pv 3) (pc (xah xas (pv 6) (xah xa5 (pv 11) (xam xaj rfl T.z_len PySem.boot_len (pc (pv 10) pN zsn)))) (pc (xah xa2 (pv 5) pI) pN xak) xak) zsn) zsn) zsn) zsn) zsn)) pN zsc) zsn) zso)))))))))), ?_⟩
 refine ⟨_, rfl, _, rfl, kv, ks, x, rfl, ti.kd, wf, hxin, fun H1 s1 => ?_⟩
 refine ⟨(by walk_at "s"), fun sl hsl => ?_⟩
 have hsl0 := none_of_same s1 hsl
 obtain ⟨p0, q0, hf⟩ := ti.fd
 have slf : sl ≠ f' := Ne.symm (neN hf hsl0)
 have ss := s1.trans (Same.new hsl (.lst []))
 have hkd := ti.kd
 obtain ⟨ka, us, rfl, hka, hus⟩ := hkd
 have hul := hus.length
 rw [List.length_map] at hul
 have hsb := sm_bound wf x
 refine ⟨_, rfl, ka, rfl, ⟨_, SqT.of (ss _ _ hka)⟩, ?_⟩
 refine for_tup (xs := us) (fun i σ H' => ∃ (ws : List V) (o8 o9 o10 o11 : Option V), σ = [some (.ref f'), some (.ref ka), some bv, some (.str x), some (.int room), some (.int ((m + 1 : Nat) : Int)), some (.int (smK ks x)), some (.ref sl), o8, o9, o10, o11, none] /\ Same H H' /\ H' sl = some (.lst ws) /\ ws.length <= i /\ ∀ z ∈ ws, CsAt H' ks (m + 1) z) ⟨[], none, none, none, none, rfl, ss, ups, Nat.le_refl _, fun _ h => nomatch h⟩ (fun i σ H' _ p => ?_) ?_ ?_
 ·obtain ⟨_, _, _, _, _, _, sm', _⟩ := p
  exact SqT.of (sm' _ _ hka)
 ·rintro i vv σ H2 hvv ⟨ws, o8, o9, o10, o11, rfl, sm', hws, hwl, hcs⟩
  obtain ⟨d, hd, rd⟩ := hus.get hvv
  rw [List.getElem?_map] at hd
  obtain ⟨k, hk', rfl⟩ := Option.map_eq_some_iff.mp hd
  obtain ⟨b, wz, rfl, hb, _, _, rfl, rfl, _, _, rfl, rfl, v3, _, rfl, r3, rfl⟩ := rd
  have r3' := r3
  obtain ⟨c, zs, rfl, hc, hzs⟩ := r3'
  have hzl := hzs.length
  rw [List.length_map] at hzl
  have hkm := List.mem_of_getElem? hk'
  have h5 := wf.pts k hkm
  have hi' : i < us.length := (List.getElem?_eq_some_iff.mp hvv).1
  refine ⟨b, _, rfl, SqT.of (sm' _ _ hb), rfl, _, _, rfl, _, _, rfl, _, _, rfl, rfl, ?_⟩
  refine ⟨_, rfl, _, _, rfl, rfl, _, rfl, _, rfl, .ref ka, ks, k.name, rfl, ti.kd.same sm' _, wf, kin_of wf hkm, fun H3 s3 => ⟨_, _, rfl, rfl, _, rfl, _, rfl, c, _, rfl, .inr (SqT.of ((sm'.trans s3) _ _ hc)), _, _, rfl, rfl, .inl ⟨by omega, by omega⟩, _, _, rfl, rfl, ?_⟩⟩
  have s23 := sm'.trans s3
  refine ⟨_, rfl, rfl, _, rfl, ?_⟩
  cases hrc : k.rc with
  | true =>
   refine iteKF (decide_eq_false (by rw [rec_sort hrc]; decide +kernel)) (iteF ?_)
   exact ⟨ws, _, _, _, _, rfl, s23, s3 _ _ hws, by omega, fun z hz => (hcs z hz).tups fun b us q => s3 _ _ q⟩
  | false =>
   refine iteKT (decide_eq_true (by rw [alt_sort hrc]; rfl)) ?_
   refine ⟨_, rfl, _, _, rfl, rfl, _, rfl, ite2 (fun cm => ?_) (fun cm => ?_)⟩
   ·refine ⟨_, rfl, _, rfl, .ref ka, ks, k.name, rfl, ti.kd.same s23 _, wf, kin_of wf hkm, fun H4 s4 => ⟨_, rfl, _, _, rfl, rfl, _, rfl, ite2 (fun ch => ?_) (fun ch => ?_)⟩⟩
    ·have s34 := s3.trans s4
     have s24 := s23.trans s4
     refine ⟨_, rfl, .inl ⟨rfl, _, SqL.of (s34 _ _ hws)⟩, _, rfl, _, rfl, _, rfl, _, _, rfl, rfl, ⟨by decide, by decide⟩, (by walk_at "s"), fun t ht => ?_⟩
     have st : ∀ o, Same H4 (upd H4 t o) := fun o => Same.new ht o
     refine ⟨sl, ws, _, rfl, rfl, st _ _ _ (s34 _ _ hws), xa1 (by omega), _, _, _, _, _, rfl, over_none (s24.trans (st _)) hsl0 _, ups, by rw [List.length_append, List.length_singleton]; omega, fun z hz => ?_⟩
     have hst := st (.tup [.str k.name, .ref c, .int ((room - 1 - smK ks k.name - smK ks x * (zs.length : Int)) / 2)]) _ _ (s34 _ _ hws)
     rcases List.mem_append.mp hz with hz | hz
     ·exact ((hcs z hz).tups fun b us q => st _ _ _ (s34 _ _ q)).tups (xau hst _)
     ·rw [List.mem_singleton.mp hz]
      have hm0 := of_decide_eq_true cm
      exact ⟨t, .ref c, k, _, rfl, xau hst _ _ _ ups, ((r3.same s24 _).same (st _) _).tups (xau hst _) _, hkm, hrc, Int.ediv_nonneg hm0 (by decide), of_decide_eq_true ch⟩
    ·exact ⟨ws, _, _, _, _, rfl, s23.trans s4, s4 _ _ (s3 _ _ hws), by omega, fun z hz => (hcs z hz).tups fun b us q => s4 _ _ (s3 _ _ q)⟩
   ·refine iteF ?_
    exact ⟨ws, _, _, _, _, rfl, s23, s3 _ _ hws, by omega, fun z hz => (hcs z hz).tups fun b us q => s3 _ _ q⟩
 ·rintro σ H2 ⟨ws, o8, o9, o10, o11, rfl, sm', hws, hwl, hcs⟩
  refine ⟨_, rfl, (by walk_at "s"), fun e he => ?_⟩
  have se := Same.new he (.lst [])
  have s3 := sm'.trans se
  have hws3 := se _ _ hws
  refine ⟨sl, e, ws, rfl, rfl, SqL.of hws3, SqL.of ups, _, rfl, ?_⟩
  cases hwe : ws with
  | nil => exact iteT (qn _ ((Fed.refl hf).same s3))
  | cons w0 wr =>
   refine iteF ?_
   have hwp : 0 < ws.length := by rw [hwe]; simp
   have hf3 := s3 _ _ hf
   refine ⟨_, rfl, _, rfl, _, rfl, sl, _, rfl, .inl (SqL.of hws3), f', p0, q0, _, rfl, hf3, by omega, by omega, fun r H5 r0 r1 f5 => ?_⟩
   obtain ⟨i, rfl⟩ : ∃ i : Nat, r = (i : Int) := ⟨r.toNat, by omega⟩
   have hi' : i < ws.length := by omega
   have tp5 := xal ⟨p0, q0, hf3⟩ f5
   obtain ⟨b, pvv, k, more, eb, hb, hpv, hkm, hrc, hm0, hhk⟩ := ((hcs ws[i] (List.getElem_mem hi')).tups fun b us q => se _ _ q).tups tp5
   have hat : atI ws (i : Int) = some (.ref b) := xai (by rw [List.getElem?_eq_getElem hi', eb])
   refine ⟨sl, _, _, _, rfl, rfl, SqL.of (f5.1 _ _ hws3 slf), hat, b, _, rfl, SqT.of hb, rfl, _, _, rfl, _, _, rfl, _, _, rfl, rfl, ?_⟩
   have F5 : Fed f' H H5 := ((Fed.refl hf).same s3).trans f5
   have t5 := (ti.fed F5)
   have kname := kin_of wf hkm
   have hj1 : (((m + 1 : Nat) : Int)) - 1 = (m : Int) := by omega
   refine ⟨_, rfl, _, rfl, _, rfl, _, rfl, _, rfl, _, rfl, .ref ka, ks, k.name, rfl, t5.kd, wf, kname, fun H6 s6 => ⟨_, rfl, _, _, rfl, rfl, _, rfl, _, _, rfl, rfl, ?_⟩⟩
   have t6 := t5.same s6
   refine ⟨f', .ref ka, bv, ks, bs, k.name, smK ks k.name + more, args6 hj1, t6.down (by omega), by omega, kname, by omega, by omega, fun u du H7 f7 ru htu => ?_⟩
   have t7 := t6.fed f7
   have hpv7 := (hpv.same s6 _).tups (xal t6.fd f7) _
   have hpv7' := hpv7
   obtain ⟨pa, zs, rfl, hpa, hzs⟩ := hpv7'
   have hzl := hzs.length
   rw [List.length_map] at hzl
   have hne : 0 < k.parts.length := Nat.pos_of_ne_zero fun e => wf.alt k hkm hrc (List.length_eq_zero_iff.mp e)
   have h5 := wf.pts k hkm
   have hdv : 0 <= more / (zs.length : Int) := Int.ediv_nonneg hm0 (by omega)
   refine ⟨_, rfl, _, rfl, _, rfl, _, rfl, _, rfl, _, rfl, _, rfl, _, rfl, _, rfl, pa, _, rfl, .inr (SqT.of hpa), _, _, rfl, rfl, ⟨by omega, by omega⟩, _, _, rfl, rfl, _, rfl, _, _, rfl, rfl, ?_⟩
   refine ⟨f', .ref ka, bv, .ref pa, ks, bs, k.parts, x, smK ks x + more / (zs.length : Int), args7 hj1, t7, by omega, hpv7, h5, wf.pnd k hkm, fun p hp => ⟨ti.nb k hkm p hp, kin_part6 wf hkm hp, .inr ⟨k, hkm, p, hp, rfl⟩⟩, hxin, by omega, by omega, fun ua rs H8 f8 ra hrl hrsub hrn hrs => ⟨(by walk_at "s"), fun t ht => ?_⟩⟩
   have st := Same.new ht (.tup [.str (S "case"), u, ua])
   exact q t (tCase du rs) _ ((((F5.same s6).trans f7).trans f8).same st) ⟨t, _, rfl, ups, _, _, rfl, rfl, _, _, rfl, (ru.tups (xal t7.fd f8) _).same st _, _, _, rfl, ra.same st _, rfl⟩ (tb_case wf (kat_of wf hkm) hrc htu (by omega) hrn hrl hrsub hrs)
theorem okl_get (T : Tx K mg) (Dl_take : DefIs P w K mg base n "_law_take" ["_law_feed_here", "_law_many"] xbc) (Dl_small : DefIs P w K mg base n "_law_small" ["_law_kinds_here", "_law_kind"] (spSm smK 6)) (Dl_high : DefIs P w K mg base n "_law_high" ["_law_kinds_here", "_law_kind"] (spSm hiK 6)) (Dl_term : DefIs P w K mg base n "_law_term" ["_law_feed_here", "_law_kinds_here", "_law_boxes", "_law_kind", "_law_room", "_law_nest"] (spTm m)) :
  DefIs P w K mg base (n + 1) "_law_get" ["_law_feed_here", "_law_kinds_here", "_law_boxes", "_law_kind", "_law_room", "_law_nest"] (spOpt (m + 1)) := by
 refine DefIs.of T.dl_get scl_get ?_ ?_ <;> walk_at "i"
 ·obtain ⟨_, _, _, _, _, _, _, rfl, _⟩ := h
  rfl
 obtain ⟨f', kv, bv, ks, bs, x, room, rfl, ti, m8, hxin, hroom, hhi, qn, q⟩ := h
 have nd := scl_get.nd
 have hu := hu_of hr
 have wf := ti.wf
 have hfew := wf.few
 refine ⟨_, (zpn (xae (i := 6) nd rfl (by walk_at "o") (xat pN))
   (zpn (ps_for PassesOwn.never rfl (pi_tup (pv 1)) (pg_tup rfl (xag (xaf (i := 7) nd rfl (by walk_at "o")) (xag (xaf (i := 8) nd rfl (by walk_at "o")) (xag (xaf (i := 9) nd rfl (by walk_at "o")) xax))))
   (po (xap (PW.pt (pw_and (pR xaq (pv 8) pS (nM _)) (pw_and (pR op_lt (pd Dl_small hr (pc (pv 1) (pc (pv 7) pN zsn) zsn)) (pv 4) (nM _)) (pw_and1 (pR op_lt (pd Dl_high hr (pc (pv 1) (pc (pv 7) pN zsn) zsn)) (pv 5) (nM _)))))) (po (xae (i := 6) nd rfl (by walk_at "o") (xah op_cat (pv 6) (pe_comp ["_law_f", "_law_part", "_law_name", "_law_kind"] [none, none, some 7, some 3] rfl (by kernel_rfl) (pi_tup (pv 9)) (fun _ _ _ _ => (pg_tupC (K := K) (n := 2) rfl rfl (xag (xaf (i := 0) (by show List.Nodup (["_law_f", "_law_part", "_law_name", "_law_kind"] : List Str); decide +kernel) rfl (Or.inl rfl)) (xag (xaf (i := 1) (by show List.Nodup (["_law_f", "_law_part", "_law_name", "_law_kind"] : List Str); decide +kernel) rfl (Or.inl rfl)) xax)))) (fun _ _ _ _ => (pts_one (pR xaq (pv 1) (pv 3) (nM _)))) (fun _ _ _ _ => (xaa (pc (pv 2) (pc (pv 0) pN zsn) zsn))))))) pQ)))
   (zpn (xap (pR (op_eqE (Nat.lt_of_succ_lt hu)) (pv 6) (xat pN) (nM _)) (po (xad pe_non)) pQ)
   (zpn (ps_asg (xac iL (pv 6) (pd Dl_take hr (pc (pv 0) (pc (xam xaj rfl T.z_len PySem.boot_len (pc (pv 6) pN zsn)) pN zsc) zsn)) (fun _ _ => rfl)) (pg_tup rfl (xag (xaf (i := 7) nd rfl (by walk_at "o")) (xag (xaf (i := 10) nd rfl (by walk_at "o")) xax))))
   (po (xad (xaa (pc pS (pc (pd Dl_term hr (pc (pv 0) (pc (pv 1) (pc (pv 2) (pc (pv 7) (pc (xah xa2 (pv 4) pI) (pc (xah xa2 (pv 5) pI) pN xak) xak) zsn) zsn) zsn) zsn)) (pc (pv 10) pN zsn) zsc) zso)))))))), ?_⟩
 refine ⟨(by walk_at "s"), fun sl hsl => ?_⟩
 obtain ⟨p0, q0, hf⟩ := ti.fd
 have slf : sl ≠ f' := Ne.symm (neN hf hsl)
 have ss := Same.new hsl (.lst [])
 have hkd := ti.kd
 obtain ⟨ka, us, rfl, hka, hus⟩ := hkd
 have hul := hus.length
 rw [List.length_map] at hul
 refine ⟨_, rfl, ka, rfl, ⟨_, SqT.of (ss _ _ hka)⟩, ?_⟩
 refine for_tup (xs := us) (fun i σ H' => ∃ (lt : Addr) (ws : List V) (o7 o8 o9 : Option V), σ = [some (.ref f'), some (.ref ka), some bv, some (.str x), some (.int room), some (.int ((m + 1 : Nat) : Int)), some (.ref lt), o7, o8, o9, none] /\ Same H H' /\ H' lt = some (.lst ws) /\ lt ≠ f' /\ ws.length <= 5 * i /\ ∀ z ∈ ws, GtAt H' ks (m + 1) room x z) ⟨sl, [], none, none, none, rfl, ss, ups, slf, Nat.le_refl _, fun _ h => nomatch h⟩ (fun i σ H' _ p => ?_) ?_ ?_
 ·obtain ⟨_, _, _, _, _, _, sm', _⟩ := p
  exact SqT.of (sm' _ _ hka)
 ·rintro i vv σ H2 hvv ⟨lt, ws, o7, o8, o9, rfl, sm', hws, ltf, hwl, hcs⟩
  obtain ⟨d, hd, rd⟩ := hus.get hvv
  rw [List.getElem?_map] at hd
  obtain ⟨k, hk', rfl⟩ := Option.map_eq_some_iff.mp hd
  obtain ⟨b, wz, rfl, hb, _, _, rfl, rfl, _, _, rfl, rfl, v3, _, rfl, r3, rfl⟩ := rd
  obtain ⟨c, zs, rfl, hc, hzs⟩ := r3
  have hzl := hzs.length
  rw [List.length_map] at hzl
  have hkm := List.mem_of_getElem? hk'
  have h5 := wf.pts k hkm
  have hi' : i < us.length := (List.getElem?_eq_some_iff.mp hvv).1
  refine ⟨b, _, rfl, SqT.of (sm' _ _ hb), rfl, _, _, rfl, _, _, rfl, _, _, rfl, rfl, ?_⟩
  refine ⟨_, rfl, rfl, _, rfl, ?_⟩
  cases hrc : k.rc with
  | false =>
   refine iteKF (decide_eq_false (by rw [alt_sort hrc]; decide +kernel)) (iteF ?_)
   exact ⟨lt, ws, _, _, _, rfl, sm', hws, ltf, by omega, hcs⟩
  | true =>
   refine iteKT (decide_eq_true (by rw [rec_sort hrc]; rfl)) ?_
   refine ⟨_, rfl, _, rfl, .ref ka, ks, k.name, rfl, ti.kd.same sm' _, wf, kin_of wf hkm, fun H3 s3 => ⟨_, rfl, _, _, rfl, rfl, _, rfl, ite2 (fun cm => ?_) (fun cm => ?_)⟩⟩
   ·have s23 := sm'.trans s3
    refine ⟨_, rfl, _, rfl, .ref ka, ks, k.name, rfl, ti.kd.same s23 _, wf, kin_of wf hkm, fun H4 s4 => ⟨_, rfl, _, _, rfl, rfl, _, rfl, ite2 (fun ch => ?_) (fun ch => ?_)⟩⟩
    ·have s24 := s23.trans s4
     have hws4 := s4 _ _ (s3 _ _ hws)
     refine ⟨_, rfl, _, rfl, c, rfl, ⟨_, SqT.of (s24 _ _ hc)⟩, ?_⟩
     refine comp_tupG (xs := zs) (fun i ys H' => Same H4 H' /\ ys.length <= i /\ ∀ z ∈ ys, GtAt H' ks (m + 1) room x z) ⟨Same.refl _, Nat.le_refl _, fun _ h => nomatch h⟩ (xa1 (by omega)) (fun i ys H' _ p => SqT.of (p.1 _ _ (s24 _ _ hc))) ?_ ?_
     ·rintro i' y ys H' hy hi2 hly ⟨sm2, hyl, hys⟩
      obtain ⟨d', hd2, rd2⟩ := hzs.get hy
      rw [List.getElem?_map] at hd2
      obtain ⟨pr, hpr, rfl⟩ := Option.map_eq_some_iff.mp hd2
      obtain ⟨b', ws', rfl, hb', _, _, rfl, rfl, _, _, rfl, rfl, rfl⟩ := rd2
      refine ⟨b', _, rfl, SqT.of ((s24.trans sm2) _ _ hb'), rfl, _, _, rfl, _, _, rfl, rfl, ext2 rfl rfl, ?_⟩
      refine ⟨_, rfl, _, rfl, rfl, _, rfl, ?_⟩
      by_cases hpx : pr.2 = x
      ·refine iteKT (decide_eq_true (by rw [hpx])) ?_
       refine ⟨_, rfl, _, rfl, (by walk_at "s"), fun t ht => nxtG hi2 hly ?_⟩
       have st := Same.new ht (.tup [.str k.name, .str pr.1])
       refine ⟨sm2.trans st, by rw [List.length_append, List.length_singleton]; omega, fun z hz => ?_⟩
       rcases List.mem_append.mp hz with hz | hz
       ·exact (hys z hz).tups fun b us q => st _ _ q
       ·rw [List.mem_singleton.mp hz]
        exact ⟨t, k, pr, rfl, ups, hkm, hrc, List.mem_of_getElem? hpr, hpx, of_decide_eq_true cm, of_decide_eq_true ch⟩
      ·exact iteKF (decide_eq_false fun z => hpx (V.str.inj z)) (nxtN hi2 hly ⟨sm2, by omega, hys⟩)
     ·rintro ys H' hly ⟨sm2, hyl, hys⟩ D hD
      have sD := Same.new hD (.lst ys)
      refine ⟨lt, D, _, _, rfl, rfl, sD _ _ (sm2 _ _ hws4), ups, fits (by omega), fun l' hl' => ?_⟩
      have sl' := Same.new hl' (.lst (ws ++ ys))
      have sA := s24.trans (sm2.trans (sD.trans sl'))
      refine ⟨l', ws ++ ys, _, _, _, rfl, sA, ups, Ne.symm (neN ((s24.trans (sm2.trans sD)) _ _ hf) hl'), by rw [List.length_append]; omega, fun z hz => ?_⟩
      rcases List.mem_append.mp hz with hz | hz
      ·exact (hcs z hz).tups fun b us q => (s3.trans (s4.trans (sm2.trans (sD.trans sl')))) _ _ q
      ·exact (hys z hz).tups fun b us q => (sD.trans sl') _ _ q
    ·exact ⟨lt, ws, _, _, _, rfl, s23.trans s4, s4 _ _ (s3 _ _ hws), ltf, by omega, fun z hz => (hcs z hz).tups fun b us q => s4 _ _ (s3 _ _ q)⟩
   ·refine iteF ?_
    exact ⟨lt, ws, _, _, _, rfl, sm'.trans s3, s3 _ _ hws, ltf, by omega, fun z hz => (hcs z hz).tups fun b us q => s3 _ _ q⟩
 ·rintro σ H2 ⟨lt, ws, o7, o8, o9, rfl, sm', hws, ltf, hwl, hcs⟩
  refine ⟨_, rfl, (by walk_at "s"), fun e he => ?_⟩
  have se := Same.new he (.lst [])
  have s3 := sm'.trans se
  have hws3 := se _ _ hws
  refine ⟨lt, e, ws, rfl, rfl, SqL.of hws3, SqL.of ups, _, rfl, ?_⟩
  cases hwe : ws with
  | nil => exact iteT (qn _ ((Fed.refl hf).same s3))
  | cons w0 wr =>
   refine iteF ?_
   have hwp : 0 < ws.length := by rw [hwe]; simp
   have hf3 := s3 _ _ hf
   refine ⟨_, rfl, _, rfl, _, rfl, lt, _, rfl, .inl (SqL.of hws3), f', p0, q0, _, rfl, hf3, by omega, by omega, fun r H5 r0 r1 f5 => ?_⟩
   obtain ⟨i, rfl⟩ : ∃ i : Nat, r = (i : Int) := ⟨r.toNat, by omega⟩
   have hi' : i < ws.length := by omega
   have tp5 := xal ⟨p0, q0, hf3⟩ f5
   obtain ⟨b, k, p, eb, hb, hkm, hrc, hp, hpx, hsm, hhk⟩ := ((hcs ws[i] (List.getElem_mem hi')).tups fun b us q => se _ _ q).tups tp5
   have hat : atI ws (i : Int) = some (.ref b) := xai (by rw [List.getElem?_eq_getElem hi', eb])
   refine ⟨lt, _, _, _, rfl, rfl, SqL.of (f5.1 _ _ hws3 ltf), hat, b, _, rfl, SqT.of hb, rfl, _, _, rfl, _, _, rfl, rfl, ?_⟩
   have F5 : Fed f' H H5 := ((Fed.refl hf).same s3).trans f5
   have t5 := (ti.fed F5)
   have hj1 : (((m + 1 : Nat) : Int)) - 1 = (m : Int) := by omega
   refine ⟨_, rfl, _, rfl, _, rfl, _, rfl, _, rfl, _, _, rfl, rfl, _, rfl, _, _, rfl, rfl, ?_⟩
   refine ⟨f', .ref ka, bv, ks, bs, k.name, room - 1, args6 hj1, t5.down (by omega), by omega, kin_of wf hkm, by omega, by omega, fun u du H7 f7 ru htu => ?_⟩
   refine ⟨_, rfl, (by walk_at "s"), fun t ht => ?_⟩
   have st := Same.new ht (.tup [.str (S "get"), u, .str p.1])
   refine q t (tGet du p.1) _ ((F5.trans f7).same st) ⟨t, _, rfl, ups, _, _, rfl, rfl, _, _, rfl, ru.same st _, _, _, rfl, rfl, rfl⟩ ?_
   rw [<- hpx]
   exact tb_get wf (kat_of wf hkm) hrc hp htu
end
end K18
end
section
namespace K18
open PySem L2 M
seal L2.PE L2.PA L2.PS L2.PSs L2.PT L2.PW L2.PI L2.PG L2.PJ L2.PTs
def PtAt (H : Hp) (ks : List Kn) (k : Kn) (m : Nat) (room : Int) (w : V) : Prop := ∃ (b : Addr) (p : Str × Str), w = .ref b /\ H b = some (.tup [.str p.1, .str p.2]) /\ p ∈ k.parts /\ smK ks p.2 < room /\ hiK ks p.2 < m
theorem PtAt.tups {H H' : Hp} {ks : List Kn} {k : Kn} {m : Nat} {room : Int} {w : V} (h : PtAt H ks k m room w) (s : ∀ b us, H b = some (.tup us) -> H' b = some (.tup us)) : PtAt H' ks k m room w := by
 obtain ⟨b, p, e, hb, r⟩ := h
 exact ⟨b, p, e, s _ _ hb, r⟩
theorem sign_at {r : Int} (h0 : 0 <= r) (h : r < 5) : ∃ c, atI (S "+-*<=").cps.toList r = some c /\ Sg ⟨#[c]⟩ := by
 obtain ⟨i, rfl⟩ : ∃ i : Nat, r = (i : Int) := ⟨r.toNat, by omega⟩
 have hi : i = 0 \/ i = 1 \/ i = 2 \/ i = 3 \/ i = 4 := by omega
 rcases hi with rfl | rfl | rfl | rfl | rfl
 ·exact ⟨43, xai (by walk_at "k"), .inl (by walk_at "k")⟩
 ·exact ⟨45, xai (by walk_at "k"), .inr (.inl (by walk_at "k"))⟩
 ·exact ⟨42, xai (by walk_at "k"), .inr (.inr (.inl (by walk_at "k")))⟩
 ·exact ⟨60, xai (by walk_at "k"), .inr (.inr (.inr (.inl (by walk_at "k"))))⟩
 ·exact ⟨61, xai (by walk_at "k"), .inr (.inr (.inr (.inr (by walk_at "k"))))⟩
theorem all2_snoc {α β : Type} {R : α -> β -> Prop} : ∀ {as : List α} {bs : List β} {a : α} {b : β}, All2 R as bs -> R a b -> All2 R (as ++ [a]) (bs ++ [b])
 | _, _, _, _, .nil, h => .cons h .nil
 | _, _, _, _, .cons h t, k => .cons h (all2_snoc t k)
section
variable {P : Program} {w : World} {K : PySem.W.Frag} {mg : Str -> Option Value} {base : Heap} {n m : Nat}
theorem okl_whole_term (T : Tx K mg) (Dl_sort_of : DefIs P w K mg base n "_law_sort_of" ["_law_kinds_here", "_law_kind"] spLSort) (Dl_take : DefIs P w K mg base n "_law_take" ["_law_feed_here", "_law_many"] xbc) (Dl_number : DefIs P w K mg base n "_law_number" ["_law_feed_here"] spLNum) (Dl_small : DefIs P w K mg base n "_law_small" ["_law_kinds_here", "_law_kind"] (spSm smK 6)) (Dl_high : DefIs P w K mg base n "_law_high" ["_law_kinds_here", "_law_kind"] (spSm hiK 6)) (Dl_term : DefIs P w K mg base n "_law_term" ["_law_feed_here", "_law_kinds_here", "_law_boxes", "_law_kind", "_law_room", "_law_nest"] (spTm m)) :
  DefIs P w K mg base (n + 1) "_law_whole_term" ["_law_feed_here", "_law_kinds_here", "_law_boxes", "_law_kind", "_law_room", "_law_nest"] (spTm (m + 1)) := by
 refine DefIs.of T.dl_whole_term scl_whole_term ?_ ?_ <;> walk_at "i"
 ·obtain ⟨_, _, _, _, _, _, _, rfl, _⟩ := h
  rfl
 obtain ⟨f', kv, bv, ks, bs, x, room, rfl, ti, m8, hxin, hroom, hhi, q⟩ := h
 have nd := scl_whole_term.nd
 have wf := ti.wf
 have hj1 : (((m + 1 : Nat) : Int)) - 1 = (m : Int) := by omega
 refine ⟨_, (zpn (ps_asg (pd Dl_sort_of hr (pc (pv 1) (pc (pv 3) pN zsn) zsn)) (pg_tup rfl (xag (xaf (i := 6) nd rfl (by walk_at "o")) (xag (xaf (i := 7) nd rfl (by walk_at "o")) xax))))
   (zpn (xap (pR xaq (pv 6) pS (nM _)) (zpn (xap (PW.pt (pw_or (pR op_lt (pv 4) pI (nM _)) (pw_or (pR op_lt (pv 5) pI (nM _)) (pw_or1 (pR xaq (pd Dl_take hr (pc (pv 0) (pc pI pN zso) zsn)) pI (nM _)))))) (po (xad (xaa (pc pS (pc (pd Dl_number hr (pc (pv 0) pN zsn)) pN zsc) zso)))) pQ)
   (zpn (xae (i := 8) nd rfl (by walk_at "o") (pd Dl_term hr (pc (pv 0) (pc (pv 1) (pc (pv 2) (pc pS (pc (xah xa5 (xah xa2 (pv 4) pI) pI) (pc (xah xa2 (pv 5) pI) pN xak) xak) zso) zsn) zsn) zsn)))
   (zpn (xae (i := 9) nd rfl (by walk_at "o") (pd Dl_term hr (pc (pv 0) (pc (pv 1) (pc (pv 2) (pc pS (pc (xah xa5 (xah xa2 (pv 4) pI) pI) (pc (xah xa2 (pv 5) pI) pN xak) xak) zso) zsn) zsn) zsn)))
   (po (xad (xaa (pc pS (pc (xac ix_str pS (pd Dl_take hr (pc (pv 0) (pc pI pN zso) zsn)) (fun _ _ => rfl)) (pc (pv 8) (pc (pv 9) pN zsn) zsn) zss) zso))))))) pQ)
   (zpn (xap (pR xaq (pv 6) pS (nM _)) (zpn (ps_setComp (i := 10) ["_law_part", "_law_room", "_law_nest", "_law_kinds_here"] [none, some 4, some 5, some 1] rfl (by kernel_rfl) nd rfl (by walk_at "o") (pi_tup (pv 7)) (fun _ _ _ _ => (xaf (i := 0) (by show List.Nodup (["_law_part", "_law_room", "_law_nest", "_law_kinds_here"] : List Str); decide +kernel) rfl (Or.inl rfl))) (fun _ _ _ _ => (pts_one (PW.pt (pw_and (pR op_lt (pd Dl_small hr (pc (pv 3) (pc (xac (ix_tupC (K := K) rfl) (pv 0) pI (fun _ _ => rfl)) pN zss) zsn)) (pv 1) (nM _)) (pw_and1 (pR op_lt (pd Dl_high hr (pc (pv 3) (pc (xac (ix_tupC (K := K) rfl) (pv 0) pI (fun _ _ => rfl)) pN zss) zsn)) (pv 2) (nM _))))))) (fun _ _ _ _ => (pv 0)))
   (zpn (ps_asg (xac iL (pv 10) (pd Dl_take hr (pc (pv 0) (pc (xam xaj rfl T.z_len PySem.boot_len (pc (pv 10) pN zsn)) pN zsc) zsn)) (fun _ _ => rfl)) (pg_tup rfl (xag (xaf (i := 11) nd rfl (by walk_at "o")) (xag (xaf (i := 12) nd rfl (by walk_at "o")) xax))))
   (po (xad (xaa (pc pS (pc (pv 3) (pc (pv 11) (pc (pd Dl_term hr (pc (pv 0) (pc (pv 1) (pc (pv 2) (pc (pv 12) (pc (xah xa2 (pv 4) pI) (pc (xah xa2 (pv 5) pI) pN xak) xak) zsn) zsn) zsn) zsn)) pN zsc) zsn) zsn) zso)))))) pQ)
   (zpn (xae (i := 13) nd rfl (by walk_at "o") (xah xa2 (pv 4) (pd Dl_small hr (pc (pv 1) (pc (pv 3) pN zsn) zsn))))
   (zpn (xae (i := 14) nd rfl (by walk_at "o") (xat pN))
   (zpn (ps_for PassesOwn.never rfl (pi_tup (pv 7)) (pg_tup rfl (xag (xaf (i := 15) nd rfl (by walk_at "o")) (xag (xaf (i := 12) nd rfl (by walk_at "o")) xax)))
   (po (xay (pe_bm PySem.F.plainAttrs_list PySem.F.slot_list_append PySem.F.type_list_append mt_append (pv 14) (pc (pd Dl_term hr (pc (pv 0) (pc (pv 1) (pc (pv 2) (pc (pv 12) (pc (xah xas (pd Dl_small hr (pc (pv 1) (pc (pv 12) pN zsn) zsn)) (xah xa5 (pv 13) (xam xaj rfl T.z_len PySem.boot_len (pc (pv 7) pN zsn)))) (pc (xah xa2 (pv 5) pI) pN xak) xak) zsn) zsn) zsn) zsn)) pN zsc)))))
   (po (xad (xaa (pc pS (pc (pv 3) (pc (xa0 call_tuple_of rfl T.z_tuple PyProof.Rows.boot_tuple (pc (pv 14) pN zsn)) pN zsc) zsn) zso)))))))))), ?_⟩
 refine ⟨_, rfl, _, rfl, kv, ks, x, rfl, (wf.ksAt ti.kd).seq, fun t pv' H1 s1 ht rp => ?_⟩
 refine ⟨t, _, rfl, SqT.of ht, rfl, _, _, rfl, _, _, rfl, rfl, ?_⟩
 have t1 := ti.same s1
 obtain ⟨p1, q1, h1⟩ := t1.fd
 obtain ⟨p0, q0, hf⟩ := ti.fd
 have F1 : Fed f' H H1 := (Fed.refl hf).same s1
 rcases hxin.look wf with ⟨rfl, hkx⟩ | ⟨j, k, _, hkx, hn, hkm, _⟩
 ·refine ⟨_, rfl, rfl, _, rfl, iteKT (decide_eq_true (by rw [hkx]; rfl)) ?_⟩
  have RN : ∀ (H2 : Hp) (f2 : Fed f' H1 H2), ∀ (i : Int) (H3 : Hp), Nm i -> Fed f' H2 H3 -> ∀ t, H3 t = none -> Q (.ref t) (upd H3 t (.tup [.str (S "num"), .int i])) := fun H2 f2 i H3 hi f3 t ht => by
   have st := Same.new ht (.tup [.str (S "num"), .int i])
   exact q _ (tNum i) _ (((F1.trans f2).trans f3).same st) ⟨t, _, rfl, ups, _, _, rfl, rfl, _, _, rfl, rfl, rfl⟩ (tb_num hi)
  refine ⟨_, rfl, _, _, rfl, rfl, _, rfl, ite2 (fun c1 => ?_) (fun c1 => ?_)⟩
  ·exact iteT ⟨_, rfl, f', p1, q1, rfl, h1, fun i H3 hi f3 => ⟨(by walk_at "s"), fun t ht => RN H1 (Fed.refl h1) i H3 hi f3 t ht⟩⟩
  refine ⟨_, rfl, _, _, rfl, rfl, _, rfl, ite2 (fun c2 => ?_) (fun c2 => ?_)⟩
  ·exact iteT ⟨_, rfl, f', p1, q1, rfl, h1, fun i H3 hi f3 => ⟨(by walk_at "s"), fun t ht => RN H1 (Fed.refl h1) i H3 hi f3 t ht⟩⟩
  have c1' : ¬ room < 3 := fun z => c1 (decide_eq_true z)
  have c2' : ¬ ((m + 1 : Nat) : Int) < 2 := fun z => c2 (decide_eq_true z)
  refine ⟨_, rfl, f', p1, q1, _, rfl, h1, by decide, by decide, fun r H2 r0 r1 f2 => ⟨rfl, _, rfl, ite2 (fun c3 => ?_) (fun c3 => ?_)⟩⟩
  ·obtain ⟨p2, q2, h2⟩ := f2.2
   exact ⟨_, rfl, f', p2, q2, rfl, h2, fun i H3 hi f3 => ⟨(by walk_at "s"), fun t ht => RN H2 f2 i H3 hi f3 t ht⟩⟩
  have t2 := t1.fed f2
  have hs1 := (sm_num wf).1
  have hs2 := (sm_num wf).2
  have hrm : smK ks (S "num") <= (room - 1) / 2 := by rw [hs1]; omega
  have hhm : hiK ks (S "num") <= (m : Int) := by rw [hs2]; omega
  refine ⟨_, rfl, _, rfl, _, rfl, _, rfl, _, _, rfl, rfl, _, _, rfl, rfl, ⟨by decide, by decide⟩, _, rfl, _, _, rfl, rfl, ?_⟩
  refine ⟨f', kv, bv, ks, bs, S "num", (room - 1) / 2, args6 hj1, t2.down (by omega), by omega, .inl rfl, hrm, hhm, fun u1 d1 H3 f3 ru1 ht1 => ?_⟩
  have t3 := t2.fed f3
  refine ⟨_, rfl, _, rfl, _, rfl, _, rfl, _, _, rfl, rfl, _, _, rfl, rfl, ⟨by decide, by decide⟩, _, rfl, _, _, rfl, rfl, ?_⟩
  refine ⟨f', kv, bv, ks, bs, S "num", (room - 1) / 2, args6 hj1, t3.down (by omega), by omega, .inl rfl, hrm, hhm, fun u2 d2 H4 f4 ru2 ht2 => ?_⟩
  have t4 := t3.fed f4
  obtain ⟨p4, q4, h4⟩ := t4.fd
  refine ⟨_, rfl, f', p4, q4, _, rfl, h4, by decide, by decide, fun r' H5 r0' r1' f5 => ?_⟩
  obtain ⟨ch, hch, hsg⟩ := sign_at r0' r1'
  refine ⟨_, _, ch, rfl, rfl, by walk_at "k", hch, _, rfl, _, rfl, (by walk_at "s"), fun t' ht' => ?_⟩
  have st := Same.new ht' (.tup [.str (S "op"), .str ⟨#[ch]⟩, u1, u2])
  exact q _ (tOpD ⟨#[ch]⟩ d1 d2) _ (((((F1.trans f2).trans f3).trans f4).trans f5).same st) ⟨t', _, rfl, ups, _, _, rfl, rfl, _, _, rfl, rfl, _, _, rfl, ((ru1.tups (xal t3.fd f4) _).tups (xal t4.fd f5) _).same st _, _, _, rfl, (ru2.tups (xal t4.fd f5) _).same st _, rfl⟩ (tb_op wf hsg ht1 ht2)
 ·rw [hkx] at rp
  obtain ⟨a, us, rfl, ha, hus⟩ := rp
  have hl := hus.length
  rw [List.length_map] at hl
  have h5 := wf.pts k hkm
  have hss : sortS (kAt ks x) = k.sort := by rw [hkx]; rfl
  have es := (sm_at wf hkx).1
  have eh := (sm_at wf hkx).2
  unfold smS at es
  unfold hiS at eh
  cases hc : k.rc with
  | false =>
   rw [if_neg (by rw [hc]; decide)] at es eh
   refine ⟨_, rfl, rfl, _, rfl, iteKF (decide_eq_false (by rw [hss, alt_sort hc]; decide +kernel)) ?_⟩
   refine ⟨_, rfl, rfl, _, rfl, iteKT (decide_eq_true (by rw [hss, alt_sort hc]; rfl)) ?_⟩
   refine ⟨_, rfl, a, rfl, ⟨_, SqT.of ha⟩, ?_⟩
   refine comp_tupG (xs := us) (fun i ys H' => Same H1 H' /\ (∀ z ∈ ys, PtAt H' ks k (m + 1) room z) /\ (1 <= i -> ys ≠ [])) ⟨Same.refl _, (fun _ h => nomatch h), fun h => absurd h (by decide)⟩ (xa1 (by omega)) (fun i ys H' _ p => SqT.of (p.1 _ _ ha)) ?_ ?_
   ·rintro i y ys H' hy hi2 hly ⟨sm2, hys, hne⟩
    obtain ⟨d', hd2, rd2⟩ := hus.get hy
    rw [List.getElem?_map] at hd2
    obtain ⟨pr, hpr, rfl⟩ := Option.map_eq_some_iff.mp hd2
    obtain ⟨b, ws', rfl, hb, _, _, rfl, rfl, _, _, rfl, rfl, rfl⟩ := rd2
    have hpm := List.mem_of_getElem? hpr
    have first : i = 0 -> smK ks pr.2 < room /\ hiK ks pr.2 < ((m + 1 : Nat) : Int) := fun e0 => by
     subst e0
     cases hpp : k.parts with
     | nil => rw [hpp] at hpr; simp at hpr
     | cons p r =>
      rw [hpp] at hpr es eh
      simp at hpr
      subst hpr
      have es' : smK ks x = 1 + smK ks p.2 := es
      have eh' : hiK ks x = 1 + hiK ks p.2 := eh
      omega
    refine ⟨ext_set rfl, ?_⟩
    refine ⟨_, rfl, _, rfl, b, _, _, _, rfl, rfl, SqT.of (sm2 _ _ hb), rfl, kv, ks, pr.2, rfl, t1.kd.same sm2 _, wf, kin_part6 wf hkm hpm, fun H3 s3 => ⟨_, rfl, _, _, rfl, rfl, _, rfl, ite2 (fun c1 => ?_) (fun c1 => ?_)⟩⟩
    ·refine ⟨_, rfl, _, rfl, b, _, _, _, rfl, rfl, SqT.of (s3 _ _ (sm2 _ _ hb)), rfl, kv, ks, pr.2, rfl, (t1.kd.same sm2 _).same s3 _, wf, kin_part6 wf hkm hpm, fun H4 s4 => ⟨_, rfl, _, _, rfl, rfl, _, rfl, ite2 (fun c2 => ?_) (fun c2 => ?_)⟩⟩
     ·refine ⟨_, rfl, nxtG hi2 hly ⟨sm2.trans (s3.trans s4), fun z hz => ?_, fun _ => by simp⟩⟩
      rcases List.mem_append.mp hz with hz | hz
      ·exact (hys z hz).tups fun b us q => s4 _ _ (s3 _ _ q)
      ·rw [List.mem_singleton.mp hz]
       exact ⟨b, pr, rfl, s4 _ _ (s3 _ _ (sm2 _ _ hb)), hpm, of_decide_eq_true c1, of_decide_eq_true c2⟩
     ·refine nxtN hi2 hly ⟨sm2.trans (s3.trans s4), fun z hz => (hys z hz).tups fun b us q => s4 _ _ (s3 _ _ q), fun _ => ?_⟩
      by_cases e0 : i = 0
      ·exact absurd (decide_eq_true (first e0).2) c2
      ·exact hne (by omega)
    ·refine iteF (nxtN hi2 hly ⟨sm2.trans s3, fun z hz => (hys z hz).tups fun b us q => s3 _ _ q, fun _ => ?_⟩)
     by_cases e0 : i = 0
     ·exact absurd (decide_eq_true (first e0).1) c1
     ·exact hne (by omega)
   ·rintro ys H2 hly ⟨sm2, hys, hne⟩ D hD
    have hnl : k.parts.length ≠ 0 := fun e => wf.alt k hkm hc (List.length_eq_zero_iff.mp e)
    have hyne := hne (by omega)
    have hyp : 0 < ys.length := Nat.pos_of_ne_zero fun e => hyne (List.length_eq_zero_iff.mp e)
    have sD := Same.new hD (.lst ys)
    have s12 := sm2.trans sD
    have Df : D ≠ f' := Ne.symm (neN (sm2 _ _ h1) hD)
    refine ⟨_, rfl, _, rfl, _, rfl, D, _, rfl, .inl (SqL.of ups), f', p1, q1, _, rfl, s12 _ _ h1, by omega, by omega, fun r H5 r0 r1 f5 => ?_⟩
    obtain ⟨i, rfl⟩ : ∃ i : Nat, r = (i : Int) := ⟨r.toNat, by omega⟩
    have hi' : i < ys.length := by omega
    have t2 := t1.same s12
    have tp5 := xal t2.fd f5
    obtain ⟨b, p, eb, hb, hpm, hsm, hhk⟩ := ((hys ys[i] (List.getElem_mem hi')).tups fun b us q => sD _ _ q).tups tp5
    have hat : atI ys (i : Int) = some (.ref b) := xai (by rw [List.getElem?_eq_getElem hi', eb])
    refine ⟨D, _, _, _, rfl, rfl, SqL.of (f5.1 _ _ ups Df), hat, b, _, rfl, SqT.of hb, rfl, _, _, rfl, _, _, rfl, rfl, ?_⟩
    have t5 := t2.fed f5
    refine ⟨_, rfl, _, rfl, _, rfl, _, rfl, _, rfl, _, rfl, _, rfl, _, _, rfl, rfl, _, rfl, _, _, rfl, rfl, ?_⟩
    refine ⟨f', kv, bv, ks, bs, p.2, room - 1, args6 hj1, t5.down (by omega), by omega, kin_part6 wf hkm hpm, by omega, by omega, fun u du H7 f7 ru htu => ⟨(by walk_at "s"), fun t' ht' => ?_⟩⟩
    have st := Same.new ht' (.tup [.str (S "tag"), .str x, .str p.1, u])
    exact q _ (tTag x p.1 du) _ ((((F1.same s12).trans f5).trans f7).same st) ⟨t', _, rfl, ups, _, _, rfl, rfl, _, _, rfl, rfl, _, _, rfl, rfl, _, _, rfl, ru.same st _, rfl⟩ (tb_tag wf hkx hc hpm htu)
  | true =>
   rw [if_pos hc] at es eh
   refine ⟨_, rfl, rfl, _, rfl, iteKF (decide_eq_false (by rw [hss, rec_sort hc]; decide +kernel)) ?_⟩
   refine ⟨_, rfl, rfl, _, rfl, iteKF (decide_eq_false (by rw [hss, rec_sort hc]; decide +kernel)) ?_⟩
   refine ⟨_, rfl, _, rfl, _, rfl, kv, ks, x, rfl, t1.kd, wf, hxin, fun H2 s2 => ⟨_, _, rfl, rfl, ?_⟩⟩
   refine ⟨(by walk_at "s"), fun tl htl => ?_⟩
   have s12 := s2.trans (Same.new htl (.lst []))
   have htl1 := none_of_same s2 htl
   have tlf : tl ≠ f' := Ne.symm (neN h1 htl1)
   refine ⟨_, rfl, a, rfl, ⟨_, SqT.of (s12 _ _ ha)⟩, ?_⟩
   refine for_tup (xs := us) (fun i σ H' => ∃ (ws : List V) (ds : List D) (o12 o15 : Option V), σ = [some (.ref f'), some kv, some bv, some (.str x), some (.int room), some (.int ((m + 1 : Nat) : Int)), some (.str (sortS (kAt ks x))), some (.ref a), none, none, none, none, o12, some (.int (room - smK ks x)), some (.ref tl), o15] /\ Fed f' H1 H' /\ H' tl = some (.lst ws) /\ RelDs H' ws ds /\ All2 (fun e (p : Str × Str) => TmB ks m bs e p.2) ds (k.parts.take i)) ⟨[], [], none, none, rfl, (Fed.refl h1).same s12, ups, rfl, by rw [List.take_zero]; exact .nil⟩ (fun i σ H' _ p => ?_) ?_ ?_
   ·obtain ⟨_, _, _, _, _, fm, _⟩ := p
    exact SqT.of (xal t1.fd fm _ _ ha)
   ·rintro i vv σ H3 hvv ⟨ws, ds, o12, o15, rfl, fm, hws, rws, hall⟩
    have tp := xal t1.fd fm
    obtain ⟨d', hd2, rd2⟩ := hus.get hvv
    rw [List.getElem?_map] at hd2
    obtain ⟨pr, hpr, rfl⟩ := Option.map_eq_some_iff.mp hd2
    obtain ⟨b, ws', rfl, hb, _, _, rfl, rfl, _, _, rfl, rfl, rfl⟩ := rd2
    have hpm := List.mem_of_getElem? hpr
    have t3 := t1.fed fm
    have hwl := rws.length
    have hal := hall.length
    rw [List.length_take] at hal
    have hi' : i < us.length := (List.getElem?_eq_some_iff.mp hvv).1
    refine ⟨b, _, rfl, SqT.of (tp _ _ hb), rfl, _, _, rfl, _, _, rfl, rfl, ?_⟩
    refine ⟨_, rfl, .inl ⟨rfl, _, SqL.of hws⟩, _, rfl, _, rfl, _, rfl, _, rfl, _, rfl, _, rfl, kv, ks, pr.2, rfl, t3.kd, wf, kin_part6 wf hkm hpm, fun H4 s4 => ?_⟩
    have hdv : 0 <= (room - smK ks x) / (us.length : Int) := Int.ediv_nonneg (by omega) (by omega)
    refine ⟨_, rfl, _, rfl, a, _, rfl, .inr (SqT.of (s4 _ _ (tp _ _ ha))), _, _, rfl, rfl, ⟨by omega, by omega⟩, _, _, rfl, rfl, _, rfl, _, _, rfl, rfl, ?_⟩
    have hhp : hiK ks pr.2 <= (m : Int) := by
     have := maxD_ge (List.mem_map_of_mem (f := fun p : Str × Str => hiK ks p.2) hpm)
     omega
    have t4 := t3.same s4
    refine ⟨f', kv, bv, ks, bs, pr.2, smK ks pr.2 + (room - smK ks x) / (us.length : Int), args6 hj1, t4.down (by omega), by omega, kin_part6 wf hkm hpm, by omega, hhp, fun u du H5 f5 ru htu => ?_⟩
    have hw5 := f5.1 _ _ (s4 _ _ hws) tlf
    have rw5 := (rws.same s4 _).tups (xal t4.fd f5) _
    refine ⟨tl, ws, _, rfl, rfl, hw5, xa1 (by omega), _, ds ++ [du], _, _, rfl, Fed.put ((fm.same s4).trans f5) htl1 tlf _, ups, (rw5.tups (xau hw5 _) _).append ⟨u, [], rfl, ru.tups (xau hw5 _) _, rfl⟩, ?_⟩
    rw [List.take_add_one, hpr]
    exact all2_snoc hall htu
   ·rintro σ H3 ⟨ws, ds, o12, o15, rfl, fm, hws, rws, hall⟩
    rw [List.take_of_length_le (by omega)] at hall
    refine ⟨_, rfl, _, rfl, tl, ws, rfl, .inl ⟨SqL.of hws, fun t2 ht2 => ⟨(by walk_at "s"), fun t3 ht3 => ?_⟩⟩⟩
    have y2 := Same.new ht2 (.tup ws)
    have y3 := Same.new ht3 (.tup [.str (S "rec"), .str x, .ref t2])
    exact q _ (tRec x ds) _ ((F1.trans fm).same (y2.trans y3)) ⟨t3, _, rfl, ups, _, _, rfl, rfl, _, _, rfl, rfl, _, _, rfl, ⟨t2, ws, rfl, y3 _ _ ups, rws.same (y2.trans y3) _⟩, rfl⟩ (tb_rec hkx hc (by omega) hall)
end
end K18
end
section
namespace K18
open PySem L2 M
seal L2.PE L2.PA L2.PS L2.PSs L2.PT L2.PW L2.PI L2.PG L2.PJ L2.PTs
section
variable {P : Program} {w : World} {K : PySem.W.Frag} {mg : Str -> Option Value} {base : Heap} {n m : Nat}
theorem okl_term (T : Tx K mg) (Dl_take : DefIs P w K mg base n "_law_take" ["_law_feed_here", "_law_many"] xbc) (Dl_small : DefIs P w K mg base n "_law_small" ["_law_kinds_here", "_law_kind"] (spSm smK 6)) (Dl_high : DefIs P w K mg base n "_law_high" ["_law_kinds_here", "_law_kind"] (spSm hiK 6)) (Dl_term : DefIs P w K mg base n "_law_term" ["_law_feed_here", "_law_kinds_here", "_law_boxes", "_law_kind", "_law_room", "_law_nest"] (spTm m)) (Dl_get : DefIs P w K mg base n "_law_get" ["_law_feed_here", "_law_kinds_here", "_law_boxes", "_law_kind", "_law_room", "_law_nest"] (spOpt (m + 1))) (Dl_case : DefIs P w K mg base n "_law_case" ["_law_feed_here", "_law_kinds_here", "_law_boxes", "_law_kind", "_law_room", "_law_nest"] (spOptC (m + 1))) (Dl_whole_term : DefIs P w K mg base n "_law_whole_term" ["_law_feed_here", "_law_kinds_here", "_law_boxes", "_law_kind", "_law_room", "_law_nest"] (spTm (m + 1))) :
  DefIs P w K mg base (n + 1) "_law_term" ["_law_feed_here", "_law_kinds_here", "_law_boxes", "_law_kind", "_law_room", "_law_nest"] (spTm (m + 1)) := by
 refine DefIs.of T.dl_term scl_term ?_ ?_ <;> walk_at "i"
 ·obtain ⟨_, _, _, _, _, _, _, rfl, _⟩ := h
  rfl
 obtain ⟨f', kv, bv, ks, bs, x, room, rfl, ti, m8, hxin, hroom, hhi, q⟩ := h
 have nd := scl_term.nd
 have hu := hu_of hr
 have wf := ti.wf
 have hj1 : (((m + 1 : Nat) : Int)) - 1 = (m : Int) := by omega
 have hsb := sm_bound wf x
 refine ⟨_, (zpn (xae (i := 6) nd rfl (by walk_at "o") (pd Dl_take hr (pc (pv 0) (pc pI pN zso) zsn)))
   (zpn (ps_setComp (i := 7) ["_law_x", "_law_told", "_law_kind"] [none, none, some 3] rfl (by kernel_rfl) nd rfl (by walk_at "o") (pi_list (pv 2)) (fun _ _ _ _ => (pg_tupC (K := K) (n := 2) rfl rfl (xag (xaf (i := 0) (by show List.Nodup (["_law_x", "_law_told", "_law_kind"] : List Str); decide +kernel) rfl (Or.inl rfl)) (xag (xaf (i := 1) (by show List.Nodup (["_law_x", "_law_told", "_law_kind"] : List Str); decide +kernel) rfl (Or.inl rfl)) xax)))) (fun _ _ _ _ => (pts_one (pR xaq (pv 1) (pv 2) (nM _)))) (fun _ _ _ _ => (pv 0)))
   (zpn (xap (PW.pt (pw_and (pR op_lt (pv 6) pI (nM _)) (pw_and1 (pR (op_neE (Nat.lt_of_succ_lt hu)) (pv 7) (xat pN) (nM _))))) (po (xad (xaa (pc pS (pc (xac iL (pv 7) (pd Dl_take hr (pc (pv 0) (pc (xam xaj rfl T.z_len PySem.boot_len (pc (pv 7) pN zsn)) pN zsc) zsn)) (fun _ _ => rfl)) pN zss) zso)))) pQ)
   (zpn (xae (i := 8) nd rfl (by walk_at "o") (pd Dl_small hr (pc (pv 1) (pc (pv 3) pN zsn) zsn)))
   (zpn (xae (i := 9) nd rfl (by walk_at "o") pe_non)
   (zpn (xap (PW.pt (pw_and (pR xaq (pv 6) pI (nM _)) (pw_and (pR op_gt (pv 5) (pd Dl_high hr (pc (pv 1) (pc (pv 3) pN zsn) zsn)) (nM _)) (pw_and1 (pR op_gt (pv 4) (xah xas (xah op_mul pI (pv 8)) pI) (nM _)))))) (zpn (xae (i := 10) nd rfl (by walk_at "o") (xah xa5 (xah xa2 (xah xa2 (pv 4) pI) (xah op_mul pI (pv 8))) pI))
   (zpn (xae (i := 11) nd rfl (by walk_at "o") (pd Dl_term hr (pc (pv 0) (pc (pv 1) (pc (pv 2) (pc pS (pc (xah xas pI (pv 10)) (pc (xah xa2 (pv 5) pI) pN xak) xak) zso) zsn) zsn) zsn)))
   (zpn (xae (i := 12) nd rfl (by walk_at "o") (pd Dl_term hr (pc (pv 0) (pc (pv 1) (pc (pv 2) (pc (pv 3) (pc (xah xas (pv 8) (pv 10)) (pc (xah xa2 (pv 5) pI) pN xak) xak) zsn) zsn) zsn) zsn)))
   (po (xad (xaa (pc pS (pc (pv 11) (pc (pv 12) (pc (pd Dl_term hr (pc (pv 0) (pc (pv 1) (pc (pv 2) (pc (pv 3) (pc (xah xas (pv 8) (pv 10)) (pc (xah xa2 (pv 5) pI) pN xak) xak) zsn) zsn) zsn) zsn)) pN zsc) zsn) zsn) zso))))))) pQ)
   (zpn (xap (PW.pt (pw_or (pR xaq (pv 6) pI (nM _)) (pw_or1 (pR xaq (pv 6) pI (nM _))))) (po (xae (i := 9) nd rfl (by walk_at "o") (pd Dl_get hr (pc (pv 0) (pc (pv 1) (pc (pv 2) (pc (pv 3) (pc (pv 4) (pc (pv 5) pN zsn) zsn) zsn) zsn) zsn) zsn)))) pQ)
   (zpn (xap (PW.pt (pw_and (pR xaq (pv 6) pI (nM _)) (pw_and1 (pR op_gt (pv 5) (pd Dl_high hr (pc (pv 1) (pc (pv 3) pN zsn) zsn)) (nM _))))) (po (xae (i := 9) nd rfl (by walk_at "o") (pd Dl_case hr (pc (pv 0) (pc (pv 1) (pc (pv 2) (pc (pv 3) (pc (pv 4) (pc (pv 5) pN zsn) zsn) zsn) zsn) zsn) zsn)))) pQ)
   (zpn (xap (pR op_notN (pv 9) pe_non (nM _)) (po (xad (pv 9))) pQ)
   (po (xad (pd Dl_whole_term hr (pc (pv 0) (pc (pv 1) (pc (pv 2) (pc (pv 3) (pc (pv 4) (pc (pv 5) pN zsn) zsn) zsn) zsn) zsn) zsn))))))))))))), ?_⟩
 obtain ⟨p0, q0, hf⟩ := ti.fd
 refine ⟨_, rfl, f', p0, q0, _, rfl, hf, by decide, by decide, fun fm H1 m0 m1 f1 => ?_⟩
 have t1 := ti.fed f1
 have hbx := t1.bx
 obtain ⟨bl, ub, rfl, hbl, hub, blf⟩ := hbx
 have hul := hub.length
 rw [List.length_map] at hul
 have hbl30 := ti.bl
 refine ⟨_, rfl, bl, rfl, ⟨_, SqL.of hbl⟩, ?_⟩
 refine comp_listG (xs := ub) (fun i ys H' => H' = H1 /\ ∃ zs : List Str, ys = zs.map V.str /\ (∀ z ∈ zs, (z, x) ∈ bs) /\ zs.length <= i) ⟨rfl, [], rfl, (fun _ h => nomatch h), Nat.le_refl _⟩ (xa1 (by omega)) (fun i ys H' _ p => by obtain ⟨rfl, _⟩ := p; exact SqL.of hbl) ?_ ?_
 ·rintro i y ys H' hy hi2 hly ⟨rfl, zs, rfl, hzs, hzl⟩
  obtain ⟨d', hd2, rd2⟩ := hub.get hy
  rw [List.getElem?_map] at hd2
  obtain ⟨pr, hpr, rfl⟩ := Option.map_eq_some_iff.mp hd2
  obtain ⟨b, ws', rfl, hb, _, _, rfl, rfl, _, _, rfl, rfl, rfl⟩ := rd2
  refine ⟨b, _, rfl, SqT.of hb, rfl, _, _, rfl, _, _, rfl, rfl, ext2 rfl rfl, ?_⟩
  refine ⟨_, rfl, _, rfl, rfl, _, rfl, ?_⟩
  by_cases hpx : pr.2 = x
  ·refine iteKT (decide_eq_true (by rw [hpx])) ⟨_, rfl, nxtG hi2 hly ⟨rfl, zs ++ [pr.1], by rw [List.map_append]; rfl, fun z hz => ?_, by rw [List.length_append, List.length_singleton]; omega⟩⟩
   rcases List.mem_append.mp hz with hz | hz
   ·exact hzs z hz
   ·rw [List.mem_singleton.mp hz, <- hpx]
    exact List.mem_of_getElem? hpr
  ·exact iteKF (decide_eq_false fun z => hpx (V.str.inj z)) (nxtN hi2 hly ⟨rfl, zs, rfl, hzs, by omega⟩)
 rintro ys H2 hly ⟨rfl, zs, rfl, hzs, hzl⟩ D hD
 have sD := Same.new hD (.lst (zs.map V.str))
 have t2 := t1.same sD
 have F2 : Fed f' H _ := f1.same sD
 have Df : D ≠ f' := Ne.symm (neN t1.fd.choose_spec.choose_spec hD)
 refine ⟨_, rfl, _, _, rfl, rfl, _, rfl, ite2 (fun c1 => ?_) (fun c1 => ?_)⟩
 ·have c0 : fm < 2 := of_decide_eq_true c1
  refine ⟨_, rfl, (by walk_at "s"), fun e he => ?_⟩
  have se := Same.new he (.lst [])
  have t3 := t2.same se
  have F3 : Fed f' H _ := F2.same se
  refine ⟨D, e, _, rfl, rfl, SqL.of (se _ _ ups), SqL.of ups, _, rfl, ?_⟩
  by_cases hzz : zs = []
  ·refine iteBF (by rw [hzz]; rfl) ?_
   refine ⟨_, rfl, _, rfl, kv, ks, x, rfl, t3.kd, wf, hxin, fun H4 s4 => ?_⟩
   have tc := t3.same s4
   have Fc : Fed f' H H4 := F3.same s4
   refine ⟨_, rfl, rfl, _, rfl, iteKF (decide_eq_false fun z => absurd (V.int.inj z) (by omega)) (iteF ?_)⟩
   refine ⟨_, rfl, rfl, _, rfl, iteKF (decide_eq_false fun z => absurd (V.int.inj z) (by omega)) ?_⟩
   refine ⟨_, rfl, rfl, _, rfl, iteKF (decide_eq_false fun z => absurd (V.int.inj z) (by omega)) ?_⟩
   refine ⟨_, rfl, rfl, _, rfl, iteKF (decide_eq_false fun z => absurd (V.int.inj z) (by omega)) (iteF ?_)⟩
   refine ⟨_, rfl, rfl, _, rfl, iteF ?_⟩
   exact ⟨_, rfl, _, rfl, _, rfl, _, rfl, _, rfl, _, rfl, f', kv, .ref bl, ks, bs, x, room, rfl, tc, m8, hxin, hroom, hhi, fun u d H' fd ru hd => q u d H' (Fc.trans fd) ru hd⟩
  ·refine iteBT (by cases zs with | nil => exact absurd rfl hzz | cons a r => rfl) ?_
   obtain ⟨p3, q3, h3⟩ := t3.fd
   have hzp : 0 < zs.length := Nat.pos_of_ne_zero fun e => hzz (List.length_eq_zero_iff.mp e)
   have zl : (zs.map V.str).length = zs.length := List.length_map _
   refine ⟨_, rfl, _, rfl, _, rfl, D, _, rfl, .inl (SqL.of (se _ _ ups)), f', p3, q3, _, rfl, h3, by rw [zl]; omega, by rw [zl]; omega, fun r H4 r0 r1 f4 => ?_⟩
   rw [zl] at r1
   obtain ⟨i, rfl⟩ : ∃ i : Nat, r = (i : Int) := ⟨r.toNat, by omega⟩
   have hi' : i < zs.length := by omega
   refine ⟨D, _, _, .str zs[i], rfl, rfl, SqL.of (f4.1 _ _ (se _ _ ups) Df), xai (by rw [List.getElem?_map, List.getElem?_eq_getElem hi']; rfl), (by walk_at "s"), fun t ht => ?_⟩
   have st := Same.new ht (.tup [.str (S "box"), .str zs[i]])
   exact q _ (tBox zs[i]) _ ((F3.trans f4).same st) ⟨t, _, rfl, ups, _, _, rfl, rfl, _, _, rfl, rfl, rfl⟩ (tb_box (hzs _ (List.getElem_mem hi')))
 ·have c0 : ¬ fm < 2 := fun z => c1 (decide_eq_true z)
  refine iteF ?_
  refine ⟨_, rfl, _, rfl, kv, ks, x, rfl, t2.kd, wf, hxin, fun H3 s3 => ?_⟩
  have t3 := t2.same s3
  have F3 : Fed f' H H3 := F2.same s3
  refine ⟨_, rfl, rfl, _, rfl, ?_⟩
  by_cases e2 : fm = 2
  ·refine iteKT (decide_eq_true (by rw [e2])) ?_
   refine ⟨_, rfl, _, rfl, _, rfl, kv, ks, x, rfl, t3.kd, wf, hxin, fun H4 s4 => ⟨_, _, rfl, rfl, _, rfl, ite2 (fun c2 => ?_) (fun c2 => ?_)⟩⟩
   ·have t4 := t3.same s4
    have F4 : Fed f' H H4 := F3.same s4
    refine ⟨_, rfl, _, rfl, _, _, rfl, rfl, .inr ⟨by omega, by omega⟩, _, _, rfl, rfl, _, _, rfl, rfl, _, rfl, ite2 (fun c3 => ?_) (fun c3 => ?_)⟩
    ·have c2' : hiK ks x < ((m + 1 : Nat) : Int) := of_decide_eq_true c2
     have c3' : 2 * smK ks x + 1 < room := of_decide_eq_true c3
     refine ⟨_, rfl, _, _, rfl, rfl, _, rfl, _, _, rfl, rfl, .inr ⟨by omega, by omega⟩, _, _, rfl, rfl, _, _, rfl, rfl, ⟨by decide, by decide⟩, ?_⟩
     have hm0 : 0 <= (room - 2 - 2 * smK ks x) / 3 := Int.ediv_nonneg (by omega) (by decide)
     refine ⟨_, rfl, _, rfl, _, rfl, _, rfl, _, _, rfl, rfl, _, rfl, _, _, rfl, rfl, ?_⟩
     refine ⟨f', kv, .ref bl, ks, bs, S "num", 1 + (room - 2 - 2 * smK ks x) / 3, args6 hj1, t4.down (by omega), by omega, .inl rfl, by rw [(sm_num wf).1]; omega, by rw [(sm_num wf).2]; omega, fun u1 d1 H5 f5 ru1 ht1 => ?_⟩
     have t5 := t4.fed f5
     refine ⟨_, rfl, _, rfl, _, rfl, _, rfl, _, rfl, _, rfl, _, _, rfl, rfl, _, rfl, _, _, rfl, rfl, ?_⟩
     refine ⟨f', kv, .ref bl, ks, bs, x, smK ks x + (room - 2 - 2 * smK ks x) / 3, args6 hj1, t5.down (by omega), by omega, hxin, by omega, by omega, fun u2 d2 H6 f6 ru2 ht2 => ?_⟩
     have t6 := t5.fed f6
     refine ⟨_, rfl, _, rfl, _, rfl, _, rfl, _, rfl, _, rfl, _, rfl, _, rfl, _, _, rfl, rfl, _, rfl, _, _, rfl, rfl, ?_⟩
     refine ⟨f', kv, .ref bl, ks, bs, x, smK ks x + (room - 2 - 2 * smK ks x) / 3, args6 hj1, t6.down (by omega), by omega, hxin, by omega, by omega, fun u3 d3 H7 f7 ru3 ht3 => ⟨(by walk_at "s"), fun t ht => ?_⟩⟩
     have st := Same.new ht (.tup [.str (S "if"), u1, u2, u3])
     exact q _ (tIfD d1 d2 d3) _ ((((F4.trans f5).trans f6).trans f7).same st) ⟨t, _, rfl, ups, _, _, rfl, rfl, _, _, rfl, ((ru1.tups (xal t5.fd f6) _).tups (xal t6.fd f7) _).same st _, _, _, rfl, (ru2.tups (xal t6.fd f7) _).same st _, _, _, rfl, ru3.same st _, rfl⟩ (tb_if wf ht1 ht2 ht3)
    ·have tc := t4
     have Fc := F4
     refine ⟨_, rfl, rfl, _, rfl, iteKF (decide_eq_false fun z => absurd (V.int.inj z) (by omega)) ?_⟩
     refine ⟨_, rfl, rfl, _, rfl, iteKF (decide_eq_false fun z => absurd (V.int.inj z) (by omega)) ?_⟩
     refine ⟨_, rfl, rfl, _, rfl, iteKF (decide_eq_false fun z => absurd (V.int.inj z) (by omega)) (iteF ?_)⟩
     refine ⟨_, rfl, rfl, _, rfl, iteF ?_⟩
     exact ⟨_, rfl, _, rfl, _, rfl, _, rfl, _, rfl, _, rfl, f', kv, .ref bl, ks, bs, x, room, rfl, tc, m8, hxin, hroom, hhi, fun u d H' fd ru hd => q u d H' (Fc.trans fd) ru hd⟩
   ·refine iteF ?_
    have tc := t3.same s4
    have Fc : Fed f' H H4 := F3.same s4
    refine ⟨_, rfl, rfl, _, rfl, iteKF (decide_eq_false fun z => absurd (V.int.inj z) (by omega)) ?_⟩
    refine ⟨_, rfl, rfl, _, rfl, iteKF (decide_eq_false fun z => absurd (V.int.inj z) (by omega)) ?_⟩
    refine ⟨_, rfl, rfl, _, rfl, iteKF (decide_eq_false fun z => absurd (V.int.inj z) (by omega)) (iteF ?_)⟩
    refine ⟨_, rfl, rfl, _, rfl, iteF ?_⟩
    exact ⟨_, rfl, _, rfl, _, rfl, _, rfl, _, rfl, _, rfl, f', kv, .ref bl, ks, bs, x, room, rfl, tc, m8, hxin, hroom, hhi, fun u d H' fd ru hd => q u d H' (Fc.trans fd) ru hd⟩
  ·refine iteKF (decide_eq_false fun z => e2 (V.int.inj z)) (iteF ?_)
   refine ⟨_, rfl, rfl, _, rfl, ?_⟩
   by_cases e3 : fm = 3
   ·refine iteKT (decide_eq_true (by rw [e3])) (iteT ?_)
    refine ⟨_, rfl, _, rfl, _, rfl, _, rfl, _, rfl, _, rfl, f', kv, .ref bl, ks, bs, x, room, rfl, t3, m8, hxin, hroom, hhi, fun H5 f5 => ?_, fun a d H5 f5 ra ha => ?_⟩
    ·have tc := t3.fed f5
     have Fc := F3.trans f5
     refine ⟨_, rfl, rfl, _, rfl, iteKF (decide_eq_false fun z => absurd (V.int.inj z) (by omega)) (iteF ?_)⟩
     refine ⟨_, rfl, rfl, _, rfl, iteF ?_⟩
     exact ⟨_, rfl, _, rfl, _, rfl, _, rfl, _, rfl, _, rfl, f', kv, .ref bl, ks, bs, x, room, rfl, tc, m8, hxin, hroom, hhi, fun u d H' fd ru hd => q u d H' (Fc.trans fd) ru hd⟩
    ·refine ⟨_, rfl, rfl, _, rfl, iteKF (decide_eq_false fun z => absurd (V.int.inj z) (by omega)) (iteF ?_)⟩
     refine ⟨_, rfl, rfl, _, rfl, iteBT (by simp) ⟨_, rfl, q _ d _ (F3.trans f5) ra ha⟩⟩
   refine iteKF (decide_eq_false fun z => e3 (V.int.inj z)) ?_
   refine ⟨_, rfl, rfl, _, rfl, ?_⟩
   by_cases e4 : fm = 4
   ·refine iteKT (decide_eq_true (by rw [e4])) ?_
    refine ⟨_, rfl, _, rfl, _, rfl, _, rfl, _, rfl, _, rfl, f', kv, .ref bl, ks, bs, x, room, rfl, t3, m8, hxin, hroom, hhi, fun H5 f5 => ?_, fun a d H5 f5 ra ha => ?_⟩
    ·have tc := t3.fed f5
     have Fc := F3.trans f5
     refine ⟨_, rfl, rfl, _, rfl, iteKF (decide_eq_false fun z => absurd (V.int.inj z) (by omega)) (iteF ?_)⟩
     refine ⟨_, rfl, rfl, _, rfl, iteF ?_⟩
     exact ⟨_, rfl, _, rfl, _, rfl, _, rfl, _, rfl, _, rfl, f', kv, .ref bl, ks, bs, x, room, rfl, tc, m8, hxin, hroom, hhi, fun u d H' fd ru hd => q u d H' (Fc.trans fd) ru hd⟩
    ·refine ⟨_, rfl, rfl, _, rfl, iteKF (decide_eq_false fun z => absurd (V.int.inj z) (by omega)) (iteF ?_)⟩
     refine ⟨_, rfl, rfl, _, rfl, iteBT (by simp) ⟨_, rfl, q _ d _ (F3.trans f5) ra ha⟩⟩
   refine iteKF (decide_eq_false fun z => e4 (V.int.inj z)) ?_
   refine ⟨_, rfl, rfl, _, rfl, ?_⟩
   by_cases e5 : fm = 5
   ·refine iteKT (decide_eq_true (by rw [e5])) ?_
    refine ⟨_, rfl, _, rfl, _, rfl, kv, ks, x, rfl, t3.kd, wf, hxin, fun H4 s4 => ⟨_, _, rfl, rfl, _, rfl, ite2 (fun c2 => ?_) (fun c2 => ?_)⟩⟩
    ·have t4 := t3.same s4
     have F4 : Fed f' H H4 := F3.same s4
     refine ⟨_, rfl, _, rfl, _, rfl, _, rfl, _, rfl, _, rfl, f', kv, .ref bl, ks, bs, x, room, rfl, t4, m8, hxin, hroom, of_decide_eq_true c2, fun H5 f5 => ?_, fun a d H5 f5 ra ha => ?_⟩
     ·have tc := t4.fed f5
      have Fc := F4.trans f5
      refine ⟨_, rfl, rfl, _, rfl, iteF ?_⟩
      exact ⟨_, rfl, _, rfl, _, rfl, _, rfl, _, rfl, _, rfl, f', kv, .ref bl, ks, bs, x, room, rfl, tc, m8, hxin, hroom, hhi, fun u d H' fd ru hd => q u d H' (Fc.trans fd) ru hd⟩
     ·refine ⟨_, rfl, rfl, _, rfl, iteBT (by simp) ⟨_, rfl, q _ d _ (F4.trans f5) ra ha⟩⟩
    ·have tc := t3.same s4
     have Fc : Fed f' H H4 := F3.same s4
     refine ⟨_, rfl, rfl, _, rfl, iteF ?_⟩
     exact ⟨_, rfl, _, rfl, _, rfl, _, rfl, _, rfl, _, rfl, f', kv, .ref bl, ks, bs, x, room, rfl, tc, m8, hxin, hroom, hhi, fun u d H' fd ru hd => q u d H' (Fc.trans fd) ru hd⟩
   ·refine iteKF (decide_eq_false fun z => e5 (V.int.inj z)) (iteF ?_)
    have tc := t3
    have Fc := F3
    refine ⟨_, rfl, rfl, _, rfl, iteF ?_⟩
    exact ⟨_, rfl, _, rfl, _, rfl, _, rfl, _, rfl, _, rfl, f', kv, .ref bl, ks, bs, x, room, rfl, tc, m8, hxin, hroom, hhi, fun u d H' fd ru hd => q u d H' (Fc.trans fd) ru hd⟩
theorem term_is (T : Tx K mg) : ∀ m, DefIs P w K mg base (3 * m + 10) "_law_term" ["_law_feed_here", "_law_kinds_here", "_law_boxes", "_law_kind", "_law_room", "_law_nest"] (spTm m)
 | 0 => DefIs.none T.dl_term fun vs H Q E h => by
  obtain ⟨f', kv, bv, ks, bs, x, room, _, ti, _, _, _, hhi, _⟩ := h
  have := sm_bound ti.wf x
  omega
 | m + 1 => by
  have tm := term_is T m
  have take : ∀ k, DefIs P w K mg base (k + 1) "_law_take" ["_law_feed_here", "_law_many"] xbc := fun k => okl_take T
  have sml : ∀ k, 8 <= k -> DefIs P w K mg base k "_law_small" ["_law_kinds_here", "_law_kind"] (spSm smK 6) := fun k hk => (small_is T 6).mono hk
  have hih : ∀ k, 8 <= k -> DefIs P w K mg base k "_law_high" ["_law_kinds_here", "_law_kind"] (spSm hiK 6) := fun k hk => (high_is T 6).mono hk
  exact okl_term (n := 3 * m + 12) T (take _) (sml _ (by omega)) (hih _ (by omega)) (tm.mono (by omega)) (okl_get (n := 3 * m + 11) T (take _) (sml _ (by omega)) (hih _ (by omega)) (tm.mono (by omega))) (okl_case (n := 3 * m + 11) T (take _) (sml _ (by omega)) (hih _ (by omega)) (tm.mono (by omega)) (okl_arms (n := 3 * m + 10) T (take _) tm)) (okl_whole_term (n := 3 * m + 11) T (xba T) (take _) (okl_number T (take _)) (sml _ (by omega)) (hih _ (by omega)) (tm.mono (by omega)))
end
end K18
end
section
namespace K18
open PySem L2 M
seal L2.PE L2.PA L2.PS L2.PSs L2.PT L2.PW L2.PI L2.PG L2.PJ L2.PTs
section
variable {P : Program} {w : World} {K : PySem.W.Frag} {mg : Str -> Option Value} {base : Heap} {n m : Nat}
def spWithBox (m : Nat) : Sp := fun vs H Q _ => ∃ p x v d env, vs = [.ref p, .str x, v] /\ EnAt H p m env /\ RelD H v d /\ m <= 1000 /\ ∀ p' H', Same H H' -> EnAt H' p' (m + 1) (env.put x d) -> Q (.ref p') H'
theorem ok_with_box (T : Tx K mg) : DefIs P w K mg base (n + 1) "with_box" ["boxes", "x", "thing"] (spWithBox m) := by
 refine DefIs.of T.d_with_box sc_with_box ?_ ?_ <;> walk_at "i"
 ·obtain ⟨_, _, _, _, _, rfl, _⟩ := h
  rfl
 obtain ⟨p, x, v, d, env, rfl, ⟨kvs, hp, hl, he⟩, hv, hm, q⟩ := h
 have nd := sc_with_box.nd
 have hu := hu_of hr
 refine ⟨_, (zpn (xae (i := 3) nd rfl (by walk_at "o") (xa0 call_dict1 rfl T.z_dict PyProof.Rows.boot_dict (pc (pv 0) pN zsn)))
   (zpn (ps_dput hu (pv 3) (pv 1) (pv 2) rfl)
   (po (xad (pv 3))))), ?_⟩
 refine ⟨_, rfl, p, kvs, rfl, hp, fun c hc => ?_⟩
 have s1 := Same.new hc (.dK kvs)
 refine ⟨_, rfl, _, rfl, _, rfl, c, _, rfl, DPut.k (k := Sum.inr x) ups (xa1 (by omega)), _, rfl, ?_⟩
 have s2 := Same.new2 hc (.dK kvs) (.dK (putK kvs (Sum.inr x) v))
 exact q c _ s2 (EnAt.put hp hl he s2 (hv.same s2 _) ups)
end
end K18
end
section
local macro_rules | `(tactic| walk_at "rd1") => `(tactic| first
 | refine ⟨_, rfl, ?_⟩
 | refine ⟨_, _, rfl, rfl, ?_⟩
 | refine ⟨_, _, _, _, rfl, rfl, (by assumption), (by first | rfl | assumption), ?_⟩
 | refine ⟨rfl, ?_⟩
 | refine M.iteKF (by walk_at "k") ?_
 | refine M.iteKT (by walk_at "k") ?_)
local macro_rules | `(tactic| walk_at "rd") => `(tactic| repeat walk_at "rd1")
namespace K18
open PySem L2 M
seal L2.PE L2.PA L2.PS L2.PSs L2.PT L2.PW L2.PI L2.PG L2.PJ L2.PTs
def Rz (K : PySem.W.Frag) (H : Hp) (v : Value) (d : Option Addr) (c : Nat) : Prop := ∃ x, v = .ref x /\ d = none /\ H x = some (excF x (cAt K c) none .none)
theorem raised {H : Hp} {e C : Addr} (he : H e = none) : Same H (upd (upd H e (excO e C none)) e (excF e C none .none)) := fun b u q => by
 rw [xar (neN q he), xar (neN q he)]
 exact q
theorem xa7 {a b : Str} {m n : Nat} (h1 : a.length <= m) (h2 : b.length <= n) : (a ++ b).length <= m + n := by
 rw [Str.length_append]
 omega
theorem log_small {i : Int} (h : i.natAbs < 2 ^ 64) : i.natAbs.log2 < 1920 := by
 by_cases h0 : i.natAbs = 0
 ·rw [h0]; decide
 ·have := (Nat.log2_lt h0).mpr h
  omega
theorem len_num {i : Int} (h0 : 0 <= i) (h : i < 10 ^ 18) : (Str.ofString (toString i)).length <= 18 := by
 obtain ⟨m, rfl⟩ := Int.eq_ofNat_of_zero_le h0
 have e := congrArg List.length (num_reads m)
 rw [List.length_map] at e
 show (numS (m : Int)).cps.size <= 18
 rw [<- Array.length_toList, e]
 exact (Nat.length_toDigits_le_iff (b := 10) (k := 18) (by decide) (by decide)).mpr (by omega)
def Fails (K : PySem.W.Frag) (H : Hp) (E : XK) (c : Nat) : Prop := ∀ v d H', Same H H' -> Rz K H' v d c -> E v d H'
theorem Fails.on {K : PySem.W.Frag} {H H1 : Hp} {E : XK} {c : Nat} (h : Fails K H E c) (s : Same H H1) : Fails K H1 E c := fun v d H' s' r => h v d H' (s.trans s') r
theorem iteBT' {c : Bool} {A B : Prop} (h : c = true) (a : A) : if c = true then A else B := by rw [if_pos h]; exact a
def Ends' (K : PySem.W.Frag) (H : Hp) (Q : VK) (E : XK) (r : Res) : Prop := (∀ k, r = .ok k -> ∀ H', Same H H' -> Q (.str k) H') /\ ∀ c, r = .error c -> Fails K H E c
def Goes' (K : PySem.W.Frag) (H : Hp) (Q : VK) (E : XK) (o : Option Nat) : Prop := (o = none -> ∀ H', Same H H' -> Q .non H') /\ ∀ c, o = some c -> Fails K H E c
abbrev RK := List Kn -> RKt
structure In3 (H : Hp) (kv tv : V) (p : Addr) (ks : List Kn) (d : D) (env : En) (m : Nat) : Prop where
 kd : KsAt H kv ks
 kl : KLn ks
 el : EnvL env
 tm : RelD H tv d
 en : EnAt H p m env
theorem In3.sub {H H' : Hp} {kv tv : V} {p : Addr} {ks : List Kn} {d : D} {env : En} {m : Nat} (h : In3 H kv tv p ks d env m) (s : Same H H') {tv' : V} {d' : D} (t : RelD H tv' d') : In3 H' kv tv' p ks d' env m := ⟨h.kd.same s, h.kl, h.el, t.same s _, h.en.same s⟩
def spKt (K : PySem.W.Frag) (R : RK) (m : Nat) : Sp := fun vs H Q E => ∃ kv tv p ks d env r, vs = [kv, tv, .ref p] /\ In3 H kv tv p ks d env m /\ R ks env d r /\ Ends' K H Q E r
def spNeedKt (K : PySem.W.Frag) (R : RK) (m : Nat) : Sp := fun vs H Q E => ∃ kv tv p ks d env r k, vs = [kv, tv, .ref p, .str k] /\ In3 H kv tv p ks d env m /\ k.length <= 100 /\ R ks env d r /\ Goes' K H Q E (nk k r)
def spSameK (K : PySem.W.Frag) : Sp := fun vs H Q E => ∃ a b : Str, vs = [.str a, .str b] /\ a.length <= 100 /\ b.length <= 100 /\ Goes' K H Q E (nk b (.ok a))
def spSortK (K : PySem.W.Frag) : Sp := fun vs H Q E => ∃ kv ks, ∃ x so : Str, vs = [kv, .str x, .str so] /\ KsAt H kv ks /\ (∀ c, sortR ks x so = some c -> x.length <= 100) /\ so.length <= 100 /\ Goes' K H Q E (sortR ks x so)
def spKindSortK (K : PySem.W.Frag) (R : RK) (m : Nat) : Sp := fun vs H Q E => ∃ kv tv p ks d env r, ∃ so : Str, vs = [kv, tv, .ref p, .str so] /\ In3 H kv tv p ks d env m /\ so.length <= 100 /\ R ks env d r /\ Ends' K H Q E (ksR ks so r)
def spPartK (K : PySem.W.Frag) : Sp := fun vs H Q E => ∃ kv ks kn, ∃ k f : Str, vs = [kv, .str k, .str f] /\ KsAt H kv ks /\ KLn ks /\ kAt ks k = some kn /\ (xav kn f = none -> f.length <= 100) /\ Ends' K H Q E (partR kn f)
def spNumK (K : PySem.W.Frag) : Sp := fun vs H Q E => ∃ i : Int, vs = [.int i] /\ 0 <= i /\ i < 10 ^ 18 /\ Ends' K H Q E (if i < 4294967296 then .ok (S "num") else .error 4)
def spBoxK (K : PySem.W.Frag) (m : Nat) : Sp := fun vs H Q E => ∃ (x : Str) (p : Addr) (env : En) (r : Res), vs = [.str x, .ref p] /\ EnAt H p m env /\ ((∃ k, env x = some (.str k) /\ r = .ok k) \/ (env x = none /\ x.length <= 100 /\ r = .error 2)) /\ Ends' K H Q E r
def RLen (R : RK) : Prop := ∀ ks env d r, KLn ks -> EnvL env -> R ks env d r -> ResL r
section
variable {P : Program} {w : World} {K : PySem.W.Frag} {mg : Str -> Option Value} {base : Heap} {n m : Nat}
theorem ok_need_same (T : Tx K mg) : DefXs P w K mg base (n + 1) "need_same" ["found", "kind"] (spSameK K) := by
 refine DefXs.of T.d_need_same sc_need_same ?_ ?_ <;> walk_at "i"
 ·obtain ⟨_, _, rfl, _⟩ := h
  rfl
 obtain ⟨a, b, rfl, ha, hb, q, qf⟩ := h
 have nd := sc_need_same.nd
 have hu := hu_of hr
 refine ⟨_, (po (xap (pR op_ne (pv 0) (pv 1) (nM _)) (po (xa9 rfl (pe_exc (T.xt.cl 4 (by decide)) (T.xt.ini 4 (by decide) (by decide)) rfl T.c_WrongKind (pc (pe_fstr (xa4 (pj_str (pv 0) (xa4 (pj_str (pv 1) (xa4 pj_nil)))))) pN xaz)))) pQ)), ?_⟩
 refine ⟨_, rfl, _, rfl, rfl, _, rfl, ite2 (fun c => ?_) (fun c => ?_)⟩
 ·have hne : a ≠ b := fun z => by rw [z] at c; simp at c
  have hf := qf 4 (nk_ne hne)
  have e1 : (Str.empty ++ Str.ofString "a term of the kind ").length <= 19 := by walk_at "k"
  have l2 := xa7 e1 ha
  have e3 : (Str.ofString " where ").length <= 7 := by walk_at "k"
  have l3 := xa7 l2 e3
  have l4 := xa7 l3 hb
  have e5 : (Str.ofString " is asked for").length <= 13 := by walk_at "k"
  have l5 := xa7 l4 e5
  refine ⟨fits (Nat.le_trans e1 (by decide)), _, rfl, _, rfl, fits (Nat.le_trans ha (by decide)), fits (Nat.le_trans l2 (by decide)), fits (Nat.le_trans l3 (by decide)), _, rfl, _, rfl, fits (Nat.le_trans hb (by decide)), fits (Nat.le_trans l4 (by decide)), fits (Nat.le_trans l5 (by decide)), fits (Nat.le_trans l5 (by decide)), (by walk_at "s"), fun e he => ?_⟩
  exact ⟨e, cAt K 4, none, rfl, ups, T.xt.cl 4 (by decide), hf _ _ _ (raised he) ⟨e, rfl, rfl, ups⟩⟩
 ·have he : a = b := by
   by_cases z : a = b
   ·exact z
   ·exact absurd (show (!decide (V.str a = V.str b)) = true by rw [decide_eq_false fun y => z (V.str.inj y)]; rfl) c
  exact q (by rw [he]; exact nk_ok) _ (Same.refl _)
theorem ok_need_kind (T : Tx K mg) (R : RK) (hRL : RLen R) (D_kind_of : DefXs P w K mg base n "kind_of" ["kinds", "term", "boxes"] (spKt K R m)) (D_need_same : DefXs P w K mg base n "need_same" ["found", "kind"] (spSameK K)) : DefXs P w K mg base (n + 1) "need_kind" ["kinds", "term", "boxes", "kind"] (spNeedKt K R m) := by
 refine DefXs.of T.d_need_kind sc_need_kind ?_ ?_ <;> walk_at "i"
 ·obtain ⟨_, _, _, _, _, _, _, _, rfl, _⟩ := h
  rfl
 obtain ⟨kv, tv, p, ks, d, env, r, k, rfl, hi, hk, hR, q, qf⟩ := h
 have nd := sc_need_kind.nd
 have hu := hu_of hr
 refine ⟨_, (po (xay (xan D_need_same hr (pc (xan D_kind_of hr (pc (pv 0) (pc (pv 1) (pc (pv 2) pN zsn) zsn) zsn)) (pc (pv 3) pN zsn) zsc)))), ?_⟩
 refine ⟨_, rfl, _, rfl, _, rfl, kv, tv, p, ks, d, env, r, rfl, hi, hR, fun k' e H1 s1 => ?_, fun c e => qf c (by rw [e]; rfl)⟩
 subst e
 exact ⟨_, rfl, k', k, rfl, hRL _ _ _ _ hi.kl hi.el hR k' rfl, hk, fun z H2 s2 => q z _ (s1.trans s2), fun c z => (qf c z).on s1⟩
theorem ok_need_sort (T : Tx K mg) (D_sort_of : DefIs P w K mg base n "sort_of" ["kinds", "K"] spSortOf) : DefXs P w K mg base (n + 1) "need_sort" ["kinds", "name", "sort"] (spSortK K) := by
 refine DefXs.of T.d_need_sort sc_need_sort ?_ ?_ <;> walk_at "i"
 ·obtain ⟨_, _, _, _, rfl, _⟩ := h
  rfl
 obtain ⟨kv, ks, x, so, rfl, hk, hx, hso, q, qf⟩ := h
 have nd := sc_need_sort.nd
 have hu := hu_of hr
 refine ⟨_, (zpn (xae (i := 3) nd rfl (by walk_at "o") (pd D_sort_of hr (pc (pv 0) (pc (pv 1) pN zsn) zsn)))
   (zpn (xap (pR op_isN (pv 3) pe_non (nM _)) (po (xa9 rfl (pe_exc (T.xt.cl 2 (by decide)) (T.xt.ini 2 (by decide) (by decide)) rfl T.c_NoName (pc (pe_fstr (xa4 (pj_str (pv 1) pj_nil))) pN xaz)))) pQ)
   (po (xap (pR op_ne (pv 3) (pv 2) (nM _)) (po (xa9 rfl (pe_exc (T.xt.cl 4 (by decide)) (T.xt.ini 4 (by decide) (by decide)) rfl T.c_WrongKind (pc (pe_fstr (xa4 (pj_str (pv 1) (xa4 (pj_str (pv 2) pj_nil))))) pN xaz)))) pQ)))), ?_⟩
 refine ⟨_, rfl, _, rfl, kv, ks, x, rfl, hk, ?_⟩
 cases hkx : kAt ks x with
 | none =>
  have hx' := hx 2 (sortR_none hkx)
  have hf := qf 2 (sortR_none hkx)
  refine ⟨_, rfl, rfl, _, rfl, iteKT (decide_eq_true rfl) ?_⟩
  have e1 : (Str.empty ++ Str.ofString "no kind ").length <= 8 := by walk_at "k"
  have l2 := xa7 e1 hx'
  refine ⟨fits (Nat.le_trans e1 (by decide)), _, rfl, _, rfl, fits (Nat.le_trans hx' (by decide)), fits (Nat.le_trans l2 (by decide)), fits (Nat.le_trans l2 (by decide)), (by walk_at "s"), fun e he => ?_⟩
  exact ⟨e, cAt K 2, none, rfl, ups, T.xt.cl 2 (by decide), hf _ _ _ (raised he) ⟨e, rfl, rfl, ups⟩⟩
 | some kn =>
  refine ⟨_, rfl, rfl, _, rfl, iteKF (decide_eq_false (fun z => by cases z)) ?_⟩
  refine ⟨_, rfl, _, rfl, rfl, _, rfl, ite2 (fun c => ?_) (fun c => ?_)⟩
  ·have hne : kn.sort ≠ so := fun z => by rw [show sortV (some kn) = V.str so by rw [<- z]; rfl] at c; simp at c
   have hx' := hx 4 (sortR_ne hkx hne)
   have hf := qf 4 (sortR_ne hkx hne)
   have e1 : (Str.empty ++ Str.ofString "the kind ").length <= 9 := by walk_at "k"
   have l2 := xa7 e1 hx'
   have e3 : (Str.ofString " is no ").length <= 7 := by walk_at "k"
   have l3 := xa7 l2 e3
   have l4 := xa7 l3 hso
   refine ⟨fits (Nat.le_trans e1 (by decide)), _, rfl, _, rfl, fits (Nat.le_trans hx' (by decide)), fits (Nat.le_trans l2 (by decide)), fits (Nat.le_trans l3 (by decide)), _, rfl, _, rfl, fits (Nat.le_trans hso (by decide)), fits (Nat.le_trans l4 (by decide)), fits (Nat.le_trans l4 (by decide)), (by walk_at "s"), fun e he => ?_⟩
   exact ⟨e, cAt K 4, none, rfl, ups, T.xt.cl 4 (by decide), hf _ _ _ (raised he) ⟨e, rfl, rfl, ups⟩⟩
  ·have he : kn.sort = so := by
    by_cases z : kn.sort = so
    ·exact z
    ·exact absurd (show (!decide (V.str kn.sort = V.str so)) = true by rw [decide_eq_false fun y => z (V.str.inj y)]; rfl) c
   exact q (sortR_ok hkx he) _ (Same.refl _)
theorem ok_kind_of_sort (T : Tx K mg) (R : RK) (hRL : RLen R) (D_kind_of : DefXs P w K mg base n "kind_of" ["kinds", "term", "boxes"] (spKt K R m)) (D_sort_of : DefIs P w K mg base n "sort_of" ["kinds", "K"] spSortOf) : DefXs P w K mg base (n + 1) "kind_of_sort" ["kinds", "term", "boxes", "sort"] (spKindSortK K R m) := by
 refine DefXs.of T.d_kind_of_sort sc_kind_of_sort ?_ ?_ <;> walk_at "i"
 ·obtain ⟨_, _, _, _, _, _, _, _, rfl, _⟩ := h
  rfl
 obtain ⟨kv, tv, p, ks, d, env, r, so, rfl, hi, hso, hR, q, qf⟩ := h
 have nd := sc_kind_of_sort.nd
 have hu := hu_of hr
 refine ⟨_, (zpn (xae (i := 4) nd rfl (by walk_at "o") (xan D_kind_of hr (pc (pv 0) (pc (pv 1) (pc (pv 2) pN zsn) zsn) zsn)))
   (zpn (xap (pR op_ne (pd D_sort_of hr (pc (pv 0) (pc (pv 4) pN zsn) zsn)) (pv 3) (nM _)) (po (xa9 rfl (pe_exc (T.xt.cl 4 (by decide)) (T.xt.ini 4 (by decide) (by decide)) rfl T.c_WrongKind (pc (pe_fstr (xa4 (pj_str (pv 4) (xa4 (pj_str (pv 3) pj_nil))))) pN xaz)))) pQ)
   (po (xad (pv 4))))), ?_⟩
 refine ⟨_, rfl, _, rfl, _, rfl, kv, tv, p, ks, d, env, r, rfl, hi, hR, fun k e H1 s1 => ?_, fun c e => qf c (by rw [e]; rfl)⟩
 subst e
 have hkl := hRL _ _ _ _ hi.kl hi.el hR k rfl
 refine ⟨_, rfl, _, rfl, kv, ks, k, rfl, hi.kd.same s1, ?_⟩
 cases hkx : kAt ks k with
 | none =>
  have hf := qf 4 (ksR_none hkx)
  refine ⟨_, rfl, rfl, _, rfl, iteBT' (by show (!decide (V.non = V.str so)) = true; rw [decide_eq_false (fun z => by cases z)]; rfl) ?_⟩
  have e1 : (Str.empty ++ Str.ofString "a term of the kind ").length <= 19 := by walk_at "k"
  have l2 := xa7 e1 hkl
  have e3 : (Str.ofString ", which is no ").length <= 14 := by walk_at "k"
  have l3 := xa7 l2 e3
  have l4 := xa7 l3 hso
  refine ⟨fits (Nat.le_trans e1 (by decide)), _, rfl, _, rfl, fits (Nat.le_trans hkl (by decide)), fits (Nat.le_trans l2 (by decide)), fits (Nat.le_trans l3 (by decide)), _, rfl, _, rfl, fits (Nat.le_trans hso (by decide)), fits (Nat.le_trans l4 (by decide)), fits (Nat.le_trans l4 (by decide)), (by walk_at "s"), fun e he => ?_⟩
  exact ⟨e, cAt K 4, none, rfl, ups, T.xt.cl 4 (by decide), hf _ _ _ (s1.trans (raised he)) ⟨e, rfl, rfl, ups⟩⟩
 | some kn =>
  refine ⟨_, rfl, rfl, _, rfl, ite2 (fun c => ?_) (fun c => ?_)⟩
  ·have hne : kn.sort ≠ so := fun z => by rw [show sortV (some kn) = V.str so by rw [<- z]; rfl] at c; simp at c
   have hf := qf 4 (ksR_ne hkx hne)
   have e1 : (Str.empty ++ Str.ofString "a term of the kind ").length <= 19 := by walk_at "k"
   have l2 := xa7 e1 hkl
   have e3 : (Str.ofString ", which is no ").length <= 14 := by walk_at "k"
   have l3 := xa7 l2 e3
   have l4 := xa7 l3 hso
   refine ⟨fits (Nat.le_trans e1 (by decide)), _, rfl, _, rfl, fits (Nat.le_trans hkl (by decide)), fits (Nat.le_trans l2 (by decide)), fits (Nat.le_trans l3 (by decide)), _, rfl, _, rfl, fits (Nat.le_trans hso (by decide)), fits (Nat.le_trans l4 (by decide)), fits (Nat.le_trans l4 (by decide)), (by walk_at "s"), fun e he => ?_⟩
   exact ⟨e, cAt K 4, none, rfl, ups, T.xt.cl 4 (by decide), hf _ _ _ (s1.trans (raised he)) ⟨e, rfl, rfl, ups⟩⟩
  ·have he : kn.sort = so := by
    by_cases z : kn.sort = so
    ·exact z
    ·exact absurd (show (!decide (V.str kn.sort = V.str so)) = true by rw [decide_eq_false fun y => z (V.str.inj y)]; rfl) c
   exact ⟨_, rfl, q k (ksR_is hkx he) _ s1⟩
theorem ok_part_kind (T : Tx K mg) (D_parts_of : DefIs P w K mg base n "parts_of" ["kinds", "K"] spPartsOf) : DefXs P w K mg base (n + 1) "part_kind" ["kinds", "kind", "name"] (spPartK K) := by
 refine DefXs.of T.d_part_kind sc_part_kind ?_ ?_ <;> walk_at "i"
 ·obtain ⟨_, _, _, _, _, rfl, _⟩ := h
  rfl
 obtain ⟨kv, ks, kn, k, f', rfl, hk, hkl, hkn, hfl, q, qf⟩ := h
 have nd := sc_part_kind.nd
 have hu := hu_of hr
 refine ⟨_, (zpn (ps_for (thr_ownT rfl rfl) rfl (pi_tup (pd D_parts_of hr (pc (pv 0) (pc (pv 1) pN zsn) zsn))) (xaf (i := 3) nd rfl (by walk_at "o"))
   (po (xap (pR xaq (xac xao (pv 3) pI (fun _ _ => rfl)) (pv 2) (nM _)) (po (xad (xac xao (pv 3) pI (fun _ _ => rfl)))) pQ)))
   (po (xa9 rfl (pe_exc (T.xt.cl 2 (by decide)) (T.xt.ini 2 (by decide) (by decide)) rfl T.c_NoName (pc (pe_fstr (xa4 (pj_str (pv 2) (xa4 (pj_str (pv 1) pj_nil))))) pN xaz))))), ?_⟩
 refine ⟨_, rfl, _, rfl, _, ks, k, rfl, hk, fun u H1 s1 r1 => ?_⟩
 rw [hkn] at r1
 obtain ⟨e, ps, rfl, he, hps⟩ := r1
 have hl := hps.length
 rw [List.length_map] at hl
 refine ⟨e, rfl, ⟨_, SqT.of he⟩, ?_⟩
 refine for_tup (xs := ps) (fun i σ H' => ∃ o3, σ = [some kv, some (.str k), some (.str f'), o3] /\ H' = H1 /\ (kn.parts.take i).find? (fun p => decide (p.1 = f')) = none) ⟨none, rfl, rfl, rfl⟩ (fun i σ H' _ p => ?_) ?_ ?_
 ·obtain ⟨_, _, rfl, _⟩ := p
  exact SqT.of he
 ·rintro i v σ H' hv ⟨o3, rfl, rfl, hn⟩
  obtain ⟨d, hd, rd⟩ := hps.get hv
  rw [List.getElem?_map] at hd
  obtain ⟨p, hp', rfl⟩ := Option.map_eq_some_iff.mp hd
  obtain ⟨b, ws, rfl, hb, _, _, rfl, rfl, _, _, rfl, rfl, rfl⟩ := rd
  refine ⟨_, rfl, b, _, _, _, rfl, rfl, SqT.of hb, rfl, _, rfl, rfl, _, rfl, ite2 (fun c => ?_) (fun c => ?_)⟩
  ·have e' : p.1 = f' := V.str.inj (of_decide_eq_true c)
   have e2 := (find_step hn hp').1 (decide_eq_true e')
   have e3 : xav kn f' = some p.2 := by unfold xav; rw [e2]; rfl
   exact ⟨_, rfl, b, _, _, _, rfl, rfl, SqT.of hb, rfl, q p.2 (partR_ok e3) _ s1⟩
  ·have e' : ¬ p.1 = f' := fun z => c (decide_eq_true (congrArg V.str z))
   exact ⟨_, rfl, rfl, (find_step hn hp').2 (decide_eq_false e')⟩
 ·rintro σ H' ⟨o3, rfl, rfl, hn⟩
  rw [List.take_of_length_le (by omega)] at hn
  have e3 : xav kn f' = none := by unfold xav; rw [hn]; rfl
  have hf := qf 2 (by unfold partR; rw [e3])
  have hkx := (kat_len hkl hkn).1
  have hfl' := hfl e3
  have e1 : (Str.empty ++ Str.ofString "no part ").length <= 8 := by walk_at "k"
  have l2 := xa7 e1 hfl'
  have e3 : (Str.ofString " in the kind ").length <= 13 := by walk_at "k"
  have l3 := xa7 l2 e3
  have l4 := xa7 l3 hkx
  refine ⟨fits (Nat.le_trans e1 (by decide)), _, rfl, _, rfl, fits (Nat.le_trans hfl' (by decide)), fits (Nat.le_trans l2 (by decide)), fits (Nat.le_trans l3 (by decide)), _, rfl, _, rfl, fits (Nat.le_trans hkx (by decide)), fits (Nat.le_trans l4 (by decide)), fits (Nat.le_trans l4 (by decide)), (by walk_at "s"), fun e he => ?_⟩
  exact ⟨e, cAt K 2, none, rfl, ups, T.xt.cl 2 (by decide), hf _ _ _ (s1.trans (raised he)) ⟨e, rfl, rfl, ups⟩⟩
theorem ok_num_kind (T : Tx K mg) : DefXs P w K mg base (n + 1) "num_kind" ["n"] (spNumK K) := by
 refine DefXs.of T.d_num_kind sc_num_kind ?_ ?_ <;> walk_at "i"
 ·obtain ⟨_, rfl, _⟩ := h
  rfl
 obtain ⟨i, rfl, h0, h18, q, qf⟩ := h
 have nd := sc_num_kind.nd
 have hu := hu_of hr
 refine ⟨_, (zpn (xap (pt_not (pt_chain op_le op_lt pI (pv 0) (pe_gint T.g_WIDE))) (po (xa9 rfl (pe_exc (T.xt.cl 4 (by decide)) (T.xt.ini 4 (by decide) (by decide)) rfl T.c_WrongKind (pc (pe_fstr (pj_int (pv 0) (xa4 (pj_int (pe_gint T.g_WIDE) pj_nil)))) pN xaz)))) pQ)
   (po (xad pS))), ?_⟩
 refine ⟨_, rfl, _, _, rfl, rfl, _, rfl, iteKT (decide_eq_true h0) ⟨_, _, rfl, rfl, _, rfl, ?_⟩⟩
 by_cases h1 : i < 4294967296
 ·rw [if_pos h1] at q
  rw [decide_eq_true h1]
  exact q _ rfl _ (Same.refl _)
 ·rw [if_neg h1] at qf
  rw [decide_eq_false h1]
  have hf := qf 4 rfl
  have i1 := len_num (i := i) (h0) (h18)
  have l1 := xa7 (a := Str.empty) (m := 0) (by walk_at "k") i1
  have e2 : (Str.ofString " is no number below ").length <= 20 := by walk_at "k"
  have l2 := xa7 l1 e2
  have i3 := len_num (i := 4294967296) (by decide) (by decide)
  have l3 := xa7 l2 i3
  refine ⟨_, rfl, _, rfl, log_small (by omega), fits (Nat.le_trans l1 (by decide)), fits (Nat.le_trans l2 (by decide)), _, rfl, log_small (by decide), fits (Nat.le_trans l3 (by decide)), fits (Nat.le_trans l3 (by decide)), (by walk_at "s"), fun e he => ?_⟩
  exact ⟨e, cAt K 4, none, rfl, ups, T.xt.cl 4 (by decide), hf _ _ _ (raised he) ⟨e, rfl, rfl, ups⟩⟩
theorem ok_box_kind (T : Tx K mg) : DefXs P w K mg base (n + 1) "box_kind" ["x", "boxes"] (spBoxK K m) := by
 refine DefXs.of T.d_box_kind sc_box_kind ?_ ?_ <;> walk_at "i"
 ·obtain ⟨_, _, _, _, rfl, _⟩ := h
  rfl
 obtain ⟨x, p, env, r, rfl, ⟨kvs, hp, hl, hh⟩, hx, q, qf⟩ := h
 have nd := sc_box_kind.nd
 have hu := hu_of hr
 refine ⟨_, (zpn (xap (pt_cmp (pc_dnotin hu (pv 0) (pv 1))) (po (xa9 rfl (pe_exc (T.xt.cl 2 (by decide)) (T.xt.ini 2 (by decide) (by decide)) rfl T.c_NoName (pc (pe_fstr (xa4 (pj_str (pv 0) (xa4 pj_nil)))) pN xaz)))) pQ)
   (po (xad (pe_dget hu (pv 1) (pv 0) (fun _ _ => rfl))))), ?_⟩
 rcases hx with ⟨k, hx, rfl⟩ | ⟨hx, hxl, rfl⟩
 ·obtain ⟨v, hv, rv⟩ := (hh x).2 _ hx
  obtain rfl : v = .str k := rv
  have g : DGet H p (.str x) (some (.str k)) := hv ▸ DGet.k (k := Sum.inr x) hp
  refine ⟨_, rfl, _, rfl, p, _, rfl, g, _, rfl, iteF ?_⟩
  exact ⟨_, rfl, _, rfl, p, _, rfl, g, q k rfl _ (Same.refl _)⟩
 ·have g : DGet H p (.str x) none := (hh x).1 hx ▸ DGet.k (k := Sum.inr x) hp
  refine ⟨_, rfl, _, rfl, p, _, rfl, g, _, rfl, iteT ?_⟩
  have hf := qf 2 rfl
  have e1 : (Str.empty ++ Str.ofString "no box ").length <= 7 := by walk_at "k"
  have l2 := xa7 e1 hxl
  have e3 : (Str.ofString " at hand").length <= 8 := by walk_at "k"
  have l3 := xa7 l2 e3
  refine ⟨fits (Nat.le_trans e1 (by decide)), _, rfl, _, rfl, fits (Nat.le_trans hxl (by decide)), fits (Nat.le_trans l2 (by decide)), fits (Nat.le_trans l3 (by decide)), fits (Nat.le_trans l3 (by decide)), (by walk_at "s"), fun e he => ?_⟩
  exact ⟨e, cAt K 2, none, rfl, ups, T.xt.cl 2 (by decide), hf _ _ _ (raised he) ⟨e, rfl, rfl, ups⟩⟩
theorem ok_op_kind (T : Tx K mg) (R : RK) (D_need_kind : DefXs P w K mg base n "need_kind" ["kinds", "term", "boxes", "kind"] (spNeedKt K R m)) : DefXs P w K mg base (n + 1) "op_kind" ["kinds", "term", "boxes"] (spKt K (fun ks => OpKt (R ks)) m) := by
 refine DefXs.of T.d_op_kind sc_op_kind ?_ ?_ <;> walk_at "i"
 ·obtain ⟨_, _, _, _, _, _, _, rfl, _⟩ := h
  rfl
 obtain ⟨kv, tv, p, ks, d, env, r, rfl, hi, ⟨sg, a, b, ra, rfl, ha, hr2⟩, q, qf⟩ := h
 have nd := sc_op_kind.nd
 have hu := hu_of hr
 refine ⟨_, (zpn (xay (xan D_need_kind hr (pc (pv 0) (pc (xac xao (pv 1) pI (fun _ _ => rfl)) (pc (pv 2) (pc pS pN zso) zsn) zss) zsn)))
   (zpn (xay (xan D_need_kind hr (pc (pv 0) (pc (xac xao (pv 1) pI (fun _ _ => rfl)) (pc (pv 2) (pc pS pN zso) zsn) zss) zsn)))
   (po (xad pS)))), ?_⟩
 obtain ⟨l, us, rfl, hl, _, _, rfl, rfl, _, _, rfl, rfl, va, _, rfl, rva, vb, _, rfl, rvb, rfl⟩ := hi.tm
 refine ⟨_, rfl, _, rfl, l, _, _, _, rfl, rfl, SqT.of hl, rfl, _, rfl, ?_⟩
 refine ⟨kv, va, p, ks, a, env, ra, S "num", rfl, hi.sub (Same.refl _) rva, num_le, ha, fun z H1 s1 => ?_, fun c z => ?_⟩
 ·rcases hr2 with ⟨c, e, _⟩ | ⟨_, rb, hb, rfl⟩
  ·rw [z] at e; cases e
  refine ⟨_, rfl, _, rfl, l, _, _, _, rfl, rfl, SqT.of (s1 _ _ hl), rfl, _, rfl, ?_⟩
  exact ⟨kv, vb, p, ks, b, env, rb, S "num", rfl, hi.sub s1 rvb, num_le, hb, fun z2 H2 s2 => q _ (by rw [z2]; rfl) _ (s1.trans s2), fun c z2 => (qf c (by rw [z2]; rfl)).on s1⟩
 ·rcases hr2 with ⟨c', e, rfl⟩ | ⟨e, _⟩
  ·rw [z] at e; cases e; exact qf c rfl
  ·rw [z] at e; cases e
theorem ok_if_kind (T : Tx K mg) (R : RK) (hRL : RLen R) (D_kind_of : DefXs P w K mg base n "kind_of" ["kinds", "term", "boxes"] (spKt K R m)) (D_need_kind : DefXs P w K mg base n "need_kind" ["kinds", "term", "boxes", "kind"] (spNeedKt K R m)) : DefXs P w K mg base (n + 1) "if_kind" ["kinds", "term", "boxes"] (spKt K (fun ks => IfKt (R ks)) m) := by
 refine DefXs.of T.d_if_kind sc_if_kind ?_ ?_ <;> walk_at "i"
 ·obtain ⟨_, _, _, _, _, _, _, rfl, _⟩ := h
  rfl
 obtain ⟨kv, tv, p, ks, d, env, r, rfl, hi, ⟨a, b, c, ra, rfl, ha, hr2⟩, q, qf⟩ := h
 have nd := sc_if_kind.nd
 have hu := hu_of hr
 refine ⟨_, (zpn (xay (xan D_need_kind hr (pc (pv 0) (pc (xac xao (pv 1) pI (fun _ _ => rfl)) (pc (pv 2) (pc pS pN zso) zsn) zss) zsn)))
   (zpn (xae (i := 3) nd rfl (by walk_at "o") (xan D_kind_of hr (pc (pv 0) (pc (xac xao (pv 1) pI (fun _ _ => rfl)) (pc (pv 2) pN zsn) zss) zsn)))
   (zpn (xay (xan D_need_kind hr (pc (pv 0) (pc (xac xao (pv 1) pI (fun _ _ => rfl)) (pc (pv 2) (pc (pv 3) pN zsn) zsn) zss) zsn)))
   (po (xad (pv 3)))))), ?_⟩
 obtain ⟨l, us, rfl, hl, _, _, rfl, rfl, va, _, rfl, rva, vb, _, rfl, rvb, vc, _, rfl, rvc, rfl⟩ := hi.tm
 refine ⟨_, rfl, _, rfl, l, _, _, _, rfl, rfl, SqT.of hl, rfl, _, rfl, ?_⟩
 refine ⟨kv, va, p, ks, a, env, ra, S "num", rfl, hi.sub (Same.refl _) rva, num_le, ha, fun z H1 s1 => ?_, fun c z => ?_⟩
 ·rcases hr2 with ⟨e, e1, _⟩ | ⟨_, rb, hb, hr3⟩
  ·rw [z] at e1; cases e1
  refine ⟨_, rfl, _, rfl, l, _, _, _, rfl, rfl, SqT.of (s1 _ _ hl), rfl, _, rfl, ?_⟩
  refine ⟨kv, vb, p, ks, b, env, rb, rfl, hi.sub s1 rvb, hb, fun k e2 H2 s2 => ?_, fun e e2 => ?_⟩
  ·rcases hr3 with ⟨e, e3, _⟩ | ⟨k', rc, e3, hc, rfl⟩
   ·rw [e2] at e3; cases e3
   rw [e2] at e3
   cases e3
   have s12 := s1.trans s2
   refine ⟨_, rfl, _, rfl, l, _, _, _, rfl, rfl, SqT.of (s12 _ _ hl), rfl, _, rfl, _, rfl, ?_⟩
   exact ⟨kv, vc, p, ks, c, env, rc, k, rfl, hi.sub s12 rvc, hRL _ _ _ _ hi.kl hi.el hb k e2, hc, fun z2 H3 s3 => ⟨_, rfl, q k (by rw [z2]; rfl) _ (s12.trans s3)⟩, fun c z2 => (qf c (by rw [z2]; rfl)).on s12⟩
  ·rcases hr3 with ⟨e', e3, rfl⟩ | ⟨k', rc, e3, _⟩
   ·rw [e2] at e3; cases e3; exact (qf e rfl).on s1
   ·rw [e2] at e3; cases e3
 ·rcases hr2 with ⟨c', e, rfl⟩ | ⟨e, _⟩
  ·rw [z] at e; cases e; exact qf c rfl
  ·rw [z] at e; cases e
theorem ok_get_kind (T : Tx K mg) (R : RK) (D_kind_of_sort : DefXs P w K mg base n "kind_of_sort" ["kinds", "term", "boxes", "sort"] (spKindSortK K R m)) (D_part_kind : DefXs P w K mg base n "part_kind" ["kinds", "kind", "name"] (spPartK K)) : DefXs P w K mg base (n + 1) "get_kind" ["kinds", "term", "boxes"] (spKt K (fun ks => GetKt ks (R ks)) m) := by
 refine DefXs.of T.d_get_kind sc_get_kind ?_ ?_ <;> walk_at "i"
 ·obtain ⟨_, _, _, _, _, _, _, rfl, _⟩ := h
  rfl
 obtain ⟨kv, tv, p, ks, d, env, r, rfl, hi, ⟨a, f', ra, rfl, ha, hr2⟩, q, qf⟩ := h
 have nd := sc_get_kind.nd
 have hu := hu_of hr
 refine ⟨_, (zpn (xae (i := 3) nd rfl (by walk_at "o") (xan D_kind_of_sort hr (pc (pv 0) (pc (xac xao (pv 1) pI (fun _ _ => rfl)) (pc (pv 2) (pc pS pN zso) zsn) zss) zsn)))
   (po (xad (xan D_part_kind hr (pc (pv 0) (pc (pv 3) (pc (xac xao (pv 1) pI (fun _ _ => rfl)) pN zss) zsn) zsn))))), ?_⟩
 obtain ⟨l, us, rfl, hl, _, _, rfl, rfl, va, _, rfl, rva, _, _, rfl, rfl, rfl⟩ := hi.tm
 refine ⟨_, rfl, _, rfl, l, _, _, _, rfl, rfl, SqT.of hl, rfl, _, rfl, ?_⟩
 refine ⟨kv, va, p, ks, a, env, ra, S "rec", rfl, hi.sub (Same.refl _) rva, by walk_at "k", ha, fun k z H1 s1 => ?_, fun c z => ?_⟩
 ·rcases hr2 with ⟨c, e, _⟩ | ⟨k', kn, e, hkn, rfl, hfl⟩
  ·rw [z] at e; cases e
  rw [z] at e
  cases e
  refine ⟨_, rfl, _, rfl, _, rfl, l, _, _, _, rfl, rfl, SqT.of (s1 _ _ hl), rfl, ?_⟩
  exact ⟨kv, ks, kn, k, f', rfl, hi.kd.same s1, hi.kl, hkn, hfl, fun k2 z2 H2 s2 => q k2 z2 _ (s1.trans s2), fun c z2 => (qf c z2).on s1⟩
 ·rcases hr2 with ⟨c', e, rfl⟩ | ⟨k', kn, e, _⟩
  ·rw [z] at e; cases e; exact qf c rfl
  ·rw [z] at e; cases e
theorem ok_tag_kind (T : Tx K mg) (R : RK) (D_need_sort : DefXs P w K mg base n "need_sort" ["kinds", "name", "sort"] (spSortK K)) (D_need_kind : DefXs P w K mg base n "need_kind" ["kinds", "term", "boxes", "kind"] (spNeedKt K R m)) (D_part_kind : DefXs P w K mg base n "part_kind" ["kinds", "kind", "name"] (spPartK K)) : DefXs P w K mg base (n + 1) "tag_kind" ["kinds", "term", "boxes"] (spKt K (fun ks => TagKt ks (R ks)) m) := by
 refine DefXs.of T.d_tag_kind sc_tag_kind ?_ ?_ <;> walk_at "i"
 ·obtain ⟨_, _, _, _, _, _, _, rfl, _⟩ := h
  rfl
 obtain ⟨kv, tv, p, ks, d, env, r, rfl, hi, ⟨x, t, a, rfl, hr2⟩, q, qf⟩ := h
 have nd := sc_tag_kind.nd
 have hu := hu_of hr
 refine ⟨_, (zpn (xae (i := 3) nd rfl (by walk_at "o") (xac xao (pv 1) pI (fun _ _ => rfl)))
   (zpn (xay (xan D_need_sort hr (pc (pv 0) (pc (pv 3) (pc pS pN zso) zsn) zsn)))
   (zpn (xay (xan D_need_kind hr (pc (pv 0) (pc (xac xao (pv 1) pI (fun _ _ => rfl)) (pc (pv 2) (pc (xan D_part_kind hr (pc (pv 0) (pc (pv 3) (pc (xac xao (pv 1) pI (fun _ _ => rfl)) pN zss) zsn) zsn)) pN zsc) zsn) zss) zsn)))
   (po (xad (pv 3)))))), ?_⟩
 obtain ⟨l, us, rfl, hl, _, _, rfl, rfl, _, _, rfl, rfl, _, _, rfl, rfl, va, _, rfl, rva, rfl⟩ := hi.tm
 have hS : SqT K H l [.str (S "tag"), .str x, .str t, va] := SqT.of hl
 refine ⟨_, rfl, l, _, _, _, rfl, rfl, hS, rfl, ?_⟩
 refine ⟨_, rfl, _, rfl, kv, ks, x, S "alt", rfl, hi.kd, fun c z => ?_, by walk_at "k", fun z H1 s1 => ?_, fun c z => ?_⟩
 ·rcases hr2 with ⟨c', e, hx, _⟩ | ⟨e, _⟩
  ·exact hx
  ·rw [z] at e; cases e
 ·rcases hr2 with ⟨c, e, _⟩ | ⟨_, kn, hkn, hr3⟩
  ·rw [z] at e; cases e
  have hS1 : SqT K H1 l [.str (S "tag"), .str x, .str t, va] := SqT.of (s1 _ _ hl)
  refine ⟨_, rfl, _, rfl, l, _, _, _, rfl, rfl, hS1, rfl, _, rfl, _, rfl, _, rfl, _, rfl, l, _, _, _, rfl, rfl, hS1, rfl, ?_⟩
  refine ⟨kv, ks, kn, x, t, rfl, hi.kd.same s1, hi.kl, hkn, fun z2 => ?_, fun k1 z2 H2 s2 => ?_, fun c z2 => ?_⟩
  ·rcases hr3 with ⟨_, ht, _⟩ | ⟨k1, ra, e, _⟩
   ·exact ht
   ·rw [z2] at e; cases e
  ·rcases hr3 with ⟨e, _⟩ | ⟨k1', ra, e, ha, rfl⟩
   ·unfold partR at z2; rw [e] at z2; cases z2
   rw [partR_ok e] at z2
   cases z2
   have s12 := s1.trans s2
   exact ⟨kv, va, p, ks, a, env, ra, k1, rfl, hi.sub s12 rva, part_len hi.kl hkn e, ha, fun z3 H3 s3 => ⟨_, rfl, q x (by rw [z3]; rfl) _ (s12.trans s3)⟩, fun c z3 => (qf c (by rw [z3]; rfl)).on s12⟩
  ·rcases hr3 with ⟨e, _, rfl⟩ | ⟨k1', ra, e, _⟩
   ·unfold partR at z2; rw [e] at z2; cases z2; exact (qf 2 rfl).on s1
   ·rw [partR_ok e] at z2; cases z2
 ·rcases hr2 with ⟨c', e, _, rfl⟩ | ⟨e, _⟩
  ·rw [z] at e; cases e; exact qf c rfl
  ·rw [z] at e; cases e
end
end K18
end
section
local macro_rules | `(tactic| walk_at "rd1") => `(tactic| first
 | refine ⟨_, rfl, ?_⟩
 | refine ⟨_, _, rfl, rfl, ?_⟩
 | refine ⟨_, _, _, _, rfl, rfl, (by assumption), (by first | rfl | assumption), ?_⟩
 | refine ⟨rfl, ?_⟩
 | refine M.iteKF (by walk_at "k") ?_
 | refine M.iteKT (by walk_at "k") ?_)
local macro_rules | `(tactic| walk_at "rd") => `(tactic| repeat walk_at "rd1")
namespace K18
open PySem L2 M
seal L2.PE L2.PA L2.PS L2.PSs L2.PT L2.PW L2.PI L2.PG L2.PJ L2.PTs
theorem inV_strs (x : Str) : ∀ ys : List Str, inV (.str x) (ys.map V.str) = decide (x ∈ ys)
 | [] => rfl
 | y :: ys => by
  show ((y == x) || inV (.str x) (ys.map V.str)) = _
  rw [inV_strs x ys]
  by_cases h : y = x
  ·subst h; simp
  ·have h' : ¬ x = y := fun e => h e.symm
   simp [h, h']
theorem flat_strs : ∀ ys : List Str, (ys.map V.str).all flatV = true
 | [] => rfl
 | y :: ys => by
  show (flatV (.str y) && (ys.map V.str).all flatV) = true
  rw [flat_strs ys]
  rfl
theorem drop_at {α : Type} {l : List α} {i : Nat} {a : α} (h : l[i]? = some a) : l.drop i = a :: l.drop (i + 1) := by
 obtain ⟨hi, e⟩ := List.getElem?_eq_some_iff.mp h
 rw [List.drop_eq_getElem_cons hi, e]
def spOnce (K : PySem.W.Frag) : Sp := fun vs H Q E => ∃ (p : Addr) (ns : List Str) (t : Str), vs = [.ref p, .str t] /\ H p = some (.lst (ns.map V.str)) /\ ns.length <= 1000 /\ t.length <= 200 /\ (ns.Nodup -> Q .non H) /\ (¬ ns.Nodup -> Fails K H E 1)
def spTagsK (K : PySem.W.Frag) : Sp := fun vs H Q E => ∃ (kv : V) (c : Addr) (ws : List V) (ks : List Kn) (k : Str) (kn : Kn) (rs : List Arm3), vs = [kv, .str k, .ref c] /\ KsAt H kv ks /\ KLn ks /\ kAt ks k = some kn /\ H c = some (.tup ws) /\ RelDs H ws (rs.map dArm) /\ rs.length <= 1000 /\ (∀ e, tagsR kn rs = some e -> ∀ z ∈ rs, z.1.length <= 100) /\ Goes' K H Q E (tagsR kn rs)
def spArmK (K : PySem.W.Frag) (R : RK) (m : Nat) : Sp := fun vs H Q E => ∃ (kv av : V) (p : Addr) (ks : List Kn) (env : En) (k1 : Str) (kn : Kn) (z : Arm3) (r : Res), vs = [kv, .str k1, av, .ref p] /\ In3 H kv av p ks (dArm z) env m /\ kAt ks k1 = some kn /\ ArmR kn (R ks) env z r /\ m <= 1000 /\ Ends' K H Q E r
section
variable {P : Program} {w : World} {K : PySem.W.Frag} {mg : Str -> Option Value} {base : Heap} {n m : Nat}
theorem ok_need_once (T : Tx K mg) : DefXs P w K mg base (n + 1) "need_once" ["names", "things"] (spOnce K) := by
 refine DefXs.of T.d_need_once sc_need_once ?_ ?_ <;> walk_at "i"
 ·obtain ⟨_, _, _, rfl, _⟩ := h
  rfl
 obtain ⟨p, ns, t, rfl, hp, hle, ht, q, q1⟩ := h
 have nd := sc_need_once.nd
 have hu := hu_of hr
 refine ⟨_, (po (xap (pR op_lt (pe_lenSetG rfl rfl T.z_len rfl T.z_set (pv 0)) (xam xaj rfl T.z_len PySem.boot_len (pc (pv 0) pN zsn)) (nM _)) (po (xa9 rfl (pe_exc (T.xt.cl 1 (by decide)) (T.xt.ini 1 (by decide) (by decide)) rfl T.c_Twice (pc (pe_fstr (xa4 (pj_str (pv 1) (xa4 pj_nil)))) pN xaz)))) pQ)), ?_⟩
 refine ⟨_, rfl, p, ns, rfl, hp, hle, fun m hm hiff => ?_⟩
 refine ⟨_, rfl, p, _, rfl, .inl (SqL.of hp), ?_⟩
 refine ⟨_, _, rfl, rfl, _, rfl, ite2 (fun c => ?_) (fun c => ?_)⟩
 ·have hc := of_decide_eq_true c
  rw [List.length_map] at hc
  have hf := q1 (fun hn => by have := hiff.mpr hn; omega)
  have e1 : (Str.empty ++ Str.ofString "two ").length <= 4 := by walk_at "k"
  have l2 := xa7 e1 ht
  have e3 : (Str.ofString " of one name").length <= 12 := by walk_at "k"
  have l3 := xa7 l2 e3
  refine ⟨fits (Nat.le_trans e1 (by decide)), _, rfl, _, rfl, fits (Nat.le_trans ht (by decide)), fits (Nat.le_trans l2 (by decide)), fits (Nat.le_trans l3 (by decide)), fits (Nat.le_trans l3 (by decide)), (by walk_at "s"), fun e he => ?_⟩
  exact ⟨e, cAt K 1, none, rfl, ups, T.xt.cl 1 (by decide), hf _ _ _ (raised he) ⟨e, rfl, rfl, ups⟩⟩
 ·have hc : ¬ ((m : Int) < ((ns.map V.str).length : Nat)) := fun z => c (decide_eq_true z)
  rw [List.length_map] at hc
  exact q (hiff.mp (by omega))
theorem ok_need_tags (T : Tx K mg) (D_parts_of : DefIs P w K mg base n "parts_of" ["kinds", "K"] spPartsOf) (D_need_once : DefXs P w K mg base n "need_once" ["names", "things"] (spOnce K)) : DefXs P w K mg base (n + 1) "need_tags" ["kinds", "kind", "arms"] (spTagsK K) := by
 refine DefXs.of T.d_need_tags sc_need_tags ?_ ?_ <;> walk_at "i"
 ·obtain ⟨_, _, _, _, _, _, _, rfl, _⟩ := h
  rfl
 obtain ⟨kv, c, ws, ks, k, kn, rs, rfl, hk, hkl, hkn, hc, hws, hlen, hzl, q, qf⟩ := h
 have nd := sc_need_tags.nd
 have hu := hu_of hr
 refine ⟨_, (zpn (ps_setComp (i := 3) ["part"] [none] rfl (by kernel_rfl) nd rfl (by walk_at "o") (pi_tup (pd D_parts_of hr (pc (pv 0) (pc (pv 1) pN zsn) zsn))) (fun _ _ _ _ => (xaf (i := 0) (by show List.Nodup (["part"] : List Str); decide +kernel) rfl (Or.inl rfl))) (fun _ _ _ _ => pts_nil) (fun _ _ _ _ => (xac (ix_tupC (K := K) rfl) (pv 0) pI (fun _ _ => rfl))))
   (zpn (ps_setComp (i := 4) ["arm"] [none] rfl (by kernel_rfl) nd rfl (by walk_at "o") (pi_tup (pv 2)) (fun _ _ _ _ => (xaf (i := 0) (by show List.Nodup (["arm"] : List Str); decide +kernel) rfl (Or.inl rfl))) (fun _ _ _ _ => pts_nil) (fun _ _ _ _ => (xac (ix_tupC (K := K) rfl) (pv 0) pI (fun _ _ => rfl))))
   (zpn (ps_for (thr_ownT rfl rfl) rfl (pi_list (pv 4)) (xaf (i := 5) nd rfl (by walk_at "o"))
   (po (xap (pR op_notIn_seq (pv 5) (pv 3) (by with_unfolding_all rfl)) (po (xa9 rfl (pe_exc (T.xt.cl 2 (by decide)) (T.xt.ini 2 (by decide) (by decide)) rfl T.c_NoName (pc (pe_fstr (xa4 (pj_str (pv 5) (xa4 (pj_str (pv 1) pj_nil))))) pN xaz)))) pQ)))
   (zpn (xay (xan D_need_once hr (pc (pv 4) (pc (pe_fstr (xa4 (pj_str (pv 1) pj_nil))) pN xaz) zsn)))
   (po (xap (pR op_lt (xam xaj rfl T.z_len PySem.boot_len (pc (pv 4) pN zsn)) (xam xaj rfl T.z_len PySem.boot_len (pc (pv 3) pN zsn)) (nM _)) (po (xa9 rfl (pe_exc (T.xt.cl 5 (by decide)) (T.xt.ini 5 (by decide) (by decide)) rfl T.c_Lacks (pc (pe_fstr (xa4 (pj_str (pv 1) pj_nil))) pN xaz)))) pQ)))))), ?_⟩
 have hkm := List.mem_of_find?_eq_some hkn
 have hkl' := (kat_len hkl hkn).1
 have hp100 := hk.2.2 kn hkm
 refine ⟨_, rfl, _, rfl, kv, ks, k, rfl, hk, fun u H1 s1 r1 => ?_⟩
 rw [hkn] at r1
 obtain ⟨e, ps, rfl, he, hps⟩ := r1
 have hl := hps.length
 rw [List.length_map] at hl
 refine ⟨e, rfl, ⟨_, SqT.of he⟩, ?_⟩
 refine comp_tup (j := 0) (xs := ps) (fun i ys H' => H' = H1 /\ ys = ((kn.parts.take i).map (·.1)).map V.str) (by rfl) ⟨rfl, rfl⟩ (xa1 (by omega)) (fun i ys H' _ p => by obtain ⟨rfl, _⟩ := p; exact SqT.of he) ?_ ?_
 ·rintro i x ys H' hx hly ⟨rfl, rfl⟩
  obtain ⟨d, hd, rd⟩ := hps.get hx
  rw [List.getElem?_map] at hd
  obtain ⟨p, hp, rfl⟩ := Option.map_eq_some_iff.mp hd
  obtain ⟨b, wz, rfl, hb, _, _, rfl, rfl, _, _, rfl, rfl, rfl⟩ := rd
  have hi' : i < ps.length := (List.getElem?_eq_some_iff.mp hx).1
  refine ⟨_, rfl, b, _, _, _, rfl, rfl, SqT.of hb, rfl, nxt hi' hly ⟨rfl, ?_⟩⟩
  rw [List.take_add_one, hp]
  simp
 rintro ys H' hly ⟨rfl, rfl⟩ D1 hD1
 rw [List.take_of_length_le (by omega)]
 have t1 := Same.new hD1 (.lst ((kn.parts.map (·.1)).map V.str))
 have s2 := s1.trans t1
 have hwl := hws.length
 rw [List.length_map] at hwl
 generalize hH2 : upd H' D1 (.lst ((kn.parts.map (·.1)).map V.str)) = H2 at t1 s2 ⊢
 have hD1' : H2 D1 = some (.lst ((kn.parts.map (·.1)).map V.str)) := by rw [<- hH2]; exact ups
 refine ⟨_, rfl, c, rfl, ⟨_, SqT.of (s2 _ _ hc)⟩, ?_⟩
 refine comp_tup (j := 0) (xs := ws) (fun i ys H' => H' = H2 /\ ys = ((rs.take i).map (·.1)).map V.str) (by rfl) ⟨rfl, rfl⟩ (xa1 (by omega)) (fun i ys H' _ p => by obtain ⟨rfl, _⟩ := p; exact SqT.of (s2 _ _ hc)) ?_ ?_
 ·rintro i x ys H3 hx hly ⟨rfl, rfl⟩
  obtain ⟨d, hd, rd⟩ := (hws.same s2 _).get hx
  rw [List.getElem?_map] at hd
  obtain ⟨p, hp, rfl⟩ := Option.map_eq_some_iff.mp hd
  obtain ⟨b, wz, rfl, hb, _, _, rfl, rfl, _, _, rfl, rfl, v3, _, rfl, r3, rfl⟩ := rd
  have hi' : i < ws.length := (List.getElem?_eq_some_iff.mp hx).1
  refine ⟨_, rfl, b, _, _, _, rfl, rfl, SqT.of hb, rfl, nxt hi' hly ⟨rfl, ?_⟩⟩
  rw [List.take_add_one, hp]
  simp
 rintro ys H3 hly ⟨rfl, rfl⟩ D2 hD2
 rw [List.take_of_length_le (by omega)]
 have t2 := Same.new hD2 (.lst ((rs.map (·.1)).map V.str))
 have s3 := s2.trans t2
 have hD1'' := t2 _ _ hD1'
 generalize hH4 : upd H3 D2 (.lst ((rs.map (·.1)).map V.str)) = H4 at t2 s3 hD1'' ⊢
 have hD2' : H4 D2 = some (.lst ((rs.map (·.1)).map V.str)) := by rw [<- hH4]; exact ups
 refine ⟨_, rfl, D2, rfl, ⟨_, SqL.of hD2'⟩, ?_⟩
 refine for_list (xs := (rs.map (·.1)).map V.str) (fun i σ H' => ∃ o5, σ = [some kv, some (.str k), some (.ref c), some (.ref D1), some (.ref D2), o5] /\ H' = H4 /\ ∀ r ∈ rs.take i, r.1 ∈ kn.parts.map (·.1)) ⟨none, rfl, rfl, fun _ h => nomatch h⟩ (fun i σ H' _ p => ?_) ?_ ?_
 ·obtain ⟨_, _, rfl, _⟩ := p
  exact SqL.of hD2'
 ·rintro i z σ H5 hz ⟨o5, rfl, rfl, hall⟩
  rw [List.getElem?_map] at hz
  obtain ⟨y, hy, rfl⟩ := Option.map_eq_some_iff.mp hz
  rw [List.getElem?_map] at hy
  obtain ⟨r, hr', rfl⟩ := Option.map_eq_some_iff.mp hy
  refine ⟨_, rfl, _, rfl, D1, _, rfl, .inl (SqL.of hD1''), rfl, flat_strs _, _, rfl, ?_⟩
  rw [if_pos rfl, inV_strs]
  by_cases hin : r.1 ∈ kn.parts.map (·.1)
  ·rw [decide_eq_true hin]
   refine iteF ⟨_, rfl, rfl, fun z hz => ?_⟩
   rw [List.take_add_one, hr'] at hz
   rcases List.mem_append.mp hz with hz | hz
   ·exact hall z hz
   ·rw [show z = r by simpa using hz]; exact hin
  ·rw [decide_eq_false hin]
   have e2 : tagsR kn rs = some 2 := by unfold tagsR; rw [if_pos fun z => hin (z r (List.mem_of_getElem? hr'))]
   have hf := qf 2 e2
   have hz1 := hzl 2 e2 r (List.mem_of_getElem? hr')
   refine iteT ?_
   have e1 : (Str.empty ++ Str.ofString "no tag ").length <= 7 := by walk_at "k"
   have l2 := xa7 e1 hz1
   have e3 : (Str.ofString " in the kind ").length <= 13 := by walk_at "k"
   have l3 := xa7 l2 e3
   have l4 := xa7 l3 hkl'
   refine ⟨fits (Nat.le_trans e1 (by decide)), _, rfl, _, rfl, fits (Nat.le_trans hz1 (by decide)), fits (Nat.le_trans l2 (by decide)), fits (Nat.le_trans l3 (by decide)), _, rfl, _, rfl, fits (Nat.le_trans hkl' (by decide)), fits (Nat.le_trans l4 (by decide)), fits (Nat.le_trans l4 (by decide)), (by walk_at "s"), fun e he => ?_⟩
   exact ⟨e, cAt K 2, none, rfl, ups, T.xt.cl 2 (by decide), hf _ _ _ (s3.trans (raised he)) ⟨e, rfl, rfl, ups⟩⟩
 ·rintro σ H5 ⟨o5, rfl, rfl, hall⟩
  rw [List.take_of_length_le (by rw [List.length_map, List.length_map]; omega)] at hall
  have l1 : (Str.empty ++ Str.ofString "arms in a case of the kind ").length <= 27 := by walk_at "k"
  have l2 := xa7 l1 hkl'
  refine ⟨_, rfl, fits (Nat.le_trans l1 (by decide)), _, rfl, _, rfl, fits (by omega), fits (Nat.le_trans l2 (by decide)), fits (Nat.le_trans l2 (by decide)), ?_⟩
  refine ⟨D2, rs.map (·.1), _, rfl, hD2', by rw [List.length_map]; omega, Nat.le_trans l2 (by decide), fun hnd => ?_, fun hnd => (qf 1 (by unfold tagsR; rw [if_neg fun z => z hall, if_pos hnd])).on s3⟩
  refine ⟨_, rfl, D2, _, rfl, .inl (SqL.of hD2'), _, rfl, D1, _, rfl, .inl (SqL.of hD1''), _, _, rfl, rfl, _, rfl, ite2 (fun cc => ?_) (fun cc => ?_)⟩
  ·have cc' := of_decide_eq_true cc
   rw [List.length_map, List.length_map, List.length_map, List.length_map] at cc'
   have hf := qf 5 (by unfold tagsR; rw [if_neg fun z => z hall, if_neg fun z => z hnd, if_pos (by omega)])
   have e1 : (Str.empty ++ Str.ofString "no arm for some tag of the kind ").length <= 32 := by walk_at "k"
   have l2 := xa7 e1 hkl'
   refine ⟨fits (Nat.le_trans e1 (by decide)), _, rfl, _, rfl, fits (Nat.le_trans hkl' (by decide)), fits (Nat.le_trans l2 (by decide)), fits (Nat.le_trans l2 (by decide)), (by walk_at "s"), fun e he => ?_⟩
   exact ⟨e, cAt K 5, none, rfl, ups, T.xt.cl 5 (by decide), hf _ _ _ (s3.trans (raised he)) ⟨e, rfl, rfl, ups⟩⟩
  ·have cc' : ¬ ((((rs.map (·.1)).map V.str).length : Nat) : Int) < ((((kn.parts.map (·.1)).map V.str).length : Nat) : Int) := fun z => cc (decide_eq_true z)
   rw [List.length_map, List.length_map, List.length_map, List.length_map] at cc'
   exact q (by unfold tagsR; rw [if_neg fun z => z hall, if_neg fun z => z hnd, if_neg (by omega)]) _ s3
theorem ok_arm_kind (T : Tx K mg) (R : RK) (D_kind_of : DefXs P w K mg base n "kind_of" ["kinds", "term", "boxes"] (spKt K R (m + 1))) (D_with_box : DefIs P w K mg base n "with_box" ["boxes", "x", "thing"] (spWithBox m)) (D_part_kind : DefXs P w K mg base n "part_kind" ["kinds", "kind", "name"] (spPartK K)) : DefXs P w K mg base (n + 1) "arm_kind" ["kinds", "kind", "arm", "boxes"] (spArmK K R m) := by
 refine DefXs.of T.d_arm_kind sc_arm_kind ?_ ?_ <;> walk_at "i"
 ·obtain ⟨_, _, _, _, _, _, _, _, _, rfl, _⟩ := h
  rfl
 obtain ⟨kv, av, p, ks, env, k1, kn, z, r, rfl, hi, hkn, hA, hm, q, qf⟩ := h
 have nd := sc_arm_kind.nd
 have hu := hu_of hr
 refine ⟨_, (zpn (xae (i := 4) nd rfl (by walk_at "o") (xac xao (pv 2) pI (fun _ _ => rfl)))
   (zpn (xap (pt_cmp (pc_din hu (pv 4) (pv 3))) (po (xa9 rfl (pe_exc (T.xt.cl 1 (by decide)) (T.xt.ini 1 (by decide) (by decide)) rfl T.c_Twice (pc (pe_fstr (xa4 (pj_str (pv 4) (xa4 pj_nil)))) pN xaz)))) pQ)
   (po (xad (xan D_kind_of hr (pc (pv 0) (pc (xac xao (pv 2) pI (fun _ _ => rfl)) (pc (pd D_with_box hr (pc (pv 3) (pc (pv 4) (pc (xan D_part_kind hr (pc (pv 0) (pc (pv 1) (pc (xac xao (pv 2) pI (fun _ _ => rfl)) pN zss) zsn) zsn)) pN zsc) zsn) zsn)) pN zsc) zss) zsn)))))), ?_⟩
 obtain ⟨a, us, rfl, ha, _, _, rfl, rfl, _, _, rfl, rfl, ve, _, rfl, re, rfl⟩ := hi.tm
 have hS : SqT K H a [.str z.1, .str z.2.1, ve] := SqT.of ha
 refine ⟨_, rfl, a, _, _, _, rfl, rfl, hS, rfl, ?_⟩
 obtain ⟨kvs, hkp, hkl, hh⟩ := hi.en
 rcases hA with ⟨hx, hxl, rfl⟩ | ⟨hx, hA⟩
 ·obtain ⟨d0, hd0⟩ := Option.ne_none_iff_exists'.mp hx
  obtain ⟨v0, hv0, _⟩ := (hh z.2.1).2 d0 hd0
  have g : DGet H p (.str z.2.1) (some v0) := hv0 ▸ DGet.k (k := Sum.inr z.2.1) hkp
  refine ⟨_, rfl, _, rfl, p, _, rfl, g, _, rfl, iteT ?_⟩
  have hf := qf 1 rfl
  have e1 : (Str.empty ++ Str.ofString "the box ").length <= 8 := by walk_at "k"
  have l2 := xa7 e1 hxl
  have e3 : (Str.ofString " of an arm is at hand already").length <= 29 := by walk_at "k"
  have l3 := xa7 l2 e3
  refine ⟨fits (Nat.le_trans e1 (by decide)), _, rfl, _, rfl, fits (Nat.le_trans hxl (by decide)), fits (Nat.le_trans l2 (by decide)), fits (Nat.le_trans l3 (by decide)), fits (Nat.le_trans l3 (by decide)), (by walk_at "s"), fun e he => ?_⟩
  exact ⟨e, cAt K 1, none, rfl, ups, T.xt.cl 1 (by decide), hf _ _ _ (raised he) ⟨e, rfl, rfl, ups⟩⟩
 ·have g : DGet H p (.str z.2.1) none := (hh z.2.1).1 hx ▸ DGet.k (k := Sum.inr z.2.1) hkp
  refine ⟨_, rfl, _, rfl, p, _, rfl, g, _, rfl, iteF ?_⟩
  refine ⟨_, rfl, _, rfl, a, _, _, _, rfl, rfl, hS, rfl, _, rfl, _, rfl, _, rfl, _, rfl, _, rfl, a, _, _, _, rfl, rfl, hS, rfl, ?_⟩
  refine ⟨kv, ks, kn, k1, z.1, rfl, hi.kd, hi.kl, hkn, fun z2 => ?_, fun k2 z2 H1 s1 => ?_, fun c z2 => ?_⟩
  ·rcases hA with ⟨_, h, _⟩ | ⟨k2, e, _⟩
   ·exact h
   ·rw [z2] at e; cases e
  ·rcases hA with ⟨e, _⟩ | ⟨k2', e, hR⟩
   ·unfold partR at z2; rw [e] at z2; cases z2
   rw [partR_ok e] at z2
   cases z2
   refine ⟨p, z.2.1, .str k2, .str k2, env, rfl, hi.en.same s1, rfl, hm, fun p' H2 s2 he2 => ?_⟩
   have s12 := s1.trans s2
   exact ⟨kv, ve, p', ks, z.2.2, _, r, rfl, ⟨hi.kd.same s12, hi.kl, hi.el.put (part_len hi.kl hkn e), re.same s12 _, he2⟩, hR, fun k e3 H3 s3 => q k e3 _ (s12.trans s3), fun c e3 => (qf c e3).on s12⟩
  ·rcases hA with ⟨e, _, rfl⟩ | ⟨k2', e, _⟩
   ·unfold partR at z2; rw [e] at z2; cases z2; exact qf 2 rfl
   ·rw [partR_ok e] at z2; cases z2
theorem ok_rec_kind (T : Tx K mg) (R : RK) (D_need_sort : DefXs P w K mg base n "need_sort" ["kinds", "name", "sort"] (spSortK K)) (D_need_kind : DefXs P w K mg base n "need_kind" ["kinds", "term", "boxes", "kind"] (spNeedKt K R m)) (D_parts_of : DefIs P w K mg base n "parts_of" ["kinds", "K"] spPartsOf) : DefXs P w K mg base (n + 1) "rec_kind" ["kinds", "term", "boxes"] (spKt K (fun ks => RecKt ks (R ks)) m) := by
 refine DefXs.of T.d_rec_kind sc_rec_kind ?_ ?_ <;> walk_at "i"
 ·obtain ⟨_, _, _, _, _, _, _, rfl, _⟩ := h
  rfl
 obtain ⟨kv, tv, p, ks, d, env, r, rfl, hi, ⟨x, es, rfl, hr2⟩, q, qf⟩ := h
 have nd := sc_rec_kind.nd
 have hu := hu_of hr
 refine ⟨_, (zpn (xae (i := 3) nd rfl (by walk_at "o") (xac xao (pv 1) pI (fun _ _ => rfl)))
   (zpn (xay (xan D_need_sort hr (pc (pv 0) (pc (pv 3) (pc pS pN zso) zsn) zsn)))
   (zpn (xae (i := 4) nd rfl (by walk_at "o") (pd D_parts_of hr (pc (pv 0) (pc (pv 3) pN zsn) zsn)))
   (zpn (xap (pR op_ne (xam xaj rfl T.z_len PySem.boot_len (pc (xac xao (pv 1) pI (fun _ _ => rfl)) pN zss)) (xam xaj rfl T.z_len PySem.boot_len (pc (pv 4) pN zsn)) (nM _)) (po (xa9 rfl (pe_exc (T.xt.cl 3 (by decide)) (T.xt.ini 3 (by decide) (by decide)) rfl T.c_NoCount (pc (pe_fstr (xa4 (pj_str (pv 3) (xa4 pj_nil)))) pN xaz)))) pQ)
   (zpn (ps_for (thr_ownT rfl rfl) rfl (pi_zip rfl T.z_zip (pc (pv 4) (pc (xac xao (pv 1) pI (fun _ _ => rfl)) pN zss) zsn)) (pg_tup rfl (xag (xaf (i := 5) nd rfl (by walk_at "o")) (xag (xaf (i := 6) nd rfl (by walk_at "o")) xax)))
   (po (xay (xan D_need_kind hr (pc (pv 0) (pc (pv 6) (pc (pv 2) (pc (xac xao (pv 5) pI (fun _ _ => rfl)) pN zss) zsn) zsn) zsn)))))
   (po (xad (pv 3)))))))), ?_⟩
 obtain ⟨l, us, rfl, hl, _, _, rfl, rfl, _, _, rfl, rfl, va, _, rfl, rva, rfl⟩ := hi.tm
 obtain ⟨c, vs', rfl, hc, hvs⟩ := rva
 have hS : SqT K H l [.str (S "rec"), .str x, .ref c] := SqT.of hl
 refine ⟨_, rfl, l, _, _, _, rfl, rfl, hS, rfl, ?_⟩
 refine ⟨_, rfl, _, rfl, kv, ks, x, S "rec", rfl, hi.kd, fun c z => ?_, by walk_at "k", fun z H1 s1 => ?_, fun c z => ?_⟩
 ·rcases hr2 with ⟨c', e, hx, _⟩ | ⟨e, _⟩
  ·exact hx
  ·rw [z] at e; cases e
 ·rcases hr2 with ⟨c, e, _⟩ | ⟨_, kn, hkn, hr3⟩
  ·rw [z] at e; cases e
  refine ⟨_, rfl, _, rfl, kv, ks, x, rfl, hi.kd.same s1, fun u H2 s2 r2 => ?_⟩
  rw [hkn] at r2
  obtain ⟨e, ps, rfl, hpe, hps⟩ := r2
  have s12 := s1.trans s2
  have l1 := hps.length
  rw [List.length_map] at l1
  have l2 := hvs.length
  have hx := (kat_len hi.kl hkn).1
  have hS1 : SqT K H2 l [.str (S "rec"), .str x, .ref c] := SqT.of (s12 _ _ hl)
  refine ⟨_, rfl, l, _, _, _, rfl, rfl, hS1, rfl, c, _, rfl, .inr (SqT.of (s12 _ _ hc)), _, rfl, e, _, rfl, .inr (SqT.of hpe), rfl, _, rfl, ?_⟩
  rcases hr3 with ⟨hne, rfl⟩ | ⟨hee, o, hall, rfl⟩
  ·refine iteBT' (by show (!decide (V.int _ = V.int _)) = true; rw [decide_eq_false (fun z => by have := V.int.inj z; omega)]; rfl) ?_
   have hf := qf 3 rfl
   have e1 : (Str.empty ++ Str.ofString "as many terms as the rec ").length <= 25 := by walk_at "k"
   have l2 := xa7 e1 hx
   have e3 : (Str.ofString " has fields are asked for").length <= 25 := by walk_at "k"
   have l3 := xa7 l2 e3
   refine ⟨fits (Nat.le_trans e1 (by decide)), _, rfl, _, rfl, fits (Nat.le_trans hx (by decide)), fits (Nat.le_trans l2 (by decide)), fits (Nat.le_trans l3 (by decide)), fits (Nat.le_trans l3 (by decide)), (by walk_at "s"), fun e he => ?_⟩
   exact ⟨e, cAt K 3, none, rfl, ups, T.xt.cl 3 (by decide), hf _ _ _ (s12.trans (raised he)) ⟨e, rfl, rfl, ups⟩⟩
  ·refine iteNS (by rw [show vs'.length = ps.length by omega]) ?_
   refine ⟨_, rfl, _, rfl, l, _, _, _, rfl, rfl, hS1, rfl, e, c, rfl, ⟨_, SqT.of hpe⟩, ⟨_, SqT.of (s12 _ _ hc)⟩, ?_⟩
   refine for_zip (xs := ps) (ys := vs') (by omega) (fun i σ H' => ∃ o5 o6, σ = [some kv, some (.ref l), some (.ref p), some (.str x), some (.ref e), o5, o6] /\ Same H2 H' /\ AllN (R ks env) (es.drop i) (kn.parts.drop i) o) ⟨none, none, rfl, Same.refl _, hall⟩ (fun i σ H' _ p => ?_) ?_ ?_
   ·obtain ⟨_, _, _, sm, _⟩ := p
    exact ⟨SqT.of (sm _ _ hpe), SqT.of ((s12.trans sm) _ _ hc)⟩
   ·rintro i vx vy σ H' pt hx' hy ⟨o5, o6, rfl, sm, hal⟩ hpt
    obtain ⟨dp, hdp, rdp⟩ := hps.get hx'
    rw [List.getElem?_map] at hdp
    obtain ⟨pr, hpr, rfl⟩ := Option.map_eq_some_iff.mp hdp
    obtain ⟨de, hde, rde⟩ := hvs.get hy
    obtain ⟨b, ws, rfl, hb, _, _, rfl, rfl, _, _, rfl, rfl, rfl⟩ := rdp
    rw [drop_at hde, drop_at hpr] at hal
    obtain ⟨rr, hR, hor⟩ := hal
    have sn := Same.new hpt (.tup [.ref b, vy])
    have s3 := sm.trans sn
    have s13 := s12.trans s3
    refine ⟨pt, _, rfl, SqT.of ups, rfl, _, _, rfl, _, _, rfl, rfl, ?_⟩
    refine ⟨_, rfl, _, rfl, _, rfl, _, rfl, b, _, _, _, rfl, rfl, SqT.of (s3 _ _ hb), rfl, ?_⟩
    refine ⟨kv, vy, p, ks, de, env, rr, pr.2, rfl, hi.sub s13 rde, ((kat_len hi.kl hkn).2 pr (List.mem_of_getElem? hpr)).2, hR, fun z2 H3 s4 => ?_, fun c z2 => ?_⟩
    ·rcases hor with ⟨c, e2, _⟩ | ⟨_, hrest⟩
     ·rw [z2] at e2; cases e2
     ·exact ⟨_, _, rfl, s3.trans s4, hrest⟩
    ·rcases hor with ⟨c', e2, rfl⟩ | ⟨e2, _⟩
     ·rw [z2] at e2; cases e2; exact (qf c rfl).on s13
     ·rw [z2] at e2; cases e2
   ·rintro σ H' ⟨o5, o6, rfl, sm, hal⟩
    rw [List.drop_eq_nil_of_le (by omega), List.drop_eq_nil_of_le (by omega)] at hal
    have ho : o = none := hal
    exact ⟨_, rfl, q x (by rw [ho]; rfl) _ (s12.trans sm)⟩
 ·rcases hr2 with ⟨c', e, _, rfl⟩ | ⟨e, _⟩
  ·rw [z] at e; cases e; exact qf c rfl
  ·rw [z] at e; cases e
theorem ok_case_kind (T : Tx K mg) (R : RK) (hRL : RLen R) (hm : m <= 1000) (D_kind_of_sort : DefXs P w K mg base n "kind_of_sort" ["kinds", "term", "boxes", "sort"] (spKindSortK K R m)) (D_need_tags : DefXs P w K mg base n "need_tags" ["kinds", "kind", "arms"] (spTagsK K)) (D_arm_kind : DefXs P w K mg base n "arm_kind" ["kinds", "kind", "arm", "boxes"] (spArmK K R m)) (D_need_same : DefXs P w K mg base n "need_same" ["found", "kind"] (spSameK K)) : DefXs P w K mg base (n + 1) "case_kind" ["kinds", "term", "boxes"] (spKt K (fun ks => CaseKt ks (R ks)) m) := by
 refine DefXs.of T.d_case_kind sc_case_kind ?_ ?_ <;> walk_at "i"
 ·obtain ⟨_, _, _, _, _, _, _, rfl, _⟩ := h
  rfl
 obtain ⟨kv, tv, p, ks, d, env, r, rfl, hi, ⟨a, rs, ra, rfl, hrl, ha, hr2⟩, q, qf⟩ := h
 have nd := sc_case_kind.nd
 have hu := hu_of hr
 refine ⟨_, (zpn (xae (i := 3) nd rfl (by walk_at "o") (xan D_kind_of_sort hr (pc (pv 0) (pc (xac xao (pv 1) pI (fun _ _ => rfl)) (pc (pv 2) (pc pS pN zso) zsn) zss) zsn)))
   (zpn (xae (i := 4) nd rfl (by walk_at "o") (xac xao (pv 1) pI (fun _ _ => rfl)))
   (zpn (xay (xan D_need_tags hr (pc (pv 0) (pc (pv 3) (pc (pv 4) pN zsn) zsn) zsn)))
   (zpn (xae (i := 5) nd rfl (by walk_at "o") (xan D_arm_kind hr (pc (pv 0) (pc (pv 3) (pc (xac xao (pv 4) pI (fun _ _ => rfl)) (pc (pv 2) pN zsn) zss) zsn) zsn)))
   (zpn (ps_for (thr_ownT rfl rfl) rfl (pi_tup (pe_slice sl_tup (pv 4) (po_some pI) po_none)) (xaf (i := 6) nd rfl (by walk_at "o"))
   (po (xay (xan D_need_same hr (pc (xan D_arm_kind hr (pc (pv 0) (pc (pv 3) (pc (pv 6) (pc (pv 2) pN zsn) zsn) zsn) zsn)) (pc (pv 5) pN zsn) zsc)))))
   (po (xad (pv 5)))))))), ?_⟩
 obtain ⟨l, us, rfl, hl, _, _, rfl, rfl, va, _, rfl, rva, vr, _, rfl, rr, rfl⟩ := hi.tm
 obtain ⟨c, ws, rfl, hc, hws⟩ := rr
 refine ⟨_, rfl, _, rfl, l, _, _, _, rfl, rfl, SqT.of hl, rfl, _, rfl, ?_⟩
 refine ⟨kv, va, p, ks, a, env, ra, S "alt", rfl, hi.sub (Same.refl _) rva, by walk_at "k", ha, fun k1 z H1 s1 => ?_, fun c z => ?_⟩
 ·rcases hr2 with ⟨c', e, _⟩ | ⟨k1', kn, e, hkn, hr3⟩
  ·rw [z] at e; cases e
  rw [z] at e
  cases e
  refine ⟨_, rfl, l, _, _, _, rfl, rfl, SqT.of (s1 _ _ hl), rfl, ?_⟩
  refine ⟨_, rfl, _, rfl, _, rfl, kv, c, ws, ks, k1, kn, rs, rfl, hi.kd.same s1, hi.kl, hkn, s1 _ _ hc, hws.same s1 _, hrl, fun e z2 => ?_, fun z2 H2 s2 => ?_, fun c z2 => ?_⟩
  ·rcases hr3 with ⟨c', e', h, _⟩ | ⟨e', _⟩
   ·exact h
   ·rw [z2] at e'; cases e'
  ·rcases hr3 with ⟨c', e', _⟩ | ⟨_, r0, rest, q0, rfl, hA0, hr4⟩
   ·rw [z2] at e'; cases e'
   have s12 := s1.trans s2
   obtain ⟨w0, wr, rfl, hw0, hwr⟩ := hws
   refine ⟨_, rfl, _, rfl, _, rfl, c, _, _, w0, rfl, rfl, SqT.of (s12 _ _ hc), xai (j := 0) rfl, _, rfl, ?_⟩
   refine ⟨kv, w0, p, ks, env, k1, kn, r0, q0, rfl, hi.sub s12 hw0, hkn, hA0, hm, fun k z3 H3 s3 => ?_, fun c z3 => ?_⟩
   ·rcases hr4 with ⟨c', e', _⟩ | ⟨k', o, e', hN, rfl⟩
    ·rw [z3] at e'; cases e'
    rw [z3] at e'
    cases e'
    have hkl : k.length <= 100 := by
     rcases hA0 with ⟨_, _, e⟩ | ⟨_, ⟨_, _, e⟩ | ⟨k2, hp, hq⟩⟩
     ·rw [z3] at e; cases e
     ·rw [z3] at e; cases e
     ·exact hRL _ _ _ _ hi.kl (hi.el.put (part_len hi.kl hkn hp)) hq k z3
    have s13 := s12.trans s3
    refine ⟨_, rfl, _, rfl, c, w0 :: wr, rfl, SqT.of (s13 _ _ hc), (by
     rw [show ((1 : Int)) = ((1 : Nat) : Int) from rfl, HT.sIx_nat]
     rw [List.length_cons]
     omega), fun cp hcp => ?_⟩
    have t3 := Same.new hcp (.tup (cutV (w0 :: wr) (some 1) none))
    have s14 := s13.trans t3
    have hcut : cutV (w0 :: wr) (some 1) none = wr := by
     unfold cutV
     rw [show ((1 : Int)) = ((1 : Nat) : Int) from rfl, HT.sIx_nat, HT.sIx_none, List.length_cons]
     rw [show min 1 (wr.length + 1) = 1 by omega]
     show List.take _ wr = wr
     exact List.take_of_length_le (by omega)
    refine ⟨cp, rfl, ⟨_, SqT.of ups⟩, ?_⟩
    rw [hcut] at t3 s14 ⊢
    have hwl := hwr.length
    rw [List.length_map] at hwl
    refine for_tup (xs := wr) (fun i σ H' => ∃ o6, σ = [some kv, some (.ref l), some (.ref p), some (.str k1), some (.ref c), some (.str k), o6] /\ Same (upd H3 cp (.tup wr)) H' /\ ArmsN (ArmR kn (R ks) env) k (rest.drop i) o) ⟨none, rfl, Same.refl _, hN⟩ (fun i σ H' _ p => ?_) ?_ ?_
    ·obtain ⟨_, _, sm, _⟩ := p
     exact SqT.of (sm _ _ ups)
    ·rintro i v σ H5 hv ⟨o6, rfl, sm, hal⟩
     obtain ⟨d0, hd0, rd0⟩ := hwr.get hv
     rw [List.getElem?_map] at hd0
     obtain ⟨z, hz, rfl⟩ := Option.map_eq_some_iff.mp hd0
     rw [drop_at hz] at hal
     obtain ⟨qz, hA, hor⟩ := hal
     have s15 := s14.trans sm
     refine ⟨_, rfl, _, rfl, _, rfl, _, rfl, ?_⟩
     refine ⟨kv, v, p, ks, env, k1, kn, z, qz, rfl, hi.sub s15 rd0, hkn, hA, hm, fun kz z4 H6 s6 => ?_, fun c z4 => ?_⟩
     ·have s16 := s15.trans s6
      have hkz : kz.length <= 100 := by
       rcases hA with ⟨_, _, e⟩ | ⟨_, ⟨_, _, e⟩ | ⟨k2, hp, hq⟩⟩
       ·rw [z4] at e; cases e
       ·rw [z4] at e; cases e
       ·exact hRL _ _ _ _ hi.kl (hi.el.put (part_len hi.kl hkn hp)) hq kz z4
      subst z4
      refine ⟨_, rfl, kz, k, rfl, hkz, hkl, fun z5 H7 s7 => ?_, fun c z5 => ?_⟩
      ·rcases hor with ⟨c, e5, _⟩ | ⟨_, hrest⟩
       ·rw [z5] at e5; cases e5
       ·exact ⟨_, rfl, sm.trans (s6.trans s7), hrest⟩
      ·rcases hor with ⟨c', e5, rfl⟩ | ⟨e5, _⟩
       ·rw [z5] at e5; cases e5; exact (qf c rfl).on s16
       ·rw [z5] at e5; cases e5
     ·subst z4
      rcases hor with ⟨c', e5, rfl⟩ | ⟨e5, _⟩
      ·cases e5; exact (qf c rfl).on s15
      ·cases e5
    ·rintro σ H5 ⟨o6, rfl, sm, hal⟩
     rw [List.drop_eq_nil_of_le (by omega)] at hal
     have ho : o = none := hal
     exact ⟨_, rfl, q k (by rw [ho]; rfl) _ (s14.trans sm)⟩
   ·rcases hr4 with ⟨c', e', rfl⟩ | ⟨k', o, e', _⟩
    ·rw [z3] at e'; cases e'; exact (qf c rfl).on s12
    ·rw [z3] at e'; cases e'
  ·rcases hr3 with ⟨c', e', _, rfl⟩ | ⟨e', _⟩
   ·rw [z2] at e'; cases e'; exact (qf c rfl).on s1
   ·rw [z2] at e'; cases e'
 ·rcases hr2 with ⟨c', e, rfl⟩ | ⟨k', kn, e, _⟩
  ·rw [z] at e; cases e; exact qf c rfl
  ·rw [z] at e; cases e
theorem ok_kind_of (T : Tx K mg) (R : RK) (D_num_kind : DefXs P w K mg base n "num_kind" ["n"] (spNumK K)) (D_box_kind : DefXs P w K mg base n "box_kind" ["x", "boxes"] (spBoxK K m)) (D_op_kind : DefXs P w K mg base n "op_kind" ["kinds", "term", "boxes"] (spKt K (fun ks => OpKt (R ks)) m)) (D_rec_kind : DefXs P w K mg base n "rec_kind" ["kinds", "term", "boxes"] (spKt K (fun ks => RecKt ks (R ks)) m)) (D_get_kind : DefXs P w K mg base n "get_kind" ["kinds", "term", "boxes"] (spKt K (fun ks => GetKt ks (R ks)) m)) (D_tag_kind : DefXs P w K mg base n "tag_kind" ["kinds", "term", "boxes"] (spKt K (fun ks => TagKt ks (R ks)) m)) (D_case_kind : DefXs P w K mg base n "case_kind" ["kinds", "term", "boxes"] (spKt K (fun ks => CaseKt ks (R ks)) m)) (D_if_kind : DefXs P w K mg base n "if_kind" ["kinds", "term", "boxes"] (spKt K (fun ks => IfKt (R ks)) m)) : DefXs P w K mg base (n + 1) "kind_of" ["kinds", "term", "boxes"] (spKt K (fun ks env d r => LeafKt env d r \/ NodeKt ks (R ks) env d r) m) := by
 refine DefXs.of T.d_kind_of sc_kind_of ?_ ?_ <;> walk_at "i"
 ·obtain ⟨_, _, _, _, _, _, _, rfl, _⟩ := h
  rfl
 obtain ⟨kv, tv, p, ks, d, env, r, rfl, hi, hR, q⟩ := h
 have nd := sc_kind_of.nd
 have hu := hu_of hr
 refine ⟨_, (zpn (xae (i := 3) nd rfl (by walk_at "o") (xac xao (pv 1) pI (fun _ _ => rfl)))
   (zpn (xap (pR xaq (pv 3) pS (nM _)) (po (xad (xan D_num_kind hr (pc (xac xao (pv 1) pI (fun _ _ => rfl)) pN zss)))) pQ)
   (zpn (xap (pR xaq (pv 3) pS (nM _)) (po (xad (xan D_box_kind hr (pc (xac xao (pv 1) pI (fun _ _ => rfl)) (pc (pv 2) pN zsn) zss)))) pQ)
   (zpn (xap (pR xaq (pv 3) pS (nM _)) (po (xad (xan D_op_kind hr (pc (pv 0) (pc (pv 1) (pc (pv 2) pN zsn) zsn) zsn)))) pQ)
   (zpn (xap (pR xaq (pv 3) pS (nM _)) (po (xad (xan D_rec_kind hr (pc (pv 0) (pc (pv 1) (pc (pv 2) pN zsn) zsn) zsn)))) pQ)
   (zpn (xap (pR xaq (pv 3) pS (nM _)) (po (xad (xan D_get_kind hr (pc (pv 0) (pc (pv 1) (pc (pv 2) pN zsn) zsn) zsn)))) pQ)
   (zpn (xap (pR xaq (pv 3) pS (nM _)) (po (xad (xan D_tag_kind hr (pc (pv 0) (pc (pv 1) (pc (pv 2) pN zsn) zsn) zsn)))) pQ)
   (zpn (xap (pR xaq (pv 3) pS (nM _)) (po (xad (xan D_case_kind hr (pc (pv 0) (pc (pv 1) (pc (pv 2) pN zsn) zsn) zsn)))) pQ)
   (po (xad (xan D_if_kind hr (pc (pv 0) (pc (pv 1) (pc (pv 2) pN zsn) zsn) zsn)))))))))))), ?_⟩
 rcases hR with (⟨i, rfl, h0, h18, rfl⟩ | ⟨x, rfl, hx⟩) | hN | hN | hN | hN | hN | hN
 ·obtain ⟨a, us, rfl, ha, _, _, rfl, rfl, _, _, rfl, rfl, rfl⟩ := hi.tm
  have hS : SqT K H a [.str (S "num"), .int i] := SqT.of ha
  walk_at "rd"
  exact ⟨h0, h18, q⟩
 ·obtain ⟨a, us, rfl, ha, _, _, rfl, rfl, _, _, rfl, rfl, rfl⟩ := hi.tm
  have hS : SqT K H a [.str (S "box"), .str x] := SqT.of ha
  walk_at "rd"
  exact ⟨x, p, env, r, rfl, hi.en, hx, q⟩
 ·obtain ⟨sg, a, b, _, rfl, _⟩ := id hN
  obtain ⟨l, us, rfl, ha, _, _, rfl, rfl, _, _, rfl, rfl, va, _, rfl, ra, vb, _, rfl, rb, rfl⟩ := hi.tm
  have hS : SqT K H l [.str (S "op"), .str sg, va, vb] := SqT.of ha
  walk_at "rd"
  exact ⟨kv, _, p, ks, _, env, r, rfl, hi, hN, q⟩
 ·obtain ⟨x, es, rfl, _⟩ := id hN
  obtain ⟨l, us, rfl, ha, _, _, rfl, rfl, _, _, rfl, rfl, va, _, rfl, ra, rfl⟩ := hi.tm
  have hS : SqT K H l [.str (S "rec"), .str x, va] := SqT.of ha
  walk_at "rd"
  exact ⟨kv, _, p, ks, _, env, r, rfl, hi, hN, q⟩
 ·obtain ⟨a, f', _, rfl, _⟩ := id hN
  obtain ⟨l, us, rfl, ha, _, _, rfl, rfl, va, _, rfl, ra, _, _, rfl, rfl, rfl⟩ := hi.tm
  have hS : SqT K H l [.str (S "get"), va, .str f'] := SqT.of ha
  walk_at "rd"
  exact ⟨kv, _, p, ks, _, env, r, rfl, hi, hN, q⟩
 ·obtain ⟨x, t, a, rfl, _⟩ := id hN
  obtain ⟨l, us, rfl, ha, _, _, rfl, rfl, _, _, rfl, rfl, _, _, rfl, rfl, va, _, rfl, ra, rfl⟩ := hi.tm
  have hS : SqT K H l [.str (S "tag"), .str x, .str t, va] := SqT.of ha
  walk_at "rd"
  exact ⟨kv, _, p, ks, _, env, r, rfl, hi, hN, q⟩
 ·obtain ⟨a, rs, _, rfl, _⟩ := id hN
  obtain ⟨l, us, rfl, ha, _, _, rfl, rfl, va, _, rfl, ra, vr, _, rfl, rr, rfl⟩ := hi.tm
  have hS : SqT K H l [.str (S "case"), va, vr] := SqT.of ha
  walk_at "rd"
  exact ⟨kv, _, p, ks, _, env, r, rfl, hi, hN, q⟩
 ·obtain ⟨a, b, c, _, rfl, _⟩ := id hN
  obtain ⟨l, us, rfl, ha, _, _, rfl, rfl, va, _, rfl, ra, vb, _, rfl, rb, vc, _, rfl, rc, rfl⟩ := hi.tm
  have hS : SqT K H l [.str (S "if"), va, vb, vc] := SqT.of ha
  walk_at "rd"
  exact ⟨kv, _, p, ks, _, env, r, rfl, hi, hN, q⟩
theorem kind_up {R : RK} (D : DefXs P w K mg base n "kind_of" ["kinds", "term", "boxes"] (spKt K R (m + 1))) : DefXs P w K mg base n "kind_of" ["kinds", "term", "boxes"] (spKt K R m) := D.imp fun vs H Q E h => by
 obtain ⟨kv, tv, p, ks, d, env, r, h1, h2, h3⟩ := h
 exact ⟨kv, tv, p, ks, d, env, r, h1, ⟨h2.kd, h2.kl, h2.el, h2.tm, h2.en.mono (by omega)⟩, h3⟩
theorem kind_step (T : Tx K mg) (R : RK) (hRL : RLen R) (hm : m <= 1000) (D1 : DefXs P w K mg base (n + 2) "kind_of" ["kinds", "term", "boxes"] (spKt K R (m + 1))) :
  DefXs P w K mg base (n + 5) "kind_of" ["kinds", "term", "boxes"] (spKt K (fun ks env d r => LeafKt env d r \/ NodeKt ks (R ks) env d r) m) := by
 have D := kind_up D1
 have same : ∀ k, DefXs P w K mg base (k + 1) "need_same" ["found", "kind"] (spSameK K) := fun k => ok_need_same T
 have sort : ∀ k, DefIs P w K mg base (k + 1) "sort_of" ["kinds", "K"] spSortOf := fun k => ok_sort_of T
 have parts : ∀ k, DefIs P w K mg base (k + 1) "parts_of" ["kinds", "K"] spPartsOf := fun k => ok_parts_of T
 have pk : ∀ k, DefXs P w K mg base (k + 2) "part_kind" ["kinds", "kind", "name"] (spPartK K) := fun k => ok_part_kind (n := k + 1) T (parts k)
 have nk := ok_need_kind (n := n + 2) T R hRL D (same (n + 1))
 have ns := ok_need_sort (P := P) (w := w) (base := base) (n := n + 2) T (sort (n + 1))
 have ko := ok_kind_of_sort (n := n + 2) T R hRL D (sort (n + 1))
 have ak := ok_arm_kind (n := n + 2) T R D1 (ok_with_box T) (pk n)
 have nt := ok_need_tags (P := P) (w := w) (base := base) (n := n + 2) T (parts (n + 1)) (ok_need_once T)
 have ck := ok_case_kind (n := n + 3) T R hRL hm ko nt ak (same (n + 2))
 exact ok_kind_of (n := n + 4) T R (ok_num_kind T) (ok_box_kind T) (ok_op_kind (n := n + 3) T R nk) (ok_rec_kind (n := n + 3) T R ns nk (parts (n + 2))) (ok_get_kind (n := n + 3) T R ko (pk (n + 1))) (ok_tag_kind (n := n + 3) T R ns nk (pk (n + 1))) ck (ok_if_kind (n := n + 3) T R hRL (D.mono (by omega)) nk)
theorem kt_is (T : Tx K mg) : ∀ n m, n + m <= 999 -> DefXs P w K mg base (3 * n + 5) "kind_of" ["kinds", "term", "boxes"] (spKt K (fun ks => Kt ks n) m)
 | 0, m, h => by
  refine (kind_step (P := P) (w := w) (base := base) (n := 0) (m := m) T (fun _ _ _ _ => False) (fun _ _ _ _ _ _ h => h.elim) (by omega) (DefXs.none T.d_kind_of ?_)).imp ?_
  ·rintro vs H Q E ⟨_, _, _, _, _, _, _, _, _, h, _⟩
   exact h
  ·rintro vs H Q E ⟨kv, tv, p, ks, d, env, r, h1, h2, h3, h4⟩
   exact ⟨kv, tv, p, ks, d, env, r, h1, h2, .inl h3, h4⟩
 | n + 1, m, h => by
  have ih := kt_is T n (m + 1) (by omega)
  exact kind_step (n := 3 * n + 3) (m := m) T (fun ks => Kt ks n) (fun ks env d r h1 h2 h3 => kt_len h1 n env d r h2 h3) (by omega) ih
end
end K18
end
section
namespace K18
open PySem L2 M
seal L2.PE L2.PA L2.PS L2.PSs L2.PT L2.PW L2.PI L2.PG L2.PJ L2.PTs
theorem DefIs.any {P : Program} {w : World} {K : PySem.W.Frag} {mg : Str -> Option Value} {base : Heap} {n N : Nat} {x : Str} {ps : List Str} {sps : Nat -> Sp} (D : ∀ m, m <= N -> DefIs P w K mg base n x ps (sps m)) : DefIs P w K mg base n x ps (fun vs H Q E => ∃ m, m <= N /\ sps m vs H Q E) := by
 obtain ⟨f, fd, F, b, k, mm, l⟩ := (D 0 (Nat.zero_le _)).ex
 refine ⟨f, fd, ⟨?_, ?_⟩, b, k, mm, l⟩
 ·rintro vs H Q E ⟨m, hm, h⟩
  obtain ⟨f2, fd2, F2, _⟩ := (D m hm).ex
  exact F2.1 vs H Q E h
 ·rintro A outer s H args us vs Q E h1 h2 h3 h4 ⟨m, hm, h⟩
  obtain ⟨f2, fd2, F2, b2, k2, mm2, l2⟩ := (D m hm).ex
  rw [mm] at mm2
  cases mm2
  obtain ⟨oc, od, os, hl⟩ := l
  obtain ⟨oc2, od2, os2, hl2⟩ := l2
  rw [hl] at hl2
  cases hl2
  exact F2.2 A outer s H args us vs Q E h1 h2 h3 h4 h
def spT8 : Sp := fun vs H Q E => ∃ m, m <= 8 /\ spTm m vs H Q E
def GT (ks : List Kn) (bs : List (Str × Str)) (d : D) (k : Str) : Prop := ∀ env, FitK ks bs env -> Kt ks 8 env d (.ok k)
structure C8 (H : Hp) (f : Addr) (kv bv : V) (nb : Addr) (nms : List Str) (ks : List Kn) (bs : List (Str × Str)) (x : Str) : Prop where
 ti : TIn H f kv bv ks bs 8
 hn : H nb = some (.lst (nms.map V.str))
 nf : nb ≠ f
 kc : KC nms ks x
 bn : ∀ b ∈ bs, b.1 ∈ nms
theorem C8.same {H H' : Hp} {f : Addr} {kv bv : V} {nb : Addr} {nms : List Str} {ks : List Kn} {bs : List (Str × Str)} {x : Str} (h : C8 H f kv bv nb nms ks bs x) (s : Same H H') : C8 H' f kv bv nb nms ks bs x := ⟨h.ti.same s, s _ _ h.hn, h.nf, h.kc, h.bn⟩
theorem C8.fed {H H' : Hp} {f : Addr} {kv bv : V} {nb : Addr} {nms : List Str} {ks : List Kn} {bs : List (Str × Str)} {x : Str} (h : C8 H f kv bv nb nms ks bs x) (s : Fed f H H') : C8 H' f kv bv nb nms ks bs x := ⟨h.ti.fed s, s.1 _ _ h.hn h.nf, h.nf, h.kc, h.bn⟩
theorem C8.at {H : Hp} {f : Addr} {kv bv : V} {nb : Addr} {nms : List Str} {ks : List Kn} {bs : List (Str × Str)} {x : Str} (h : C8 H f kv bv nb nms ks bs x) {K : PySem.W.Frag} : SqL K H nb (nms.map V.str) := SqL.of h.hn
theorem C8.nm {H : Hp} {f : Addr} {kv bv : V} {nb : Addr} {nms : List Str} {ks : List Kn} {bs : List (Str × Str)} {x : Str} (h : C8 H f kv bv nb nms ks bs x) (i : Nat) (hi : i < 26 := by decide) : atI (nms.map V.str) (i : Int) = some (.str (M.nm nms i)) := nm_v h.kc.ok hi
theorem sts {H0 H H' : Hp} {f : Addr} {kv bv : V} {nb : Addr} {nms : List Str} {ks : List Kn} {bs : List (Str × Str)} {x : Str} (h : C8 H f kv bv nb nms ks bs x) (F : Fed f H0 H) (y : Same H H') : C8 H' f kv bv nb nms ks bs x /\ Fed f H0 H' /\ ∀ b us, H b = some (.tup us) -> H' b = some (.tup us) := ⟨h.same y, F.same y, fun b us e => y b _ e⟩
theorem stf {H0 H H' : Hp} {f : Addr} {kv bv : V} {nb : Addr} {nms : List Str} {ks : List Kn} {bs : List (Str × Str)} {x : Str} (h : C8 H f kv bv nb nms ks bs x) (F : Fed f H0 H) (y : Fed f H H') : C8 H' f kv bv nb nms ks bs x /\ Fed f H0 H' /\ ∀ b us, H b = some (.tup us) -> H' b = some (.tup us) := ⟨h.fed y, F.trans y, xal h.ti.fd y⟩
theorem _root_.M.RelD.t {H H' : Hp} {v : V} {d : D} (h : RelD H v d) (s : ∀ b us, H b = some (.tup us) -> H' b = some (.tup us)) : RelD H' v d := h.tups s _
theorem l9 {ks : List Kn} {env : En} {d : D} {r : Res} (h : Kt ks 9 env d r) : Kt ks 10 env d r := kt_le (by decide) h
theorem kt_good {ks : List Kn} (wf : KWf ks) {m : Nat} (hm : m <= 8) {bs : List (Str × Str)} {d : D} {k : Str} (h : TmB ks m bs d k) : GT ks bs d k := fun env hf => kt_le hm (kd_kt (fun k hk => by have := wf.pts k hk; omega) m env d k (h.2 env hf))
def spGood : Sp := fun vs H Q _ => ∃ (f : Addr) (kv bv : V) (ks : List Kn) (bs : List (Str × Str)) (k : Str), vs = [.ref f, kv, bv, .str k] /\ TIn H f kv bv ks bs 8 /\ KIn ks 6 k /\ ∀ a d H', Fed f H H' -> RelD H' (.ref a) d -> GT ks bs d k -> Q (.ref a) H'
def spFew : Sp := fun vs H Q _ => ∃ (f : Addr) (kv : V) (p q : Int) (ks : List Kn) (most : Int), vs = [.ref f, kv, .int most] /\ H f = some (.lst [.int p, .int q]) /\ RelD H kv (dKinds ks) /\ KWf ks /\ ∀ x H', KIn ks ks.length x -> Fed f H H' -> Q (.str x) H'
def spMoreK : Sp := fun vs H Q _ => ∃ (f nb : Addr) (kv : V) (p q : Int) (ks : List Kn) (nms : List Str), vs = [.ref f, kv, .ref nb] /\ H f = some (.lst [.int p, .int q]) /\ RelD H kv (dKinds ks) /\ KWf ks /\ ks.length <= 4 /\ H nb = some (.lst (nms.map V.str)) /\ nb ≠ f /\ NmsOk nms /\ ∀ x v H', KIn ks ks.length x -> Fed f H H' -> RelD H' v (dKinds (ks ++ [kR nms x, kA nms])) -> Q v H'
def spArmsOf : Sp := fun vs H Q _ => ∃ (f nb : Addr) (kv bv : V) (ks : List Kn) (bs : List (Str × Str)) (nms : List Str) (x k : Str), vs = [.ref f, kv, bv, .ref nb, .str k] /\ C8 H f kv bv nb nms ks bs x /\ KIn ks 6 k /\ ∀ a a0 a1 v0 v1 d0 d1 H', Fed f H H' -> H' a = some (.tup [.ref a0, .ref a1]) -> H' a0 = some (.tup [.str (nm nms 8), .str (S "outa"), v0]) -> H' a1 = some (.tup [.str (nm nms 9), .str (S "outb"), v1]) -> RelD H' v0 d0 -> RelD H' v1 d1 -> GT ks bs d0 k -> GT ks bs d1 k -> Q (.ref a) H'
theorem rel_ref {H : Hp} {v : V} {d : D} {k : Str} {n : Nat} {ks : List Kn} {bs : List (Str × Str)} (h : TmB ks n bs d k) (r : RelD H v d) (hb : ∃ env, FitK ks bs env) : ∃ a, v = .ref a := by
 obtain ⟨env, he⟩ := hb
 rcases kd_head (h.2 env he) with ⟨a, rs, rfl⟩ | ⟨hd, rr, rfl, _⟩
 ·obtain ⟨b, _, e, _⟩ := r; exact ⟨b, e⟩
 ·obtain ⟨b, _, e, _⟩ := r; exact ⟨b, e⟩
theorem fitk_ex {ks : List Kn} {bs : List (Str × Str)} (nd : (bs.map (·.1)).Nodup) : ∃ env, FitK ks bs env := by
 refine ⟨fun y => (bs.find? fun b => decide (b.1 = y)).map fun b => D.str b.2, fun p hp => ?_, fun z _ hz => ?_⟩
 ·obtain ⟨i, hi, e⟩ := List.mem_iff_getElem.mp hp
  show Option.map _ _ = _
  rw [find_nodup (f := fun r : Str × Str => r.1) (xs := bs) (i := i) (a := p) nd (by rw [<- e]; exact List.getElem?_eq_getElem hi)]
  rfl
 ·show Option.map _ _ = _
  rw [List.find?_eq_none.mpr fun b hb => by simpa using hz b hb]
  rfl
section
variable {P : Program} {w : World} {K : PySem.W.Frag} {mg : Str -> Option Value} {base : Heap} {n m : Nat}
theorem okl_good (T : Tx K mg) (Dl_take : DefIs P w K mg base n "_law_take" ["_law_feed_here", "_law_many"] xbc) (Dl_small : DefIs P w K mg base n "_law_small" ["_law_kinds_here", "_law_kind"] (spSm smK 6)) (Dl_high : DefIs P w K mg base n "_law_high" ["_law_kinds_here", "_law_kind"] (spSm hiK 6)) (Dl_term : DefIs P w K mg base n "_law_term" ["_law_feed_here", "_law_kinds_here", "_law_boxes", "_law_kind", "_law_room", "_law_nest"] spT8) : DefIs P w K mg base (n + 1) "_law_good" ["_law_feed_here", "_law_kinds_here", "_law_boxes", "_law_kind"] spGood := by
 refine DefIs.of T.dl_good scl_good ?_ ?_ <;> walk_at "i"
 ·obtain ⟨_, _, _, _, _, _, rfl, _⟩ := h
  rfl
 obtain ⟨f', kv, bv, ks, bs, k, rfl, ti, hk, q⟩ := h
 have nd := scl_good.nd
 refine ⟨_, (po (xad (pd Dl_term hr (pc (pv 0) (pc (pv 1) (pc (pv 2) (pc (pv 3) (pc (xah xas (pd Dl_small hr (pc (pv 1) (pc (pv 3) pN zsn) zsn)) (pd Dl_take hr (pc (pv 0) (pc pI pN zso) zsn))) (pc (pd Dl_high hr (pc (pv 1) (pc (pv 3) pN zsn) zsn)) pN zsc) xak) zsn) zsn) zsn) zsn)))), ?_⟩
 have wf := ti.wf
 have hb := sm_bound wf k
 obtain ⟨p0, q0, h0⟩ := ti.fd
 refine ⟨_, rfl, _, rfl, _, rfl, _, rfl, _, rfl, _, rfl, kv, ks, k, rfl, ti.kd, wf, hk, fun H1 s1 => ?_⟩
 have t1 := ti.same s1
 obtain ⟨p1, q1, h1⟩ := t1.fd
 refine ⟨_, rfl, f', p1, q1, 2, rfl, h1, by decide, by decide, fun r H2 r0 r1 f2 => ⟨_, _, rfl, rfl, ?_⟩⟩
 have t2 := t1.fed f2
 have F2 : Fed f' H H2 := ((Fed.refl h0).same s1).trans f2
 refine ⟨_, rfl, _, rfl, kv, ks, k, rfl, t2.kd, wf, hk, fun H3 s3 => ?_⟩
 have t3 := t2.same s3
 obtain ⟨mN, hmN⟩ : ∃ mN : Nat, hiK ks k = (mN : Int) := ⟨(hiK ks k).toNat, by omega⟩
 rw [hmN]
 refine ⟨mN, by omega, f', kv, bv, ks, bs, k, smK ks k + r, rfl, t3.down (by omega), by omega, hk, by omega, by omega, fun u d H4 f4 ru htm => ?_⟩
 obtain ⟨a, rfl⟩ := rel_ref htm ru (fitk_ex ti.nd)
 exact q a d H4 ((F2.same s3).trans f4) ru (kt_good wf (by omega) htm)
theorem okl_few (T : Tx K mg) (Dl_take : DefIs P w K mg base n "_law_take" ["_law_feed_here", "_law_many"] xbc) (Dl_small : DefIs P w K mg base n "_law_small" ["_law_kinds_here", "_law_kind"] (spSm smK 6)) (Dl_size : DefIs P w K mg base n "_law_size" ["_law_kinds_here", "_law_kind"] (spSize 6)) : DefIs P w K mg base (n + 1) "_law_few" ["_law_feed_here", "_law_kinds_here", "_law_most"] spFew := by
 refine DefIs.of T.dl_few scl_few ?_ ?_ <;> walk_at "i"
 ·obtain ⟨_, _, _, _, _, _, rfl, _⟩ := h
  rfl
 obtain ⟨f', kv, p0, q0, ks, most, rfl, h0, hk, wf, q⟩ := h
 have nd := scl_few.nd
 have hfew := wf.few
 refine ⟨_, (zpn (xae (i := 3) nd rfl (by walk_at "o") (xah op_cat (xat (pc pS pN zso)) (pe_comp ["_law_row", "_law_most", "_law_kinds_here"] [none, some 2, some 1] rfl (by kernel_rfl) (pi_tup (pv 1)) (fun _ _ _ _ => (xaf (i := 0) (by show List.Nodup (["_law_row", "_law_most", "_law_kinds_here"] : List Str); decide +kernel) rfl (Or.inl rfl))) (fun _ _ _ _ => (pts_one (PW.pt (pw_and (pR op_le (pd Dl_small hr (pc (pv 2) (pc (xac (ix_tupC (K := K) rfl) (pv 0) pI (fun _ _ => rfl)) pN zss) zsn)) (pv 1) (nM _)) (pw_and1 (pR op_lt (pd Dl_size hr (pc (pv 2) (pc (xac (ix_tupC (K := K) rfl) (pv 0) pI (fun _ _ => rfl)) pN zss) zsn)) pI (nM _))))))) (fun _ _ _ _ => (xac (ix_tupC (K := K) rfl) (pv 0) pI (fun _ _ => rfl))))))
   (po (xad (xac iL (pv 3) (pd Dl_take hr (pc (pv 0) (pc (xam xaj rfl T.z_len PySem.boot_len (pc (pv 3) pN zsn)) pN zsc) zsn)) (fun _ _ => rfl))))), ?_⟩
 refine ⟨(by walk_at "s"), fun l2 hl2 => ?_⟩
 have s2 := Same.new hl2 (.lst [.str (S "num")])
 have hk' := hk
 obtain ⟨ka, us, rfl, hka, hus⟩ := hk'
 have hul := hus.length
 rw [List.length_map] at hul
 refine ⟨_, rfl, ka, rfl, ⟨_, SqT.of (s2 _ _ hka)⟩, ?_⟩
 refine comp_tupG (xs := us) (fun i ys H' => Same (upd H l2 (.lst [.str (S "num")])) H' /\ ∃ zs : List Str, ys = zs.map V.str /\ (∀ z ∈ zs, KIn ks ks.length z) /\ zs.length <= i) ⟨Same.refl _, [], rfl, (fun _ h => nomatch h), Nat.le_refl _⟩ (xa1 (by omega)) (fun i ys H' _ p => SqT.of (p.1 _ _ (s2 _ _ hka))) ?_ ?_
 ·rintro i y ys H' hy hi2 hly ⟨sm, zs, rfl, hzs, hzl⟩
  have sH := s2.trans sm
  obtain ⟨d, hd, rd⟩ := (hus.same sH _).get hy
  rw [List.getElem?_map] at hd
  obtain ⟨k, hk', rfl⟩ := Option.map_eq_some_iff.mp hd
  obtain ⟨b, vs', rfl, hb, _, _, rfl, rfl, _, _, rfl, rfl, v3, _, rfl, r3, rfl⟩ := rd
  have hkm := List.mem_of_getElem? hk'
  have kin : KIn ks ks.length k.name := KIn.of (.inr ⟨k, hkm, rfl⟩)
  refine ⟨ext_set rfl, ?_⟩
  refine ⟨_, rfl, _, rfl, b, _, _, _, rfl, rfl, SqT.of hb, rfl, _, ks, k.name, rfl, hk.same sH _, wf, kin.mono hfew, fun H1 s1 => ⟨_, rfl, _, _, rfl, rfl, _, rfl, ite2 (fun c1 => ?_) (fun c1 => ?_)⟩⟩
  ·refine ⟨_, rfl, _, rfl, b, _, _, _, rfl, rfl, SqT.of (s1 _ _ hb), rfl, _, ks, k.name, rfl, (wf.ksAt (hk.same (sH.trans s1) _)).seq, wf, kin.mono hfew, fun H3 s3 => ⟨_, _, rfl, rfl, _, rfl, ite2 (fun c2 => ?_) (fun c2 => ?_)⟩⟩
   ·have s13 := s1.trans s3
    refine ⟨_, rfl, b, _, _, _, rfl, rfl, SqT.of (s13 _ _ hb), rfl, nxtG hi2 hly ⟨sm.trans s13, zs ++ [k.name], by rw [List.map_append]; rfl, fun z hz => ?_, by rw [List.length_append, List.length_singleton]; omega⟩⟩
    rcases List.mem_append.mp hz with hz | hz
    ·exact hzs z hz
    ·rw [List.mem_singleton.mp hz]; exact kin
   ·exact nxtN hi2 hly ⟨sm.trans (s1.trans s3), zs, rfl, hzs, by omega⟩
  ·exact iteF (nxtN hi2 hly ⟨sm.trans s1, zs, rfl, hzs, by omega⟩)
 rintro ys H2 hly ⟨sm, zs, rfl, hzs, hzl⟩ D hD
 have s3 := Same.new hD (.lst (zs.map V.str))
 have s23 := sm.trans s3
 refine ⟨l2, D, _, _, rfl, rfl, s23 _ _ ups, ups, fits (by rw [List.length_map]; show 1 + _ <= _; omega), fun l3 hl3 => ?_⟩
 have s4 := Same.new hl3 (.lst ([.str (S "num")] ++ zs.map V.str))
 have s24 := s2.trans (s23.trans s4)
 have l3f : l3 ≠ f' := Ne.symm (neN ((s2.trans s23) _ _ h0) hl3)
 have e3 : [V.str (S "num")] ++ zs.map V.str = (S "num" :: zs).map V.str := rfl
 have l1 : ((S "num" :: zs).map V.str).length = zs.length + 1 := by rw [List.length_map, List.length_cons]
 rw [e3] at s4 s24 ⊢
 refine ⟨_, rfl, _, rfl, _, rfl, l3, _, rfl, .inl (SqL.of ups), f', p0, q0, _, rfl, s24 _ _ h0, by rw [l1]; omega, by rw [l1]; omega, fun r H5 r0 r1 f5 => ?_⟩
 rw [l1] at r1
 obtain ⟨i, rfl⟩ : ∃ i : Nat, r = (i : Int) := ⟨r.toNat, by omega⟩
 have hi' : i < (S "num" :: zs).length := by rw [List.length_cons]; omega
 refine ⟨l3, _, _, .str (S "num" :: zs)[i], rfl, rfl, SqL.of (f5.1 _ _ ups l3f), xai (by rw [List.getElem?_map, List.getElem?_eq_getElem hi']; rfl), q _ _ ?_ (((Fed.refl h0).same s24).trans f5)⟩
 rcases List.mem_cons.mp (List.getElem_mem hi') with e | hm
 ·exact .inl e
 ·exact hzs _ hm
theorem okl_more_kinds (T : Tx K mg) (Dl_few : DefIs P w K mg base n "_law_few" ["_law_feed_here", "_law_kinds_here", "_law_most"] spFew) : DefIs P w K mg base (n + 1) "_law_more_kinds" ["_law_feed_here", "_law_kinds_here", "_law_names_here"] spMoreK := by
 refine DefIs.of T.dl_more_kinds scl_more_kinds ?_ ?_ <;> walk_at "i"
 ·obtain ⟨_, _, _, _, _, _, _, rfl, _⟩ := h
  rfl
 obtain ⟨f', nb, kv, p0, q0, ks, nms, rfl, h0, hk, wf, h4, hn, nf, ok, q⟩ := h
 have nd := scl_more_kinds.nd
 refine ⟨_, (zpn (xae (i := 3) nd rfl (by walk_at "o") (pd Dl_few hr (pc (pv 0) (pc (pv 1) (pc pI pN zso) zsn) zsn)))
   (zpn (xae (i := 4) nd rfl (by walk_at "o") (xaa (pc (xac iL (pv 2) pI (fun _ _ => rfl)) (pc pS (pc (xaa (pc (xaa (pc (xac iL (pv 2) pI (fun _ _ => rfl)) (pc pS pN zso) zss)) (pc (xaa (pc (xac iL (pv 2) pI (fun _ _ => rfl)) (pc (pv 3) pN zsn) zss)) pN sT) sT)) pN sT) zso) zss)))
   (zpn (xae (i := 5) nd rfl (by walk_at "o") (xaa (pc (xac iL (pv 2) pI (fun _ _ => rfl)) (pc pS (pc (xaa (pc (xaa (pc (xac iL (pv 2) pI (fun _ _ => rfl)) (pc pS pN zso) zss)) (pc (xaa (pc (xac iL (pv 2) pI (fun _ _ => rfl)) (pc (xac iL (pv 2) pI (fun _ _ => rfl)) pN zss) zss)) pN sT) sT)) pN sT) zso) zss)))
   (po (xad (xah op_catT0 (pv 1) (xaa (pc (pv 4) (pc (pv 5) pN zsn) zsn)))))))), ?_⟩
 refine ⟨_, rfl, _, rfl, f', kv, p0, q0, ks, 2, rfl, h0, hk, wf, fun x H1 hx f1 => ?_⟩
 have tp1 := xal ⟨p0, q0, h0⟩ f1
 have hn1 := f1.1 _ _ hn nf
 have hk1 := hk.tups tp1 _
 have a4 := nm_v ok (i := 4) (by decide)
 have a5 := nm_v ok (i := 5) (by decide)
 have a8 := nm_v ok (i := 8) (by decide)
 have a9 := nm_v ok (i := 9) (by decide)
 refine ⟨_, rfl, nb, _, _, _, rfl, rfl, SqL.of hn1, a4, _, rfl, nb, _, _, _, rfl, rfl, SqL.of hn1, a8, (by walk_at "s"), fun t1 ht1 => ?_⟩
 have y1 := Same.new ht1 (.tup [.str (nm nms 8), .str (S "num")])
 refine ⟨_, rfl, nb, _, _, _, rfl, rfl, SqL.of (y1 _ _ hn1), a9, _, rfl, (by walk_at "s"), fun t2 ht2 => ?_⟩
 have y2 := Same.new ht2 (.tup [.str (nm nms 9), .str x])
 refine ⟨(by walk_at "s"), fun t3 ht3 => ?_⟩
 have y3 := Same.new ht3 (.tup [.ref t1, .ref t2])
 refine ⟨(by walk_at "s"), fun t4 ht4 => ?_⟩
 have y4 := Same.new ht4 (.tup [.str (nm nms 4), .str (S "rec"), .ref t3])
 have y34 := y3.trans y4
 have y24 := y2.trans y34
 have y14 := y1.trans y24
 have rR : RelD _ (.ref t4) (kR nms x).d := ⟨t4, _, rfl, ups, _, _, rfl, rfl, _, _, rfl, rfl, _, _, rfl, ⟨t3, _, rfl, y4 _ _ ups, _, _, rfl, ⟨t1, _, rfl, y24 _ _ ups, _, _, rfl, rfl, _, _, rfl, rfl, rfl⟩, _, _, rfl, ⟨t2, _, rfl, y34 _ _ ups, _, _, rfl, rfl, _, _, rfl, rfl, rfl⟩, rfl⟩, rfl⟩
 have hn4 := y14 _ _ hn1
 have hk4 := hk1.same y14 _
 have F4 : Fed f' H _ := f1.same y14
 refine ⟨_, rfl, nb, _, _, _, rfl, rfl, SqL.of hn4, a5, _, rfl, nb, _, _, _, rfl, rfl, SqL.of hn4, a8, (by walk_at "s"), fun u1 hu1 => ?_⟩
 have z1 := Same.new hu1 (.tup [.str (nm nms 8), .str (S "num")])
 refine ⟨_, rfl, nb, _, _, _, rfl, rfl, SqL.of (z1 _ _ hn4), a9, _, rfl, nb, _, _, _, rfl, rfl, SqL.of (z1 _ _ hn4), a4, (by walk_at "s"), fun u2 hu2 => ?_⟩
 have z2 := Same.new hu2 (.tup [.str (nm nms 9), .str (nm nms 4)])
 refine ⟨(by walk_at "s"), fun u3 hu3 => ?_⟩
 have z3 := Same.new hu3 (.tup [.ref u1, .ref u2])
 refine ⟨(by walk_at "s"), fun u4 hu4 => ?_⟩
 have z4 := Same.new hu4 (.tup [.str (nm nms 5), .str (S "alt"), .ref u3])
 have z34 := z3.trans z4
 have z24 := z2.trans z34
 have z14 := z1.trans z24
 have rA : RelD _ (.ref u4) (kA nms).d := ⟨u4, _, rfl, ups, _, _, rfl, rfl, _, _, rfl, rfl, _, _, rfl, ⟨u3, _, rfl, z4 _ _ ups, _, _, rfl, ⟨u1, _, rfl, z24 _ _ ups, _, _, rfl, rfl, _, _, rfl, rfl, rfl⟩, _, _, rfl, ⟨u2, _, rfl, z34 _ _ ups, _, _, rfl, rfl, _, _, rfl, rfl, rfl⟩, rfl⟩, rfl⟩
 have rR5 := rR.same z14 _
 have hk5 := hk4.same z14 _
 have F5 : Fed f' H _ := F4.same z14
 obtain ⟨ka, us, rfl, hka, hus⟩ := hk5
 have hul := hus.length
 rw [List.length_map] at hul
 refine ⟨_, rfl, _, rfl, _, rfl, (by walk_at "s"), fun v1 hv1 => ?_⟩
 have x1 := Same.new hv1 (.tup [.ref t4, .ref u4])
 have fin : ∀ v2 H', Same (upd _ v1 (.tup [.ref t4, .ref u4])) H' -> H' v2 = some (.tup (us ++ [.ref t4, .ref u4])) -> Q (.ref v2) H' := fun v2 H' x2 hv2 => by
  have x12 := x1.trans x2
  refine q x _ _ hx (F5.same x12) ⟨v2, _, rfl, hv2, ?_⟩
  rw [List.map_append]
  exact (hus.same x12 _).append ⟨_, _, rfl, rR5.same x12 _, _, _, rfl, rA.same x12 _, rfl⟩
 refine ⟨ka, v1, us, _, rfl, rfl, SqT.of (x1 _ _ hka), SqT.of ups, fits (by show us.length + 2 <= _; omega), fun z => ?_, fun _ z => absurd z (List.cons_ne_nil _ _), fun _ _ v2 hv2 => fin v2 _ (Same.new hv2 _) ups⟩
 exact fin v1 _ (Same.refl _) (by rw [z]; exact ups)
theorem okl_arms_of (T : Tx K mg) (Dl_good : DefIs P w K mg base n "_law_good" ["_law_feed_here", "_law_kinds_here", "_law_boxes", "_law_kind"] spGood) : DefIs P w K mg base (n + 1) "_law_arms_of" ["_law_feed_here", "_law_kinds_here", "_law_boxes", "_law_names_here", "_law_kind"] spArmsOf := by
 refine DefIs.of T.dl_arms_of scl_arms_of ?_ ?_ <;> walk_at "i"
 ·obtain ⟨_, _, _, _, _, _, _, _, _, rfl, _⟩ := h
  rfl
 obtain ⟨f', nb, kv, bv, ks, bs, nms, x, k, rfl, c, hk, q⟩ := h
 have nd := scl_arms_of.nd
 refine ⟨_, (zpn (xae (i := 5) nd rfl (by walk_at "o") (pd Dl_good hr (pc (pv 0) (pc (pv 1) (pc (pv 2) (pc (pv 4) pN zsn) zsn) zsn) zsn)))
   (po (xad (xaa (pc (xaa (pc (xac iL (pv 3) pI (fun _ _ => rfl)) (pc pS (pc (pv 5) pN zsn) zso) zss)) (pc (xaa (pc (xac iL (pv 3) pI (fun _ _ => rfl)) (pc pS (pc (pd Dl_good hr (pc (pv 0) (pc (pv 1) (pc (pv 2) (pc (pv 4) pN zsn) zsn) zsn) zsn)) pN zsc) zso) zss)) pN sT) sT))))), ?_⟩
 refine ⟨_, rfl, _, rfl, _, rfl, _, rfl, f', kv, bv, ks, bs, k, rfl, c.ti, hk, fun a0 d0 H1 f1 r1 g1 => ?_⟩
 have c1 := c.fed f1
 have a8 := nm_v c.kc.ok (i := 8) (by decide)
 have a9 := nm_v c.kc.ok (i := 9) (by decide)
 refine ⟨_, rfl, nb, _, _, _, rfl, rfl, c1.at, a8, _, rfl, (by walk_at "s"), fun t1 ht1 => ?_⟩
 have y1 := Same.new ht1 (.tup [.str (nm nms 8), .str (S "outa"), .ref a0])
 have c2 := c1.same y1
 refine ⟨_, rfl, nb, _, _, _, rfl, rfl, c2.at, a9, _, rfl, _, rfl, _, rfl, _, rfl, f', kv, bv, ks, bs, k, rfl, c2.ti, hk, fun b0 d1 H2 f2 r2 g2 => ?_⟩
 have tp2 := xal c2.ti.fd f2
 refine ⟨(by walk_at "s"), fun t2 ht2 => ⟨(by walk_at "s"), fun t3 ht3 => ?_⟩⟩
 have y2 := Same.new ht2 (.tup [.str (nm nms 9), .str (S "outb"), .ref b0])
 have y3 := Same.new ht3 (.tup [.ref t1, .ref t2])
 exact q t3 t1 t2 _ _ d0 d1 _ (((f1.same y1).trans f2).same (y2.trans y3)) ups ((y2.trans y3) _ _ (tp2 _ _ ups)) (y3 _ _ ups) (((r1.same y1 _).tups tp2 _).same (y2.trans y3) _) (r2.same (y2.trans y3) _) g1 g2
end
end K18
end
section
namespace K18
open PySem L2 M
seal L2.PE L2.PA L2.PS L2.PSs L2.PT L2.PW L2.PI L2.PG L2.PJ L2.PTs
def FT (nms : List Str) (ks : List Kn) (bs : List (Str × Str)) (hs : List Str) (n : Nat) (d : D) (c : Nat) : Prop := ∀ env, Fx nms ks bs env -> (∀ h ∈ hs, env h = none) -> Kt ks n env d (.error c)
def Wc (word : Str) (c : Nat) : Prop := (word = S "name" /\ c = 2) \/ (word = S "kind" /\ c = 4) \/ (word = S "count" /\ c = 3) \/ (word = S "lacks" /\ c = 5) \/ (word = S "twice" /\ c = 1)
def Kx (ks : List Kn) (v : V) : Prop := v = .non \/ ∃ k, v = .str k /\ KIn ks 6 k
def QF (H : Hp) (f : Addr) (nms : List Str) (ks : List Kn) (bs : List (Str × Str)) (Q : VK) : Prop := ∀ (t : Addr) (word : Str) (kx : V) (a : Addr) (d : D) (c : Nat) (H' : Hp), Fed f H H' -> H' t = some (.tup [.str word, kx, .ref a]) -> RelD H' (.ref a) d -> FT nms ks bs [] 10 d c -> Wc word c -> Kx ks kx -> Q (.ref t) H'
def spWay : Sp := fun vs H Q _ => ∃ (f nb : Addr) (kv bv : V) (ks : List Kn) (bs : List (Str × Str)) (nms : List Str) (x : Str) (wy : Int), vs = [.ref f, kv, bv, .ref nb, .int wy] /\ C8 H f kv bv nb nms ks bs x /\ bs ≠ [] /\ QF H f nms ks bs Q
def spFault : Sp := fun vs H Q _ => ∃ (f nb : Addr) (kv bv : V) (ks : List Kn) (bs : List (Str × Str)) (nms : List Str) (x : Str), vs = [.ref f, kv, bv, .ref nb] /\ C8 H f kv bv nb nms ks bs x /\ bs ≠ [] /\ QF H f nms ks bs Q
theorem kx_at {H : Hp} {kv : V} {ks : List Kn} {nms : List Str} {x : Str} (h : RelD H kv (dKinds ks)) (c : KC nms ks x) : ∃ ka us b1 v1 v2 b2 v3 b4, kv = .ref ka /\ H ka = some (.tup us) /\ atI us (-2) = some (.ref b1) /\ H b1 = some (.tup [v1, v2, .ref b2]) /\ H b2 = some (.tup [v3, .ref b4]) /\ H b4 = some (.tup [.str (nm nms 9), .str x]) := by
 obtain ⟨ks0, rfl⟩ := c.last
 obtain ⟨ka, us, rfl, hka, hus⟩ := h
 have hl := hus.length
 rw [List.length_map, List.length_append] at hl
 have hl' : us.length = ks0.length + 2 := hl
 have hi : ks0.length < us.length := by omega
 obtain ⟨d, hd, rd⟩ := hus.get (List.getElem?_eq_getElem hi)
 rw [List.getElem?_map, List.getElem?_append_right (Nat.le_refl _), Nat.sub_self] at hd
 simp at hd
 subst hd
 obtain ⟨b1, _, e1, hb1, v1, _, rfl, _, v2, _, rfl, _, v3, _, rfl, ⟨b2, _, rfl, hb2, v4, _, rfl, _, v5, _, rfl, ⟨b4, _, rfl, hb4, _, _, rfl, rfl, _, _, rfl, rfl, rfl⟩, rfl⟩, rfl⟩ := rd
 refine ⟨ka, us, b1, v1, v2, b2, v4, b4, rfl, hka, ?_, hb1, hb2, hb4⟩
 have e : ixN us.length (-2) = some ks0.length := by
  unfold ixN
  rw [if_neg (by decide), if_pos (by omega)]
  congr 1
  omega
 unfold atI
 rw [e, <- e1]
 exact List.getElem?_eq_getElem hi
theorem at2t {a b : V} {c : Bool} (h : c = true) : atI [a, b] (if c = true then (1 : Int) else 0) = some b := by rw [if_pos h]; exact xai (j := 1) rfl
theorem at2f {a b : V} {c : Bool} (h : c = false) : atI [a, b] (if c = true then (1 : Int) else 0) = some a := by rw [if_neg (by rw [h]; decide)]; exact xai (j := 0) rfl
theorem fx_n {nms : List Str} {ks : List Kn} {bs : List (Str × Str)} {env : En} (h : Fx nms ks bs env) {i : Nat} (hi : i = 22 \/ i = 23) : env (nm nms i) = none := by
 rcases hi with rfl | rfl
 ·exact h.nn.1
 ·exact h.nn.2
section
variable {nms : List Str} {ks : List Kn} {x : Str}
theorem _root_.M.KC.ne (c : KC nms ks x) {i j : Nat} (hi : i < 26) (hj : j < 26) (h : i ≠ j) : nm nms i ≠ nm nms j := fun e => h (nm_inj c.ok hi hj e)
theorem _root_.M.KC.pA8 (c : KC nms ks x) : xav (kA nms) (nm nms 8) = some (S "num") := by simp [xav, kA]
theorem _root_.M.KC.pA9 (c : KC nms ks x) : xav (kA nms) (nm nms 9) = some (nm nms 4) := by
 have := c.ne (i := 8) (j := 9) (by decide) (by decide) (by decide)
 simp [xav, kA, this]
theorem _root_.M.KC.pR (c : KC nms ks x) : xav (kR nms x) (nm nms 23) = none := by
 have h1 := c.ne (i := 8) (j := 23) (by decide) (by decide) (by decide)
 have h2 := c.ne (i := 9) (j := 23) (by decide) (by decide) (by decide)
 simp [xav, kR, h1, h2]
theorem _root_.M.KC.pA (c : KC nms ks x) : xav (kA nms) (nm nms 23) = none := by
 have h1 := c.ne (i := 8) (j := 23) (by decide) (by decide) (by decide)
 have h2 := c.ne (i := 9) (j := 23) (by decide) (by decide) (by decide)
 simp [xav, kA, h1, h2]
theorem _root_.M.KC.num (c : KC nms ks x) : kAt ks (S "num") = none := c.wf.num
theorem sA : (kA nms).sort ≠ S "rec" := by show S "alt" ≠ S "rec"; decide +kernel
theorem sR : (kR nms x).sort ≠ S "alt" := by show S "rec" ≠ S "alt"; decide +kernel
end
section
variable {P : Program} {w : World} {K : PySem.W.Frag} {mg : Str -> Option Value} {base : Heap} {n m : Nat}
theorem okl_plain_fault (T : Tx K mg) (Dl_take : DefIs P w K mg base n "_law_take" ["_law_feed_here", "_law_many"] xbc) (Dl_good : DefIs P w K mg base n "_law_good" ["_law_feed_here", "_law_kinds_here", "_law_boxes", "_law_kind"] spGood) : DefIs P w K mg base (n + 1) "_law_plain_fault" ["_law_feed_here", "_law_kinds_here", "_law_boxes", "_law_names_here", "_law_way"] spWay := by
 refine DefIs.of T.dl_plain_fault scl_plain_fault ?_ ?_ <;> walk_at "i"
 ·obtain ⟨_, _, _, _, _, _, _, _, _, rfl, _⟩ := h
  rfl
 obtain ⟨f', nb, kv, bv, ks, bs, nms, x, wy, rfl, c0, hbs, q⟩ := h
 have nd := scl_plain_fault.nd
 refine ⟨_, (zpn (xae (i := 5) nd rfl (by walk_at "o") (pd Dl_good hr (pc (pv 0) (pc (pv 1) (pc (pv 2) (pc (xac iL (pv 3) pI (fun _ _ => rfl)) pN zss) zsn) zsn) zsn)))
   (zpn (xae (i := 6) nd rfl (by walk_at "o") (pd Dl_good hr (pc (pv 0) (pc (pv 1) (pc (pv 2) (pc pS pN zso) zsn) zsn) zsn)))
   (zpn (xap (pR xaq (pv 4) pI (nM _)) (zpn (xae (i := 7) nd rfl (by walk_at "o") (xat (pc (xah xas (xah op_pow pI pI) (pd Dl_take hr (pc (pv 0) (pc pI pN zso) zsn))) (pc (xah xa2 (xah xa2 (xah op_pow pI pI) pI) (pd Dl_take hr (pc (pv 0) (pc pI pN zso) zsn))) pN xak) xak)))
   (po (xad (xaa (pc pS (pc pS (pc (xaa (pc pS (pc (xac iL (pv 7) (pd Dl_take hr (pc (pv 0) (pc pI pN zso) zsn)) (fun _ _ => rfl)) pN zss) zso)) pN sT) zso) zso))))) pQ)
   (zpn (xap (pR xaq (pv 4) pI (nM _)) (po (xad (xaa (pc pS (pc pS (pc (xaa (pc pS (pc (xac iL (pv 3) (xah xas pI (pd Dl_take hr (pc (pv 0) (pc pI pN zso) zsn))) (fun _ _ => rfl)) pN zss) zso)) pN sT) zso) zso)))) pQ)
   (zpn (xap (pR xaq (pv 4) pI (nM _)) (zpn (xae (i := 8) nd rfl (by walk_at "o") (xat (pc (xaa (pc pS (pc pS (pc (pv 6) (pc (pv 5) pN zsn) zsn) zso) zso)) (pc (xaa (pc pS (pc pS (pc (pv 5) (pc (pv 6) pN zsn) zsn) zso) zso)) (pc (xaa (pc pS (pc pS (pc (pv 5) (pc (pv 5) pN zsn) zsn) zso) zso)) pN sT) sT) sT)))
   (po (xad (xaa (pc pS (pc pS (pc (xac iL (pv 8) (pd Dl_take hr (pc (pv 0) (pc pI pN zso) zsn)) (fun _ _ => rfl)) pN zss) zso) zso))))) pQ)
   (zpn (xap (pR xaq (pv 4) pI (nM _)) (po (xad (xaa (pc pS (pc pe_non (pc (xac iL (xat (pc (xaa (pc pS (pc (xac iL (pv 3) pI (fun _ _ => rfl)) (pc (xaa pN) pN sT) zss) zso)) (pc (xaa (pc pS (pc (xac iL (pv 3) pI (fun _ _ => rfl)) (pc (xac iL (pv 3) pI (fun _ _ => rfl)) (pc (pv 6) pN zsn) zss) zss) zso)) pN sT) sT)) (pd Dl_take hr (pc (pv 0) (pc pI pN zso) zsn)) (fun _ _ => rfl)) pN zss) zso) zso)))) pQ)
   (zpn (xap (pR xaq (pv 4) pI (nM _)) (po (xad (xaa (pc pS (pc pe_non (pc (xac iL (xat (pc (xaa (pc pS (pc (xac iL (pv 3) pI (fun _ _ => rfl)) (pc (xaa (pc (pv 6) (pc (pv 5) pN zsn) zsn)) pN sT) zss) zso)) (pc (xaa (pc pS (pc (xac iL (pv 3) pI (fun _ _ => rfl)) (pc (xac iL (pv 3) pI (fun _ _ => rfl)) (pc (pv 6) pN zsn) zss) zss) zso)) pN sT) sT)) (pd Dl_take hr (pc (pv 0) (pc pI pN zso) zsn)) (fun _ _ => rfl)) pN zss) zso) zso)))) pQ)
   (zpn (xap (pR xaq (pv 4) pI (nM _)) (zpn (xae (i := 9) nd rfl (by walk_at "o") (pd Dl_good hr (pc (pv 0) (pc (pv 1) (pc (pv 2) (pc (xac xao (xac xao (xac xao (xac xao (pv 1) (pe_un un_neg pI) (fun _ _ => rfl)) pI (fun _ _ => rfl)) pI (fun _ _ => rfl)) pI (fun _ _ => rfl)) pN zss) zsn) zsn) zsn)))
   (po (xad (xaa (pc pS (pc (xac iL (pv 3) pI (fun _ _ => rfl)) (pc (xaa (pc pS (pc (xac iL (pv 3) pI (fun _ _ => rfl)) (pc (xac iL (xat (pc (xaa (pc (pv 6) pN zsn)) (pc (xaa (pc (pv 6) (pc (pv 9) (pc (pv 6) pN zsn) zsn) zsn)) (pc (xaa pN) pN sT) sT) sT)) (pd Dl_take hr (pc (pv 0) (pc pI pN zso) zsn)) (fun _ _ => rfl)) pN zss) zss) zso)) pN sT) zss) zso))))) pQ)
   (zpn (xap (pR xaq (pv 4) pI (nM _)) (zpn (xae (i := 9) nd rfl (by walk_at "o") (pd Dl_good hr (pc (pv 0) (pc (pv 1) (pc (pv 2) (pc (xac xao (xac xao (xac xao (xac xao (pv 1) (pe_un un_neg pI) (fun _ _ => rfl)) pI (fun _ _ => rfl)) pI (fun _ _ => rfl)) pI (fun _ _ => rfl)) pN zss) zsn) zsn) zsn)))
   (zpn (xae (i := 10) nd rfl (by walk_at "o") (xac iL (xat (pc (pv 6) (pc (pv 5) pN zsn) zsn)) (xa0 call_int1 rfl T.z_int PyProof.Rows.boot_int (pc (pe_cmpR xaq (xac xao (xac xao (xac xao (xac xao (pv 1) (pe_un un_neg pI) (fun _ _ => rfl)) pI (fun _ _ => rfl)) pI (fun _ _ => rfl)) pI (fun _ _ => rfl)) pS (nM _)) pN star_cmp)) (fun _ _ => rfl)))
   (po (xad (xaa (pc pS (pc (xac iL (pv 3) pI (fun _ _ => rfl)) (pc (xaa (pc pS (pc (xac iL (pv 3) pI (fun _ _ => rfl)) (pc (xac iL (xat (pc (xaa (pc (pv 5) (pc (pv 9) pN zsn) zsn)) (pc (xaa (pc (pv 6) (pc (pv 10) pN zsn) zsn)) pN sT) sT)) (pd Dl_take hr (pc (pv 0) (pc pI pN zso) zsn)) (fun _ _ => rfl)) pN zss) zss) zso)) pN sT) zss) zso)))))) pQ)
   (zpn (xap (pR xaq (pv 4) pI (nM _)) (zpn (xae (i := 11) nd rfl (by walk_at "o") (pd Dl_good hr (pc (pv 0) (pc (pv 1) (pc (pv 2) (pc (xac iL (pv 3) pI (fun _ _ => rfl)) pN zss) zsn) zsn) zsn)))
   (po (xad (xaa (pc pS (pc pe_non (pc (xaa (pc pS (pc (xac iL (xat (pc (pv 6) (pc (pv 11) pN zsn) zsn)) (pd Dl_take hr (pc (pv 0) (pc pI pN zso) zsn)) (fun _ _ => rfl)) (pc (xac iL (pv 3) pI (fun _ _ => rfl)) pN zss) zss) zso)) pN sT) zso) zso))))) pQ)
   (po (xad (xaa (pc pS (pc pe_non (pc (xaa (pc pS (pc (pv 5) (pc (xac iL (pv 3) pI (fun _ _ => rfl)) pN zss) zsn) zso)) pN sT) zso) zso)))))))))))))), ?_⟩
 obtain ⟨p0, q0, h0⟩ := c0.ti.fd
 have F0 := Fed.refl h0
 refine ⟨_, rfl, _, rfl, _, rfl, _, rfl, nb, _, _, _, rfl, rfl, c0.at, c0.nm 4, f', kv, bv, ks, bs, nm nms 4, rfl, c0.ti, c0.kc.k4, fun aR dR H1 f1 rR gR => ?_⟩
 obtain ⟨c1, F1, tp1⟩ := stf c0 F0 f1
 refine ⟨_, rfl, _, rfl, _, rfl, f', kv, bv, ks, bs, S "num", rfl, c1.ti, .inl rfl, fun aO dO H2 f2 rO gO => ?_⟩
 obtain ⟨c2, F2, tp2⟩ := stf c1 F1 f2
 refine ⟨_, rfl, rfl, _, rfl, ite2 (fun _ => ?_) (fun _ => ?_)⟩
 ·obtain ⟨pp3, qq3, hh3⟩ := c2.ti.fd
  refine ⟨_, _, rfl, rfl, ⟨by decide, by decide, by decide⟩, _, rfl, f', pp3, qq3, _, rfl, hh3, by decide, by decide, fun r3 H3 r3a r3b f3 => ⟨_, _, rfl, rfl, ?_⟩⟩
  obtain ⟨c3, F3, tp3⟩ := stf c2 F2 f3
  obtain ⟨pp4, qq4, hh4⟩ := c3.ti.fd
  refine ⟨_, _, rfl, rfl, ⟨by decide, by decide, by decide⟩, _, _, rfl, rfl, _, rfl, f', pp4, qq4, _, rfl, hh4, by decide, by decide, fun r4 H4 r4a r4b f4 => ⟨_, _, rfl, rfl, (by walk_at "s"), fun l hl => ?_⟩⟩
  obtain ⟨c4, F4, tp4⟩ := stf c3 F3 f4
  have y5 := Same.new hl (.lst [.int (4294967296 + r3), .int (10000000000 - 1 - r4)])
  have lf : l ≠ f' := Ne.symm (neN c4.ti.fd.choose_spec.choose_spec hl)
  obtain ⟨c5, F5, tp5⟩ := sts c4 F4 y5
  obtain ⟨pp6, qq6, hh6⟩ := c5.ti.fd
  refine ⟨_, rfl, _, rfl, f', pp6, qq6, _, rfl, hh6, by decide, by decide, fun r6 H6 r6a r6b f6 => ?_⟩
  obtain ⟨c6, F6, tp6⟩ := stf c5 F5 f6
  have hr3 : r6 = 0 \/ r6 = 1 := by omega
  rcases hr3 with rfl | rfl
  ·refine ⟨l, _, _, .int (4294967296 + r3), rfl, rfl, SqL.of (f6.1 _ _ ups lf), xai (j := 0) rfl, (by walk_at "s"), fun t7 ht7 => ?_⟩
   have y7 := Same.new ht7 (.tup [.str (S "num"), .int (4294967296 + r3)])
   obtain ⟨c7, F7, tp7⟩ := sts c6 F6 y7
   refine ⟨(by walk_at "s"), fun t8 ht8 => ?_⟩
   have y8 := Same.new ht8 (.tup [.str (S "kind"), .str (S "num"), .ref t7])
   obtain ⟨c8, F8, tp8⟩ := sts c7 F7 y8
   exact q t8 _ _ _ (.tup [.str (S "num"), .int (4294967296 + r3)]) 4 _ F8 ups ⟨t7, _, rfl, (tp8 _ _ ups), _, _, rfl, rfl, _, _, rfl, rfl, rfl⟩ (fun env hx hs => kt_num (by omega) (by omega)) (.inr (.inl ⟨rfl, rfl⟩)) (.inr ⟨_, rfl, .inl rfl⟩)
  ·refine ⟨l, _, _, .int (10000000000 - 1 - r4), rfl, rfl, SqL.of (f6.1 _ _ ups lf), xai (j := 1) rfl, (by walk_at "s"), fun t7 ht7 => ?_⟩
   have y7 := Same.new ht7 (.tup [.str (S "num"), .int (10000000000 - 1 - r4)])
   obtain ⟨c7, F7, tp7⟩ := sts c6 F6 y7
   refine ⟨(by walk_at "s"), fun t8 ht8 => ?_⟩
   have y8 := Same.new ht8 (.tup [.str (S "kind"), .str (S "num"), .ref t7])
   obtain ⟨c8, F8, tp8⟩ := sts c7 F7 y8
   exact q t8 _ _ _ (.tup [.str (S "num"), .int (10000000000 - 1 - r4)]) 4 _ F8 ups ⟨t7, _, rfl, (tp8 _ _ ups), _, _, rfl, rfl, _, _, rfl, rfl, rfl⟩ (fun env hx hs => kt_num (by omega) (by omega)) (.inr (.inl ⟨rfl, rfl⟩)) (.inr ⟨_, rfl, .inl rfl⟩)
 refine ⟨_, rfl, rfl, _, rfl, ite2 (fun _ => ?_) (fun _ => ?_)⟩
 ·obtain ⟨pp3, qq3, hh3⟩ := c2.ti.fd
  refine ⟨_, rfl, _, rfl, f', pp3, qq3, _, rfl, hh3, by decide, by decide, fun r3 H3 r3a r3b f3 => ⟨_, _, rfl, rfl, ?_⟩⟩
  obtain ⟨c3, F3, tp3⟩ := stf c2 F2 f3
  have hr3 : r3 = 0 \/ r3 = 1 := by omega
  rcases hr3 with rfl | rfl
  ·refine ⟨nb, _, _, _, rfl, rfl, c3.at, c3.nm 22, (by walk_at "s"), fun t4 ht4 => ?_⟩
   have y4 := Same.new ht4 (.tup [.str (S "box"), .str (nm nms 22)])
   obtain ⟨c4, F4, tp4⟩ := sts c3 F3 y4
   refine ⟨(by walk_at "s"), fun t5 ht5 => ?_⟩
   have y5 := Same.new ht5 (.tup [.str (S "name"), .str (S "num"), .ref t4])
   obtain ⟨c5, F5, tp5⟩ := sts c4 F4 y5
   exact q t5 _ _ _ (.tup [.str (S "box"), .str (nm nms 22)]) 2 _ F5 ups ⟨t4, _, rfl, (tp5 _ _ ups), _, _, rfl, rfl, _, _, rfl, rfl, rfl⟩ (fun env hx hs => kt_box (fx_n hx (by decide)) (nm_len c0.kc.ok (by decide))) (.inl ⟨rfl, rfl⟩) (.inr ⟨_, rfl, .inl rfl⟩)
  ·refine ⟨nb, _, _, _, rfl, rfl, c3.at, c3.nm 23, (by walk_at "s"), fun t4 ht4 => ?_⟩
   have y4 := Same.new ht4 (.tup [.str (S "box"), .str (nm nms 23)])
   obtain ⟨c4, F4, tp4⟩ := sts c3 F3 y4
   refine ⟨(by walk_at "s"), fun t5 ht5 => ?_⟩
   have y5 := Same.new ht5 (.tup [.str (S "name"), .str (S "num"), .ref t4])
   obtain ⟨c5, F5, tp5⟩ := sts c4 F4 y5
   exact q t5 _ _ _ (.tup [.str (S "box"), .str (nm nms 23)]) 2 _ F5 ups ⟨t4, _, rfl, (tp5 _ _ ups), _, _, rfl, rfl, _, _, rfl, rfl, rfl⟩ (fun env hx hs => kt_box (fx_n hx (by decide)) (nm_len c0.kc.ok (by decide))) (.inl ⟨rfl, rfl⟩) (.inr ⟨_, rfl, .inl rfl⟩)
 refine ⟨_, rfl, rfl, _, rfl, ite2 (fun _ => ?_) (fun _ => ?_)⟩
 ·refine ⟨_, rfl, _, rfl, (by walk_at "s"), fun t3 ht3 => ?_⟩
  have y3 := Same.new ht3 (.tup [.str (S "op"), .str (S "+"), .ref aO, .ref aR])
  obtain ⟨c3, F3, tp3⟩ := sts c2 F2 y3
  refine ⟨_, rfl, _, rfl, (by walk_at "s"), fun t4 ht4 => ?_⟩
  have y4 := Same.new ht4 (.tup [.str (S "op"), .str (S "="), .ref aR, .ref aO])
  obtain ⟨c4, F4, tp4⟩ := sts c3 F3 y4
  refine ⟨_, rfl, _, rfl, (by walk_at "s"), fun t5 ht5 => ?_⟩
  have y5 := Same.new ht5 (.tup [.str (S "op"), .str (S "<"), .ref aR, .ref aR])
  obtain ⟨c5, F5, tp5⟩ := sts c4 F4 y5
  refine ⟨(by walk_at "s"), fun t6 ht6 => ?_⟩
  have y6 := Same.new ht6 (.lst [.ref t3, .ref t4, .ref t5])
  obtain ⟨c6, F6, tp6⟩ := sts c5 F5 y6
  have lf : t6 ≠ f' := Ne.symm (neN c5.ti.fd.choose_spec.choose_spec ht6)
  refine ⟨_, rfl, ?_⟩
  obtain ⟨pp7, qq7, hh7⟩ := c6.ti.fd
  refine ⟨_, rfl, f', pp7, qq7, _, rfl, hh7, by decide, by decide, fun r7 H7 r7a r7b f7 => ?_⟩
  obtain ⟨c7, F7, tp7⟩ := stf c6 F6 f7
  have hr3 : r7 = 0 \/ r7 = 1 \/ r7 = 2 := by omega
  rcases hr3 with rfl | rfl | rfl
  ·refine ⟨t6, _, _, _, rfl, rfl, SqL.of (f7.1 _ _ ups lf), xai (j := 0) rfl, (by walk_at "s"), fun t8 ht8 => ?_⟩
   have y8 := Same.new ht8 (.tup [.str (S "kind"), .str (S "num"), .ref t3])
   obtain ⟨c8, F8, tp8⟩ := sts c7 F7 y8
   exact q t8 _ _ _ (.tup [.str (S "op"), .str (S "+"), dO, dR]) 4 _ F8 ups ⟨t3, _, rfl, (tp8 _ _ (tp7 _ _ (tp6 _ _ (tp5 _ _ (tp4 _ _ ups))))), _, _, rfl, rfl, _, _, rfl, rfl, _, _, rfl, ((((((rO.t tp3).t tp4).t tp5).t tp6).t tp7).t tp8), _, _, rfl, (((((((rR.t tp2).t tp3).t tp4).t tp5).t tp6).t tp7).t tp8), rfl⟩ (fun env hx hs => l9 (kt_opB (gO env hx.fk) (gR env hx.fk) (nk_ne (nm_num c0.kc.ok (by decide))))) (.inr (.inl ⟨rfl, rfl⟩)) (.inr ⟨_, rfl, .inl rfl⟩)
  ·refine ⟨t6, _, _, _, rfl, rfl, SqL.of (f7.1 _ _ ups lf), xai (j := 1) rfl, (by walk_at "s"), fun t8 ht8 => ?_⟩
   have y8 := Same.new ht8 (.tup [.str (S "kind"), .str (S "num"), .ref t4])
   obtain ⟨c8, F8, tp8⟩ := sts c7 F7 y8
   exact q t8 _ _ _ (.tup [.str (S "op"), .str (S "="), dR, dO]) 4 _ F8 ups ⟨t4, _, rfl, (tp8 _ _ (tp7 _ _ (tp6 _ _ (tp5 _ _ ups)))), _, _, rfl, rfl, _, _, rfl, rfl, _, _, rfl, (((((((rR.t tp2).t tp3).t tp4).t tp5).t tp6).t tp7).t tp8), _, _, rfl, ((((((rO.t tp3).t tp4).t tp5).t tp6).t tp7).t tp8), rfl⟩ (fun env hx hs => l9 (kt_opA (gR env hx.fk) (nk_ne (nm_num c0.kc.ok (by decide))))) (.inr (.inl ⟨rfl, rfl⟩)) (.inr ⟨_, rfl, .inl rfl⟩)
  ·refine ⟨t6, _, _, _, rfl, rfl, SqL.of (f7.1 _ _ ups lf), xai (j := 2) rfl, (by walk_at "s"), fun t8 ht8 => ?_⟩
   have y8 := Same.new ht8 (.tup [.str (S "kind"), .str (S "num"), .ref t5])
   obtain ⟨c8, F8, tp8⟩ := sts c7 F7 y8
   exact q t8 _ _ _ (.tup [.str (S "op"), .str (S "<"), dR, dR]) 4 _ F8 ups ⟨t5, _, rfl, (tp8 _ _ (tp7 _ _ (tp6 _ _ ups))), _, _, rfl, rfl, _, _, rfl, rfl, _, _, rfl, (((((((rR.t tp2).t tp3).t tp4).t tp5).t tp6).t tp7).t tp8), _, _, rfl, (((((((rR.t tp2).t tp3).t tp4).t tp5).t tp6).t tp7).t tp8), rfl⟩ (fun env hx hs => l9 (kt_opA (gR env hx.fk) (nk_ne (nm_num c0.kc.ok (by decide))))) (.inr (.inl ⟨rfl, rfl⟩)) (.inr ⟨_, rfl, .inl rfl⟩)
 refine ⟨_, rfl, rfl, _, rfl, ite2 (fun _ => ?_) (fun _ => ?_)⟩
 ·refine ⟨_, rfl, nb, _, _, _, rfl, rfl, c2.at, c2.nm 23, (by walk_at "s"), fun t3 ht3 => ?_⟩
  have y3 := Same.new ht3 (.tup [])
  obtain ⟨c3, F3, tp3⟩ := sts c2 F2 y3
  refine ⟨(by walk_at "s"), fun t4 ht4 => ?_⟩
  have y4 := Same.new ht4 (.tup [.str (S "rec"), .str (nm nms 23), .ref t3])
  obtain ⟨c4, F4, tp4⟩ := sts c3 F3 y4
  refine ⟨_, rfl, nb, _, _, _, rfl, rfl, c4.at, c4.nm 23, _, rfl, nb, _, _, _, rfl, rfl, c4.at, c4.nm 8, _, rfl, (by walk_at "s"), fun t5 ht5 => ?_⟩
  have y5 := Same.new ht5 (.tup [.str (S "tag"), .str (nm nms 23), .str (nm nms 8), .ref aO])
  obtain ⟨c5, F5, tp5⟩ := sts c4 F4 y5
  refine ⟨(by walk_at "s"), fun t6 ht6 => ?_⟩
  have y6 := Same.new ht6 (.lst [.ref t4, .ref t5])
  obtain ⟨c6, F6, tp6⟩ := sts c5 F5 y6
  have lf : t6 ≠ f' := Ne.symm (neN c5.ti.fd.choose_spec.choose_spec ht6)
  obtain ⟨pp7, qq7, hh7⟩ := c6.ti.fd
  refine ⟨_, rfl, f', pp7, qq7, _, rfl, hh7, by decide, by decide, fun r7 H7 r7a r7b f7 => ?_⟩
  obtain ⟨c7, F7, tp7⟩ := stf c6 F6 f7
  have hr3 : r7 = 0 \/ r7 = 1 := by omega
  rcases hr3 with rfl | rfl
  ·refine ⟨t6, _, _, _, rfl, rfl, SqL.of (f7.1 _ _ ups lf), xai (j := 0) rfl, (by walk_at "s"), fun t8 ht8 => ?_⟩
   have y8 := Same.new ht8 (.tup [.str (S "name"), .non, .ref t4])
   obtain ⟨c8, F8, tp8⟩ := sts c7 F7 y8
   exact q t8 _ _ _ (.tup [.str (S "rec"), .str (nm nms 23), (.tup [])]) 2 _ F8 ups ⟨t4, _, rfl, (tp8 _ _ (tp7 _ _ (tp6 _ _ (tp5 _ _ ups)))), _, _, rfl, rfl, _, _, rfl, rfl, _, _, rfl, ⟨t3, _, rfl, (tp8 _ _ (tp7 _ _ (tp6 _ _ (tp5 _ _ (tp4 _ _ ups))))), rfl⟩, rfl⟩ (fun env hx hs => l9 (kt_recS (sortR_none c0.kc.a23) (nm_len c0.kc.ok (by decide)))) (.inl ⟨rfl, rfl⟩) (.inl rfl)
  ·refine ⟨t6, _, _, _, rfl, rfl, SqL.of (f7.1 _ _ ups lf), xai (j := 1) rfl, (by walk_at "s"), fun t8 ht8 => ?_⟩
   have y8 := Same.new ht8 (.tup [.str (S "name"), .non, .ref t5])
   obtain ⟨c8, F8, tp8⟩ := sts c7 F7 y8
   exact q t8 _ _ _ (.tup [.str (S "tag"), .str (nm nms 23), .str (nm nms 8), dO]) 2 _ F8 ups ⟨t5, _, rfl, (tp8 _ _ (tp7 _ _ (tp6 _ _ ups))), _, _, rfl, rfl, _, _, rfl, rfl, _, _, rfl, rfl, _, _, rfl, ((((((rO.t tp3).t tp4).t tp5).t tp6).t tp7).t tp8), rfl⟩ (fun env hx hs => l9 (kt_tagS (sortR_none c0.kc.a23) (nm_len c0.kc.ok (by decide)))) (.inl ⟨rfl, rfl⟩) (.inl rfl)
 refine ⟨_, rfl, rfl, _, rfl, ite2 (fun _ => ?_) (fun _ => ?_)⟩
 ·refine ⟨_, rfl, nb, _, _, _, rfl, rfl, c2.at, c2.nm 5, _, rfl, _, rfl, (by walk_at "s"), fun t3 ht3 => ?_⟩
  have y3 := Same.new ht3 (.tup [.ref aO, .ref aR])
  obtain ⟨c3, F3, tp3⟩ := sts c2 F2 y3
  refine ⟨(by walk_at "s"), fun t4 ht4 => ?_⟩
  have y4 := Same.new ht4 (.tup [.str (S "rec"), .str (nm nms 5), .ref t3])
  obtain ⟨c4, F4, tp4⟩ := sts c3 F3 y4
  refine ⟨_, rfl, nb, _, _, _, rfl, rfl, c4.at, c4.nm 4, _, rfl, nb, _, _, _, rfl, rfl, c4.at, c4.nm 8, _, rfl, (by walk_at "s"), fun t5 ht5 => ?_⟩
  have y5 := Same.new ht5 (.tup [.str (S "tag"), .str (nm nms 4), .str (nm nms 8), .ref aO])
  obtain ⟨c5, F5, tp5⟩ := sts c4 F4 y5
  refine ⟨(by walk_at "s"), fun t6 ht6 => ?_⟩
  have y6 := Same.new ht6 (.lst [.ref t4, .ref t5])
  obtain ⟨c6, F6, tp6⟩ := sts c5 F5 y6
  have lf : t6 ≠ f' := Ne.symm (neN c5.ti.fd.choose_spec.choose_spec ht6)
  obtain ⟨pp7, qq7, hh7⟩ := c6.ti.fd
  refine ⟨_, rfl, f', pp7, qq7, _, rfl, hh7, by decide, by decide, fun r7 H7 r7a r7b f7 => ?_⟩
  obtain ⟨c7, F7, tp7⟩ := stf c6 F6 f7
  have hr3 : r7 = 0 \/ r7 = 1 := by omega
  rcases hr3 with rfl | rfl
  ·refine ⟨t6, _, _, _, rfl, rfl, SqL.of (f7.1 _ _ ups lf), xai (j := 0) rfl, (by walk_at "s"), fun t8 ht8 => ?_⟩
   have y8 := Same.new ht8 (.tup [.str (S "kind"), .non, .ref t4])
   obtain ⟨c8, F8, tp8⟩ := sts c7 F7 y8
   exact q t8 _ _ _ (.tup [.str (S "rec"), .str (nm nms 5), (.tup [dO, dR])]) 4 _ F8 ups ⟨t4, _, rfl, (tp8 _ _ (tp7 _ _ (tp6 _ _ (tp5 _ _ ups)))), _, _, rfl, rfl, _, _, rfl, rfl, _, _, rfl, ⟨t3, _, rfl, (tp8 _ _ (tp7 _ _ (tp6 _ _ (tp5 _ _ (tp4 _ _ ups))))), _, _, rfl, ((((((rO.t tp3).t tp4).t tp5).t tp6).t tp7).t tp8), _, _, rfl, (((((((rR.t tp2).t tp3).t tp4).t tp5).t tp6).t tp7).t tp8), rfl⟩, rfl⟩ (fun env hx hs => l9 (kt_recS (sortR_ne c0.kc.a5 sA) (nm_len c0.kc.ok (by decide)))) (.inr (.inl ⟨rfl, rfl⟩)) (.inl rfl)
  ·refine ⟨t6, _, _, _, rfl, rfl, SqL.of (f7.1 _ _ ups lf), xai (j := 1) rfl, (by walk_at "s"), fun t8 ht8 => ?_⟩
   have y8 := Same.new ht8 (.tup [.str (S "kind"), .non, .ref t5])
   obtain ⟨c8, F8, tp8⟩ := sts c7 F7 y8
   exact q t8 _ _ _ (.tup [.str (S "tag"), .str (nm nms 4), .str (nm nms 8), dO]) 4 _ F8 ups ⟨t5, _, rfl, (tp8 _ _ (tp7 _ _ (tp6 _ _ ups))), _, _, rfl, rfl, _, _, rfl, rfl, _, _, rfl, rfl, _, _, rfl, ((((((rO.t tp3).t tp4).t tp5).t tp6).t tp7).t tp8), rfl⟩ (fun env hx hs => l9 (kt_tagS (sortR_ne c0.kc.a4 sR) (nm_len c0.kc.ok (by decide)))) (.inr (.inl ⟨rfl, rfl⟩)) (.inl rfl)
 refine ⟨_, rfl, rfl, _, rfl, ite2 (fun _ => ?_) (fun _ => ?_)⟩
 ·refine ⟨_, rfl, _, rfl, _, rfl, ?_⟩
  obtain ⟨ka1, us1, b11, v11, v21, b21, v31, b41, ekv1, ha1, hi1, hb11, hb21, hb41⟩ := kx_at c2.ti.kd c2.kc
  refine ⟨_, rfl, _, rfl, ka1, us1, _, _, ekv1, rfl, SqT.of ha1, hi1, b11, _, _, _, rfl, rfl, SqT.of hb11, rfl, b21, _, _, _, rfl, rfl, SqT.of hb21, rfl, b41, _, _, _, rfl, rfl, SqT.of hb41, rfl, f', kv, bv, ks, bs, x, rfl, c2.ti, c2.kc.kx, fun a3 d3 H3 f3 r3 g3 => ?_⟩
  obtain ⟨c3, F3, tp3⟩ := stf c2 F2 f3
  refine ⟨_, rfl, nb, _, _, _, rfl, rfl, c3.at, c3.nm 4, _, rfl, nb, _, _, _, rfl, rfl, c3.at, c3.nm 4, _, rfl, (by walk_at "s"), fun t4 ht4 => ?_⟩
  have y4 := Same.new ht4 (.tup [.ref aO])
  obtain ⟨c4, F4, tp4⟩ := sts c3 F3 y4
  refine ⟨_, rfl, _, rfl, _, rfl, (by walk_at "s"), fun t5 ht5 => ?_⟩
  have y5 := Same.new ht5 (.tup [.ref aO, .ref a3, .ref aO])
  obtain ⟨c5, F5, tp5⟩ := sts c4 F4 y5
  refine ⟨(by walk_at "s"), fun t6 ht6 => ?_⟩
  have y6 := Same.new ht6 (.tup [])
  obtain ⟨c6, F6, tp6⟩ := sts c5 F5 y6
  refine ⟨(by walk_at "s"), fun t7 ht7 => ?_⟩
  have y7 := Same.new ht7 (.lst [.ref t4, .ref t5, .ref t6])
  obtain ⟨c7, F7, tp7⟩ := sts c6 F6 y7
  have lf : t7 ≠ f' := Ne.symm (neN c6.ti.fd.choose_spec.choose_spec ht7)
  obtain ⟨pp8, qq8, hh8⟩ := c7.ti.fd
  refine ⟨_, rfl, f', pp8, qq8, _, rfl, hh8, by decide, by decide, fun r8 H8 r8a r8b f8 => ?_⟩
  obtain ⟨c8, F8, tp8⟩ := stf c7 F7 f8
  have hr3 : r8 = 0 \/ r8 = 1 \/ r8 = 2 := by omega
  rcases hr3 with rfl | rfl | rfl
  ·refine ⟨t7, _, _, _, rfl, rfl, SqL.of (f8.1 _ _ ups lf), xai (j := 0) rfl, (by walk_at "s"), fun t9 ht9 => ?_⟩
   have y9 := Same.new ht9 (.tup [.str (S "rec"), .str (nm nms 4), .ref t4])
   obtain ⟨c9, F9, tp9⟩ := sts c8 F8 y9
   refine ⟨(by walk_at "s"), fun t10 ht10 => ?_⟩
   have y10 := Same.new ht10 (.tup [.str (S "count"), .str (nm nms 4), .ref t9])
   obtain ⟨c10, F10, tp10⟩ := sts c9 F9 y10
   exact q t10 _ _ _ (.tup [.str (S "rec"), .str (nm nms 4), (.tup [dO])]) 3 _ F10 ups ⟨t9, _, rfl, (tp10 _ _ ups), _, _, rfl, rfl, _, _, rfl, rfl, _, _, rfl, ⟨t4, _, rfl, (tp10 _ _ (tp9 _ _ (tp8 _ _ (tp7 _ _ (tp6 _ _ (tp5 _ _ ups)))))), _, _, rfl, ((((((((rO.t tp3).t tp4).t tp5).t tp6).t tp7).t tp8).t tp9).t tp10), rfl⟩, rfl⟩ (fun env hx hs => l9 (kt_recN c0.kc.a4 rfl (by show 1 ≠ 2; decide))) (.inr (.inr (.inl ⟨rfl, rfl⟩))) (.inr ⟨_, rfl, c0.kc.k4⟩)
  ·refine ⟨t7, _, _, _, rfl, rfl, SqL.of (f8.1 _ _ ups lf), xai (j := 1) rfl, (by walk_at "s"), fun t9 ht9 => ?_⟩
   have y9 := Same.new ht9 (.tup [.str (S "rec"), .str (nm nms 4), .ref t5])
   obtain ⟨c9, F9, tp9⟩ := sts c8 F8 y9
   refine ⟨(by walk_at "s"), fun t10 ht10 => ?_⟩
   have y10 := Same.new ht10 (.tup [.str (S "count"), .str (nm nms 4), .ref t9])
   obtain ⟨c10, F10, tp10⟩ := sts c9 F9 y10
   exact q t10 _ _ _ (.tup [.str (S "rec"), .str (nm nms 4), (.tup [dO, d3, dO])]) 3 _ F10 ups ⟨t9, _, rfl, (tp10 _ _ ups), _, _, rfl, rfl, _, _, rfl, rfl, _, _, rfl, ⟨t5, _, rfl, (tp10 _ _ (tp9 _ _ (tp8 _ _ (tp7 _ _ (tp6 _ _ ups))))), _, _, rfl, ((((((((rO.t tp3).t tp4).t tp5).t tp6).t tp7).t tp8).t tp9).t tp10), _, _, rfl, (((((((r3.t tp4).t tp5).t tp6).t tp7).t tp8).t tp9).t tp10), _, _, rfl, ((((((((rO.t tp3).t tp4).t tp5).t tp6).t tp7).t tp8).t tp9).t tp10), rfl⟩, rfl⟩ (fun env hx hs => l9 (kt_recN c0.kc.a4 rfl (by show 3 ≠ 2; decide))) (.inr (.inr (.inl ⟨rfl, rfl⟩))) (.inr ⟨_, rfl, c0.kc.k4⟩)
  ·refine ⟨t7, _, _, _, rfl, rfl, SqL.of (f8.1 _ _ ups lf), xai (j := 2) rfl, (by walk_at "s"), fun t9 ht9 => ?_⟩
   have y9 := Same.new ht9 (.tup [.str (S "rec"), .str (nm nms 4), .ref t6])
   obtain ⟨c9, F9, tp9⟩ := sts c8 F8 y9
   refine ⟨(by walk_at "s"), fun t10 ht10 => ?_⟩
   have y10 := Same.new ht10 (.tup [.str (S "count"), .str (nm nms 4), .ref t9])
   obtain ⟨c10, F10, tp10⟩ := sts c9 F9 y10
   exact q t10 _ _ _ (.tup [.str (S "rec"), .str (nm nms 4), (.tup [])]) 3 _ F10 ups ⟨t9, _, rfl, (tp10 _ _ ups), _, _, rfl, rfl, _, _, rfl, rfl, _, _, rfl, ⟨t6, _, rfl, (tp10 _ _ (tp9 _ _ (tp8 _ _ (tp7 _ _ ups)))), rfl⟩, rfl⟩ (fun env hx hs => l9 (kt_recN c0.kc.a4 rfl (by show 0 ≠ 2; decide))) (.inr (.inr (.inl ⟨rfl, rfl⟩))) (.inr ⟨_, rfl, c0.kc.k4⟩)
 refine ⟨_, rfl, rfl, _, rfl, ite2 (fun _ => ?_) (fun _ => ?_)⟩
 ·refine ⟨_, rfl, _, rfl, _, rfl, ?_⟩
  obtain ⟨ka1, us1, b11, v11, v21, b21, v31, b41, ekv1, ha1, hi1, hb11, hb21, hb41⟩ := kx_at c2.ti.kd c2.kc
  refine ⟨_, rfl, _, rfl, ka1, us1, _, _, ekv1, rfl, SqT.of ha1, hi1, b11, _, _, _, rfl, rfl, SqT.of hb11, rfl, b21, _, _, _, rfl, rfl, SqT.of hb21, rfl, b41, _, _, _, rfl, rfl, SqT.of hb41, rfl, f', kv, bv, ks, bs, x, rfl, c2.ti, c2.kc.kx, fun a3 d3 H3 f3 r3 g3 => ?_⟩
  obtain ⟨c3, F3, tp3⟩ := stf c2 F2 f3
  refine ⟨_, rfl, _, rfl, (by walk_at "s"), fun l4 hl4 => ?_⟩
  have y4 := Same.new hl4 (.lst [.ref aO, .ref aR])
  obtain ⟨c4, F4, tp4⟩ := sts c3 F3 y4
  obtain ⟨ka2, us2, b12, v12, v22, b22, v32, b42, ekv2, ha2, hi2, hb12, hb22, hb42⟩ := kx_at c4.ti.kd c4.kc
  refine ⟨_, rfl, _, rfl, ka2, us2, _, _, ekv2, rfl, SqT.of ha2, hi2, b12, _, _, _, rfl, rfl, SqT.of hb12, rfl, b22, _, _, _, rfl, rfl, SqT.of hb22, rfl, b42, _, _, _, rfl, rfl, SqT.of hb42, rfl, rfl, .inr ⟨_, rfl, ?_⟩⟩
  by_cases hxn : x = S "num"
  ·refine ⟨l4, _, _, _, rfl, rfl, SqL.of ups, at2t (decide_eq_true (congrArg V.str hxn)), ?_⟩
   refine ⟨_, rfl, nb, _, _, _, rfl, rfl, c4.at, c4.nm 4, _, rfl, nb, _, _, _, rfl, rfl, c4.at, c4.nm 4, _, rfl, _, rfl, (by walk_at "s"), fun t5 ht5 => ?_⟩
   have y5 := Same.new ht5 (.tup [.ref aR, .ref a3])
   obtain ⟨c5, F5, tp5⟩ := sts c4 F4 y5
   refine ⟨_, rfl, _, rfl, (by walk_at "s"), fun t6 ht6 => ?_⟩
   have y6 := Same.new ht6 (.tup [.ref aO, .ref aR])
   obtain ⟨c6, F6, tp6⟩ := sts c5 F5 y6
   refine ⟨(by walk_at "s"), fun t7 ht7 => ?_⟩
   have y7 := Same.new ht7 (.lst [.ref t5, .ref t6])
   obtain ⟨c7, F7, tp7⟩ := sts c6 F6 y7
   have lf : t7 ≠ f' := Ne.symm (neN c6.ti.fd.choose_spec.choose_spec ht7)
   obtain ⟨pp8, qq8, hh8⟩ := c7.ti.fd
   refine ⟨_, rfl, f', pp8, qq8, _, rfl, hh8, by decide, by decide, fun r8 H8 r8a r8b f8 => ?_⟩
   obtain ⟨c8, F8, tp8⟩ := stf c7 F7 f8
   have hr3 : r8 = 0 \/ r8 = 1 := by omega
   rcases hr3 with rfl | rfl
   ·refine ⟨t7, _, _, _, rfl, rfl, SqL.of (f8.1 _ _ ups lf), xai (j := 0) rfl, (by walk_at "s"), fun t9 ht9 => ?_⟩
    have y9 := Same.new ht9 (.tup [.str (S "rec"), .str (nm nms 4), .ref t5])
    obtain ⟨c9, F9, tp9⟩ := sts c8 F8 y9
    refine ⟨(by walk_at "s"), fun t10 ht10 => ?_⟩
    have y10 := Same.new ht10 (.tup [.str (S "kind"), .str (nm nms 4), .ref t9])
    obtain ⟨c10, F10, tp10⟩ := sts c9 F9 y10
    exact q t10 _ _ _ (.tup [.str (S "rec"), .str (nm nms 4), (.tup [dR, d3])]) 4 _ F10 ups ⟨t9, _, rfl, (tp10 _ _ ups), _, _, rfl, rfl, _, _, rfl, rfl, _, _, rfl, ⟨t5, _, rfl, (tp10 _ _ (tp9 _ _ (tp8 _ _ (tp7 _ _ (tp6 _ _ ups))))), _, _, rfl, (((((((((rR.t tp2).t tp3).t tp4).t tp5).t tp6).t tp7).t tp8).t tp9).t tp10), _, _, rfl, (((((((r3.t tp4).t tp5).t tp6).t tp7).t tp8).t tp9).t tp10), rfl⟩, rfl⟩ (fun env hx hs => l9 (kt_recF c0.kc.a4 rfl rfl ⟨_, gR env hx.fk, .inl ⟨4, nk_ne (nm_num c0.kc.ok (by decide)), rfl⟩⟩)) (.inr (.inl ⟨rfl, rfl⟩)) (.inr ⟨_, rfl, c0.kc.k4⟩)
   ·refine ⟨t7, _, _, _, rfl, rfl, SqL.of (f8.1 _ _ ups lf), xai (j := 1) rfl, (by walk_at "s"), fun t9 ht9 => ?_⟩
    have y9 := Same.new ht9 (.tup [.str (S "rec"), .str (nm nms 4), .ref t6])
    obtain ⟨c9, F9, tp9⟩ := sts c8 F8 y9
    refine ⟨(by walk_at "s"), fun t10 ht10 => ?_⟩
    have y10 := Same.new ht10 (.tup [.str (S "kind"), .str (nm nms 4), .ref t9])
    obtain ⟨c10, F10, tp10⟩ := sts c9 F9 y10
    exact q t10 _ _ _ (.tup [.str (S "rec"), .str (nm nms 4), (.tup [dO, dR])]) 4 _ F10 ups ⟨t9, _, rfl, (tp10 _ _ ups), _, _, rfl, rfl, _, _, rfl, rfl, _, _, rfl, ⟨t6, _, rfl, (tp10 _ _ (tp9 _ _ (tp8 _ _ (tp7 _ _ ups)))), _, _, rfl, ((((((((rO.t tp3).t tp4).t tp5).t tp6).t tp7).t tp8).t tp9).t tp10), _, _, rfl, (((((((((rR.t tp2).t tp3).t tp4).t tp5).t tp6).t tp7).t tp8).t tp9).t tp10), rfl⟩, rfl⟩ (fun env hx hs => l9 (kt_recF c0.kc.a4 rfl rfl ⟨_, gO env hx.fk, .inr ⟨nk_ok, _, gR env hx.fk, .inl ⟨4, nk_ne (fun e => nm_num c0.kc.ok (by decide) (e.trans hxn)), rfl⟩⟩⟩)) (.inr (.inl ⟨rfl, rfl⟩)) (.inr ⟨_, rfl, c0.kc.k4⟩)
  ·refine ⟨l4, _, _, _, rfl, rfl, SqL.of ups, at2f (decide_eq_false (fun z => hxn (V.str.inj z))), ?_⟩
   refine ⟨_, rfl, nb, _, _, _, rfl, rfl, c4.at, c4.nm 4, _, rfl, nb, _, _, _, rfl, rfl, c4.at, c4.nm 4, _, rfl, _, rfl, (by walk_at "s"), fun t5 ht5 => ?_⟩
   have y5 := Same.new ht5 (.tup [.ref aR, .ref a3])
   obtain ⟨c5, F5, tp5⟩ := sts c4 F4 y5
   refine ⟨_, rfl, _, rfl, (by walk_at "s"), fun t6 ht6 => ?_⟩
   have y6 := Same.new ht6 (.tup [.ref aO, .ref aO])
   obtain ⟨c6, F6, tp6⟩ := sts c5 F5 y6
   refine ⟨(by walk_at "s"), fun t7 ht7 => ?_⟩
   have y7 := Same.new ht7 (.lst [.ref t5, .ref t6])
   obtain ⟨c7, F7, tp7⟩ := sts c6 F6 y7
   have lf : t7 ≠ f' := Ne.symm (neN c6.ti.fd.choose_spec.choose_spec ht7)
   obtain ⟨pp8, qq8, hh8⟩ := c7.ti.fd
   refine ⟨_, rfl, f', pp8, qq8, _, rfl, hh8, by decide, by decide, fun r8 H8 r8a r8b f8 => ?_⟩
   obtain ⟨c8, F8, tp8⟩ := stf c7 F7 f8
   have hr3 : r8 = 0 \/ r8 = 1 := by omega
   rcases hr3 with rfl | rfl
   ·refine ⟨t7, _, _, _, rfl, rfl, SqL.of (f8.1 _ _ ups lf), xai (j := 0) rfl, (by walk_at "s"), fun t9 ht9 => ?_⟩
    have y9 := Same.new ht9 (.tup [.str (S "rec"), .str (nm nms 4), .ref t5])
    obtain ⟨c9, F9, tp9⟩ := sts c8 F8 y9
    refine ⟨(by walk_at "s"), fun t10 ht10 => ?_⟩
    have y10 := Same.new ht10 (.tup [.str (S "kind"), .str (nm nms 4), .ref t9])
    obtain ⟨c10, F10, tp10⟩ := sts c9 F9 y10
    exact q t10 _ _ _ (.tup [.str (S "rec"), .str (nm nms 4), (.tup [dR, d3])]) 4 _ F10 ups ⟨t9, _, rfl, (tp10 _ _ ups), _, _, rfl, rfl, _, _, rfl, rfl, _, _, rfl, ⟨t5, _, rfl, (tp10 _ _ (tp9 _ _ (tp8 _ _ (tp7 _ _ (tp6 _ _ ups))))), _, _, rfl, (((((((((rR.t tp2).t tp3).t tp4).t tp5).t tp6).t tp7).t tp8).t tp9).t tp10), _, _, rfl, (((((((r3.t tp4).t tp5).t tp6).t tp7).t tp8).t tp9).t tp10), rfl⟩, rfl⟩ (fun env hx hs => l9 (kt_recF c0.kc.a4 rfl rfl ⟨_, gR env hx.fk, .inl ⟨4, nk_ne (nm_num c0.kc.ok (by decide)), rfl⟩⟩)) (.inr (.inl ⟨rfl, rfl⟩)) (.inr ⟨_, rfl, c0.kc.k4⟩)
   ·refine ⟨t7, _, _, _, rfl, rfl, SqL.of (f8.1 _ _ ups lf), xai (j := 1) rfl, (by walk_at "s"), fun t9 ht9 => ?_⟩
    have y9 := Same.new ht9 (.tup [.str (S "rec"), .str (nm nms 4), .ref t6])
    obtain ⟨c9, F9, tp9⟩ := sts c8 F8 y9
    refine ⟨(by walk_at "s"), fun t10 ht10 => ?_⟩
    have y10 := Same.new ht10 (.tup [.str (S "kind"), .str (nm nms 4), .ref t9])
    obtain ⟨c10, F10, tp10⟩ := sts c9 F9 y10
    exact q t10 _ _ _ (.tup [.str (S "rec"), .str (nm nms 4), (.tup [dO, dO])]) 4 _ F10 ups ⟨t9, _, rfl, (tp10 _ _ ups), _, _, rfl, rfl, _, _, rfl, rfl, _, _, rfl, ⟨t6, _, rfl, (tp10 _ _ (tp9 _ _ (tp8 _ _ (tp7 _ _ ups)))), _, _, rfl, ((((((((rO.t tp3).t tp4).t tp5).t tp6).t tp7).t tp8).t tp9).t tp10), _, _, rfl, ((((((((rO.t tp3).t tp4).t tp5).t tp6).t tp7).t tp8).t tp9).t tp10), rfl⟩, rfl⟩ (fun env hx hs => l9 (kt_recF c0.kc.a4 rfl rfl ⟨_, gO env hx.fk, .inr ⟨nk_ok, _, gO env hx.fk, .inl ⟨4, nk_ne (fun e => hxn e.symm), rfl⟩⟩⟩)) (.inr (.inl ⟨rfl, rfl⟩)) (.inr ⟨_, rfl, c0.kc.k4⟩)
 refine ⟨_, rfl, rfl, _, rfl, ite2 (fun _ => ?_) (fun _ => ?_)⟩
 ·refine ⟨_, rfl, _, rfl, _, rfl, _, rfl, nb, _, _, _, rfl, rfl, c2.at, c2.nm 5, f', kv, bv, ks, bs, (nm nms 5), rfl, c2.ti, c2.kc.k5, fun a3 d3 H3 f3 r3 g3 => ?_⟩
  obtain ⟨c3, F3, tp3⟩ := stf c2 F2 f3
  refine ⟨_, rfl, _, rfl, (by walk_at "s"), fun t4 ht4 => ?_⟩
  have y4 := Same.new ht4 (.lst [.ref aO, .ref a3])
  obtain ⟨c4, F4, tp4⟩ := sts c3 F3 y4
  have lf : t4 ≠ f' := Ne.symm (neN c3.ti.fd.choose_spec.choose_spec ht4)
  obtain ⟨pp5, qq5, hh5⟩ := c4.ti.fd
  refine ⟨_, rfl, f', pp5, qq5, _, rfl, hh5, by decide, by decide, fun r5 H5 r5a r5b f5 => ?_⟩
  obtain ⟨c5, F5, tp5⟩ := stf c4 F4 f5
  have hr3 : r5 = 0 \/ r5 = 1 := by omega
  rcases hr3 with rfl | rfl
  ·refine ⟨t4, _, _, _, rfl, rfl, SqL.of (f5.1 _ _ ups lf), xai (j := 0) rfl, ?_⟩
   refine ⟨_, rfl, nb, _, _, _, rfl, rfl, c5.at, c5.nm 8, (by walk_at "s"), fun t6 ht6 => ?_⟩
   have y6 := Same.new ht6 (.tup [.str (S "get"), .ref aO, .str (nm nms 8)])
   obtain ⟨c6, F6, tp6⟩ := sts c5 F5 y6
   refine ⟨(by walk_at "s"), fun t7 ht7 => ?_⟩
   have y7 := Same.new ht7 (.tup [.str (S "kind"), .non, .ref t6])
   obtain ⟨c7, F7, tp7⟩ := sts c6 F6 y7
   exact q t7 _ _ _ (.tup [.str (S "get"), dO, .str (nm nms 8)]) 4 _ F7 ups ⟨t6, _, rfl, (tp7 _ _ ups), _, _, rfl, rfl, _, _, rfl, (((((rO.t tp3).t tp4).t tp5).t tp6).t tp7), _, _, rfl, rfl, rfl⟩ (fun env hx hs => l9 (kt_getS (gO env hx.fk) (ksR_none c0.kc.num))) (.inr (.inl ⟨rfl, rfl⟩)) (.inl rfl)
  ·refine ⟨t4, _, _, _, rfl, rfl, SqL.of (f5.1 _ _ ups lf), xai (j := 1) rfl, ?_⟩
   refine ⟨_, rfl, nb, _, _, _, rfl, rfl, c5.at, c5.nm 8, (by walk_at "s"), fun t6 ht6 => ?_⟩
   have y6 := Same.new ht6 (.tup [.str (S "get"), .ref a3, .str (nm nms 8)])
   obtain ⟨c6, F6, tp6⟩ := sts c5 F5 y6
   refine ⟨(by walk_at "s"), fun t7 ht7 => ?_⟩
   have y7 := Same.new ht7 (.tup [.str (S "kind"), .non, .ref t6])
   obtain ⟨c7, F7, tp7⟩ := sts c6 F6 y7
   exact q t7 _ _ _ (.tup [.str (S "get"), d3, .str (nm nms 8)]) 4 _ F7 ups ⟨t6, _, rfl, (tp7 _ _ ups), _, _, rfl, rfl, _, _, rfl, ((((r3.t tp4).t tp5).t tp6).t tp7), _, _, rfl, rfl, rfl⟩ (fun env hx hs => l9 (kt_getS (g3 env hx.fk) (ksR_ne c0.kc.a5 sA))) (.inr (.inl ⟨rfl, rfl⟩)) (.inl rfl)
 refine ⟨_, rfl, _, rfl, nb, _, _, _, rfl, rfl, c2.at, c2.nm 23, (by walk_at "s"), fun t3 ht3 => ?_⟩
 have y3 := Same.new ht3 (.tup [.str (S "get"), .ref aR, .str (nm nms 23)])
 obtain ⟨c3, F3, tp3⟩ := sts c2 F2 y3
 refine ⟨(by walk_at "s"), fun t4 ht4 => ?_⟩
 have y4 := Same.new ht4 (.tup [.str (S "name"), .non, .ref t3])
 obtain ⟨c4, F4, tp4⟩ := sts c3 F3 y4
 exact q t4 _ _ _ (.tup [.str (S "get"), dR, .str (nm nms 23)]) 2 _ F4 ups ⟨t3, _, rfl, (tp4 _ _ ups), _, _, rfl, rfl, _, _, rfl, (((rR.t tp2).t tp3).t tp4), _, _, rfl, rfl, rfl⟩ (fun env hx hs => l9 (kt_getP (gR env hx.fk) c0.kc.a4 rfl c0.kc.pR (nm_len c0.kc.ok (by decide)))) (.inl ⟨rfl, rfl⟩) (.inl rfl)
theorem okl_last_fault (T : Tx K mg) (Dl_take : DefIs P w K mg base n "_law_take" ["_law_feed_here", "_law_many"] xbc) (Dl_good : DefIs P w K mg base n "_law_good" ["_law_feed_here", "_law_kinds_here", "_law_boxes", "_law_kind"] spGood) : DefIs P w K mg base (n + 1) "_law_last_fault" ["_law_feed_here", "_law_kinds_here", "_law_boxes", "_law_names_here", "_law_way"] spWay := by
 refine DefIs.of T.dl_last_fault scl_last_fault ?_ ?_ <;> walk_at "i"
 ·obtain ⟨_, _, _, _, _, _, _, _, _, rfl, _⟩ := h
  rfl
 obtain ⟨f', nb, kv, bv, ks, bs, nms, x, wy, rfl, c0, hbs, q⟩ := h
 have nd := scl_last_fault.nd
 refine ⟨_, (zpn (xae (i := 5) nd rfl (by walk_at "o") (pd Dl_good hr (pc (pv 0) (pc (pv 1) (pc (pv 2) (pc (xac iL (pv 3) pI (fun _ _ => rfl)) pN zss) zsn) zsn) zsn)))
   (zpn (xae (i := 6) nd rfl (by walk_at "o") (pd Dl_good hr (pc (pv 0) (pc (pv 1) (pc (pv 2) (pc pS pN zso) zsn) zsn) zsn)))
   (zpn (xap (pR xaq (pv 4) pI (nM _)) (po (xad (xaa (pc pS (pc (xac iL (pv 3) pI (fun _ _ => rfl)) (pc (xaa (pc pS (pc (xac iL (pv 3) pI (fun _ _ => rfl)) (pc (xac iL (pv 3) pI (fun _ _ => rfl)) (pc (pv 6) pN zsn) zss) zss) zso)) pN sT) zss) zso)))) pQ)
   (zpn (xap (pR xaq (pv 4) pI (nM _)) (zpn (xae (i := 7) nd rfl (by walk_at "o") (pd Dl_good hr (pc (pv 0) (pc (pv 1) (pc (pv 2) (pc (xac iL (pv 3) pI (fun _ _ => rfl)) pN zss) zsn) zsn) zsn)))
   (po (xad (xaa (pc pS (pc (xac iL (pv 3) pI (fun _ _ => rfl)) (pc (xaa (pc pS (pc (xac iL (pv 3) pI (fun _ _ => rfl)) (pc (xac iL (pv 3) (xah xas pI (pd Dl_take hr (pc (pv 0) (pc pI pN zso) zsn))) (fun _ _ => rfl)) (pc (pv 7) pN zsn) zss) zss) zso)) pN sT) zss) zso))))) pQ)
   (zpn (xap (pR xaq (pv 4) pI (nM _)) (po (xad (xaa (pc pS (pc pS (pc (xaa (pc pS (pc (pv 5) (pc (pv 6) (pc (pv 6) pN zsn) zsn) zsn) zso)) pN sT) zso) zso)))) pQ)
   (po (xad (xaa (pc pS (pc pe_non (pc (xac iL (xat (pc (xaa (pc pS (pc (pv 6) (pc (pv 6) (pc (pv 5) pN zsn) zsn) zsn) zso)) (pc (xaa (pc pS (pc (pv 6) (pc (pv 5) (pc (pv 6) pN zsn) zsn) zsn) zso)) pN sT) sT)) (pd Dl_take hr (pc (pv 0) (pc pI pN zso) zsn)) (fun _ _ => rfl)) pN zss) zso) zso))))))))), ?_⟩
 obtain ⟨p0, q0, h0⟩ := c0.ti.fd
 have F0 := Fed.refl h0
 refine ⟨_, rfl, _, rfl, _, rfl, _, rfl, nb, _, _, _, rfl, rfl, c0.at, c0.nm 4, f', kv, bv, ks, bs, nm nms 4, rfl, c0.ti, c0.kc.k4, fun aR dR H1 f1 rR gR => ?_⟩
 obtain ⟨c1, F1, tp1⟩ := stf c0 F0 f1
 refine ⟨_, rfl, _, rfl, _, rfl, f', kv, bv, ks, bs, S "num", rfl, c1.ti, .inl rfl, fun aO dO H2 f2 rO gO => ?_⟩
 obtain ⟨c2, F2, tp2⟩ := stf c1 F1 f2
 refine ⟨_, rfl, rfl, _, rfl, ite2 (fun _ => ?_) (fun _ => ?_)⟩
 ·refine ⟨_, rfl, nb, _, _, _, rfl, rfl, c2.at, c2.nm 5, _, rfl, nb, _, _, _, rfl, rfl, c2.at, c2.nm 5, _, rfl, nb, _, _, _, rfl, rfl, c2.at, c2.nm 23, _, rfl, (by walk_at "s"), fun t3 ht3 => ?_⟩
  have y3 := Same.new ht3 (.tup [.str (S "tag"), .str (nm nms 5), .str (nm nms 23), .ref aO])
  obtain ⟨c3, F3, tp3⟩ := sts c2 F2 y3
  refine ⟨(by walk_at "s"), fun t4 ht4 => ?_⟩
  have y4 := Same.new ht4 (.tup [.str (S "name"), .str (nm nms 5), .ref t3])
  obtain ⟨c4, F4, tp4⟩ := sts c3 F3 y4
  exact q t4 _ _ _ (.tup [.str (S "tag"), .str (nm nms 5), .str (nm nms 23), dO]) 2 _ F4 ups ⟨t3, _, rfl, (tp4 _ _ ups), _, _, rfl, rfl, _, _, rfl, rfl, _, _, rfl, rfl, _, _, rfl, ((rO.t tp3).t tp4), rfl⟩ (fun env hx hs => l9 (kt_tagP c0.kc.a5 rfl c0.kc.pA (nm_len c0.kc.ok (by decide)))) (.inl ⟨rfl, rfl⟩) (.inr ⟨_, rfl, c0.kc.k5⟩)
 refine ⟨_, rfl, rfl, _, rfl, ite2 (fun _ => ?_) (fun _ => ?_)⟩
 ·refine ⟨_, rfl, _, rfl, _, rfl, _, rfl, nb, _, _, _, rfl, rfl, c2.at, c2.nm 5, f', kv, bv, ks, bs, (nm nms 5), rfl, c2.ti, c2.kc.k5, fun a3 d3 H3 f3 r3 g3 => ?_⟩
  obtain ⟨c3, F3, tp3⟩ := stf c2 F2 f3
  refine ⟨_, rfl, nb, _, _, _, rfl, rfl, c3.at, c3.nm 5, _, rfl, nb, _, _, _, rfl, rfl, c3.at, c3.nm 5, _, rfl, ?_⟩
  obtain ⟨pp4, qq4, hh4⟩ := c3.ti.fd
  refine ⟨_, rfl, f', pp4, qq4, _, rfl, hh4, by decide, by decide, fun r4 H4 r4a r4b f4 => ⟨_, _, rfl, rfl, ?_⟩⟩
  obtain ⟨c4, F4, tp4⟩ := stf c3 F3 f4
  have hr3 : r4 = 0 \/ r4 = 1 := by omega
  rcases hr3 with rfl | rfl
  ·refine ⟨nb, _, _, _, rfl, rfl, c4.at, c4.nm 8, _, rfl, (by walk_at "s"), fun t5 ht5 => ?_⟩
   have y5 := Same.new ht5 (.tup [.str (S "tag"), .str (nm nms 5), .str (nm nms 8), .ref a3])
   obtain ⟨c5, F5, tp5⟩ := sts c4 F4 y5
   refine ⟨(by walk_at "s"), fun t6 ht6 => ?_⟩
   have y6 := Same.new ht6 (.tup [.str (S "kind"), .str (nm nms 5), .ref t5])
   obtain ⟨c6, F6, tp6⟩ := sts c5 F5 y6
   exact q t6 _ _ _ (.tup [.str (S "tag"), .str (nm nms 5), .str (nm nms 8), d3]) 4 _ F6 ups ⟨t5, _, rfl, (tp6 _ _ ups), _, _, rfl, rfl, _, _, rfl, rfl, _, _, rfl, rfl, _, _, rfl, (((r3.t tp4).t tp5).t tp6), rfl⟩ (fun env hx hs => l9 (kt_tagF c0.kc.a5 rfl c0.kc.pA8 (g3 env hx.fk) (nk_ne (nm_num c0.kc.ok (by decide))))) (.inr (.inl ⟨rfl, rfl⟩)) (.inr ⟨_, rfl, c0.kc.k5⟩)
  ·refine ⟨nb, _, _, _, rfl, rfl, c4.at, c4.nm 9, _, rfl, (by walk_at "s"), fun t5 ht5 => ?_⟩
   have y5 := Same.new ht5 (.tup [.str (S "tag"), .str (nm nms 5), .str (nm nms 9), .ref a3])
   obtain ⟨c5, F5, tp5⟩ := sts c4 F4 y5
   refine ⟨(by walk_at "s"), fun t6 ht6 => ?_⟩
   have y6 := Same.new ht6 (.tup [.str (S "kind"), .str (nm nms 5), .ref t5])
   obtain ⟨c6, F6, tp6⟩ := sts c5 F5 y6
   exact q t6 _ _ _ (.tup [.str (S "tag"), .str (nm nms 5), .str (nm nms 9), d3]) 4 _ F6 ups ⟨t5, _, rfl, (tp6 _ _ ups), _, _, rfl, rfl, _, _, rfl, rfl, _, _, rfl, rfl, _, _, rfl, (((r3.t tp4).t tp5).t tp6), rfl⟩ (fun env hx hs => l9 (kt_tagF c0.kc.a5 rfl c0.kc.pA9 (g3 env hx.fk) (nk_ne (c0.kc.ne (by decide) (by decide) (by decide))))) (.inr (.inl ⟨rfl, rfl⟩)) (.inr ⟨_, rfl, c0.kc.k5⟩)
 refine ⟨_, rfl, rfl, _, rfl, ite2 (fun _ => ?_) (fun _ => ?_)⟩
 ·refine ⟨_, rfl, _, rfl, _, rfl, (by walk_at "s"), fun t3 ht3 => ?_⟩
  have y3 := Same.new ht3 (.tup [.str (S "if"), .ref aR, .ref aO, .ref aO])
  obtain ⟨c3, F3, tp3⟩ := sts c2 F2 y3
  refine ⟨(by walk_at "s"), fun t4 ht4 => ?_⟩
  have y4 := Same.new ht4 (.tup [.str (S "kind"), .str (S "num"), .ref t3])
  obtain ⟨c4, F4, tp4⟩ := sts c3 F3 y4
  exact q t4 _ _ _ (.tup [.str (S "if"), dR, dO, dO]) 4 _ F4 ups ⟨t3, _, rfl, (tp4 _ _ ups), _, _, rfl, rfl, _, _, rfl, (((rR.t tp2).t tp3).t tp4), _, _, rfl, ((rO.t tp3).t tp4), _, _, rfl, ((rO.t tp3).t tp4), rfl⟩ (fun env hx hs => l9 (kt_if1 (gR env hx.fk) (nk_ne (nm_num c0.kc.ok (by decide))))) (.inr (.inl ⟨rfl, rfl⟩)) (.inr ⟨_, rfl, .inl rfl⟩)
 refine ⟨_, rfl, _, rfl, _, rfl, (by walk_at "s"), fun t3 ht3 => ?_⟩
 have y3 := Same.new ht3 (.tup [.str (S "if"), .ref aO, .ref aO, .ref aR])
 obtain ⟨c3, F3, tp3⟩ := sts c2 F2 y3
 refine ⟨_, rfl, _, rfl, _, rfl, (by walk_at "s"), fun t4 ht4 => ?_⟩
 have y4 := Same.new ht4 (.tup [.str (S "if"), .ref aO, .ref aR, .ref aO])
 obtain ⟨c4, F4, tp4⟩ := sts c3 F3 y4
 refine ⟨(by walk_at "s"), fun t5 ht5 => ?_⟩
 have y5 := Same.new ht5 (.lst [.ref t3, .ref t4])
 obtain ⟨c5, F5, tp5⟩ := sts c4 F4 y5
 have lf : t5 ≠ f' := Ne.symm (neN c4.ti.fd.choose_spec.choose_spec ht5)
 obtain ⟨pp6, qq6, hh6⟩ := c5.ti.fd
 refine ⟨_, rfl, f', pp6, qq6, _, rfl, hh6, by decide, by decide, fun r6 H6 r6a r6b f6 => ?_⟩
 obtain ⟨c6, F6, tp6⟩ := stf c5 F5 f6
 have hr3 : r6 = 0 \/ r6 = 1 := by omega
 rcases hr3 with rfl | rfl
 ·refine ⟨t5, _, _, _, rfl, rfl, SqL.of (f6.1 _ _ ups lf), xai (j := 0) rfl, (by walk_at "s"), fun t7 ht7 => ?_⟩
  have y7 := Same.new ht7 (.tup [.str (S "kind"), .non, .ref t3])
  obtain ⟨c7, F7, tp7⟩ := sts c6 F6 y7
  exact q t7 _ _ _ (.tup [.str (S "if"), dO, dO, dR]) 4 _ F7 ups ⟨t3, _, rfl, (tp7 _ _ (tp6 _ _ (tp5 _ _ (tp4 _ _ ups)))), _, _, rfl, rfl, _, _, rfl, (((((rO.t tp3).t tp4).t tp5).t tp6).t tp7), _, _, rfl, (((((rO.t tp3).t tp4).t tp5).t tp6).t tp7), _, _, rfl, ((((((rR.t tp2).t tp3).t tp4).t tp5).t tp6).t tp7), rfl⟩ (fun env hx hs => l9 (kt_if3 (gO env hx.fk) (gO env hx.fk) (gR env hx.fk) (nk_ne (nm_num c0.kc.ok (by decide))))) (.inr (.inl ⟨rfl, rfl⟩)) (.inl rfl)
 ·refine ⟨t5, _, _, _, rfl, rfl, SqL.of (f6.1 _ _ ups lf), xai (j := 1) rfl, (by walk_at "s"), fun t7 ht7 => ?_⟩
  have y7 := Same.new ht7 (.tup [.str (S "kind"), .non, .ref t4])
  obtain ⟨c7, F7, tp7⟩ := sts c6 F6 y7
  exact q t7 _ _ _ (.tup [.str (S "if"), dO, dR, dO]) 4 _ F7 ups ⟨t4, _, rfl, (tp7 _ _ (tp6 _ _ (tp5 _ _ ups))), _, _, rfl, rfl, _, _, rfl, (((((rO.t tp3).t tp4).t tp5).t tp6).t tp7), _, _, rfl, ((((((rR.t tp2).t tp3).t tp4).t tp5).t tp6).t tp7), _, _, rfl, (((((rO.t tp3).t tp4).t tp5).t tp6).t tp7), rfl⟩ (fun env hx hs => l9 (kt_if3 (gO env hx.fk) (gR env hx.fk) (gO env hx.fk) (nk_ne (Ne.symm (nm_num c0.kc.ok (by decide)))))) (.inr (.inl ⟨rfl, rfl⟩)) (.inl rfl)
end
end K18
end
section
namespace K18
open PySem L2 M
seal L2.PE L2.PA L2.PS L2.PSs L2.PT L2.PW L2.PI L2.PG L2.PJ L2.PTs
section
variable {nms : List Str} {ks : List Kn} {x : Str} {bs : List (Str × Str)} {env : En}
theorem arm0 (c : KC nms ks x) (hb : ∀ b ∈ bs, b.1 ∈ nms) (hx : Fx nms ks bs env) {d : D} {k : Str} (g : GT ks bs d k) : ArmR (kA nms) (Kt ks 8) env (nm nms 8, S "outa", d) (.ok k) := .inr ⟨hx.oo.1, .inr ⟨S "num", c.pA8, g _ (fitk_put c hb hx.fk (y := S "outa") (by walk_at "k") _)⟩⟩
theorem arm1 (c : KC nms ks x) (hb : ∀ b ∈ bs, b.1 ∈ nms) (hx : Fx nms ks bs env) {d : D} {k : Str} (g : GT ks bs d k) : ArmR (kA nms) (Kt ks 8) env (nm nms 9, S "outb", d) (.ok k) := .inr ⟨hx.oo.2.1, .inr ⟨nm nms 4, c.pA9, g _ (fitk_put c hb hx.fk (y := S "outb") (by walk_at "k") _)⟩⟩
theorem tags_two (c : KC nms ks x) (y0 y1 : Str) (e0 e1 : D) : tagsR (kA nms) [(nm nms 8, y0, e0), (nm nms 9, y1, e1)] = none :=
 tagsR_ok (fun r hr => by
  rcases List.mem_cons.mp hr with rfl | hr
  ·simp [kA]
  ·rw [List.mem_singleton.mp hr]; simp [kA]) (by
  have := c.ne (i := 8) (j := 9) (by decide) (by decide) (by decide)
  simp [this]) rfl
theorem tags_one (c : KC nms ks x) {t : Str} (ht : t = nm nms 8 \/ t = nm nms 9) (y : Str) (e : D) : tagsR (kA nms) [(t, y, e)] = some 5 := by
 unfold tagsR
 rw [if_neg (fun z => z fun r hr => by
  rw [List.mem_singleton.mp hr]
  rcases ht with rfl | rfl <;> simp [kA]), if_neg (fun z => z (by simp)), if_pos (by show 1 < 2; decide)]
theorem tags_dup (c : KC nms ks x) {t : Str} (ht : t = nm nms 8 \/ t = nm nms 9) (y0 y1 y : Str) (e0 e1 e : D) : tagsR (kA nms) [(nm nms 8, y0, e0), (nm nms 9, y1, e1), (t, y, e)] = some 1 := by
 unfold tagsR
 rw [if_neg (fun z => z fun r hr => by
  rcases List.mem_cons.mp hr with rfl | hr
  ·simp [kA]
  ·rcases List.mem_cons.mp hr with rfl | hr
   ·simp [kA]
   ·rw [List.mem_singleton.mp hr]
    rcases ht with rfl | rfl <;> simp [kA]), if_pos (by rcases ht with rfl | rfl <;> simp)]
theorem tags_no (c : KC nms ks x) (y0 y1 y : Str) (e0 e1 e : D) : tagsR (kA nms) [(nm nms 8, y0, e0), (nm nms 9, y1, e1), (nm nms 23, y, e)] = some 2 := by
 unfold tagsR
 have h1 := c.ne (i := 23) (j := 8) (by decide) (by decide) (by decide)
 have h2 := c.ne (i := 23) (j := 9) (by decide) (by decide) (by decide)
 rw [if_pos fun z => by
  have := z (nm nms 23, y, e) (by simp)
  simp [kA, h1, h2] at this]
theorem al1 (c : KC nms ks x) {i : Nat} (hi : i < 26) {y : Str} {e : D} : ∀ z ∈ [(nm nms i, y, e)], z.1.length <= 100 := fun z hz => by
 rw [List.mem_singleton.mp hz]
 exact nm_len c.ok hi
theorem al3 (c : KC nms ks x) {i j l : Nat} (hi : i < 26) (hj : j < 26) (hl : l < 26) {y y1 y2 : Str} {e e1 e2 : D} : ∀ z ∈ [(nm nms i, y, e), (nm nms j, y1, e1), (nm nms l, y2, e2)], z.1.length <= 100 := fun z hz => by
 rcases List.mem_cons.mp hz with rfl | hz
 ·exact nm_len c.ok hi
 rcases List.mem_cons.mp hz with rfl | hz
 ·exact nm_len c.ok hj
 rw [List.mem_singleton.mp hz]
 exact nm_len c.ok hl
theorem TIn.empty {H : Hp} {f : Addr} {kv bv : V} {e : Addr} (h : TIn H f kv bv ks bs 8) (he : H e = none) : TIn (upd H e (.lst [])) f kv (.ref e) ks [] 8 := by
 have h' := h.same (Same.new he (.lst []))
 obtain ⟨p, q, hf⟩ := h.fd
 exact ⟨h'.fd, h'.kd, h'.wf, h'.nb, ⟨e, [], rfl, ups, rfl, Ne.symm (neN hf he)⟩, List.nodup_nil, by decide, (fun _ h => nomatch h), (fun _ h => nomatch h)⟩
end
section
variable {P : Program} {w : World} {K : PySem.W.Frag} {mg : Str -> Option Value} {base : Heap} {n m : Nat}
theorem okl_case_fault (T : Tx K mg) (Dl_take : DefIs P w K mg base n "_law_take" ["_law_feed_here", "_law_many"] xbc) (Dl_good : DefIs P w K mg base n "_law_good" ["_law_feed_here", "_law_kinds_here", "_law_boxes", "_law_kind"] spGood) (Dl_few : DefIs P w K mg base n "_law_few" ["_law_feed_here", "_law_kinds_here", "_law_most"] spFew) (Dl_arms_of : DefIs P w K mg base n "_law_arms_of" ["_law_feed_here", "_law_kinds_here", "_law_boxes", "_law_names_here", "_law_kind"] spArmsOf) : DefIs P w K mg base (n + 1) "_law_case_fault" ["_law_feed_here", "_law_kinds_here", "_law_boxes", "_law_names_here", "_law_way"] spWay := by
 refine DefIs.of T.dl_case_fault scl_case_fault ?_ ?_ <;> walk_at "i"
 ·obtain ⟨_, _, _, _, _, _, _, _, _, rfl, _⟩ := h
  rfl
 obtain ⟨f', nb, kv, bv, ks, bs, nms, x, wy, rfl, c0, hbs, q⟩ := h
 have nd := scl_case_fault.nd
 refine ⟨_, (zpn (xae (i := 5) nd rfl (by walk_at "o") (pd Dl_good hr (pc (pv 0) (pc (pv 1) (pc (pv 2) (pc (xac iL (pv 3) pI (fun _ _ => rfl)) pN zss) zsn) zsn) zsn)))
   (zpn (xae (i := 6) nd rfl (by walk_at "o") (pd Dl_few hr (pc (pv 0) (pc (pv 1) (pc pI pN zso) zsn) zsn)))
   (zpn (xae (i := 7) nd rfl (by walk_at "o") (pd Dl_arms_of hr (pc (pv 0) (pc (pv 1) (pc (pv 2) (pc (pv 3) (pc (pv 6) pN zsn) zsn) zsn) zsn) zsn)))
   (zpn (xap (pR xaq (pv 4) pI (nM _)) (po (xad (xaa (pc pS (pc pe_non (pc (xaa (pc pS (pc (pd Dl_good hr (pc (pv 0) (pc (pv 1) (pc (pv 2) (pc (xac iL (xat (pc pS (pc (xac iL (pv 3) pI (fun _ _ => rfl)) pN zss) zso)) (pd Dl_take hr (pc (pv 0) (pc pI pN zso) zsn)) (fun _ _ => rfl)) pN zss) zsn) zsn) zsn)) (pc (pv 7) pN zsn) zsc) zso)) pN sT) zso) zso)))) pQ)
   (zpn (xap (pR xaq (pv 4) pI (nM _)) (po (xad (xaa (pc pS (pc (pv 6) (pc (xaa (pc pS (pc (pv 5) (pc (pe_slice sl_tupW (pe_slice sl_tupW (pv 7) (po_some (pd Dl_take hr (pc (pv 0) (pc pI pN zso) zsn))) po_none) po_none (po_some pI)) pN zss) zsn) zso)) pN sT) zsn) zso)))) pQ)
   (zpn (xap (pR xaq (pv 4) pI (nM _)) (po (xad (xaa (pc pS (pc (pv 6) (pc (xaa (pc pS (pc (pv 5) (pc (xah op_catT0 (pv 7) (xaa (pc (xac xao (pv 7) (pd Dl_take hr (pc (pv 0) (pc pI pN zso) zsn)) (fun _ _ => rfl)) pN zss))) pN xak) zsn) zso)) pN sT) zsn) zso)))) pQ)
   (zpn (xap (pR xaq (pv 4) pI (nM _)) (po (xad (xaa (pc pS (pc (pv 6) (pc (xaa (pc pS (pc (pv 5) (pc (xah op_catT0 (pv 7) (xaa (pc (xaa (pc (xac iL (pv 3) pI (fun _ _ => rfl)) (pc pS (pc (xac xao (xac xao (pv 7) pI (fun _ _ => rfl)) pI (fun _ _ => rfl)) pN zss) zso) zss)) pN sT))) pN xak) zsn) zso)) pN sT) zsn) zso)))) pQ)
   (zpn (xap (pR xaq (pv 4) pI (nM _)) (zpn (xae (i := 8) nd rfl (by walk_at "o") (xac xao (xac iL (pv 2) (pd Dl_take hr (pc (pv 0) (pc (xam xaj rfl T.z_len PySem.boot_len (pc (pv 2) pN zsn)) pN zsc) zsn)) (fun _ _ => rfl)) pI (fun _ _ => rfl)))
   (zpn (xae (i := 9) nd rfl (by walk_at "o") (pd Dl_take hr (pc (pv 0) (pc pI pN zso) zsn)))
   (zpn (xae (i := 10) nd rfl (by walk_at "o") (xaa (pc (xac iL (pv 3) (xah xas pI (pv 9)) (fun _ _ => rfl)) (pc (pv 8) (pc (pd Dl_good hr (pc (pv 0) (pc (pv 1) (pc (xat pN) (pc (pv 6) pN zsn) star_lst) zsn) zsn)) pN zsc) zsn) zss)))
   (po (xad (xaa (pc pS (pc (pv 6) (pc (xaa (pc pS (pc (pv 5) (pc (xah op_catT0 (xah op_catT0 (pe_slice sl_tupW (pv 7) po_none (po_some (pv 9))) (xaa (pc (pv 10) pN zsn))) (pe_slice sl_tupW (pv 7) (po_some (xah xas (pv 9) pI)) po_none)) pN xak) zsn) zso)) pN sT) zsn) zso))))))) pQ)
   (zpn (xap (pR xaq (pv 4) pI (nM _)) (zpn (xae (i := 11) nd rfl (by walk_at "o") (xac iL (xat (pc (xac iL (pv 3) pI (fun _ _ => rfl)) (pc pS pN zso) zss)) (xa0 call_int1 rfl T.z_int PyProof.Rows.boot_int (pc (pe_cmpR xaq (pv 6) (xac iL (pv 3) pI (fun _ _ => rfl)) (nM _)) pN star_cmp)) (fun _ _ => rfl)))
   (zpn (xae (i := 12) nd rfl (by walk_at "o") (xaa (pc (xac iL (pv 3) pI (fun _ _ => rfl)) (pc pS (pc (pd Dl_good hr (pc (pv 0) (pc (pv 1) (pc (pv 2) (pc (pv 11) pN zsn) zsn) zsn) zsn)) pN zsc) zso) zss)))
   (po (xad (xaa (pc pS (pc pe_non (pc (xaa (pc pS (pc (pv 5) (pc (xaa (pc (xac xao (pv 7) pI (fun _ _ => rfl)) (pc (pv 12) pN zsn) zss)) pN sT) zsn) zso)) pN sT) zso) zso)))))) pQ)
   (zpn (xae (i := 13) nd rfl (by walk_at "o") (xaa (pc pS (pc (pv 5) (pc (xaa (pc (xaa (pc (xac iL (pv 3) pI (fun _ _ => rfl)) (pc pS (pc (xaa (pc pS (pc pS pN zso) zso)) pN sT) zso) zss)) (pc (xaa (pc (xac iL (pv 3) pI (fun _ _ => rfl)) (pc pS (pc (xaa (pc pS (pc pI pN zso) zso)) pN sT) zso) zss)) pN sT) sT)) pN sT) zsn) zso)))
   (po (xad (xaa (pc pS (pc pS (pc (xaa (pc pS (pc pS (pc (pv 13) (pc (xaa (pc pS (pc pS pN zso) zso)) pN sT) zsn) zso) zso)) pN sT) zso) zso)))))))))))))), ?_⟩
 obtain ⟨p0, q0, h0⟩ := c0.ti.fd
 have F0 := Fed.refl h0
 refine ⟨_, rfl, _, rfl, _, rfl, _, rfl, nb, _, _, _, rfl, rfl, c0.at, c0.nm 5, f', kv, bv, ks, bs, nm nms 5, rfl, c0.ti, c0.kc.k5, fun aA dA H1 f1 rA gA => ?_⟩
 obtain ⟨c1, F1, tp1⟩ := stf c0 F0 f1
 obtain ⟨p1, q1, h1⟩ := c1.ti.fd
 refine ⟨_, rfl, _, rfl, f', kv, p1, q1, ks, 4, rfl, h1, c1.ti.kd, c1.ti.wf, fun k H2 hk0 f2 => ?_⟩
 obtain ⟨c2, F2, tp2⟩ := stf c1 F1 f2
 have hk : KIn ks 6 k := hk0.mono c0.ti.wf.few
 refine ⟨_, rfl, _, rfl, _, rfl, _, rfl, _, rfl, f', nb, kv, bv, ks, bs, nms, x, k, rfl, c2, hk, fun ar a0 a1 v0 v1 d0 d1 H3 f3 har ha0 ha1 rv0 rv1 g0 g1 => ?_⟩
 obtain ⟨c3, F3, tp3⟩ := stf c2 F2 f3
 refine ⟨_, rfl, rfl, _, rfl, ite2 (fun _ => ?_) (fun _ => ?_)⟩
 ·refine ⟨_, rfl, _, rfl, _, rfl, ?_⟩
  refine ⟨_, rfl, nb, _, _, _, rfl, rfl, c3.at, c3.nm 4, (by walk_at "s"), fun t4 ht4 => ?_⟩
  have y4 := Same.new ht4 (.lst [.str (S "num"), .str (nm nms 4)])
  obtain ⟨c4, F4, tp4⟩ := sts c3 F3 y4
  have lf : t4 ≠ f' := Ne.symm (neN c3.ti.fd.choose_spec.choose_spec ht4)
  obtain ⟨pp5, qq5, hh5⟩ := c4.ti.fd
  refine ⟨_, rfl, f', pp5, qq5, _, rfl, hh5, by decide, by decide, fun r5 H5 r5a r5b f5 => ?_⟩
  obtain ⟨c5, F5, tp5⟩ := stf c4 F4 f5
  have hr3 : r5 = 0 \/ r5 = 1 := by omega
  rcases hr3 with rfl | rfl
  ·refine ⟨t4, _, _, _, rfl, rfl, SqL.of (f5.1 _ _ ups lf), xai (j := 0) rfl, f', kv, bv, ks, bs, S "num", rfl, c5.ti, .inl rfl, fun aS dS HS fS rS gS => ?_⟩
   obtain ⟨c6, F6, tp6⟩ := stf c5 F5 fS
   refine ⟨_, rfl, (by walk_at "s"), fun t7 ht7 => ?_⟩
   have y7 := Same.new ht7 (.tup [.str (S "case"), .ref aS, .ref ar])
   obtain ⟨c7, F7, tp7⟩ := sts c6 F6 y7
   refine ⟨(by walk_at "s"), fun t8 ht8 => ?_⟩
   have y8 := Same.new ht8 (.tup [.str (S "kind"), .non, .ref t7])
   obtain ⟨c8, F8, tp8⟩ := sts c7 F7 y8
   exact q t8 _ _ _ (.tup [.str (S "case"), dS, (.tup [(.tup [.str (nm nms 8), .str (S "outa"), d0]), (.tup [.str (nm nms 9), .str (S "outb"), d1])])]) 4 _ F8 ups ⟨t7, _, rfl, (tp8 _ _ ups), _, _, rfl, rfl, _, _, rfl, ((rS.t tp7).t tp8), _, _, rfl, ⟨ar, _, rfl, (tp8 _ _ (tp7 _ _ (tp6 _ _ (tp5 _ _ (tp4 _ _ har))))), _, _, rfl, ⟨a0, _, rfl, (tp8 _ _ (tp7 _ _ (tp6 _ _ (tp5 _ _ (tp4 _ _ ha0))))), _, _, rfl, rfl, _, _, rfl, rfl, _, _, rfl, (((((rv0.t tp4).t tp5).t tp6).t tp7).t tp8), rfl⟩, _, _, rfl, ⟨a1, _, rfl, (tp8 _ _ (tp7 _ _ (tp6 _ _ (tp5 _ _ (tp4 _ _ ha1))))), _, _, rfl, rfl, _, _, rfl, rfl, _, _, rfl, (((((rv1.t tp4).t tp5).t tp6).t tp7).t tp8), rfl⟩, rfl⟩, rfl⟩ (fun env hx hs => l9 (kt_caseS (rs := [(nm nms 8, S "outa", d0), (nm nms 9, S "outb", d1)]) (by show 2 <= 1000; decide) (gS env hx.fk) (ksR_none c0.kc.num))) (.inr (.inl ⟨rfl, rfl⟩)) (.inl rfl)
  ·refine ⟨t4, _, _, _, rfl, rfl, SqL.of (f5.1 _ _ ups lf), xai (j := 1) rfl, f', kv, bv, ks, bs, nm nms 4, rfl, c5.ti, c0.kc.k4, fun aS dS HS fS rS gS => ?_⟩
   obtain ⟨c6, F6, tp6⟩ := stf c5 F5 fS
   refine ⟨_, rfl, (by walk_at "s"), fun t7 ht7 => ?_⟩
   have y7 := Same.new ht7 (.tup [.str (S "case"), .ref aS, .ref ar])
   obtain ⟨c7, F7, tp7⟩ := sts c6 F6 y7
   refine ⟨(by walk_at "s"), fun t8 ht8 => ?_⟩
   have y8 := Same.new ht8 (.tup [.str (S "kind"), .non, .ref t7])
   obtain ⟨c8, F8, tp8⟩ := sts c7 F7 y8
   exact q t8 _ _ _ (.tup [.str (S "case"), dS, (.tup [(.tup [.str (nm nms 8), .str (S "outa"), d0]), (.tup [.str (nm nms 9), .str (S "outb"), d1])])]) 4 _ F8 ups ⟨t7, _, rfl, (tp8 _ _ ups), _, _, rfl, rfl, _, _, rfl, ((rS.t tp7).t tp8), _, _, rfl, ⟨ar, _, rfl, (tp8 _ _ (tp7 _ _ (tp6 _ _ (tp5 _ _ (tp4 _ _ har))))), _, _, rfl, ⟨a0, _, rfl, (tp8 _ _ (tp7 _ _ (tp6 _ _ (tp5 _ _ (tp4 _ _ ha0))))), _, _, rfl, rfl, _, _, rfl, rfl, _, _, rfl, (((((rv0.t tp4).t tp5).t tp6).t tp7).t tp8), rfl⟩, _, _, rfl, ⟨a1, _, rfl, (tp8 _ _ (tp7 _ _ (tp6 _ _ (tp5 _ _ (tp4 _ _ ha1))))), _, _, rfl, rfl, _, _, rfl, rfl, _, _, rfl, (((((rv1.t tp4).t tp5).t tp6).t tp7).t tp8), rfl⟩, rfl⟩, rfl⟩ (fun env hx hs => l9 (kt_caseS (rs := [(nm nms 8, S "outa", d0), (nm nms 9, S "outb", d1)]) (by show 2 <= 1000; decide) (gS env hx.fk) (ksR_ne c0.kc.a4 sR))) (.inr (.inl ⟨rfl, rfl⟩)) (.inl rfl)
 refine ⟨_, rfl, rfl, _, rfl, ite2 (fun _ => ?_) (fun _ => ?_)⟩
 ·refine ⟨_, rfl, _, rfl, _, rfl, ?_⟩
  obtain ⟨pp4, qq4, hh4⟩ := c3.ti.fd
  refine ⟨_, rfl, f', pp4, qq4, _, rfl, hh4, by decide, by decide, fun r4 H4 r4a r4b f4 => ?_⟩
  obtain ⟨c4, F4, tp4⟩ := stf c3 F3 f4
  have hr3 : r4 = 0 \/ r4 = 1 := by omega
  rcases hr3 with rfl | rfl
  ·refine ⟨_, rfl, ar, [.ref a0, .ref a1], rfl, SqT.of (tp4 _ _ har), fun _ => ?_, fun hn => absurd (by show HT.sIx 2 0 (some 0) = 0 /\ HT.sIx 2 2 none = 2; decide +kernel) hn⟩
   refine ⟨_, rfl, ar, [.ref a0, .ref a1], rfl, SqT.of (tp4 _ _ har), fun hn => absurd hn (by show ¬ (HT.sIx 2 0 none = 0 /\ HT.sIx 2 2 (some 1) = 2); decide +kernel), fun _ u hu => ?_⟩
   have yu := Same.new hu (.tup [.ref a0])
   obtain ⟨c5, F5, tp5⟩ := sts c4 F4 yu
   refine ⟨(by walk_at "s"), fun t6 ht6 => ?_⟩
   have y6 := Same.new ht6 (.tup [.str (S "case"), .ref aA, .ref u])
   obtain ⟨c6, F6, tp6⟩ := sts c5 F5 y6
   refine ⟨(by walk_at "s"), fun t7 ht7 => ?_⟩
   have y7 := Same.new ht7 (.tup [.str (S "lacks"), .str k, .ref t6])
   obtain ⟨c7, F7, tp7⟩ := sts c6 F6 y7
   exact q t7 _ _ _ (.tup [.str (S "case"), dA, (.tup [(.tup [.str (nm nms 8), .str (S "outa"), d0])])]) 5 _ F7 ups ⟨t6, _, rfl, (tp7 _ _ ups), _, _, rfl, rfl, _, _, rfl, ((((((rA.t tp2).t tp3).t tp4).t tp5).t tp6).t tp7), _, _, rfl, ⟨u, _, rfl, (tp7 _ _ (tp6 _ _ ups)), _, _, rfl, ⟨a0, _, rfl, (tp7 _ _ (tp6 _ _ (tp5 _ _ (tp4 _ _ ha0)))), _, _, rfl, rfl, _, _, rfl, rfl, _, _, rfl, ((((rv0.t tp4).t tp5).t tp6).t tp7), rfl⟩, rfl⟩, rfl⟩ (fun env hx hs => l9 (kt_caseT (rs := [(nm nms 8, S "outa", d0)]) (by show 1 <= 1000; decide) (gA env hx.fk) c0.kc.a5 rfl (tags_one c0.kc (.inl rfl) _ _) (al1 c0.kc (by decide)))) (.inr (.inr (.inr (.inl ⟨rfl, rfl⟩)))) (.inr ⟨_, rfl, hk⟩)
  ·refine ⟨_, rfl, ar, [.ref a0, .ref a1], rfl, SqT.of (tp4 _ _ har), fun hn => absurd hn (by show ¬ (HT.sIx 2 0 (some 1) = 0 /\ HT.sIx 2 2 none = 2); decide +kernel), fun _ u hu => ?_⟩
   have yu := Same.new hu (.tup [.ref a1])
   obtain ⟨c5, F5, tp5⟩ := sts c4 F4 yu
   refine ⟨_, rfl, u, [.ref a1], rfl, SqT.of ups, fun _ => ?_, fun hn => absurd (by show HT.sIx 1 0 none = 0 /\ HT.sIx 1 1 (some 1) = 1; decide +kernel) hn⟩
   refine ⟨(by walk_at "s"), fun t6 ht6 => ?_⟩
   have y6 := Same.new ht6 (.tup [.str (S "case"), .ref aA, .ref u])
   obtain ⟨c6, F6, tp6⟩ := sts c5 F5 y6
   refine ⟨(by walk_at "s"), fun t7 ht7 => ?_⟩
   have y7 := Same.new ht7 (.tup [.str (S "lacks"), .str k, .ref t6])
   obtain ⟨c7, F7, tp7⟩ := sts c6 F6 y7
   exact q t7 _ _ _ (.tup [.str (S "case"), dA, (.tup [(.tup [.str (nm nms 9), .str (S "outb"), d1])])]) 5 _ F7 ups ⟨t6, _, rfl, (tp7 _ _ ups), _, _, rfl, rfl, _, _, rfl, ((((((rA.t tp2).t tp3).t tp4).t tp5).t tp6).t tp7), _, _, rfl, ⟨u, _, rfl, (tp7 _ _ (tp6 _ _ ups)), _, _, rfl, ⟨a1, _, rfl, (tp7 _ _ (tp6 _ _ (tp5 _ _ (tp4 _ _ ha1)))), _, _, rfl, rfl, _, _, rfl, rfl, _, _, rfl, ((((rv1.t tp4).t tp5).t tp6).t tp7), rfl⟩, rfl⟩, rfl⟩ (fun env hx hs => l9 (kt_caseT (rs := [(nm nms 9, S "outb", d1)]) (by show 1 <= 1000; decide) (gA env hx.fk) c0.kc.a5 rfl (tags_one c0.kc (.inr rfl) _ _) (al1 c0.kc (by decide)))) (.inr (.inr (.inr (.inl ⟨rfl, rfl⟩)))) (.inr ⟨_, rfl, hk⟩)
 refine ⟨_, rfl, rfl, _, rfl, ite2 (fun _ => ?_) (fun _ => ?_)⟩
 ·refine ⟨_, rfl, _, rfl, _, rfl, _, rfl, ?_⟩
  obtain ⟨pp4, qq4, hh4⟩ := c3.ti.fd
  refine ⟨_, rfl, f', pp4, qq4, _, rfl, hh4, by decide, by decide, fun r4 H4 r4a r4b f4 => ?_⟩
  obtain ⟨c4, F4, tp4⟩ := stf c3 F3 f4
  have hr3 : r4 = 0 \/ r4 = 1 := by omega
  rcases hr3 with rfl | rfl
  ·refine ⟨ar, _, _, .ref a0, rfl, rfl, SqT.of (tp4 _ _ har), xai (j := 0) rfl, (by walk_at "s"), fun t5 ht5 => ?_⟩
   have y5 := Same.new ht5 (.tup [.ref a0])
   obtain ⟨c5, F5, tp5⟩ := sts c4 F4 y5
   refine ⟨ar, t5, [.ref a0, .ref a1], [.ref a0], rfl, rfl, SqT.of (tp5 _ _ (tp4 _ _ har)), SqT.of ups, (by show 2 + 1 <= sizeLine; decide), fun e => absurd e (List.cons_ne_nil _ _), fun _ e => absurd e (List.cons_ne_nil _ _), fun _ _ u hu => ?_⟩
   have yu := Same.new hu (.tup [.ref a0, .ref a1, .ref a0])
   obtain ⟨c6, F6, tp6⟩ := sts c5 F5 yu
   refine ⟨(by walk_at "s"), fun t7 ht7 => ?_⟩
   have y7 := Same.new ht7 (.tup [.str (S "case"), .ref aA, .ref u])
   obtain ⟨c7, F7, tp7⟩ := sts c6 F6 y7
   refine ⟨(by walk_at "s"), fun t8 ht8 => ?_⟩
   have y8 := Same.new ht8 (.tup [.str (S "twice"), .str k, .ref t7])
   obtain ⟨c8, F8, tp8⟩ := sts c7 F7 y8
   exact q t8 _ _ _ (.tup [.str (S "case"), dA, (.tup [(.tup [.str (nm nms 8), .str (S "outa"), d0]), (.tup [.str (nm nms 9), .str (S "outb"), d1]), (.tup [.str (nm nms 8), .str (S "outa"), d0])])]) 1 _ F8 ups ⟨t7, _, rfl, (tp8 _ _ ups), _, _, rfl, rfl, _, _, rfl, (((((((rA.t tp2).t tp3).t tp4).t tp5).t tp6).t tp7).t tp8), _, _, rfl, ⟨u, _, rfl, (tp8 _ _ (tp7 _ _ ups)), _, _, rfl, ⟨a0, _, rfl, (tp8 _ _ (tp7 _ _ (tp6 _ _ (tp5 _ _ (tp4 _ _ ha0))))), _, _, rfl, rfl, _, _, rfl, rfl, _, _, rfl, (((((rv0.t tp4).t tp5).t tp6).t tp7).t tp8), rfl⟩, _, _, rfl, ⟨a1, _, rfl, (tp8 _ _ (tp7 _ _ (tp6 _ _ (tp5 _ _ (tp4 _ _ ha1))))), _, _, rfl, rfl, _, _, rfl, rfl, _, _, rfl, (((((rv1.t tp4).t tp5).t tp6).t tp7).t tp8), rfl⟩, _, _, rfl, ⟨a0, _, rfl, (tp8 _ _ (tp7 _ _ (tp6 _ _ (tp5 _ _ (tp4 _ _ ha0))))), _, _, rfl, rfl, _, _, rfl, rfl, _, _, rfl, (((((rv0.t tp4).t tp5).t tp6).t tp7).t tp8), rfl⟩, rfl⟩, rfl⟩ (fun env hx hs => l9 (kt_caseT (rs := [(nm nms 8, S "outa", d0), (nm nms 9, S "outb", d1), (nm nms 8, S "outa", d0)]) (by show 3 <= 1000; decide) (gA env hx.fk) c0.kc.a5 rfl (tags_dup c0.kc (.inl rfl) _ _ _ _ _ _) (al3 c0.kc (by decide) (by decide) (by decide)))) (.inr (.inr (.inr (.inr (⟨rfl, rfl⟩))))) (.inr ⟨_, rfl, hk⟩)
  ·refine ⟨ar, _, _, .ref a1, rfl, rfl, SqT.of (tp4 _ _ har), xai (j := 1) rfl, (by walk_at "s"), fun t5 ht5 => ?_⟩
   have y5 := Same.new ht5 (.tup [.ref a1])
   obtain ⟨c5, F5, tp5⟩ := sts c4 F4 y5
   refine ⟨ar, t5, [.ref a0, .ref a1], [.ref a1], rfl, rfl, SqT.of (tp5 _ _ (tp4 _ _ har)), SqT.of ups, (by show 2 + 1 <= sizeLine; decide), fun e => absurd e (List.cons_ne_nil _ _), fun _ e => absurd e (List.cons_ne_nil _ _), fun _ _ u hu => ?_⟩
   have yu := Same.new hu (.tup [.ref a0, .ref a1, .ref a1])
   obtain ⟨c6, F6, tp6⟩ := sts c5 F5 yu
   refine ⟨(by walk_at "s"), fun t7 ht7 => ?_⟩
   have y7 := Same.new ht7 (.tup [.str (S "case"), .ref aA, .ref u])
   obtain ⟨c7, F7, tp7⟩ := sts c6 F6 y7
   refine ⟨(by walk_at "s"), fun t8 ht8 => ?_⟩
   have y8 := Same.new ht8 (.tup [.str (S "twice"), .str k, .ref t7])
   obtain ⟨c8, F8, tp8⟩ := sts c7 F7 y8
   exact q t8 _ _ _ (.tup [.str (S "case"), dA, (.tup [(.tup [.str (nm nms 8), .str (S "outa"), d0]), (.tup [.str (nm nms 9), .str (S "outb"), d1]), (.tup [.str (nm nms 9), .str (S "outb"), d1])])]) 1 _ F8 ups ⟨t7, _, rfl, (tp8 _ _ ups), _, _, rfl, rfl, _, _, rfl, (((((((rA.t tp2).t tp3).t tp4).t tp5).t tp6).t tp7).t tp8), _, _, rfl, ⟨u, _, rfl, (tp8 _ _ (tp7 _ _ ups)), _, _, rfl, ⟨a0, _, rfl, (tp8 _ _ (tp7 _ _ (tp6 _ _ (tp5 _ _ (tp4 _ _ ha0))))), _, _, rfl, rfl, _, _, rfl, rfl, _, _, rfl, (((((rv0.t tp4).t tp5).t tp6).t tp7).t tp8), rfl⟩, _, _, rfl, ⟨a1, _, rfl, (tp8 _ _ (tp7 _ _ (tp6 _ _ (tp5 _ _ (tp4 _ _ ha1))))), _, _, rfl, rfl, _, _, rfl, rfl, _, _, rfl, (((((rv1.t tp4).t tp5).t tp6).t tp7).t tp8), rfl⟩, _, _, rfl, ⟨a1, _, rfl, (tp8 _ _ (tp7 _ _ (tp6 _ _ (tp5 _ _ (tp4 _ _ ha1))))), _, _, rfl, rfl, _, _, rfl, rfl, _, _, rfl, (((((rv1.t tp4).t tp5).t tp6).t tp7).t tp8), rfl⟩, rfl⟩, rfl⟩ (fun env hx hs => l9 (kt_caseT (rs := [(nm nms 8, S "outa", d0), (nm nms 9, S "outb", d1), (nm nms 9, S "outb", d1)]) (by show 3 <= 1000; decide) (gA env hx.fk) c0.kc.a5 rfl (tags_dup c0.kc (.inr rfl) _ _ _ _ _ _) (al3 c0.kc (by decide) (by decide) (by decide)))) (.inr (.inr (.inr (.inr (⟨rfl, rfl⟩))))) (.inr ⟨_, rfl, hk⟩)
 refine ⟨_, rfl, rfl, _, rfl, ite2 (fun _ => ?_) (fun _ => ?_)⟩
 ·refine ⟨_, rfl, _, rfl, _, rfl, _, rfl, nb, _, _, _, rfl, rfl, c3.at, c3.nm 23, _, rfl, ar, _, _, _, rfl, rfl, SqT.of har, xai (j := 0) rfl, a0, _, _, _, rfl, rfl, SqT.of ha0, xai (j := 2) rfl, ?_⟩
  refine ⟨(by walk_at "s"), fun t4 ht4 => ?_⟩
  have y4 := Same.new ht4 (.tup [.str (nm nms 23), .str (S "outc"), v0])
  obtain ⟨c4, F4, tp4⟩ := sts c3 F3 y4
  refine ⟨(by walk_at "s"), fun t5 ht5 => ?_⟩
  have y5 := Same.new ht5 (.tup [.ref t4])
  obtain ⟨c5, F5, tp5⟩ := sts c4 F4 y5
  refine ⟨ar, t5, [.ref a0, .ref a1], [.ref t4], rfl, rfl, SqT.of (tp5 _ _ (tp4 _ _ har)), SqT.of ups, (by show 2 + 1 <= sizeLine; decide), fun e => absurd e (List.cons_ne_nil _ _), fun _ e => absurd e (List.cons_ne_nil _ _), fun _ _ u hu => ?_⟩
  have yu := Same.new hu (.tup [.ref a0, .ref a1, .ref t4])
  obtain ⟨c6, F6, tp6⟩ := sts c5 F5 yu
  refine ⟨(by walk_at "s"), fun t7 ht7 => ?_⟩
  have y7 := Same.new ht7 (.tup [.str (S "case"), .ref aA, .ref u])
  obtain ⟨c7, F7, tp7⟩ := sts c6 F6 y7
  refine ⟨(by walk_at "s"), fun t8 ht8 => ?_⟩
  have y8 := Same.new ht8 (.tup [.str (S "name"), .str k, .ref t7])
  obtain ⟨c8, F8, tp8⟩ := sts c7 F7 y8
  exact q t8 _ _ _ (.tup [.str (S "case"), dA, (.tup [(.tup [.str (nm nms 8), .str (S "outa"), d0]), (.tup [.str (nm nms 9), .str (S "outb"), d1]), (.tup [.str (nm nms 23), .str (S "outc"), d0])])]) 2 _ F8 ups ⟨t7, _, rfl, (tp8 _ _ ups), _, _, rfl, rfl, _, _, rfl, (((((((rA.t tp2).t tp3).t tp4).t tp5).t tp6).t tp7).t tp8), _, _, rfl, ⟨u, _, rfl, (tp8 _ _ (tp7 _ _ ups)), _, _, rfl, ⟨a0, _, rfl, (tp8 _ _ (tp7 _ _ (tp6 _ _ (tp5 _ _ (tp4 _ _ ha0))))), _, _, rfl, rfl, _, _, rfl, rfl, _, _, rfl, (((((rv0.t tp4).t tp5).t tp6).t tp7).t tp8), rfl⟩, _, _, rfl, ⟨a1, _, rfl, (tp8 _ _ (tp7 _ _ (tp6 _ _ (tp5 _ _ (tp4 _ _ ha1))))), _, _, rfl, rfl, _, _, rfl, rfl, _, _, rfl, (((((rv1.t tp4).t tp5).t tp6).t tp7).t tp8), rfl⟩, _, _, rfl, ⟨t4, _, rfl, (tp8 _ _ (tp7 _ _ (tp6 _ _ (tp5 _ _ ups)))), _, _, rfl, rfl, _, _, rfl, rfl, _, _, rfl, (((((rv0.t tp4).t tp5).t tp6).t tp7).t tp8), rfl⟩, rfl⟩, rfl⟩ (fun env hx hs => l9 (kt_caseT (rs := [(nm nms 8, S "outa", d0), (nm nms 9, S "outb", d1), (nm nms 23, S "outc", d0)]) (by show 3 <= 1000; decide) (gA env hx.fk) c0.kc.a5 rfl (tags_no c0.kc _ _ _ _ _ _) (al3 c0.kc (by decide) (by decide) (by decide)))) (.inl ⟨rfl, rfl⟩) (.inr ⟨_, rfl, hk⟩)
 refine ⟨_, rfl, rfl, _, rfl, ite2 (fun _ => ?_) (fun _ => ?_)⟩
 ·obtain ⟨bl, us, rfl, hbl, hus, blf⟩ := c3.ti.bx
  have hul := hus.length
  rw [List.length_map] at hul
  have hbp : 0 < bs.length := List.length_pos_iff.mpr hbs
  have hb30 := c0.ti.bl
  obtain ⟨pp4, qq4, hh4⟩ := c3.ti.fd
  refine ⟨_, rfl, _, rfl, _, rfl, bl, _, rfl, .inl (SqL.of hbl), f', pp4, qq4, _, rfl, hh4, by omega, by omega, fun r4 H4 r4a r4b f4 => ?_⟩
  obtain ⟨c4, F4, tp4⟩ := stf c3 F3 f4
  obtain ⟨bi, rfl⟩ : ∃ i : Nat, r4 = (i : Int) := ⟨r4.toNat, by omega⟩
  have hbi : bi < us.length := by omega
  obtain ⟨dd, hdd, rdd⟩ := hus.get (List.getElem?_eq_getElem hbi)
  rw [List.getElem?_map] at hdd
  obtain ⟨pr, hpr, rfl⟩ := Option.map_eq_some_iff.mp hdd
  have hprm := List.mem_of_getElem? hpr
  obtain ⟨tb, wz, eb, htb, _, _, rfl, rfl, _, _, rfl, rfl, rfl⟩ := rdd
  refine ⟨bl, _, _, .ref tb, rfl, rfl, SqL.of (f4.1 _ _ hbl blf), xai (by rw [List.getElem?_eq_getElem hbi, eb]), tb, _, _, _, rfl, rfl, SqT.of (tp4 _ _ htb), xai (j := 0) rfl, ?_⟩
  obtain ⟨pp5, qq5, hh5⟩ := c4.ti.fd
  refine ⟨_, rfl, f', pp5, qq5, _, rfl, hh5, by decide, by decide, fun r5 H5 r5a r5b f5 => ?_⟩
  obtain ⟨c5, F5, tp5⟩ := stf c4 F4 f5
  have hprn : pr.1 ∈ nms := c0.bn pr hprm
  have hprl : pr.1.length <= 100 := Nat.le_trans (c0.kc.ok.2.2 _ hprn).l6 (by decide)
  have hr3 : r5 = 0 \/ r5 = 1 := by omega
  rcases hr3 with rfl | rfl
  ·refine ⟨_, rfl, _, rfl, _, _, rfl, rfl, nb, _, _, _, rfl, rfl, c5.at, c5.nm 8, _, rfl, _, rfl, _, rfl, (by walk_at "s"), fun el hel => ?_⟩
   have y6 := Same.new hel (.lst [])
   have te := TIn.empty c5.ti hel
   obtain ⟨c6, F6, tp6⟩ := sts c5 F5 y6
   refine ⟨_, rfl, f', kv, .ref el, ks, [], k, rfl, te, hk, fun aX dX HX fX rX gX => ?_⟩
   obtain ⟨c7, F7, tp7⟩ := stf c6 F6 fX
   refine ⟨(by walk_at "s"), fun t8 ht8 => ?_⟩
   have y8 := Same.new ht8 (.tup [.str (nm nms 8), .str pr.1, .ref aX])
   obtain ⟨c8, F8, tp8⟩ := sts c7 F7 y8
   refine ⟨_, rfl, _, rfl, _, rfl, ?_⟩
   refine ⟨_, rfl, _, rfl, ar, [.ref a0, .ref a1], rfl, SqT.of (tp8 _ _ (tp7 _ _ (tp6 _ _ (tp5 _ _ (tp4 _ _ har))))), fun hn => absurd hn (by show ¬ (HT.sIx 2 0 none = 0 /\ HT.sIx 2 2 (some 0) = 2); decide +kernel), fun _ e0 he0 => ?_⟩
   have ye := Same.new he0 (.tup [])
   obtain ⟨c9, F9, tp9⟩ := sts c8 F8 ye
   refine ⟨_, rfl, (by walk_at "s"), fun t10 ht10 => ?_⟩
   have y10 := Same.new ht10 (.tup [.ref t8])
   obtain ⟨c10, F10, tp10⟩ := sts c9 F9 y10
   refine ⟨e0, t10, [], [.ref t8], rfl, rfl, SqT.of (tp10 _ _ ups), SqT.of ups, (by show 0 + 1 <= sizeLine; decide), fun _ => ?_, fun e => absurd rfl e, fun e => absurd rfl e⟩
   refine ⟨_, rfl, _, rfl, _, _, rfl, rfl, _, rfl, ar, [.ref a0, .ref a1], rfl, SqT.of (tp10 _ _ (tp9 _ _ (tp8 _ _ (tp7 _ _ (tp6 _ _ (tp5 _ _ (tp4 _ _ har))))))), fun hn => absurd hn (by show ¬ (HT.sIx 2 0 (some 1) = 0 /\ HT.sIx 2 2 none = 2); decide +kernel), fun _ s1 hs1 => ?_⟩
   have ys := Same.new hs1 (.tup [.ref a1])
   obtain ⟨c11, F11, tp11⟩ := sts c10 F10 ys
   refine ⟨t10, s1, [.ref t8], [.ref a1], rfl, rfl, SqT.of (tp11 _ _ ups), SqT.of ups, (by show 1 + 1 <= sizeLine; decide), fun e => absurd e (List.cons_ne_nil _ _), fun _ e => absurd e (List.cons_ne_nil _ _), fun _ _ u hu => ?_⟩
   have yu := Same.new hu (.tup [.ref t8, .ref a1])
   obtain ⟨c12, F12, tp12⟩ := sts c11 F11 yu
   refine ⟨(by walk_at "s"), fun t13 ht13 => ?_⟩
   have y13 := Same.new ht13 (.tup [.str (S "case"), .ref aA, .ref u])
   obtain ⟨c13, F13, tp13⟩ := sts c12 F12 y13
   refine ⟨(by walk_at "s"), fun t14 ht14 => ?_⟩
   have y14 := Same.new ht14 (.tup [.str (S "twice"), .str k, .ref t13])
   obtain ⟨c14, F14, tp14⟩ := sts c13 F13 y14
   exact q t14 _ _ _ (.tup [.str (S "case"), dA, (.tup [(.tup [.str (nm nms 8), .str pr.1, dX]), (.tup [.str (nm nms 9), .str (S "outb"), d1])])]) 1 _ F14 ups ⟨t13, _, rfl, (tp14 _ _ ups), _, _, rfl, rfl, _, _, rfl, (((((((((((((rA.t tp2).t tp3).t tp4).t tp5).t tp6).t tp7).t tp8).t tp9).t tp10).t tp11).t tp12).t tp13).t tp14), _, _, rfl, ⟨u, _, rfl, (tp14 _ _ (tp13 _ _ ups)), _, _, rfl, ⟨t8, _, rfl, (tp14 _ _ (tp13 _ _ (tp12 _ _ (tp11 _ _ (tp10 _ _ (tp9 _ _ ups)))))), _, _, rfl, rfl, _, _, rfl, rfl, _, _, rfl, (((((((rX.t tp8).t tp9).t tp10).t tp11).t tp12).t tp13).t tp14), rfl⟩, _, _, rfl, ⟨a1, _, rfl, (tp14 _ _ (tp13 _ _ (tp12 _ _ (tp11 _ _ (tp10 _ _ (tp9 _ _ (tp8 _ _ (tp7 _ _ (tp6 _ _ (tp5 _ _ (tp4 _ _ ha1))))))))))), _, _, rfl, rfl, _, _, rfl, rfl, _, _, rfl, (((((((((((rv1.t tp4).t tp5).t tp6).t tp7).t tp8).t tp9).t tp10).t tp11).t tp12).t tp13).t tp14), rfl⟩, rfl⟩, rfl⟩ (fun env hx hs => l9 (kt_case0 (r0 := (nm nms 8, pr.1, dX)) (rest := [(nm nms 9, S "outb", d1)]) (by show 2 <= 1000; decide) (gA env hx.fk) c0.kc.a5 rfl (tags_two c0.kc _ _ _ _) (.inl ⟨(by rw [hx.fk.1 pr hprm]; exact (fun z => by cases z)), hprl, rfl⟩))) (.inr (.inr (.inr (.inr (⟨rfl, rfl⟩))))) (.inr ⟨_, rfl, hk⟩)
  ·refine ⟨_, rfl, _, rfl, _, _, rfl, rfl, nb, _, _, _, rfl, rfl, c5.at, c5.nm 9, _, rfl, _, rfl, _, rfl, (by walk_at "s"), fun el hel => ?_⟩
   have y6 := Same.new hel (.lst [])
   have te := TIn.empty c5.ti hel
   obtain ⟨c6, F6, tp6⟩ := sts c5 F5 y6
   refine ⟨_, rfl, f', kv, .ref el, ks, [], k, rfl, te, hk, fun aX dX HX fX rX gX => ?_⟩
   obtain ⟨c7, F7, tp7⟩ := stf c6 F6 fX
   refine ⟨(by walk_at "s"), fun t8 ht8 => ?_⟩
   have y8 := Same.new ht8 (.tup [.str (nm nms 9), .str pr.1, .ref aX])
   obtain ⟨c8, F8, tp8⟩ := sts c7 F7 y8
   refine ⟨_, rfl, _, rfl, _, rfl, ?_⟩
   refine ⟨_, rfl, _, rfl, ar, [.ref a0, .ref a1], rfl, SqT.of (tp8 _ _ (tp7 _ _ (tp6 _ _ (tp5 _ _ (tp4 _ _ har))))), fun hn => absurd hn (by show ¬ (HT.sIx 2 0 none = 0 /\ HT.sIx 2 2 (some 1) = 2); decide +kernel), fun _ e0 he0 => ?_⟩
   have ye := Same.new he0 (.tup [.ref a0])
   obtain ⟨c9, F9, tp9⟩ := sts c8 F8 ye
   refine ⟨_, rfl, (by walk_at "s"), fun t10 ht10 => ?_⟩
   have y10 := Same.new ht10 (.tup [.ref t8])
   obtain ⟨c10, F10, tp10⟩ := sts c9 F9 y10
   refine ⟨e0, t10, [.ref a0], [.ref t8], rfl, rfl, SqT.of (tp10 _ _ ups), SqT.of ups, (by show 1 + 1 <= sizeLine; decide), fun e => absurd e (List.cons_ne_nil _ _), fun _ e => absurd e (List.cons_ne_nil _ _), fun _ _ u hu => ?_⟩
   have yu := Same.new hu (.tup [.ref a0, .ref t8])
   obtain ⟨c11, F11, tp11⟩ := sts c10 F10 yu
   refine ⟨_, rfl, _, rfl, _, _, rfl, rfl, _, rfl, ar, [.ref a0, .ref a1], rfl, SqT.of (tp11 _ _ (tp10 _ _ (tp9 _ _ (tp8 _ _ (tp7 _ _ (tp6 _ _ (tp5 _ _ (tp4 _ _ har)))))))), fun hn => absurd hn (by show ¬ (HT.sIx 2 0 (some 2) = 0 /\ HT.sIx 2 2 none = 2); decide +kernel), fun _ s1 hs1 => ?_⟩
   have ys := Same.new hs1 (.tup [])
   obtain ⟨c12, F12, tp12⟩ := sts c11 F11 ys
   refine ⟨u, s1, [.ref a0, .ref t8], [], rfl, rfl, SqT.of (tp12 _ _ ups), SqT.of ups, (by show 2 + 0 <= sizeLine; decide), fun e => absurd e (List.cons_ne_nil _ _), fun _ _ => ?_, fun _ e => absurd rfl e⟩
   refine ⟨(by walk_at "s"), fun t13 ht13 => ?_⟩
   have y13 := Same.new ht13 (.tup [.str (S "case"), .ref aA, .ref u])
   obtain ⟨c13, F13, tp13⟩ := sts c12 F12 y13
   refine ⟨(by walk_at "s"), fun t14 ht14 => ?_⟩
   have y14 := Same.new ht14 (.tup [.str (S "twice"), .str k, .ref t13])
   obtain ⟨c14, F14, tp14⟩ := sts c13 F13 y14
   exact q t14 _ _ _ (.tup [.str (S "case"), dA, (.tup [(.tup [.str (nm nms 8), .str (S "outa"), d0]), (.tup [.str (nm nms 9), .str pr.1, dX])])]) 1 _ F14 ups ⟨t13, _, rfl, (tp14 _ _ ups), _, _, rfl, rfl, _, _, rfl, (((((((((((((rA.t tp2).t tp3).t tp4).t tp5).t tp6).t tp7).t tp8).t tp9).t tp10).t tp11).t tp12).t tp13).t tp14), _, _, rfl, ⟨u, _, rfl, (tp14 _ _ (tp13 _ _ (tp12 _ _ ups))), _, _, rfl, ⟨a0, _, rfl, (tp14 _ _ (tp13 _ _ (tp12 _ _ (tp11 _ _ (tp10 _ _ (tp9 _ _ (tp8 _ _ (tp7 _ _ (tp6 _ _ (tp5 _ _ (tp4 _ _ ha0))))))))))), _, _, rfl, rfl, _, _, rfl, rfl, _, _, rfl, (((((((((((rv0.t tp4).t tp5).t tp6).t tp7).t tp8).t tp9).t tp10).t tp11).t tp12).t tp13).t tp14), rfl⟩, _, _, rfl, ⟨t8, _, rfl, (tp14 _ _ (tp13 _ _ (tp12 _ _ (tp11 _ _ (tp10 _ _ (tp9 _ _ ups)))))), _, _, rfl, rfl, _, _, rfl, rfl, _, _, rfl, (((((((rX.t tp8).t tp9).t tp10).t tp11).t tp12).t tp13).t tp14), rfl⟩, rfl⟩, rfl⟩ (fun env hx hs => l9 (kt_case1 (r0 := (nm nms 8, S "outa", d0)) (r1 := (nm nms 9, pr.1, dX)) (gA env hx.fk) c0.kc.a5 rfl (tags_two c0.kc _ _ _ _) (arm0 c0.kc c0.bn hx g0) (.inl ⟨(by rw [hx.fk.1 pr hprm]; exact (fun z => by cases z)), hprl, rfl⟩) rfl)) (.inr (.inr (.inr (.inr (⟨rfl, rfl⟩))))) (.inr ⟨_, rfl, hk⟩)
 refine ⟨_, rfl, rfl, _, rfl, ite2 (fun _ => ?_) (fun _ => ?_)⟩
 ·refine ⟨_, rfl, nb, _, _, _, rfl, rfl, c3.at, c3.nm 4, (by walk_at "s"), fun t4 ht4 => ?_⟩
  have y4 := Same.new ht4 (.lst [.str (nm nms 4), .str (S "num")])
  obtain ⟨c4, F4, tp4⟩ := sts c3 F3 y4
  refine ⟨_, rfl, _, rfl, nb, _, _, _, rfl, rfl, c4.at, c4.nm 4, rfl, .inr ⟨_, rfl, ?_⟩⟩
  by_cases hk4 : k = nm nms 4
  ·refine ⟨t4, _, _, _, rfl, rfl, SqL.of ups, at2t (decide_eq_true (congrArg V.str hk4)), ?_⟩
   refine ⟨_, rfl, nb, _, _, _, rfl, rfl, c4.at, c4.nm 9, _, rfl, _, rfl, _, rfl, _, rfl, f', kv, bv, ks, bs, S "num", rfl, c4.ti, .inl rfl, fun aX dX HX fX rX gX => ?_⟩
   obtain ⟨c5, F5, tp5⟩ := stf c4 F4 fX
   refine ⟨(by walk_at "s"), fun t6 ht6 => ?_⟩
   have y6 := Same.new ht6 (.tup [.str (nm nms 9), .str (S "outb"), .ref aX])
   obtain ⟨c6, F6, tp6⟩ := sts c5 F5 y6
   refine ⟨_, rfl, _, rfl, ar, _, _, _, rfl, rfl, SqT.of (tp6 _ _ (tp5 _ _ (tp4 _ _ har))), xai (j := 0) rfl, _, rfl, (by walk_at "s"), fun t7 ht7 => ?_⟩
   have y7 := Same.new ht7 (.tup [.ref a0, .ref t6])
   obtain ⟨c7, F7, tp7⟩ := sts c6 F6 y7
   refine ⟨(by walk_at "s"), fun t8 ht8 => ?_⟩
   have y8 := Same.new ht8 (.tup [.str (S "case"), .ref aA, .ref t7])
   obtain ⟨c8, F8, tp8⟩ := sts c7 F7 y8
   refine ⟨(by walk_at "s"), fun t9 ht9 => ?_⟩
   have y9 := Same.new ht9 (.tup [.str (S "kind"), .non, .ref t8])
   obtain ⟨c9, F9, tp9⟩ := sts c8 F8 y9
   exact q t9 _ _ _ (.tup [.str (S "case"), dA, (.tup [(.tup [.str (nm nms 8), .str (S "outa"), d0]), (.tup [.str (nm nms 9), .str (S "outb"), dX])])]) 4 _ F9 ups ⟨t8, _, rfl, (tp9 _ _ ups), _, _, rfl, rfl, _, _, rfl, ((((((((rA.t tp2).t tp3).t tp4).t tp5).t tp6).t tp7).t tp8).t tp9), _, _, rfl, ⟨t7, _, rfl, (tp9 _ _ (tp8 _ _ ups)), _, _, rfl, ⟨a0, _, rfl, (tp9 _ _ (tp8 _ _ (tp7 _ _ (tp6 _ _ (tp5 _ _ (tp4 _ _ ha0)))))), _, _, rfl, rfl, _, _, rfl, rfl, _, _, rfl, ((((((rv0.t tp4).t tp5).t tp6).t tp7).t tp8).t tp9), rfl⟩, _, _, rfl, ⟨t6, _, rfl, (tp9 _ _ (tp8 _ _ (tp7 _ _ ups))), _, _, rfl, rfl, _, _, rfl, rfl, _, _, rfl, ((((rX.t tp6).t tp7).t tp8).t tp9), rfl⟩, rfl⟩, rfl⟩ (fun env hx hs => l9 (kt_case1 (r0 := (nm nms 8, S "outa", d0)) (r1 := (nm nms 9, S "outb", dX)) (gA env hx.fk) c0.kc.a5 rfl (tags_two c0.kc _ _ _ _) (arm0 c0.kc c0.bn hx g0) (arm1 c0.kc c0.bn hx gX) (nk_ne (by rw [hk4]; exact Ne.symm (nm_num c0.kc.ok (by decide)))))) (.inr (.inl ⟨rfl, rfl⟩)) (.inl rfl)
  ·refine ⟨t4, _, _, _, rfl, rfl, SqL.of ups, at2f (decide_eq_false (fun z => hk4 (V.str.inj z))), ?_⟩
   refine ⟨_, rfl, nb, _, _, _, rfl, rfl, c4.at, c4.nm 9, _, rfl, _, rfl, _, rfl, _, rfl, f', kv, bv, ks, bs, nm nms 4, rfl, c4.ti, c0.kc.k4, fun aX dX HX fX rX gX => ?_⟩
   obtain ⟨c5, F5, tp5⟩ := stf c4 F4 fX
   refine ⟨(by walk_at "s"), fun t6 ht6 => ?_⟩
   have y6 := Same.new ht6 (.tup [.str (nm nms 9), .str (S "outb"), .ref aX])
   obtain ⟨c6, F6, tp6⟩ := sts c5 F5 y6
   refine ⟨_, rfl, _, rfl, ar, _, _, _, rfl, rfl, SqT.of (tp6 _ _ (tp5 _ _ (tp4 _ _ har))), xai (j := 0) rfl, _, rfl, (by walk_at "s"), fun t7 ht7 => ?_⟩
   have y7 := Same.new ht7 (.tup [.ref a0, .ref t6])
   obtain ⟨c7, F7, tp7⟩ := sts c6 F6 y7
   refine ⟨(by walk_at "s"), fun t8 ht8 => ?_⟩
   have y8 := Same.new ht8 (.tup [.str (S "case"), .ref aA, .ref t7])
   obtain ⟨c8, F8, tp8⟩ := sts c7 F7 y8
   refine ⟨(by walk_at "s"), fun t9 ht9 => ?_⟩
   have y9 := Same.new ht9 (.tup [.str (S "kind"), .non, .ref t8])
   obtain ⟨c9, F9, tp9⟩ := sts c8 F8 y9
   exact q t9 _ _ _ (.tup [.str (S "case"), dA, (.tup [(.tup [.str (nm nms 8), .str (S "outa"), d0]), (.tup [.str (nm nms 9), .str (S "outb"), dX])])]) 4 _ F9 ups ⟨t8, _, rfl, (tp9 _ _ ups), _, _, rfl, rfl, _, _, rfl, ((((((((rA.t tp2).t tp3).t tp4).t tp5).t tp6).t tp7).t tp8).t tp9), _, _, rfl, ⟨t7, _, rfl, (tp9 _ _ (tp8 _ _ ups)), _, _, rfl, ⟨a0, _, rfl, (tp9 _ _ (tp8 _ _ (tp7 _ _ (tp6 _ _ (tp5 _ _ (tp4 _ _ ha0)))))), _, _, rfl, rfl, _, _, rfl, rfl, _, _, rfl, ((((((rv0.t tp4).t tp5).t tp6).t tp7).t tp8).t tp9), rfl⟩, _, _, rfl, ⟨t6, _, rfl, (tp9 _ _ (tp8 _ _ (tp7 _ _ ups))), _, _, rfl, rfl, _, _, rfl, rfl, _, _, rfl, ((((rX.t tp6).t tp7).t tp8).t tp9), rfl⟩, rfl⟩, rfl⟩ (fun env hx hs => l9 (kt_case1 (r0 := (nm nms 8, S "outa", d0)) (r1 := (nm nms 9, S "outb", dX)) (gA env hx.fk) c0.kc.a5 rfl (tags_two c0.kc _ _ _ _) (arm0 c0.kc c0.bn hx g0) (arm1 c0.kc c0.bn hx gX) (nk_ne (fun e => hk4 e.symm)))) (.inr (.inl ⟨rfl, rfl⟩)) (.inl rfl)
 refine ⟨_, rfl, _, rfl, nb, _, _, _, rfl, rfl, c3.at, c3.nm 8, (by walk_at "s"), fun t4 ht4 => ?_⟩
 have y4 := Same.new ht4 (.tup [.str (S "box"), .str (S "outa")])
 obtain ⟨c4, F4, tp4⟩ := sts c3 F3 y4
 refine ⟨(by walk_at "s"), fun t5 ht5 => ?_⟩
 have y5 := Same.new ht5 (.tup [.str (nm nms 8), .str (S "outa"), .ref t4])
 obtain ⟨c5, F5, tp5⟩ := sts c4 F4 y5
 refine ⟨_, rfl, nb, _, _, _, rfl, rfl, c5.at, c5.nm 9, (by walk_at "s"), fun t6 ht6 => ?_⟩
 have y6 := Same.new ht6 (.tup [.str (S "num"), .int 7])
 obtain ⟨c6, F6, tp6⟩ := sts c5 F5 y6
 refine ⟨(by walk_at "s"), fun t7 ht7 => ?_⟩
 have y7 := Same.new ht7 (.tup [.str (nm nms 9), .str (S "outb"), .ref t6])
 obtain ⟨c7, F7, tp7⟩ := sts c6 F6 y7
 refine ⟨(by walk_at "s"), fun t8 ht8 => ?_⟩
 have y8 := Same.new ht8 (.tup [.ref t5, .ref t7])
 obtain ⟨c8, F8, tp8⟩ := sts c7 F7 y8
 refine ⟨(by walk_at "s"), fun t9 ht9 => ?_⟩
 have y9 := Same.new ht9 (.tup [.str (S "case"), .ref aA, .ref t8])
 obtain ⟨c9, F9, tp9⟩ := sts c8 F8 y9
 refine ⟨_, rfl, (by walk_at "s"), fun t10 ht10 => ?_⟩
 have y10 := Same.new ht10 (.tup [.str (S "box"), .str (S "outa")])
 obtain ⟨c10, F10, tp10⟩ := sts c9 F9 y10
 refine ⟨(by walk_at "s"), fun t11 ht11 => ?_⟩
 have y11 := Same.new ht11 (.tup [.str (S "op"), .str (S "+"), .ref t9, .ref t10])
 obtain ⟨c11, F11, tp11⟩ := sts c10 F10 y11
 refine ⟨(by walk_at "s"), fun t12 ht12 => ?_⟩
 have y12 := Same.new ht12 (.tup [.str (S "name"), .str (S "num"), .ref t11])
 obtain ⟨c12, F12, tp12⟩ := sts c11 F11 y12
 exact q t12 _ _ _ (.tup [.str (S "op"), .str (S "+"), (.tup [.str (S "case"), dA, (.tup [(.tup [.str (nm nms 8), .str (S "outa"), (.tup [.str (S "box"), .str (S "outa")])]), (.tup [.str (nm nms 9), .str (S "outb"), (.tup [.str (S "num"), .int 7])])])]), (.tup [.str (S "box"), .str (S "outa")])]) 2 _ F12 ups ⟨t11, _, rfl, (tp12 _ _ ups), _, _, rfl, rfl, _, _, rfl, rfl, _, _, rfl, ⟨t9, _, rfl, (tp12 _ _ (tp11 _ _ (tp10 _ _ ups))), _, _, rfl, rfl, _, _, rfl, (((((((((((rA.t tp2).t tp3).t tp4).t tp5).t tp6).t tp7).t tp8).t tp9).t tp10).t tp11).t tp12), _, _, rfl, ⟨t8, _, rfl, (tp12 _ _ (tp11 _ _ (tp10 _ _ (tp9 _ _ ups)))), _, _, rfl, ⟨t5, _, rfl, (tp12 _ _ (tp11 _ _ (tp10 _ _ (tp9 _ _ (tp8 _ _ (tp7 _ _ (tp6 _ _ ups))))))), _, _, rfl, rfl, _, _, rfl, rfl, _, _, rfl, ⟨t4, _, rfl, (tp12 _ _ (tp11 _ _ (tp10 _ _ (tp9 _ _ (tp8 _ _ (tp7 _ _ (tp6 _ _ (tp5 _ _ ups)))))))), _, _, rfl, rfl, _, _, rfl, rfl, rfl⟩, rfl⟩, _, _, rfl, ⟨t7, _, rfl, (tp12 _ _ (tp11 _ _ (tp10 _ _ (tp9 _ _ (tp8 _ _ ups))))), _, _, rfl, rfl, _, _, rfl, rfl, _, _, rfl, ⟨t6, _, rfl, (tp12 _ _ (tp11 _ _ (tp10 _ _ (tp9 _ _ (tp8 _ _ (tp7 _ _ ups)))))), _, _, rfl, rfl, _, _, rfl, rfl, rfl⟩, rfl⟩, rfl⟩, rfl⟩, _, _, rfl, ⟨t10, _, rfl, (tp12 _ _ (tp11 _ _ ups)), _, _, rfl, rfl, _, _, rfl, rfl, rfl⟩, rfl⟩ (fun env hx hs => kt_opB (kt_case (r0 := (nm nms 8, S "outa", tBox (S "outa"))) (r1 := (nm nms 9, S "outb", tNum 7)) (gA env hx.fk) c0.kc.a5 rfl (tags_two c0.kc _ _ _ _) (.inr ⟨hx.oo.1, .inr ⟨S "num", c0.kc.pA8, kt_le (n := 0) (by decide) (.inr ⟨S "outa", rfl, .inl ⟨S "num", by unfold En.put; rw [if_pos rfl], rfl⟩⟩)⟩⟩) (.inr ⟨hx.oo.2.1, .inr ⟨nm nms 4, c0.kc.pA9, kt_le (n := 0) (by decide) (.inl ⟨7, rfl, by decide, by decide, by rw [if_pos (by decide)]⟩)⟩⟩)) (kt_box hx.oo.1 (by walk_at "k")) rfl) (.inl ⟨rfl, rfl⟩) (.inr ⟨_, rfl, .inl rfl⟩)
theorem okl_fault (T : Tx K mg) (Dl_take : DefIs P w K mg base n "_law_take" ["_law_feed_here", "_law_many"] xbc) (Dl_plain_fault : DefIs P w K mg base n "_law_plain_fault" ["_law_feed_here", "_law_kinds_here", "_law_boxes", "_law_names_here", "_law_way"] spWay) (Dl_case_fault : DefIs P w K mg base n "_law_case_fault" ["_law_feed_here", "_law_kinds_here", "_law_boxes", "_law_names_here", "_law_way"] spWay) (Dl_last_fault : DefIs P w K mg base n "_law_last_fault" ["_law_feed_here", "_law_kinds_here", "_law_boxes", "_law_names_here", "_law_way"] spWay) : DefIs P w K mg base (n + 1) "_law_fault" ["_law_feed_here", "_law_kinds_here", "_law_boxes", "_law_names_here"] spFault := by
 refine DefIs.of T.dl_fault scl_fault ?_ ?_ <;> walk_at "i"
 ·obtain ⟨_, _, _, _, _, _, _, _, rfl, _⟩ := h
  rfl
 obtain ⟨f', nb, kv, bv, ks, bs, nms, x, rfl, c0, hbs, q⟩ := h
 have nd := scl_fault.nd
 refine ⟨_, (zpn (xae (i := 4) nd rfl (by walk_at "o") (pd Dl_take hr (pc (pv 0) (pc pI pN zso) zsn)))
   (zpn (xap (pR op_lt (pv 4) pI (nM _)) (po (xad (pd Dl_plain_fault hr (pc (pv 0) (pc (pv 1) (pc (pv 2) (pc (pv 3) (pc (pv 4) pN zsn) zsn) zsn) zsn) zsn)))) pQ)
   (zpn (xap (pR op_lt (pv 4) pI (nM _)) (po (xad (pd Dl_case_fault hr (pc (pv 0) (pc (pv 1) (pc (pv 2) (pc (pv 3) (pc (pv 4) pN zsn) zsn) zsn) zsn) zsn)))) pQ)
   (po (xad (pd Dl_last_fault hr (pc (pv 0) (pc (pv 1) (pc (pv 2) (pc (pv 3) (pc (pv 4) pN zsn) zsn) zsn) zsn) zsn))))))), ?_⟩
 obtain ⟨p0, q0, h0⟩ := c0.ti.fd
 refine ⟨_, rfl, f', p0, q0, _, rfl, h0, by decide, by decide, fun r H1 r0 r1 f1 => ?_⟩
 have c1 := c0.fed f1
 have q1 : QF H1 f' nms ks bs Q := fun t word kx a d c H' fd => q t word kx a d c H' (f1.trans fd)
 refine ⟨_, rfl, _, _, rfl, rfl, _, rfl, ite2 (fun _ => ?_) (fun _ => ?_)⟩
 ·exact ⟨_, rfl, _, rfl, _, rfl, _, rfl, _, rfl, f', nb, kv, bv, ks, bs, nms, x, r, rfl, c1, hbs, q1⟩
 refine ⟨_, rfl, _, _, rfl, rfl, _, rfl, ite2 (fun _ => ?_) (fun _ => ?_)⟩
 ·exact ⟨_, rfl, _, rfl, _, rfl, _, rfl, _, rfl, f', nb, kv, bv, ks, bs, nms, x, r, rfl, c1, hbs, q1⟩
 ·exact ⟨_, rfl, _, rfl, _, rfl, _, rfl, _, rfl, f', nb, kv, bv, ks, bs, nms, x, r, rfl, c1, hbs, q1⟩
end
end K18
end
section
namespace K18
open PySem L2 M
seal L2.PE L2.PA L2.PS L2.PSs L2.PT L2.PW L2.PI L2.PG L2.PJ L2.PTs
def spWithin : Sp := fun vs H Q _ => ∃ (f nb a : Addr) (kv bv : V) (ks : List Kn) (bs : List (Str × Str)) (nms : List Str) (x k held : Str) (hs : List Str) (n : Nat) (d : D) (c : Nat), vs = [.ref f, kv, bv, .ref nb, .str k, .ref a, .str held] /\ C8 H f kv bv nb nms ks bs x /\ KIn ks 6 k /\ RelD H (.ref a) d /\ ((held = S "ina" /\ hs = []) \/ (held = S "inb" /\ hs = [S "ina"])) /\ FT nms ks bs hs n d c /\ 10 <= n ∧
 ∀ (t : Addr) (kk : Str) (a' : Addr) (d' : D) (H' : Hp), Fed f H H' -> H' t = some (.tup [.str kk, .ref a']) -> RelD H' (.ref a') d' -> FT nms ks bs (held :: hs) (n + 1) d' c -> KIn ks 6 kk -> Q (.ref t) H'
section
variable {P : Program} {w : World} {K : PySem.W.Frag} {mg : Str -> Option Value} {base : Heap} {n m : Nat}
theorem okl_within (T : Tx K mg) (Dl_take : DefIs P w K mg base n "_law_take" ["_law_feed_here", "_law_many"] xbc) (Dl_good : DefIs P w K mg base n "_law_good" ["_law_feed_here", "_law_kinds_here", "_law_boxes", "_law_kind"] spGood) (Dl_arms_of : DefIs P w K mg base n "_law_arms_of" ["_law_feed_here", "_law_kinds_here", "_law_boxes", "_law_names_here", "_law_kind"] spArmsOf) : DefIs P w K mg base (n + 1) "_law_within" ["_law_feed_here", "_law_kinds_here", "_law_boxes", "_law_names_here", "_law_kind", "_law_term_here", "_law_held"] spWithin := by
 refine DefIs.of T.dl_within scl_within ?_ ?_ <;> walk_at "i"
 ·obtain ⟨_, _, _, _, _, _, _, _, _, _, _, _, _, _, _, rfl, _⟩ := h
  rfl
 obtain ⟨f', nb, a, kv, bv, ks, bs, nms, x, k, held, hs0, n', d, c, rfl, c0, hk, rT, hh, ft, hn, q⟩ := h
 have nd := scl_within.nd
 refine ⟨_, (zpn (xae (i := 7) nd rfl (by walk_at "o") (pd Dl_take hr (pc (pv 0) (pc pI pN zso) zsn)))
   (zpn (xae (i := 8) nd rfl (by walk_at "o") (pd Dl_good hr (pc (pv 0) (pc (pv 1) (pc (pv 2) (pc pS pN zso) zsn) zsn) zsn)))
   (zpn (xap (pR op_lt (pv 7) pI (nM _)) (zpn (xae (i := 9) nd rfl (by walk_at "o") (pd Dl_good hr (pc (pv 0) (pc (pv 1) (pc (pv 2) (pc (pv 4) pN zsn) zsn) zsn) zsn)))
   (po (xad (xaa (pc (pv 4) (pc (xac iL (xat (pc (xaa (pc pS (pc (pv 8) (pc (pv 5) (pc (pv 9) pN zsn) zsn) zsn) zso)) (pc (xaa (pc pS (pc (pv 8) (pc (pv 9) (pc (pv 5) pN zsn) zsn) zsn) zso)) pN sT) sT)) (pv 7) (fun _ _ => rfl)) pN zss) zsn))))) pQ)
   (zpn (xap (pR xaq (pv 7) pI (nM _)) (zpn (xae (i := 10) nd rfl (by walk_at "o") (pd Dl_arms_of hr (pc (pv 0) (pc (pv 1) (pc (pv 2) (pc (pv 3) (pc (pv 4) pN zsn) zsn) zsn) zsn) zsn)))
   (zpn (xae (i := 10) nd rfl (by walk_at "o") (xaa (pc (xaa (pc (xac iL (pv 3) pI (fun _ _ => rfl)) (pc (pv 6) (pc (pv 5) pN zsn) zsn) zss)) (pc (xaa (pc (xac iL (pv 3) pI (fun _ _ => rfl)) (pc (pv 6) (pc (xac xao (xac xao (pv 10) pI (fun _ _ => rfl)) pI (fun _ _ => rfl)) pN zss) zsn) zss)) pN sT) sT)))
   (po (xad (xaa (pc (pv 4) (pc (xaa (pc pS (pc (xaa (pc pS (pc (xac iL (pv 3) pI (fun _ _ => rfl)) (pc (xac iL (pv 3) pI (fun _ _ => rfl)) (pc (pv 8) pN zsn) zss) zss) zso)) (pc (pv 10) pN zsn) sT) zso)) pN sT) zsn)))))) pQ)
   (zpn (xap (PW.pt (pw_and (pR xaq (pv 4) pS (nM _)) (pw_and1 (pR xaq (pv 7) pI (nM _))))) (po (xad (xaa (pc pS (pc (xaa (pc pS (pc pS (pc (pv 8) (pc (pv 5) pN zsn) zsn) zso) zso)) pN sT) zso)))) pQ)
   (zpn (xap (pR xaq (pv 4) pS (nM _)) (po (xad (xaa (pc (xac iL (pv 3) pI (fun _ _ => rfl)) (pc (xaa (pc pS (pc (xac iL (pv 3) pI (fun _ _ => rfl)) (pc (xaa (pc (pv 5) (pc (pd Dl_good hr (pc (pv 0) (pc (pv 1) (pc (pv 2) (pc (xac xao (xac xao (xac xao (xac xao (pv 1) (pe_un un_neg pI) (fun _ _ => rfl)) pI (fun _ _ => rfl)) pI (fun _ _ => rfl)) pI (fun _ _ => rfl)) pN zss) zsn) zsn) zsn)) pN zsc) zsn)) pN sT) zss) zso)) pN sT) zss)))) pQ)
   (zpn (xap (PW.pt (pw_and (pR xaq (pv 4) (xac iL (pv 3) pI (fun _ _ => rfl)) (nM _)) (pw_and1 (pR op_lt (pv 7) pI (nM _))))) (po (xad (xaa (pc pS (pc (xaa (pc pS (pc (pv 5) (pc (xac iL (pv 3) pI (fun _ _ => rfl)) pN zss) zsn) zso)) pN sT) zso)))) pQ)
   (zpn (xap (pR xaq (pv 4) (xac iL (pv 3) pI (fun _ _ => rfl)) (nM _)) (po (xad (xaa (pc (xac iL (pv 3) pI (fun _ _ => rfl)) (pc (xaa (pc pS (pc (xac iL (pv 3) pI (fun _ _ => rfl)) (pc (xac iL (pv 3) pI (fun _ _ => rfl)) (pc (pv 5) pN zsn) zss) zss) zso)) pN sT) zss)))) pQ)
   (zpn (xap (pR xaq (pv 4) (xac iL (pv 3) pI (fun _ _ => rfl)) (nM _)) (po (xad (xaa (pc pS (pc (xaa (pc pS (pc (pv 5) (pc (xaa (pc (xaa (pc (xac iL (pv 3) pI (fun _ _ => rfl)) (pc (pv 6) (pc (pv 8) pN zsn) zsn) zss)) (pc (xaa (pc (xac iL (pv 3) pI (fun _ _ => rfl)) (pc (pv 6) (pc (pv 8) pN zsn) zsn) zss)) pN sT) sT)) pN sT) zsn) zso)) pN sT) zso)))) pQ)
   (po (xad (xaa (pc (pv 4) (pc (xaa (pc pS (pc (pv 8) (pc (pv 5) (pc (pd Dl_good hr (pc (pv 0) (pc (pv 1) (pc (pv 2) (pc (pv 4) pN zsn) zsn) zsn) zsn)) pN zsc) zsn) zsn) zso)) pN sT) zsn))))))))))))), ?_⟩
 obtain ⟨p0, q0, h0⟩ := c0.ti.fd
 have F0 := Fed.refl h0
 have h10 : 8 <= n' := by omega
 have heldN : held = S "ina" \/ held = S "inb" := by rcases hh with ⟨e, _⟩ | ⟨e, _⟩; exact .inl e; exact .inr e
 have held' : ∀ h ∈ hs0, h ≠ held := by rcases hh with ⟨rfl, rfl⟩ | ⟨rfl, rfl⟩; exact (fun _ h => nomatch h); exact (fun h hm => by rw [List.mem_singleton.mp hm]; decide +kernel)
 refine ⟨_, rfl, f', p0, q0, _, rfl, h0, by decide, by decide, fun pk H1 pk0 pk1 f1 => ?_⟩
 obtain ⟨c1, F1, tp1⟩ := stf c0 F0 f1
 refine ⟨_, rfl, _, rfl, _, rfl, f', kv, bv, ks, bs, S "num", rfl, c1.ti, .inl rfl, fun aO dO H2 f2 rO gO => ?_⟩
 obtain ⟨c2, F2, tp2⟩ := stf c1 F1 f2
 refine ⟨_, rfl, _, _, rfl, rfl, _, rfl, ite2 (fun cp => ?_) (fun cp => ?_)⟩
 ·have cp2 := of_decide_eq_true cp
  refine ⟨_, rfl, _, rfl, _, rfl, _, rfl, f', kv, bv, ks, bs, k, rfl, c2.ti, hk, fun a3 d3 H3 f3 r3 g3 => ?_⟩
  obtain ⟨c3, F3, tp3⟩ := stf c2 F2 f3
  refine ⟨_, rfl, _, rfl, _, rfl, _, rfl, (by walk_at "s"), fun t4 ht4 => ?_⟩
  have y4 := Same.new ht4 (.tup [.str (S "if"), .ref aO, .ref a, .ref a3])
  obtain ⟨c4, F4, tp4⟩ := sts c3 F3 y4
  refine ⟨_, rfl, _, rfl, _, rfl, (by walk_at "s"), fun t5 ht5 => ?_⟩
  have y5 := Same.new ht5 (.tup [.str (S "if"), .ref aO, .ref a3, .ref a])
  obtain ⟨c5, F5, tp5⟩ := sts c4 F4 y5
  refine ⟨(by walk_at "s"), fun t6 ht6 => ?_⟩
  have y6 := Same.new ht6 (.lst [.ref t4, .ref t5])
  obtain ⟨c6, F6, tp6⟩ := sts c5 F5 y6
  have hr3 : pk = 0 \/ pk = 1 := by omega
  rcases hr3 with rfl | rfl
  ·refine ⟨_, rfl, t6, _, _, _, rfl, rfl, SqL.of ups, xai (j := 0) rfl, ?_⟩
   refine ⟨(by walk_at "s"), fun t7 ht7 => ?_⟩
   have y7 := Same.new ht7 (.tup [.str k, .ref t4])
   obtain ⟨c7, F7, tp7⟩ := sts c6 F6 y7
   exact q t7 _ _ (.tup [.str (S "if"), dO, d, d3]) _ F7 ups ⟨t4, _, rfl, (tp7 _ _ (tp6 _ _ (tp5 _ _ ups))), _, _, rfl, rfl, _, _, rfl, (((((rO.t tp3).t tp4).t tp5).t tp6).t tp7), _, _, rfl, (((((((rT.t tp1).t tp2).t tp3).t tp4).t tp5).t tp6).t tp7), _, _, rfl, ((((r3.t tp4).t tp5).t tp6).t tp7), rfl⟩ (fun env hx hs => kt_if2 (kt_le h10 (gO env hx.fk)) (ft env hx fun h hh => hs h (List.mem_cons_of_mem _ hh))) (hk)
  ·refine ⟨_, rfl, t6, _, _, _, rfl, rfl, SqL.of ups, xai (j := 1) rfl, ?_⟩
   refine ⟨(by walk_at "s"), fun t7 ht7 => ?_⟩
   have y7 := Same.new ht7 (.tup [.str k, .ref t5])
   obtain ⟨c7, F7, tp7⟩ := sts c6 F6 y7
   exact q t7 _ _ (.tup [.str (S "if"), dO, d3, d]) _ F7 ups ⟨t5, _, rfl, (tp7 _ _ (tp6 _ _ ups)), _, _, rfl, rfl, _, _, rfl, (((((rO.t tp3).t tp4).t tp5).t tp6).t tp7), _, _, rfl, ((((r3.t tp4).t tp5).t tp6).t tp7), _, _, rfl, (((((((rT.t tp1).t tp2).t tp3).t tp4).t tp5).t tp6).t tp7), rfl⟩ (fun env hx hs => kt_if3 (kt_le h10 (gO env hx.fk)) (kt_le h10 (g3 env hx.fk)) (ft env hx fun h hh => hs h (List.mem_cons_of_mem _ hh)) rfl) (hk)
 refine ⟨_, rfl, rfl, _, rfl, ite2 (fun cq => ?_) (fun cq => ?_)⟩
 ·refine ⟨_, rfl, _, rfl, _, rfl, _, rfl, _, rfl, f', nb, kv, bv, ks, bs, nms, x, k, rfl, c2, hk, fun ar a0 a1 v0 v1 d0 d1 H3 f3 har ha0 ha1 rv0 rv1 g0 g1 => ?_⟩
  obtain ⟨c3, F3, tp3⟩ := stf c2 F2 f3
  refine ⟨_, rfl, nb, _, _, _, rfl, rfl, c3.at, c3.nm 8, _, rfl, _, rfl, (by walk_at "s"), fun t4 ht4 => ?_⟩
  have y4 := Same.new ht4 (.tup [.str (nm nms 8), .str held, .ref a])
  obtain ⟨c4, F4, tp4⟩ := sts c3 F3 y4
  refine ⟨_, rfl, nb, _, _, _, rfl, rfl, c4.at, c4.nm 9, _, rfl, _, rfl, ar, _, _, _, rfl, rfl, SqT.of (tp4 _ _ har), xai (j := 1) rfl, a1, _, _, _, rfl, rfl, SqT.of (tp4 _ _ ha1), xai (j := 2) rfl, (by walk_at "s"), fun t5 ht5 => ?_⟩
  have y5 := Same.new ht5 (.tup [.str (nm nms 9), .str held, v1])
  obtain ⟨c5, F5, tp5⟩ := sts c4 F4 y5
  refine ⟨(by walk_at "s"), fun t6 ht6 => ?_⟩
  have y6 := Same.new ht6 (.tup [.ref t4, .ref t5])
  obtain ⟨c6, F6, tp6⟩ := sts c5 F5 y6
  refine ⟨_, rfl, _, rfl, nb, _, _, _, rfl, rfl, c6.at, c6.nm 5, _, rfl, nb, _, _, _, rfl, rfl, c6.at, c6.nm 8, _, rfl, (by walk_at "s"), fun t7 ht7 => ?_⟩
  have y7 := Same.new ht7 (.tup [.str (S "tag"), .str (nm nms 5), .str (nm nms 8), .ref aO])
  obtain ⟨c7, F7, tp7⟩ := sts c6 F6 y7
  refine ⟨_, rfl, (by walk_at "s"), fun t8 ht8 => ?_⟩
  have y8 := Same.new ht8 (.tup [.str (S "case"), .ref t7, .ref t6])
  obtain ⟨c8, F8, tp8⟩ := sts c7 F7 y8
  refine ⟨(by walk_at "s"), fun t9 ht9 => ?_⟩
  have y9 := Same.new ht9 (.tup [.str k, .ref t8])
  obtain ⟨c9, F9, tp9⟩ := sts c8 F8 y9
  exact q t9 _ _ (.tup [.str (S "case"), (.tup [.str (S "tag"), .str (nm nms 5), .str (nm nms 8), dO]), (.tup [(.tup [.str (nm nms 8), .str held, d]), (.tup [.str (nm nms 9), .str held, d1])])]) _ F9 ups ⟨t8, _, rfl, (tp9 _ _ ups), _, _, rfl, rfl, _, _, rfl, ⟨t7, _, rfl, (tp9 _ _ (tp8 _ _ ups)), _, _, rfl, rfl, _, _, rfl, rfl, _, _, rfl, rfl, _, _, rfl, (((((((rO.t tp3).t tp4).t tp5).t tp6).t tp7).t tp8).t tp9), rfl⟩, _, _, rfl, ⟨t6, _, rfl, (tp9 _ _ (tp8 _ _ (tp7 _ _ ups))), _, _, rfl, ⟨t4, _, rfl, (tp9 _ _ (tp8 _ _ (tp7 _ _ (tp6 _ _ (tp5 _ _ ups))))), _, _, rfl, rfl, _, _, rfl, rfl, _, _, rfl, (((((((((rT.t tp1).t tp2).t tp3).t tp4).t tp5).t tp6).t tp7).t tp8).t tp9), rfl⟩, _, _, rfl, ⟨t5, _, rfl, (tp9 _ _ (tp8 _ _ (tp7 _ _ (tp6 _ _ ups)))), _, _, rfl, rfl, _, _, rfl, rfl, _, _, rfl, ((((((rv1.t tp4).t tp5).t tp6).t tp7).t tp8).t tp9), rfl⟩, rfl⟩, rfl⟩ (fun env hx hs => kt_case0 (r0 := (nm nms 8, held, d)) (rest := [(nm nms 9, held, d1)]) (by show 2 <= 1000; decide) (kt_le (n := 9) (by omega) (kt_tag c0.kc.a5 rfl c0.kc.pA8 (gO env hx.fk))) c0.kc.a5 rfl (tags_two c0.kc _ _ _ _) (.inr ⟨hs held (by simp), .inr ⟨S "num", c0.kc.pA8, ft _ (hx.put c0.kc c0.bn heldN num_le) fun h hm => by rw [put_ne (held' h hm)]; exact hs h (List.mem_cons_of_mem _ hm)⟩⟩)) (hk)
 refine ⟨_, rfl, rfl, _, rfl, ?_⟩
 by_cases ek : k = S "num"
 ·refine iteKT (decide_eq_true (congrArg V.str ek)) ?_
  refine ⟨_, rfl, rfl, _, rfl, ite2 (fun cr => ?_) (fun cr => ?_)⟩
  ·refine ⟨_, rfl, _, rfl, (by walk_at "s"), fun t3 ht3 => ?_⟩
   have y3 := Same.new ht3 (.tup [.str (S "op"), .str (S "-"), .ref aO, .ref a])
   obtain ⟨c3, F3, tp3⟩ := sts c2 F2 y3
   refine ⟨(by walk_at "s"), fun t4 ht4 => ?_⟩
   have y4 := Same.new ht4 (.tup [.str (S "num"), .ref t3])
   obtain ⟨c4, F4, tp4⟩ := sts c3 F3 y4
   exact q t4 _ _ (.tup [.str (S "op"), .str (S "-"), dO, d]) _ F4 ups ⟨t3, _, rfl, (tp4 _ _ ups), _, _, rfl, rfl, _, _, rfl, rfl, _, _, rfl, ((rO.t tp3).t tp4), _, _, rfl, ((((rT.t tp1).t tp2).t tp3).t tp4), rfl⟩ (fun env hx hs => kt_opB (kt_le h10 (gO env hx.fk)) (ft env hx fun h hh => hs h (List.mem_cons_of_mem _ hh)) rfl) (.inl rfl)
  refine ⟨_, rfl, rfl, _, rfl, iteKT (decide_eq_true (congrArg V.str ek)) ?_⟩
  refine ⟨_, rfl, nb, _, _, _, rfl, rfl, c2.at, c2.nm 4, _, rfl, nb, _, _, _, rfl, rfl, c2.at, c2.nm 4, _, rfl, ?_⟩
  obtain ⟨ka1, us1, b11, v11, v21, b21, v31, b41, ekv1, ha1, hi1, hb11, hb21, hb41⟩ := kx_at c2.ti.kd c2.kc
  refine ⟨_, rfl, _, rfl, _, rfl, _, rfl, _, rfl, ka1, us1, _, _, ekv1, rfl, SqT.of ha1, hi1, b11, _, _, _, rfl, rfl, SqT.of hb11, rfl, b21, _, _, _, rfl, rfl, SqT.of hb21, rfl, b41, _, _, _, rfl, rfl, SqT.of hb41, rfl, f', kv, bv, ks, bs, x, rfl, c2.ti, c0.kc.kx, fun a3 d3 H3 f3 r3 g3 => ?_⟩
  obtain ⟨c3, F3, tp3⟩ := stf c2 F2 f3
  refine ⟨(by walk_at "s"), fun t4 ht4 => ?_⟩
  have y4 := Same.new ht4 (.tup [.ref a, .ref a3])
  obtain ⟨c4, F4, tp4⟩ := sts c3 F3 y4
  refine ⟨(by walk_at "s"), fun t5 ht5 => ?_⟩
  have y5 := Same.new ht5 (.tup [.str (S "rec"), .str (nm nms 4), .ref t4])
  obtain ⟨c5, F5, tp5⟩ := sts c4 F4 y5
  refine ⟨(by walk_at "s"), fun t6 ht6 => ?_⟩
  have y6 := Same.new ht6 (.tup [.str (nm nms 4), .ref t5])
  obtain ⟨c6, F6, tp6⟩ := sts c5 F5 y6
  exact q t6 _ _ (.tup [.str (S "rec"), .str (nm nms 4), (.tup [d, d3])]) _ F6 ups ⟨t5, _, rfl, (tp6 _ _ ups), _, _, rfl, rfl, _, _, rfl, rfl, _, _, rfl, ⟨t4, _, rfl, (tp6 _ _ (tp5 _ _ ups)), _, _, rfl, ((((((rT.t tp1).t tp2).t tp3).t tp4).t tp5).t tp6), _, _, rfl, (((r3.t tp4).t tp5).t tp6), rfl⟩, rfl⟩ (fun env hx hs => kt_recF c0.kc.a4 rfl rfl ⟨_, (ft env hx fun h hh => hs h (List.mem_cons_of_mem _ hh)), .inl ⟨_, rfl, rfl⟩⟩) (c0.kc.k4)
 refine iteKF (decide_eq_false (fun z => ek (V.str.inj z))) (iteF ?_)
 refine ⟨_, rfl, rfl, _, rfl, iteKF (decide_eq_false (fun z => ek (V.str.inj z))) ?_⟩
 refine ⟨_, rfl, _, rfl, nb, _, _, _, rfl, rfl, c2.at, c2.nm 4, rfl, _, rfl, ?_⟩
 by_cases e4 : k = nm nms 4
 ·refine iteKT (decide_eq_true (congrArg V.str e4)) ?_
  refine ⟨_, rfl, _, _, rfl, rfl, _, rfl, ite2 (fun cr => ?_) (fun cr => ?_)⟩
  ·refine ⟨_, rfl, _, rfl, nb, _, _, _, rfl, rfl, c2.at, c2.nm 8, (by walk_at "s"), fun t3 ht3 => ?_⟩
   have y3 := Same.new ht3 (.tup [.str (S "get"), .ref a, .str (nm nms 8)])
   obtain ⟨c3, F3, tp3⟩ := sts c2 F2 y3
   refine ⟨(by walk_at "s"), fun t4 ht4 => ?_⟩
   have y4 := Same.new ht4 (.tup [.str (S "num"), .ref t3])
   obtain ⟨c4, F4, tp4⟩ := sts c3 F3 y4
   exact q t4 _ _ (.tup [.str (S "get"), d, .str (nm nms 8)]) _ F4 ups ⟨t3, _, rfl, (tp4 _ _ ups), _, _, rfl, rfl, _, _, rfl, ((((rT.t tp1).t tp2).t tp3).t tp4), _, _, rfl, rfl, rfl⟩ (fun env hx hs => kt_getS (ft env hx fun h hh => hs h (List.mem_cons_of_mem _ hh)) rfl) (.inl rfl)
  refine ⟨_, rfl, _, rfl, nb, _, _, _, rfl, rfl, c2.at, c2.nm 4, rfl, _, rfl, iteKT (decide_eq_true (congrArg V.str e4)) ?_⟩
  refine ⟨_, rfl, nb, _, _, _, rfl, rfl, c2.at, c2.nm 5, _, rfl, nb, _, _, _, rfl, rfl, c2.at, c2.nm 5, _, rfl, nb, _, _, _, rfl, rfl, c2.at, c2.nm 9, _, rfl, (by walk_at "s"), fun t3 ht3 => ?_⟩
  have y3 := Same.new ht3 (.tup [.str (S "tag"), .str (nm nms 5), .str (nm nms 9), .ref a])
  obtain ⟨c3, F3, tp3⟩ := sts c2 F2 y3
  refine ⟨(by walk_at "s"), fun t4 ht4 => ?_⟩
  have y4 := Same.new ht4 (.tup [.str (nm nms 5), .ref t3])
  obtain ⟨c4, F4, tp4⟩ := sts c3 F3 y4
  exact q t4 _ _ (.tup [.str (S "tag"), .str (nm nms 5), .str (nm nms 9), d]) _ F4 ups ⟨t3, _, rfl, (tp4 _ _ ups), _, _, rfl, rfl, _, _, rfl, rfl, _, _, rfl, rfl, _, _, rfl, ((((rT.t tp1).t tp2).t tp3).t tp4), rfl⟩ (fun env hx hs => kt_tagF c0.kc.a5 rfl c0.kc.pA9 (ft env hx fun h hh => hs h (List.mem_cons_of_mem _ hh)) rfl) (c0.kc.k5)
 refine iteKF (decide_eq_false (fun z => e4 (V.str.inj z))) (iteF ?_)
 refine ⟨_, rfl, _, rfl, nb, _, _, _, rfl, rfl, c2.at, c2.nm 4, rfl, _, rfl, iteKF (decide_eq_false (fun z => e4 (V.str.inj z))) ?_⟩
 refine ⟨_, rfl, _, rfl, nb, _, _, _, rfl, rfl, c2.at, c2.nm 5, rfl, _, rfl, ite2 (fun c5 => ?_) (fun c5 => ?_)⟩
 ·refine ⟨_, rfl, _, rfl, nb, _, _, _, rfl, rfl, c2.at, c2.nm 8, _, rfl, _, rfl, (by walk_at "s"), fun t3 ht3 => ?_⟩
  have y3 := Same.new ht3 (.tup [.str (nm nms 8), .str held, .ref aO])
  obtain ⟨c3, F3, tp3⟩ := sts c2 F2 y3
  refine ⟨_, rfl, nb, _, _, _, rfl, rfl, c3.at, c3.nm 9, _, rfl, _, rfl, (by walk_at "s"), fun t4 ht4 => ?_⟩
  have y4 := Same.new ht4 (.tup [.str (nm nms 9), .str held, .ref aO])
  obtain ⟨c4, F4, tp4⟩ := sts c3 F3 y4
  refine ⟨(by walk_at "s"), fun t5 ht5 => ?_⟩
  have y5 := Same.new ht5 (.tup [.ref t3, .ref t4])
  obtain ⟨c5, F5, tp5⟩ := sts c4 F4 y5
  refine ⟨(by walk_at "s"), fun t6 ht6 => ?_⟩
  have y6 := Same.new ht6 (.tup [.str (S "case"), .ref a, .ref t5])
  obtain ⟨c6, F6, tp6⟩ := sts c5 F5 y6
  refine ⟨(by walk_at "s"), fun t7 ht7 => ?_⟩
  have y7 := Same.new ht7 (.tup [.str (S "num"), .ref t6])
  obtain ⟨c7, F7, tp7⟩ := sts c6 F6 y7
  exact q t7 _ _ (.tup [.str (S "case"), d, (.tup [(.tup [.str (nm nms 8), .str held, dO]), (.tup [.str (nm nms 9), .str held, dO])])]) _ F7 ups ⟨t6, _, rfl, (tp7 _ _ ups), _, _, rfl, rfl, _, _, rfl, (((((((rT.t tp1).t tp2).t tp3).t tp4).t tp5).t tp6).t tp7), _, _, rfl, ⟨t5, _, rfl, (tp7 _ _ (tp6 _ _ ups)), _, _, rfl, ⟨t3, _, rfl, (tp7 _ _ (tp6 _ _ (tp5 _ _ (tp4 _ _ ups)))), _, _, rfl, rfl, _, _, rfl, rfl, _, _, rfl, (((((rO.t tp3).t tp4).t tp5).t tp6).t tp7), rfl⟩, _, _, rfl, ⟨t4, _, rfl, (tp7 _ _ (tp6 _ _ (tp5 _ _ ups))), _, _, rfl, rfl, _, _, rfl, rfl, _, _, rfl, (((((rO.t tp3).t tp4).t tp5).t tp6).t tp7), rfl⟩, rfl⟩, rfl⟩ (fun env hx hs => kt_caseS (rs := [(nm nms 8, held, dO), (nm nms 9, held, dO)]) (by show 2 <= 1000; decide) (ft env hx fun h hh => hs h (List.mem_cons_of_mem _ hh)) rfl) (.inl rfl)
 refine ⟨_, rfl, _, rfl, _, rfl, _, rfl, _, rfl, _, rfl, _, rfl, f', kv, bv, ks, bs, k, rfl, c2.ti, hk, fun a3 d3 H3 f3 r3 g3 => ?_⟩
 obtain ⟨c3, F3, tp3⟩ := stf c2 F2 f3
 refine ⟨(by walk_at "s"), fun t4 ht4 => ?_⟩
 have y4 := Same.new ht4 (.tup [.str (S "if"), .ref aO, .ref a, .ref a3])
 obtain ⟨c4, F4, tp4⟩ := sts c3 F3 y4
 refine ⟨(by walk_at "s"), fun t5 ht5 => ?_⟩
 have y5 := Same.new ht5 (.tup [.str k, .ref t4])
 obtain ⟨c5, F5, tp5⟩ := sts c4 F4 y5
 exact q t5 _ _ (.tup [.str (S "if"), dO, d, d3]) _ F5 ups ⟨t4, _, rfl, (tp5 _ _ ups), _, _, rfl, rfl, _, _, rfl, (((rO.t tp3).t tp4).t tp5), _, _, rfl, (((((rT.t tp1).t tp2).t tp3).t tp4).t tp5), _, _, rfl, ((r3.t tp4).t tp5), rfl⟩ (fun env hx hs => kt_if2 (kt_le h10 (gO env hx.fk)) (ft env hx fun h hh => hs h (List.mem_cons_of_mem _ hh))) (hk)
end
end K18
end
section
namespace L2
open PySem PySem.Spec PyProof.Rows
section
variable {X : Cx} {K : PySem.W.Frag} {T : String} {name : Str} {id : String} {r : V -> List V -> Hp -> VK -> Prop} {o e : Expr} {es : List Expr} {to : TE} {t : TA} {apos cpos : Pos}
theorem pe_bmK (hK : X.K = K) (pa : PlainAttrs T) (slot : Slot T name id) (hty : typeOf (.builtin id) = pure (.type "method_descriptor")) (hm : MtR X id r) (ho : PE X o to) (ha : PA X (e :: es) t)
  (hbase : attributeBase o name X.env (eval o X.env) = eval o X.env := by rfl)
  (hfew : ((backTo cpos (starEach (e :: es) X.env)).all (fun x => !x.1) && (backToKw cpos (keywordEach [] X.env)).all (fun x => x.1.isSome)
   && decide ((e :: es).length + ([] : List Keyword).length + (if ([] : List Keyword).isEmpty then 0 else 1) < 30)) = true := by rfl)
  (hline : (apos.endLine == cpos.line) = true := by rfl) (hs : starEach (e :: es) X.env = (false, eval e X.env) :: starEach es X.env := by rfl) (hplain : (backTo cpos (starEach es X.env)).any (·.1) = false := by rfl) :
  PE X (.Call (.Attribute o name apos) (e :: es) [] cpos) (tBM K T r to t) := by
 subst hK
 exact pe_bm pa slot hty hm ho ha hbase hfew hline hs hplain
end
theorem xa6 {X : Cx} {K : PySem.W.Frag} (hK : X.K = K) : CallR X (.builtin "isinstance") (fun xs H Q => ∃ a C dx c2 y c b, xs = [.ref a, y] /\ (∀ u, RelV y u -> u = c) /\ H a = some (excF a C dx c2) /\ (∀ d, dx = some d -> ∃ fs, H d = some (.xd fs)) /\ XCl K C ∧
  PySem.W.kitOne K (.ref C) c = some b /\ Q (.bl b) H) := by
 subst hK
 exact call_isinstF
theorem call_isinstFTK {X : Cx} {K : PySem.W.Frag} (hK : X.K = K) : CallR X (.builtin "isinstance") (fun xs H Q => ∃ (a C : Addr) (dx : Option Addr) (c2 : Value) (tp : Addr) (cs : List Addr) (b : Bool), xs = [.ref a, .ref tp] /\ H tp = some (.tup (cs.map V.ref)) /\ H a = some (excF a C dx c2) /\ (∀ d, dx = some d -> ∃ fs, H d = some (.xd fs)) /\ XCl K C ∧
  PySem.W.kitAny K (.ref C) (cs.map Value.ref) = some b /\ Q (.bl b) H) := by
 subst hK
 exact call_isinstFT
end L2
end
section
namespace K18
open PySem L2 M
seal L2.PE L2.PA L2.PS L2.PSs L2.PT L2.PW L2.PI L2.PG L2.PJ L2.PTs
def dueB (c : Nat) : List Bool := [decide (c = 2), decide (c = 4), decide (c = 3), decide (c = 5), decide (c = 1), false]
def spRefused (m : Nat) : Sp := fun vs H Q _ => ∃ kv tv p ks d env c, vs = [kv, tv, .ref p] /\ In3 H kv tv p ks d env m /\ Kt ks 12 env d (.error c) /\ 1 <= c /\ c <= 5 /\ ∀ l H', Same H H' -> H' l = some (.lst ((dueB c).map V.bl)) -> Q (.ref l) H'
def spCell0 (K : PySem.W.Frag) : Sp := fun vs H Q _ => ∃ (a : Addr) (ns : List Int), vs = [.ref a] /\ SqL K H a (ns.map V.int) /\ ns.length <= 63 /\ ∀ c : Int, Q (.int c) H
theorem only (a : Addr) : ∀ u, RelV (.ref a) u -> u = Value.ref a := fun _ h => h
theorem same_put {H H1 : Hp} {p : Addr} (s : Same H H1) (hp : H p = none) (o : HO) : Same H (upd H1 p o) := fun b u q => by
 rw [xar (neN q hp)]
 exact s b u q
section
variable {P : Program} {w : World} {K : PySem.W.Frag} {mg : Str -> Option Value} {base : Heap} {n m : Nat}
theorem kit6 (T : Tx K mg) {c : Nat} (h1 : 1 <= c) (h5 : c <= 5) : PySem.W.kitAny K (.ref (cAt K c)) ([cAt K 0, cAt K 7, cAt K 10, cAt K 9, cAt K 6, cAt K 8].map Value.ref) = some false := by
 refine kit_none fun v hv => ?_
 have hj : ∃ j, j < 11 /\ v = .ref (cAt K j) /\ c ≠ j := by
  simp only [List.map_cons, List.map_nil, List.mem_cons, List.not_mem_nil, or_false] at hv
  rcases hv with h | h | h | h | h | h
  ·exact ⟨0, by decide, h, by omega⟩
  ·exact ⟨7, by decide, h, by omega⟩
  ·exact ⟨10, by decide, h, by omega⟩
  ·exact ⟨9, by decide, h, by omega⟩
  ·exact ⟨6, by decide, h, by omega⟩
  ·exact ⟨8, by decide, h, by omega⟩
 obtain ⟨j, h1, rfl, h3⟩ := hj
 rw [T.xt.kit c j (by omega) h1, decide_eq_false h3]
theorem okl_cell_0 (T : Tx K mg) : DefIs P w K mg base (n + 1) "_law_cell_0" ["_law_script"] (spCell0 K) := by
 refine DefIs.of T.dl_cell_0 scl_cell_0 ?_ ?_ <;> walk_at "i"
 ·obtain ⟨_, _, rfl, _⟩ := h
  rfl
 obtain ⟨a, ns, rfl, hS, h63, q⟩ := h
 refine ⟨_, (zpn (xap (pR xaq (xam xaj rfl T.z_len PySem.boot_len (pc (pv 0) pN zsn)) pI (nM _)) (po (xad pI)) pQ)
   (po (xad (xac iL (pv 0) pI (fun _ _ => rfl))))), ?_⟩
 refine ⟨_, rfl, a, _, rfl, .inl hS, rfl, _, rfl, ite2 (fun c => ?_) (fun c => ?_)⟩
 ·exact q 0
 ·have hp : (0 : Int) < (ns.length : Int) := by
   have : ¬ ((ns.map V.int).length : Int) = 0 := fun z => c (decide_eq_true (congrArg V.int z))
   rw [List.length_map] at this
   omega
  obtain ⟨v, hv⟩ := at_ints (ns := ns) (Int.le_refl 0) hp
  exact ⟨_, rfl, a, _, _, _, rfl, rfl, hS, hv, q v⟩
theorem okl_refused (T : Tx K mg) (D_kind_of : DefXs P w K mg base n "kind_of" ["kinds", "term", "boxes"] (spKt K (fun ks => Kt ks 12) m)) : DefIs P w K mg base (n + 1) "_law_refused" ["_law_kinds_here", "_law_term_here", "_law_boxes"] (spRefused m) := by
 refine DefIs.of T.dl_refused scl_refused ?_ ?_ <;> walk_at "i"
 ·obtain ⟨_, _, _, _, _, _, _, rfl, _⟩ := h
  rfl
 obtain ⟨kv, tv, p, ks, d, env, c, rfl, hi, hK, hc1, hc5, q⟩ := h
 have nd := scl_refused.nd
 have hu := hu_of hr
 refine ⟨_, (zpn (xae (i := 3) nd rfl (by walk_at "o") pe_non)
   (zpn (ps_tryAs (i := 4) rfl rfl nd rfl rfl T.c_SwapError T.xt2.obj (fun pn Es => (po (xay (xan D_kind_of hr (pc (pv 0) (pc (pv 1) (pc (pv 2) pN zsn) zsn) zsn))))) (fun e => (zpn (xae (i := 3) nd rfl (by walk_at "o") (xat (pc (xam (xa6 (K := K) rfl) rfl T.z_isinstance PyProof.Rows.boot_isinstance (pc (pv 4) (pc (pe_gref T.c_NoName) pN zsn) zsn)) (pc (xam (xa6 (K := K) rfl) rfl T.z_isinstance PyProof.Rows.boot_isinstance (pc (pv 4) (pc (pe_gref T.c_WrongKind) pN zsn) zsn)) (pc (xam (xa6 (K := K) rfl) rfl T.z_isinstance PyProof.Rows.boot_isinstance (pc (pv 4) (pc (pe_gref T.c_NoCount) pN zsn) zsn)) (pc (xam (xa6 (K := K) rfl) rfl T.z_isinstance PyProof.Rows.boot_isinstance (pc (pv 4) (pc (pe_gref T.c_Lacks) pN zsn) zsn)) pN zsc) zsc) zsc) zsc)))
   (zpn (xay (pe_bmK (K := K) rfl PySem.F.plainAttrs_list PySem.F.slot_list_append PySem.F.type_list_append mt_append (pv 3) (pc (xam (xa6 (K := K) rfl) rfl T.z_isinstance PyProof.Rows.boot_isinstance (pc (pv 4) (pc (pe_gref T.c_Twice) pN zsn) zsn)) pN zsc)))
   (po (xay (pe_bmK (K := K) rfl PySem.F.plainAttrs_list PySem.F.slot_list_append PySem.F.type_list_append mt_append (pv 3) (pc (pe_or (xam (call_isinstFTK (K := K) rfl) rfl T.z_isinstance PyProof.Rows.boot_isinstance (pc (pv 4) (pc (xaa (pc (pe_gref T.c_BadText) (pc (pe_gref T.c_Falls) (pc (pe_gref T.c_NoCode) (pc (pe_gref T.c_NoFit) (pc (pe_gref T.c_NotOwn) (pc (pe_gref T.c_TooBig) pN zsn) zsn) zsn) zsn) zsn) zsn)) pN sT) zsn)) (pe_one (pe_not (xam (xa6 (K := K) rfl) rfl T.z_isinstance PyProof.Rows.boot_isinstance (pc (pv 4) (pc (pe_gty T.z_ValueError boot_VE) pN zsn) zsn))))) pN star_bool))))))))
   (po (xad (pv 3))))), ?_⟩
 refine ⟨fun v d σ' H' => σ' = [some kv, some tv, some (.ref p), some .non, none] /\ Same H H' /\ Rz K H' v d c, ?_, ?_⟩
 ·refine ⟨_, rfl, _, rfl, _, rfl, kv, tv, p, ks, d, env, .error c, rfl, hi, hK, (fun k e => by cases e), fun c' e v d H' s' r => ?_⟩
  cases e
  exact ⟨rfl, s', r⟩
 ·rintro x C d c2 σ' H1 ⟨rfl, s1, x', ex, rfl, hx⟩ hx2
  cases ex
  have hc11 : c < 11 := by omega
  rw [hx] at hx2
  obtain ⟨rfl, -⟩ := excF_inj (Option.some.inj hx2)
  clear hx2
  refine ⟨T.xt.cl c hc11, T.xt2.mro c hc11, ?_⟩
  have M := T.xt.cl c hc11
  have kt : ∀ j, j < 11 -> PySem.W.kitOne K (.ref (cAt K c)) (.ref (cAt K j)) = some (decide (c = j)) := fun j hj => T.xt.kit c j hc11 hj
  refine ⟨_, rfl, x, cAt K c, none, .none, _, _, _, rfl, only _, hx, (fun _ z => nomatch z), M, kt 2 (by decide), ?_⟩
  refine ⟨_, rfl, x, cAt K c, none, .none, _, _, _, rfl, only _, hx, (fun _ z => nomatch z), M, kt 4 (by decide), ?_⟩
  refine ⟨_, rfl, x, cAt K c, none, .none, _, _, _, rfl, only _, hx, (fun _ z => nomatch z), M, kt 3 (by decide), ?_⟩
  refine ⟨_, rfl, x, cAt K c, none, .none, _, _, _, rfl, only _, hx, (fun _ z => nomatch z), M, kt 5 (by decide), ?_⟩
  refine ⟨(by walk_at "s"), fun l hl => ?_⟩
  have y1 := Same.new hl (.lst [.bl (decide (c = 2)), .bl (decide (c = 4)), .bl (decide (c = 3)), .bl (decide (c = 5))])
  have hl0 := none_of_same s1 hl
  have hx1 := y1 _ _ hx
  refine ⟨_, rfl, .inl ⟨rfl, _, SqL.of ups⟩, _, rfl, x, cAt K c, none, .none, _, _, _, rfl, only _, hx1, (fun _ z => nomatch z), M, kt 1 (by decide), ?_⟩
  refine ⟨l, _, _, rfl, rfl, ups, xa1 (by show 4 <= _; decide), ?_⟩
  have xl : x ≠ l := neN hx hl
  generalize hH2 : upd (upd H1 l _) l _ = H2
  have hl2 : H2 l = some (.lst [.bl (decide (c = 2)), .bl (decide (c = 4)), .bl (decide (c = 3)), .bl (decide (c = 5)), .bl (decide (c = 1))]) := by rw [<- hH2]; exact ups
  have hx2 : H2 x = some (excF x (cAt K c) none .none) := by rw [<- hH2, xar xl, xar xl]; exact hx
  have s2 : Same H H2 := by
   rw [<- hH2]
   exact same_put (same_put s1 hl0 _) hl0 _
  refine ⟨_, rfl, .inl ⟨rfl, _, SqL.of hl2⟩, ?_⟩
  refine ⟨_, rfl, (by walk_at "s"), fun tp htp => ?_⟩
  have t1 := Same.new htp (.tup ([cAt K 0, cAt K 7, cAt K 10, cAt K 9, cAt K 6, cAt K 8].map V.ref))
  refine ⟨x, cAt K c, none, .none, tp, _, _, rfl, ups, t1 _ _ hx2, (fun _ z => nomatch z), M, kit6 T hc1 hc5, ?_⟩
  refine ⟨_, rfl, iteF ?_⟩
  have hx3 := t1 _ _ hx2
  have hl3 := t1 _ _ hl2
  refine ⟨_, rfl, x, cAt K c, none, .none, _, _, _, rfl, (fun _ h => h), hx3, (fun _ z => nomatch z), M, T.xt.kV c hc11, _, rfl, ?_⟩
  refine ⟨l, _, _, rfl, rfl, hl3, xa1 (by show 5 <= _; decide), ?_⟩
  exact ⟨_, rfl, q l _ (same_put (s2.trans t1) hl0 _) ups⟩
end
end K18
end
section
namespace K18
open PySem L2 M
seal L2.PE L2.PA L2.PS L2.PSs L2.PT L2.PW L2.PI L2.PG L2.PJ L2.PTs
def envB (bs : List (Str × Str)) : En := fun y => (bs.find? fun b => decide (b.1 = y)).map fun b => D.str b.2
theorem merge_out {y : Str} : ∀ (bs : List (Str × Str)) (acc : List (Key × V)), (∀ b ∈ bs, b.1 ≠ y) -> valV (xa8 acc (bKV bs)) (Sum.inr y) = valV acc (Sum.inr y)
 | [], acc, _ => rfl
 | b :: bs, acc, h => by
  show valV (xa8 (putK acc (Sum.inr b.1) (.str b.2)) (bKV bs)) (Sum.inr y) = _
  rw [merge_out bs _ fun c hc => h c (by simp [hc]), valV_put, if_neg fun e => h b (by simp) (Sum.inr.inj e).symm]
theorem merge_in : ∀ (bs : List (Str × Str)) (acc : List (Key × V)), (bs.map (·.1)).Nodup -> ∀ p ∈ bs, valV (xa8 acc (bKV bs)) (Sum.inr p.1) = some (.str p.2)
 | [], acc, _, p, hp => nomatch hp
 | b :: bs, acc, nd, p, hp => by
  rw [List.map_cons, List.nodup_cons] at nd
  show valV (xa8 (putK acc (Sum.inr b.1) (.str b.2)) (bKV bs)) (Sum.inr p.1) = _
  rcases List.mem_cons.mp hp with rfl | hp
  ·rw [merge_out bs _ fun c hc e => nd.1 (by rw [<- e]; exact List.mem_map_of_mem hc), valV_put, if_pos rfl]
  ·exact merge_in bs _ nd.2 p hp
theorem envB_in {bs : List (Str × Str)} (nd : (bs.map (·.1)).Nodup) {p : Str × Str} (hp : p ∈ bs) : envB bs p.1 = some (.str p.2) := by
 unfold envB
 obtain ⟨i, hi, e⟩ := List.mem_iff_getElem.mp hp
 rw [find_nodup (f := fun r : Str × Str => r.1) (xs := bs) (i := i) (a := p) nd (by rw [<- e]; exact List.getElem?_eq_getElem hi)]
 rfl
theorem envB_out {bs : List (Str × Str)} {y : Str} (h : ∀ b ∈ bs, b.1 ≠ y) : envB bs y = none := by
 unfold envB
 rw [List.find?_eq_none.mpr fun b hb => by simpa using h b hb]
 rfl
theorem envB_at {H : Hp} {p : Addr} {bs : List (Str × Str)} (nd : (bs.map (·.1)).Nodup) (hp : H p = some (.dK (xa8 [] (bKV bs)))) : EnAt H p bs.length (envB bs) := by
 refine ⟨_, hp, ?_, fun y => ⟨fun e => ?_, fun d e => ?_⟩⟩
 ·have := length_mergeK (bKV bs) []
  unfold bKV at this ⊢
  rw [List.length_map] at this
  simpa using this
 ·unfold envB at e
  have h := List.find?_eq_none.mp (Option.map_eq_none_iff.mp e)
  rw [merge_out bs [] fun b hb => by simpa using h b hb]
  rfl
 ·unfold envB at e
  obtain ⟨b, hb, rfl⟩ := Option.map_eq_some_iff.mp e
  have h1 : b.1 = y := by
   have := List.find?_some hb
   exact of_decide_eq_true this
  refine ⟨.str b.2, ?_, rfl⟩
  rw [<- h1]
  exact merge_in bs [] nd b (List.mem_of_find?_eq_some hb)
theorem fit_envB {ks : List Kn} {bs : List (Str × Str)} (nd : (bs.map (·.1)).Nodup) : FitK ks bs (envB bs) := ⟨fun p hp => envB_in nd hp, fun z _ hz => envB_out hz⟩
theorem strs_deep {H : Hp} : ∀ (bs : List (Str × Str)) (acc : List (Key × V)), (∀ e ∈ acc, ∃ d : D, RelD H e.2 d /\ d.deep <= 190) -> ∀ e ∈ xa8 acc (bKV bs), ∃ d : D, RelD H e.2 d /\ d.deep <= 190
 | [], acc, h => h
 | b :: bs, acc, h => strs_deep bs (putK acc (Sum.inr b.1) (.str b.2)) fun e he => by
  unfold putK at he
  split at he
  ·obtain ⟨a, ha, rfl⟩ := List.mem_map.mp he
   by_cases c : a.1 = Sum.inr b.1
   ·rw [if_pos c]; exact ⟨.str b.2, rfl, Nat.zero_le _⟩
   ·rw [if_neg c]; exact h a ha
  ·rcases List.mem_append.mp he with he | he
   ·exact h e he
   ·rw [List.mem_singleton.mp he]; exact ⟨.str b.2, rfl, Nat.zero_le _⟩
theorem fx_envB {nms : List Str} {ks : List Kn} {x : Str} (c : KC nms ks x) {bs : List (Str × Str)} (nd : (bs.map (·.1)).Nodup) (hb : ∀ b ∈ bs, ∃ j, j < 22 /\ b.1 = nm nms j) (hk : ∀ b ∈ bs, KIn ks 6 b.2) : Fx nms ks bs (envB bs) := by
 have io : ∀ y ∈ ioN, envB bs y = none := fun y hy => envB_out fun b hbm e => by
  obtain ⟨j, hj, ej⟩ := hb b hbm
  exact c.io _ (nm_mem c.ok (i := j) (by omega)) (by rw [<- ej, e]; exact hy)
 have nn : ∀ i, 22 <= i -> i < 26 -> envB bs (nm nms i) = none := fun i h1 h2 => envB_out fun b hbm e => by
  obtain ⟨j, hj, ej⟩ := hb b hbm
  have := nm_inj c.ok (by omega) h2 (ej.symm.trans e)
  omega
 refine ⟨fit_envB nd, fun y k e => ?_, ⟨io _ (by walk_at "k"), io _ (by walk_at "k"), io _ (by walk_at "k")⟩, nn 22 (by omega) (by omega), nn 23 (by omega) (by omega)⟩
 unfold envB at e
 obtain ⟨b, hb', e'⟩ := Option.map_eq_some_iff.mp e
 cases e'
 exact kin_len c.wf (hk b (List.mem_of_find?_eq_some hb'))
theorem envB_io {nms : List Str} {ks : List Kn} {x : Str} (c : KC nms ks x) {bs : List (Str × Str)} (hb : ∀ b ∈ bs, ∃ j, j < 22 /\ b.1 = nm nms j) {y : Str} (hy : y ∈ ioN) : envB bs y = none := envB_out fun b hbm e => by
 obtain ⟨j, hj, ej⟩ := hb b hbm
 exact c.io _ (nm_mem c.ok (i := j) (by omega)) (by rw [<- ej, e]; exact hy)
def hsI : Nat -> List Str
 | 0 => []
 | 1 => [S "ina"]
 | _ => [S "inb", S "ina"]
theorem hsI_io : ∀ i, ∀ h ∈ hsI i, h ∈ ioN
 | 0, h, hm => nomatch hm
 | 1, h, hm => by rw [List.mem_singleton.mp hm]; decide +kernel
 | n + 2, h, hm => by
  have : h = S "inb" \/ h = S "ina" := by simpa [hsI] using hm
  rcases this with rfl | rfl <;> decide +kernel
theorem nod22 {nms : List Str} (ok : NmsOk nms) (fs : Nat) : ∀ m, m <= 22 -> ((List.range m).map fun i => nm nms ((fs + i) % 22)).Nodup
 | 0, _ => List.nodup_nil
 | m + 1, h => by
  rw [List.range_succ, List.map_append]
  refine nd_snoc (nod22 ok fs m (by omega)) fun hm => ?_
  obtain ⟨j, hj, e⟩ := List.mem_map.mp hm
  have hj' : j < m := List.mem_range.mp hj
  have := nm_inj ok (by omega) (by omega) e
  omega
theorem wc_due {word : Str} {c : Nat} (h : Wc word c) : 1 <= c /\ c <= 5 /\ [decide (V.str word = V.str (S "name")), decide (V.str word = V.str (S "kind")), decide (V.str word = V.str (S "count")), decide (V.str word = V.str (S "lacks")), decide (V.str word = V.str (S "twice")), false] = dueB c := by
 rcases h with ⟨rfl, rfl⟩ | ⟨rfl, rfl⟩ | ⟨rfl, rfl⟩ | ⟨rfl, rfl⟩ | ⟨rfl, rfl⟩ <;> exact ⟨by decide, by decide, by walk_at "k"⟩
theorem bls_eq : ∀ (bs : List Bool), eqVs (bs.map V.bl) (bs.map V.bl) = true /\ (bs.map V.bl).all flatV = true
 | [] => ⟨rfl, rfl⟩
 | b :: bs => by
  have := bls_eq bs
  constructor
  ·show (_ && eqVs (bs.map V.bl) (bs.map V.bl)) = true
   rw [this.1]
   cases b <;> rfl
  ·show (flatV (V.bl b) && (bs.map V.bl).all flatV) = true
   rw [this.2]
   rfl
def spLaw (K : PySem.W.Frag) : Sp := fun vs H Q _ => ∃ (a : Addr) (ns : List Int), vs = [.ref a] /\ SqL K H a (ns.map V.int) /\ ns.length <= 63 /\ ∀ H', Q (.bl true) H'
section
variable {P : Program} {w : World} {K : PySem.W.Frag} {mg : Str -> Option Value} {base : Heap} {n m : Nat}
theorem ok_law (T : Tx K mg) (Dl_feed : DefIs P w K mg base n "_law_feed" ["_law_script", "_law_k"] (spFeed K)) (Dl_take : DefIs P w K mg base n "_law_take" ["_law_feed_here", "_law_many"] xbc) (Dl_cell_0 : DefIs P w K mg base n "_law_cell_0" ["_law_script"] (spCell0 K)) (Dl_names : DefIs P w K mg base n "_law_names" ["_law_cell", "_law_many"] spNames) (Dl_kinds : DefIs P w K mg base n "_law_kinds" ["_law_feed_here", "_law_names_here"] spKinds) (Dl_more_kinds : DefIs P w K mg base n "_law_more_kinds" ["_law_feed_here", "_law_kinds_here", "_law_names_here"] spMoreK)
  (Dl_any_kind : DefIs P w K mg base n "_law_any_kind" ["_law_feed_here", "_law_kinds_here"] spAny) (Dl_fault : DefIs P w K mg base n "_law_fault" ["_law_feed_here", "_law_kinds_here", "_law_boxes", "_law_names_here"] spFault) (Dl_within : DefIs P w K mg base n "_law_within" ["_law_feed_here", "_law_kinds_here", "_law_boxes", "_law_names_here", "_law_kind", "_law_term_here", "_law_held"] spWithin) (Dl_refused : DefIs P w K mg base n "_law_refused" ["_law_kinds_here", "_law_term_here", "_law_boxes"] (spRefused 6)) :
  DefIs P w K mg base (n + 1) "law" ["_law_script"] (spLaw K) := by
 refine DefIs.of T.d_law sc_law ?_ ?_ <;> walk_at "i"
 ·obtain ⟨_, _, rfl, _⟩ := h
  rfl
 obtain ⟨a, ns, rfl, hS, h63, k⟩ := h
 have nd := sc_law.nd
 have hu := hu_of hr
 have hu2 := hu2_of hr
 refine ⟨_, (zpn (xae (i := 1) nd rfl (by walk_at "o") (pd Dl_names hr (pc (xah xa5 (pd Dl_cell_0 hr (pc (pv 0) pN zsn)) pI) (pc pI pN zso) xak)))
   (zpn (xae (i := 2) nd rfl (by walk_at "o") (pd Dl_feed hr (pc (pv 0) (pc pI pN zso) zsn)))
   (zpn (xae (i := 3) nd rfl (by walk_at "o") (pd Dl_more_kinds hr (pc (pv 2) (pc (pd Dl_kinds hr (pc (pv 2) (pc (pv 1) pN zsn) zsn)) (pc (pv 1) pN zsn) zsc) zsn)))
   (zpn (xae (i := 2) nd rfl (by walk_at "o") (pd Dl_feed hr (pc (pv 0) (pc pI pN zso) zsn)))
   (zpn (xae (i := 4) nd rfl (by walk_at "o") (xac iL (xat (pc pI (pc (pd Dl_take hr (pc (pv 2) (pc pI pN zso) zsn)) pN zsc) zso)) (pd Dl_take hr (pc (pv 2) (pc pI pN zso) zsn)) (fun _ _ => rfl)))
   (zpn (ps_setComp (i := 5) ["_law_k", "_law_names_here", "_law_feed_here", "_law_kinds_here", "_law_at"] [none, some 1, some 2, some 3, some 4] rfl (by kernel_rfl) nd rfl (by walk_at "o") (pi_range1 rfl T.z_range (pc (xah xas pI (pd Dl_take hr (pc (pv 2) (pc pI pN zso) zsn))) pN xak)) (fun _ _ _ _ => (xaf (i := 0) (by show List.Nodup (["_law_k", "_law_names_here", "_law_feed_here", "_law_kinds_here", "_law_at"] : List Str); decide +kernel) rfl (Or.inl rfl))) (fun _ _ _ _ => pts_nil) (fun _ _ _ _ => (xaa (pc (xac (ix_listC (K := K) rfl) (pv 1) (xah op_mod (xah xas (pv 4) (pv 0)) pI) (fun _ _ => rfl)) (pc (pd Dl_any_kind hr (pc (pv 2) (pc (pv 3) pN zsn) zsn)) pN zsc) zss))))
   (zpn (ps_for PassesOwn.never rfl (pi_range2 rfl T.z_range (pc pI (pc (xam (call_max2 rfl) rfl T.z_max PyProof.Rows.boot_max (pc pI (pc (xam xaj rfl T.z_len PySem.boot_len (pc (pe_slice sl_list (pv 0) po_none (po_some pI)) pN zss)) pN zsc) zso)) pN zsc) zso)) (xaf (i := 6) nd rfl (by walk_at "o"))
   (zpn (xae (i := 2) nd rfl (by walk_at "o") (pd Dl_feed hr (pc (pv 0) (pc (pv 6) pN zsn) zsn)))
   (zpn (ps_asg (pd Dl_fault hr (pc (pv 2) (pc (pv 3) (pc (pv 5) (pc (pv 1) pN zsn) zsn) zsn) zsn)) (pg_tup rfl (xag (xaf (i := 7) nd rfl (by walk_at "o")) (xag (xaf (i := 8) nd rfl (by walk_at "o")) (xag (xaf (i := 9) nd rfl (by walk_at "o")) xax)))))
   (zpn (ps_for PassesOwn.never rfl (pi_range1 rfl T.z_range (pc (xah op_mul (pd Dl_take hr (pc (pv 2) (pc pI pN zso) zsn)) (xa0 call_int1 rfl T.z_int PyProof.Rows.boot_int (pc (pe_cmpR op_notN (pv 8) pe_non (nM _)) pN star_cmp))) pN xak)) (xaf (i := 10) nd rfl (by walk_at "o"))
   (po (ps_asg (pd Dl_within hr (pc (pv 2) (pc (pv 3) (pc (pv 5) (pc (pv 1) (pc (pv 8) (pc (pv 9) (pc (xac iL (xat (pc pS (pc pS pN zso) zso)) (pv 10) (fun _ _ => rfl)) pN zss) zsn) zsn) zsn) zsn) zsn) zsn)) (pg_tup rfl (xag (xaf (i := 8) nd rfl (by walk_at "o")) (xag (xaf (i := 9) nd rfl (by walk_at "o")) xax))))))
   (zpn (xae (i := 11) nd rfl (by walk_at "o") (xa0 (call_dictL rfl) rfl T.z_dict PyProof.Rows.boot_dict (pc (pv 5) pN zsn)))
   (zpn (xae (i := 12) nd rfl (by walk_at "o") (xat (pc (pe_cmpR xaq (pv 7) pS (nM _)) (pc (pe_cmpR xaq (pv 7) pS (nM _)) (pc (pe_cmpR xaq (pv 7) pS (nM _)) (pc (pe_cmpR xaq (pv 7) pS (nM _)) (pc (pe_cmpR xaq (pv 7) pS (nM _)) (pc pe_bl pN zso) star_cmp) star_cmp) star_cmp) star_cmp) star_cmp)))
   (zpn (xap (PW.pt (pw_or (pR (op_neL (Nat.lt_of_succ_lt hu)) (pd Dl_refused hr (pc (pv 3) (pc (pv 9) (pc (pv 11) pN zsn) zsn) zsn)) (pv 12) (nM _)) (pw_or1 (pR (op_neK hu2) (pv 11) (xa0 (call_dictL rfl) rfl T.z_dict PyProof.Rows.boot_dict (pc (pv 5) pN zsn)) (nM _))))) (po (xad pe_bl)) pQ)
   (po (xap (pR (op_neL (Nat.lt_of_succ_lt hu)) (pd Dl_refused hr (pc (pv 3) (pc (pv 9) (pc (pv 11) pN zsn) zsn) zsn)) (pv 12) (nM _)) (po (xad pe_bl)) pQ)))))))))
   (po (xad pe_bl))))))))), ?_⟩
 refine ⟨_, rfl, a, ns, rfl, hS, h63, fun c => ⟨_, _, rfl, rfl, ⟨by decide, by decide⟩, _, rfl, fun b H1 nms s1 hb0 hb hok hby => ?_⟩⟩
 refine ⟨_, rfl, a, ns, 1, rfl, s1.seq hS, h63, by decide, fun r p q nr => ?_⟩
 have sr := Same.new nr (.lst [.int p, .int q])
 have br : b ≠ r := neN hb nr
 refine ⟨_, rfl, _, rfl, _, rfl, r, b, p, q, nms, rfl, ups, sr _ _ hb, hok, br, fun kv0 ks0 H2 f2 hk0 hK hfit => ?_⟩
 obtain ⟨wf0, h4, hKn, hKp⟩ := id hK
 obtain ⟨p2, q2, h2⟩ := f2.2
 have hb2 := f2.1 _ _ (sr _ _ hb) br
 refine ⟨_, rfl, r, b, kv0, p2, q2, ks0, nms, rfl, h2, hk0, wf0, h4, hb2, br, hok, fun x kv H3 hx f3 hkv => ?_⟩
 have kc := kc_of hok hK hby hx
 have sH3 : Same H1 H3 := Fed.back nr sr (f2.trans f3)
 have hb3 := sH3 _ _ hb
 generalize hks : ks0 ++ [kR nms x, kA nms] = ks at kc hkv
 refine ⟨_, rfl, a, ns, 2, rfl, (s1.trans sH3).seq hS, h63, by decide, fun r2 p2 q2 nr2 => ?_⟩
 have sr2 := Same.new nr2 (.lst [.int p2, .int q2])
 have br2 : b ≠ r2 := neN hb3 nr2
 refine ⟨_, rfl, r2, p2, q2, 22, rfl, ups, by decide, by decide, fun t1 H4 t10 t11 f4 => ⟨(by walk_at "s"), fun l1 hl1 => ?_⟩⟩
 obtain ⟨p4, q4, h4'⟩ := f4.2
 have yl := Same.new hl1 (.lst [.int 16, .int t1])
 have l1f : l1 ≠ r2 := Ne.symm (neN h4' hl1)
 refine ⟨_, rfl, r2, p4, q4, 2, rfl, yl _ _ h4', by decide, by decide, fun t2 H5 t20 t21 f5 => ?_⟩
 obtain ⟨fs, hat⟩ : ∃ fs : Nat, atI [V.int 16, V.int t1] t2 = some (.int (fs : Int)) := by
  rcases (show t2 = 0 \/ t2 = 1 by omega) with rfl | rfl
  ·exact ⟨16, rfl⟩
  ·exact ⟨t1.toNat, by rw [show ((t1.toNat : Nat) : Int) = t1 by omega]; rfl⟩
 refine ⟨l1, _, _, _, rfl, rfl, SqL.of (f5.1 _ _ ups l1f), hat, ?_⟩
 have F5 : Fed r2 (upd H3 r2 (.lst [.int p2, .int q2])) H5 := (f4.same yl).trans f5
 obtain ⟨p5, q5, h5⟩ := F5.2
 refine ⟨_, rfl, r2, p5, q5, 5, rfl, h5, by decide, by decide, fun t3 H6 t30 t31 f6 => ⟨_, _, rfl, rfl, _, rfl, by omega, by omega, ?_⟩⟩
 have F6 := F5.trans f6
 have hkv0 := hkv.same sr2 _
 have hnb0 := sr2 _ _ hb3
 have e0 : upd H3 r2 (.lst [.int p2, .int q2]) r2 = some (.lst [.int p2, .int q2]) := ups
 refine comp_range (fun i ys H' => Fed r2 (upd H3 r2 (.lst [.int p2, .int q2])) H' /\ ∃ bs : List (Str × Str), RelDs H' ys (bs.map dPart) /\ bs.map (·.1) = (List.range i).map (fun i => nm nms ((fs + i) % 22)) /\ ∀ b ∈ bs, KIn ks 6 b.2) (by rfl) ⟨F6, [], rfl, rfl, fun _ h => nomatch h⟩ (xa1 (by omega)) ?_ ?_
 ·rintro i ys H' hi hly ⟨F, bs, hbs, hbn, hbk⟩
  obtain ⟨p7, q7, h7⟩ := F.2
  have tp := xal ⟨_, _, e0⟩ F
  have e22 : ((fs : Int) + (0 + (i : Int))) % 22 = (((fs + i) % 22 : Nat) : Int) := by omega
  refine ⟨_, rfl, _, rfl, _, rfl, _, _, rfl, rfl, _, _, rfl, rfl, (by show (0 : Int) < 22; decide), b, _, _, .str (nm nms ((fs + i) % 22)), rfl, rfl, SqL.of (F.1 _ _ hnb0 br2), ?_, ?_⟩
  ·show atI (nms.map V.str) (((fs : Int) + (0 + (i : Int))) % 22) = _
   rw [e22]
   exact nm_v hok (by omega)
  refine ⟨_, rfl, _, rfl, r2, kv, p7, q7, ks, rfl, h7, hkv0.tups tp _, kc.wf, fun z H8 hz f8 => ⟨(by walk_at "s"), fun t ht => nxt hi hly ⟨(F.trans f8).same (Same.new ht _), bs ++ [(nm nms ((fs + i) % 22), z)], ?_, ?_, fun b hb => ?_⟩⟩⟩
  ·have s6 := Same.new ht (.tup [.str (nm nms ((fs + i) % 22)), .str z])
   rw [List.map_append]
   exact ((hbs.tups (xal ⟨p7, q7, h7⟩ f8) _).same s6 _).append ⟨_, [], rfl, ⟨t, _, rfl, ups, _, _, rfl, rfl, _, _, rfl, rfl, rfl⟩, rfl⟩
  ·rw [List.map_append, hbn, List.range_succ, List.map_append]
   rfl
  ·rcases List.mem_append.mp hb with hb | hb
   ·exact hbk b hb
   ·rw [List.mem_singleton.mp hb]
    exact hz.mono kc.wf.few
 rintro ys H7 hly ⟨F7, bs, hbs, hbn, hbk⟩ bl hbl0
 have sb := Same.new hbl0 (.lst ys)
 have F8 := F7.same sb
 have sH8 : Same H3 (upd H7 bl (.lst ys)) := Fed.back nr2 sr2 F8
 have hbl : upd H7 bl (.lst ys) bl = some (.lst ys) := ups
 have hbs8 := hbs.same sb _
 have hkv8 := hkv.same sH8 _
 have hb8 := sH8 _ _ hb3
 have s08 := s1.trans (sH3.trans sH8)
 have lens : bs.length = (1 + t3).toNat := by
  have := congrArg List.length hbn
  rw [List.length_map, List.length_map, List.length_range] at this
  omega
 have hne : bs ≠ [] := fun e => by rw [e] at lens; simp at lens; omega
 have hnd : (bs.map (·.1)).Nodup := by rw [hbn]; exact nod22 hok fs _ (by omega)
 have hb22 : ∀ b ∈ bs, ∃ j, j < 22 /\ b.1 = nm nms j := fun b hbm => by
  have hm : b.1 ∈ bs.map (·.1) := List.mem_map_of_mem hbm
  rw [hbn] at hm
  obtain ⟨j, _, e⟩ := List.mem_map.mp hm
  exact ⟨_, Nat.mod_lt _ (by decide), e.symm⟩
 have hbnm : ∀ b ∈ bs, b.1 ∈ nms := fun b hbm => by
  obtain ⟨j, hj, e⟩ := hb22 b hbm
  rw [e]
  exact nm_mem hok (by omega)
 have hyl := hbs8.length
 rw [List.length_map] at hyl
 have hfx := fx_envB kc hnd hb22 hbk
 generalize upd H7 bl (.lst ys) = H8 at hbl hbs8 hkv8 hb8 s08
 refine ⟨_, rfl, _, rfl, a, _, rfl, s08.seq hS, fun cl hcl => ?_⟩
 have yc := Same.new hcl (.lst (cutV (ns.map V.int) none (some 63)))
 have hcln : (cutV (ns.map V.int) none (some 63)).length <= 63 := by
  unfold cutV
  rw [List.length_take, List.length_drop, List.length_map]
  omega
 refine ⟨cl, _, rfl, .inl (SqL.of ups), ?_⟩
 refine ⟨_, _, rfl, _, _, rfl, ⟨by decide, by decide, by split <;> omega, by split <;> omega⟩, ?_⟩
 refine for_range (lo := 3) (fun i σ H' => ∃ o2 o6 o7 o8 o9 o10 o11 o12, σ = [some (.ref a), some (.ref b), o2, some kv, some (.int (fs : Int)), some (.ref bl), o6, o7, o8, o9, o10, o11, o12] /\ Same H8 H') ⟨_, none, none, none, none, none, none, none, rfl, yc⟩ ?_ ?_
 ·rintro i σ H' hi ⟨o2, o6, o7, o8, o9, o10, o11, o12, rfl, sm⟩
  have hblH := sm _ _ hbl
  have hbsH := hbs8.same sm _
  have hkvH := hkv8.same sm _
  have hbH := sm _ _ hb8
  refine ⟨_, rfl, _, rfl, a, ns, _, rfl, (s08.trans sm).seq hS, h63, by omega, fun r5 p9 q9 nr5 => ?_⟩
  have sr5 := Same.new nr5 (.lst [.int p9, .int q9])
  have blr : bl ≠ r5 := neN hblH nr5
  have bre : b ≠ r5 := neN hbH nr5
  have C9 : C8 (upd H' r5 (.lst [.int p9, .int q9])) r5 kv (.ref bl) b nms ks bs x := ⟨⟨⟨p9, q9, ups⟩, hkvH.same sr5 _, kc.wf, kc.nb, ⟨bl, ys, rfl, sr5 _ _ hblH, hbsH.same sr5 _, blr⟩, hnd, by omega, fun b' hb' j _ => (hby _ (hbnm b' hb')).1 j, hbk⟩, sr5 _ _ hbH, bre, kc, hbnm⟩
  refine ⟨_, rfl, _, rfl, _, rfl, _, rfl, r5, b, kv, .ref bl, ks, bs, nms, x, rfl, C9, hne, fun t word kx at' d c H10 f10 ht ru hft hwc hkx => ?_⟩
  obtain ⟨hc1, hc5, hdue⟩ := wc_due hwc
  have C10 := C9.fed f10
  refine ⟨t, _, rfl, SqT.of ht, rfl, _, _, rfl, _, _, rfl, _, _, rfl, rfl, ?_⟩
  obtain ⟨p10, q10, h10⟩ := C10.ti.fd
  refine ⟨_, rfl, r5, p10, q10, 3, rfl, h10, by decide, by decide, fun t4 H11 t40 t41 f11 => ?_⟩
  have C11 := C10.fed f11
  have F11 := f10.trans f11
  have ru11 := ru.tups (xal C10.ti.fd f11) _
  obtain ⟨N, hN, hN2, hN0⟩ : ∃ N : Nat, t4 * (if (!decide (kx = V.non)) = true then (1 : Int) else 0) = (N : Int) /\ N <= 2 /\ (kx = .non -> N = 0) := by
   by_cases e : kx = .non
   ·exact ⟨0, by rw [decide_eq_true e]; simp, by omega, fun _ => rfl⟩
   ·exact ⟨t4.toNat, by rw [decide_eq_false e]; simp; omega, by omega, fun z => absurd z e⟩
  refine ⟨_, rfl, rfl, .inr ⟨_, rfl, _, _, rfl, rfl, .inl ⟨by omega, by omega⟩, ?_⟩⟩
  refine ⟨(N : Int), congrArg (fun z => [V.int z]) hN, by omega, by omega, ?_⟩
  refine for_range (lo := 0) (fun i2 σ HX => ∃ v a2 d2 o10, σ = [some (.ref a), some (.ref b), some (.ref r5), some kv, some (.int (fs : Int)), some (.ref bl), some (.int (3 + (i : Int))), some (.str word), some v, some (.ref a2), o10, o11, o12] /\ Fed r5 H11 HX /\ RelD HX (.ref a2) d2 /\ FT nms ks bs (hsI i2) (10 + i2) d2 c /\ Kx ks v /\ (v = .non -> N = 0)) ⟨kx, at', d, o10, rfl, Fed.refl C11.ti.fd.choose_spec.choose_spec, ru11, hft, hkx, hN0⟩ ?_ ?_
  ·rintro i2 σ HX hi2 ⟨v, a2, d2, o10, rfl, FX, ru2, hft2, hkx2, hv0⟩
   have CX := C11.fed FX
   obtain ⟨kk, rfl, hkk⟩ : ∃ kk, v = .str kk /\ KIn ks 6 kk := by
    rcases hkx2 with e | h
    ·have := hv0 e
     omega
    ·exact h
   refine ⟨_, rfl, _, rfl, _, rfl, _, rfl, _, rfl, _, rfl, (by walk_at "s"), fun l2 hl2 => ?_⟩
   have y2 := Same.new hl2 (.lst [.str (S "ina"), .str (S "inb")])
   have CY := CX.same y2
   have hi22 : i2 = 0 \/ i2 = 1 := by omega
   rcases hi22 with rfl | rfl
   ·refine ⟨_, rfl, l2, _, _, .str (S "ina"), rfl, rfl, SqL.of ups, xai (j := 0) rfl, ?_⟩
    refine ⟨r5, b, a2, kv, .ref bl, ks, bs, nms, x, kk, S "ina", [], 10, d2, c, rfl, CY, hkk, ru2.same y2 _, .inl ⟨rfl, rfl⟩, hft2, by decide, fun t3 k3 a3 d3 H13 f13 ht3 ru3 hft3 hk3 => ?_⟩
    exact ⟨t3, _, rfl, SqT.of ht3, rfl, _, _, rfl, _, _, rfl, rfl, _, _, d3, _, rfl, (FX.same y2).trans f13, ru3, hft3, .inr ⟨_, rfl, hk3⟩, fun z => by cases z⟩
   ·refine ⟨_, rfl, l2, _, _, .str (S "inb"), rfl, rfl, SqL.of ups, xai (j := 1) rfl, ?_⟩
    refine ⟨r5, b, a2, kv, .ref bl, ks, bs, nms, x, kk, S "inb", [S "ina"], 11, d2, c, rfl, CY, hkk, ru2.same y2 _, .inr ⟨rfl, rfl⟩, hft2, by decide, fun t3 k3 a3 d3 H13 f13 ht3 ru3 hft3 hk3 => ?_⟩
    exact ⟨t3, _, rfl, SqT.of ht3, rfl, _, _, rfl, _, _, rfl, rfl, _, _, d3, _, rfl, (FX.same y2).trans f13, ru3, hft3, .inr ⟨_, rfl, hk3⟩, fun z => by cases z⟩
  ·rintro σ HX ⟨v, a2, d2, o10, rfl, FX, ru2, hft2, hkx2, hv0⟩
   have CX := C11.fed FX
   have sX : Same H' HX := Fed.back nr5 sr5 (F11.trans FX)
   have hKt : Kt ks 12 (envB bs) d2 (.error c) := kt_le (by omega) (hft2 (envB bs) hfx fun h hm => envB_io kc hb22 (hsI_io _ h hm))
   refine ⟨_, rfl, bl, ys, bKV bs, rfl, sX _ _ hblH, pairs_bs (hbsH.same sX _), fun dp hdp => ?_⟩
   have y1 := Same.new hdp (.dK (xa8 [] (bKV bs)))
   have hd1 : upd HX dp (.dK (xa8 [] (bKV bs))) dp = some (.dK (xa8 [] (bKV bs))) := ups
   refine ⟨_, rfl, rfl, _, rfl, rfl, _, rfl, rfl, _, rfl, rfl, _, rfl, rfl, (by walk_at "s"), fun dl hdl => ?_⟩
   have edl : [V.bl (decide (V.str word = V.str (S "name"))), V.bl (decide (V.str word = V.str (S "kind"))), V.bl (decide (V.str word = V.str (S "count"))), V.bl (decide (V.str word = V.str (S "lacks"))), V.bl (decide (V.str word = V.str (S "twice"))), V.bl false] = (dueB c).map V.bl := by rw [<- hdue]; rfl
   have y2 := Same.new hdl (.lst [V.bl (decide (V.str word = V.str (S "name"))), V.bl (decide (V.str word = V.str (S "kind"))), V.bl (decide (V.str word = V.str (S "count"))), V.bl (decide (V.str word = V.str (S "lacks"))), V.bl (decide (V.str word = V.str (S "twice"))), V.bl false])
   have y12 := y1.trans y2
   have hdl3 : upd (upd HX dp (.dK (xa8 [] (bKV bs)))) dl (.lst [V.bl (decide (V.str word = V.str (S "name"))), V.bl (decide (V.str word = V.str (S "kind"))), V.bl (decide (V.str word = V.str (S "count"))), V.bl (decide (V.str word = V.str (S "lacks"))), V.bl (decide (V.str word = V.str (S "twice"))), V.bl false]) dl = some (.lst ((dueB c).map V.bl)) := by rw [ups, edl]
   have hd2 := y2 _ _ hd1
   have s2 := sX.trans y12
   have kd2 := CX.ti.kd.same y12 _
   have ru2' := ru2.same y12 _
   have fl := bls_eq (dueB c)
   have hb30 : bs.length <= 5 := by omega
   refine ⟨_, rfl, _, rfl, _, rfl, kv, .ref a2, dp, ks, d2, envB bs, c, rfl, ⟨kc.wf.ksAt kd2, kc.ln, hfx.el, ru2', (envB_at hnd hd2).mono (by omega)⟩, hKt, hc1, hc5, fun l3 H13 s13 hl3 => ?_⟩
   refine ⟨_, rfl, l3, dl, _, _, rfl, rfl, SqL.of hl3, SqL.of (s13 _ _ hdl3), fl.2, fl.2, _, rfl, iteBF (by rw [fl.1]; rfl) ?_⟩
   have s3 := s2.trans s13
   refine ⟨_, rfl, _, rfl, bl, ys, bKV bs, rfl, s3 _ _ hblH, pairs_bs (hbsH.same s3 _), fun d3 hd3 => ?_⟩
   have y3 := Same.new hd3 (.dK (xa8 [] (bKV bs)))
   have s13' := s13.trans y3
   refine ⟨dp, d3, _, rfl, rfl, s13' _ _ hd2, ups, strs_deep bs [] (fun _ h => nomatch h), _, rfl, iteF ?_⟩
   refine ⟨_, rfl, _, rfl, _, rfl, kv, .ref a2, dp, ks, d2, envB bs, c, rfl, ⟨kc.wf.ksAt (kd2.same s13' _), kc.ln, hfx.el, ru2'.same s13' _, (envB_at hnd (s13' _ _ hd2)).mono (by omega)⟩, hKt, hc1, hc5, fun l4 H15 s15 hl4 => ?_⟩
   refine ⟨_, rfl, l4, dl, _, _, rfl, rfl, SqL.of hl4, SqL.of (s15 _ _ (s13' _ _ hdl3)), fl.2, fl.2, _, rfl, iteBF (by rw [fl.1]; rfl) ?_⟩
   exact ⟨_, _, _, _, _, _, _, _, rfl, sm.trans (s2.trans (s13'.trans s15))⟩
 ·rintro σ H' ⟨_, _, _, _, _, _, _, _, rfl, sm⟩
  exact k H'
theorem law_is (T : Tx K mg) : DefIs P w K mg base 50 "law" ["_law_script"] (spLaw K) := by
 have take : ∀ k, DefIs P w K mg base (k + 1) "_law_take" ["_law_feed_here", "_law_many"] xbc := fun k => okl_take T
 have parts : DefIs P w K mg base 30 "_law_parts" ["_law_feed_here", "_law_kinds_here", "_law_sort", "_law_names_here"] spParts := okl_parts T (take 28) ((size_is T 6 (by omega)).mono (by omega))
 have t8 : DefIs P w K mg base 34 "_law_term" ["_law_feed_here", "_law_kinds_here", "_law_boxes", "_law_kind", "_law_room", "_law_nest"] spT8 := DefIs.any (N := 8) (sps := spTm) fun m hm => (term_is T m).mono (by omega)
 have good : DefIs P w K mg base 35 "_law_good" ["_law_feed_here", "_law_kinds_here", "_law_boxes", "_law_kind"] spGood := okl_good (n := 34) T (take 33) ((small_is T 6).mono (by omega)) ((high_is T 6).mono (by omega)) t8
 have few : DefIs P w K mg base 35 "_law_few" ["_law_feed_here", "_law_kinds_here", "_law_most"] spFew := okl_few (n := 34) T (take 33) ((small_is T 6).mono (by omega)) ((size_is T 6 (by omega)).mono (by omega))
 have arms : DefIs P w K mg base 36 "_law_arms_of" ["_law_feed_here", "_law_kinds_here", "_law_boxes", "_law_names_here", "_law_kind"] spArmsOf := okl_arms_of (n := 35) T good
 have pf := okl_plain_fault (n := 36) T (take 35) (good.mono (by omega))
 have cf := okl_case_fault (n := 36) T (take 35) (good.mono (by omega)) (few.mono (by omega)) arms
 have lf := okl_last_fault (n := 36) T (take 35) (good.mono (by omega))
 have flt := okl_fault (n := 37) T (take 36) pf cf lf
 have wth := okl_within (n := 36) T (take 35) (good.mono (by omega)) arms
 have rf := okl_refused (P := P) (w := w) (base := base) (n := 41) (m := 6) T ((kt_is T 12 6 (by omega)).mono (by omega))
 exact ok_law (n := 49) T (okl_feed T) (take 48) (okl_cell_0 T) (okl_names T) ((okl_kinds T (take 29) parts).mono (by omega)) ((okl_more_kinds (n := 35) T few).mono (by omega)) (okl_any_kind (n := 48) T (take 47)) (flt.mono (by omega)) (wth.mono (by omega)) (rf.mono (by omega))
end
end K18
end
namespace PySem.W.Fast
theorem tw8195212587303672223:0=0:=rfl
theorem tw5235005809124996195:0=0:=rfl
theorem tw13916421099942456509:0=0:=rfl
theorem tw6978264715149858590:0=0:=rfl
theorem tw8700719891716532811:0=0:=rfl
theorem tw6251840857686547991:0=0:=rfl
theorem tw8035703410201447461:0=0:=rfl
theorem tw11881232932508898664:0=0:=rfl
theorem tw13590396839357667937:0=0:=rfl
theorem tw2048544745829825422:0=0:=rfl
theorem tw2175154462644042890:0=0:=rfl
theorem tw11928709202005124578:0=0:=rfl
theorem tw18429365893728929315:0=0:=rfl
theorem tw13190224714408027135:0=0:=rfl
theorem tw3054634294531381519:0=0:=rfl
theorem tw15807372930072654951:0=0:=rfl
theorem tw3657461693094511:0=0:=rfl
theorem tw142147422470995949:0=0:=rfl
theorem tw1221622818350552418:0=0:=rfl
theorem tw5020348020762183769:0=0:=rfl
theorem tw15266080691392911414:0=0:=rfl
theorem tw17415499448825464547:0=0:=rfl
theorem tw10661011702621324074:0=0:=rfl
theorem tw7618604698769329085:0=0:=rfl
theorem tw7439936221943149525:0=0:=rfl
theorem tw11243716641853211197:0=0:=rfl
theorem tw13995459275093997924:0=0:=rfl
theorem tw10241060102163158317:0=0:=rfl
theorem tw17194668909267751159:0=0:=rfl
theorem tw12788454095446642843:0=0:=rfl
theorem tw15284259874580119197:0=0:=rfl
theorem tw1780492627039257102:0=0:=rfl
theorem tw1339828110582834483:0=0:=rfl
theorem tw9342811861463210618:0=0:=rfl
theorem tw1006132358731548624:0=0:=rfl
theorem tw2394662864238354259:0=0:=rfl
theorem tw11050653786948111934:0=0:=rfl
theorem tw14051560094140098947:0=0:=rfl
theorem tw16224387781386160387:0=0:=rfl
theorem tw15084848778758501694:0=0:=rfl
theorem tw7497230907079998312:0=0:=rfl
theorem tw2416025875985191601:0=0:=rfl
theorem tw16474910033267264757:0=0:=rfl
theorem tw8346297080160806422:0=0:=rfl
theorem tw9088157304211923346:0=0:=rfl
theorem tw3582187037227795030:0=0:=rfl
theorem tw8861520009443762625:0=0:=rfl
theorem tw9950098276342085681:0=0:=rfl
theorem tw6365366789963049496:0=0:=rfl
theorem tw13657494983302915856:0=0:=rfl
theorem tw16654030703114350703:0=0:=rfl
theorem tw13361535629067062105:0=0:=rfl
theorem tw8088624497001799602:0=0:=rfl
theorem tw11140364163732510152:0=0:=rfl
theorem tw12959073739286855662:0=0:=rfl
theorem tw14622465591093684805:0=0:=rfl
theorem tw4801680822754023433:0=0:=rfl
theorem tw2425091934132900023:0=0:=rfl
theorem tw15755804337783786281:0=0:=rfl
theorem tw5127301229516213138:0=0:=rfl
theorem tw11613121571400802952:0=0:=rfl
theorem tw6687135393186292910:0=0:=rfl
theorem tw3321791791437501761:0=0:=rfl
theorem tw13757073563504328479:0=0:=rfl
theorem tw8072337243997993770:0=0:=rfl
theorem tw8277733673580755659:0=0:=rfl
theorem tw5798941983160937037:0=0:=rfl
theorem tw2812219489469895617:0=0:=rfl
theorem tw11013533489374191759:0=0:=rfl
theorem tw2960287067980519814:0=0:=rfl
theorem tw11164370466869052392:0=0:=rfl
theorem tw15455834877487572684:0=0:=rfl
theorem tw5009434477656067555:0=0:=rfl
theorem tw3096434971764845568:0=0:=rfl
theorem tw18029061833277387347:0=0:=rfl
theorem tw8550954294626726181:0=0:=rfl
theorem tw17738268022147769411:0=0:=rfl
theorem tw3380532205868377351:0=0:=rfl
theorem tw855407258524067690:0=0:=rfl
theorem tw15543900075482568291:0=0:=rfl
theorem tw2605599349525687131:0=0:=rfl
theorem tw7727582020221746075:0=0:=rfl
theorem tw18040187747344639991:0=0:=rfl
theorem tw16581521937438385338:0=0:=rfl
theorem tw5558885779691099422:0=0:=rfl
theorem tw17395060113384082559:0=0:=rfl
theorem tw18326435748082281335:0=0:=rfl
theorem tw3040662321985431989:0=0:=rfl
theorem tw4221904050520145835:0=0:=rfl
theorem tw8721862732213429580:0=0:=rfl
theorem tw18314218386092608725:0=0:=rfl
theorem tw5676772409101738810:0=0:=rfl
theorem tw16976649757893688808:0=0:=rfl
theorem tw11273539525162697516:0=0:=rfl
theorem tw16031185023215292551:0=0:=rfl
theorem tw961226387343516573:0=0:=rfl
theorem tw1342967670207305820:0=0:=rfl
theorem tw8609228784858014813:0=0:=rfl
theorem tw317258158662103515:0=0:=rfl
theorem tw1568990852572679278:0=0:=rfl
theorem tw1934440898352471750:0=0:=rfl
theorem tw7285496109167101645:0=0:=rfl
theorem tw7924641634727544175:0=0:=rfl
theorem tw5766658329132219989:0=0:=rfl
theorem tw14074059945758301884:0=0:=rfl
theorem tw3275188006336383427:0=0:=rfl
theorem tw199338554875679695:0=0:=rfl
theorem tw16622855419494093641:0=0:=rfl
theorem tw11331636373759566697:0=0:=rfl
theorem tw11704747084512733087:0=0:=rfl
theorem tw14157348849987974748:0=0:=rfl
theorem tw18300864914535343717:0=0:=rfl
theorem tw15627651041241236672:0=0:=rfl
theorem tw6464340032104503708:0=0:=rfl
theorem tw8400290024469570609:0=0:=rfl
theorem tw7580059833086635129:0=0:=rfl
theorem tw2748333817354579642:0=0:=rfl
theorem tw9144372138047423590:0=0:=rfl
theorem tw1687179519487546700:0=0:=rfl
theorem tw1891973474849019967:0=0:=rfl
theorem tw744863132025613615:0=0:=rfl
theorem tw5471205716532606310:0=0:=rfl
theorem tw7476043766418799328:0=0:=rfl
theorem tw9479844253237212286:0=0:=rfl
theorem tw11719891104866093431:0=0:=rfl
theorem tw9171419319399117125:0=0:=rfl
theorem tw10848886950966308960:0=0:=rfl
theorem tw4694500169228638793:0=0:=rfl
theorem tw6772276886278629980:0=0:=rfl
theorem tw9998197912227827823:0=0:=rfl
theorem tw16117910656029498995:0=0:=rfl
theorem tw12567594546883591273:0=0:=rfl
theorem tw2271536681208988527:0=0:=rfl
theorem tw6602707716233874175:0=0:=rfl
theorem tw14522592877527258222:0=0:=rfl
theorem tw17425673674563156305:0=0:=rfl
theorem tw15305739261565671651:0=0:=rfl
theorem tw12170793754813586864:0=0:=rfl
theorem tw4927062093148370623:0=0:=rfl
theorem tw12270589667558866673:0=0:=rfl
theorem tw9759149983602879915:0=0:=rfl
theorem tw7841062636938126313:0=0:=rfl
theorem tw11708827030683920228:0=0:=rfl
theorem tw4556421323991853698:0=0:=rfl
theorem tw1487861650697964669:0=0:=rfl
theorem tw15492556912471360639:0=0:=rfl
theorem tw17543623434531443254:0=0:=rfl
theorem tw4495470369765321134:0=0:=rfl
theorem tw9490639292096517007:0=0:=rfl
theorem tw5755324485523646960:0=0:=rfl
theorem tw7081308855773653744:0=0:=rfl
theorem tw4050957242612033390:0=0:=rfl
theorem tw14344747790739264698:0=0:=rfl
theorem tw10081335942979845086:0=0:=rfl
theorem tw11868382480121654019:0=0:=rfl
theorem tw17275215542282727059:0=0:=rfl
theorem tw8670015682566337310:0=0:=rfl
theorem tw3297392554589310071:0=0:=rfl
theorem tw4302415192878926285:0=0:=rfl
theorem tw455876901802264470:0=0:=rfl
theorem tw1472671787404727785:0=0:=rfl
theorem tw9618942267194523480:0=0:=rfl
theorem tw5754586092100198586:0=0:=rfl
theorem tw9895625585612473528:0=0:=rfl
theorem tw11875842079247584694:0=0:=rfl
theorem tw13989128621350982874:0=0:=rfl
theorem tw10329800499185474918:0=0:=rfl
theorem tw11129673475626414072:0=0:=rfl
theorem tw3960937328376840203:0=0:=rfl
theorem tw4165188379317450303:0=0:=rfl
theorem tw15599155189792345634:0=0:=rfl
theorem tw16648676364798322829:0=0:=rfl
theorem tw17367892126070169912:0=0:=rfl
theorem tw6625469178707507144:0=0:=rfl
theorem tw14898077706903532227:0=0:=rfl
theorem tw13270473869600760727:0=0:=rfl
theorem tw15973315726292559957:0=0:=rfl
theorem tw7989763524575646129:0=0:=rfl
theorem tw6510101306561069262:0=0:=rfl
theorem tw8747529141712259943:0=0:=rfl
theorem tw14366466342908830349:0=0:=rfl
theorem tw18323664388889523531:0=0:=rfl
theorem tw3760662492778323624:0=0:=rfl
theorem tw6319700080825399476:0=0:=rfl
theorem tw12825263621579513614:0=0:=rfl
theorem tw16840332227759633141:0=0:=rfl
theorem tw7877927967636922750:0=0:=rfl
theorem tw8069576690925817537:0=0:=rfl
theorem tw1182515151957029032:0=0:=rfl
theorem tw1047900805018618256:0=0:=rfl
theorem tw792185154677243668:0=0:=rfl
theorem tw6264644443877539972:0=0:=rfl
theorem tw16365703395698320399:0=0:=rfl
theorem tw4005554684426511582:0=0:=rfl
theorem tw7706402770924415765:0=0:=rfl
theorem tw2487685700687751407:0=0:=rfl
theorem tw17631198728993735511:0=0:=rfl
theorem tw14057234034068112480:0=0:=rfl
theorem tw7866699315132866650:0=0:=rfl
theorem tw2382283328592775467:0=0:=rfl
theorem tw5698948270809872156:0=0:=rfl
theorem tw1686086701749462394:0=0:=rfl
theorem tw9592177537845632832:0=0:=rfl
theorem tw13210840331860702381:0=0:=rfl
theorem tw14640366568199345725:0=0:=rfl
theorem tw965320923893001639:0=0:=rfl
theorem tw5645927266646441907:0=0:=rfl
theorem tw5801600439005815843:0=0:=rfl
theorem tw12056133872149668850:0=0:=rfl
theorem tw14885785771944070449:0=0:=rfl
theorem tw3128594706841707638:0=0:=rfl
theorem tw10636584293783719381:0=0:=rfl
theorem tw3297027338823480094:0=0:=rfl
theorem tw5658150975589199442:0=0:=rfl
theorem tw12074321942804575118:0=0:=rfl
theorem tw13504836221905000568:0=0:=rfl
theorem tw1163810311824062721:0=0:=rfl
theorem tw11016158388706502038:0=0:=rfl
theorem tw16834889659334296708:0=0:=rfl
theorem tw5119265843469544315:0=0:=rfl
theorem tw13045418160800742680:0=0:=rfl
theorem tw11016601417544396376:0=0:=rfl
theorem tw5047416490200794887:0=0:=rfl
theorem tw9791721530621606347:0=0:=rfl
theorem tw3954834653177458372:0=0:=rfl
theorem tw9190902820257477180:0=0:=rfl
theorem tw9868903344297039797:0=0:=rfl
theorem tw12669240725631399559:0=0:=rfl
theorem tw7065802659135393509:0=0:=rfl
theorem tw11977970459632109422:0=0:=rfl
theorem tw2087235423395606824:0=0:=rfl
theorem tw13993883474809454127:0=0:=rfl
theorem tw13363254033958797374:0=0:=rfl
theorem tw8614014704632813277:0=0:=rfl
theorem tw12911614428269861824:0=0:=rfl
theorem tw5509940576150239041:0=0:=rfl
theorem tw2283282340101168078:0=0:=rfl
theorem tw7217556352784776159:0=0:=rfl
theorem tw6115071494593131034:0=0:=rfl
theorem tw6231080324978827048:0=0:=rfl
theorem tw6716607707845674535:0=0:=rfl
theorem tw2758703521431111418:0=0:=rfl
theorem tw17230828835389821035:0=0:=rfl
theorem tw608305568086270237:0=0:=rfl
theorem tw13859840733989044795:0=0:=rfl
theorem tw12416181664066179898:0=0:=rfl
theorem tw9610525368351222240:0=0:=rfl
theorem tw10444785373511061041:0=0:=rfl
theorem tw8982084385406066982:0=0:=rfl
theorem tw14829909876266681662:0=0:=rfl
theorem tw177530061236845446:0=0:=rfl
theorem tw9844157119169087694:0=0:=rfl
theorem tw10127871534077401467:0=0:=rfl
theorem tw17930538755415752763:0=0:=rfl
theorem tw5372092211532488407:0=0:=rfl
theorem tw7168237096871758145:0=0:=rfl
theorem tw8490832768733755831:0=0:=rfl
theorem tw4734687091354757562:0=0:=rfl
theorem tw6284785904950543809:0=0:=rfl
theorem tw12137911744298295235:0=0:=rfl
theorem tw3614336105311237832:0=0:=rfl
theorem tw12586003568243936442:0=0:=rfl
theorem tw17472616665161550976:0=0:=rfl
theorem tw16961538317433745494:0=0:=rfl
theorem tw1406870487975154090:0=0:=rfl
theorem tw10435507408916162588:0=0:=rfl
theorem tw7457815975490540572:0=0:=rfl
theorem tw3449908839227372716:0=0:=rfl
theorem tw14614573707081643603:0=0:=rfl
theorem tw2431505881171908902:0=0:=rfl
theorem tw3010976234049508220:0=0:=rfl
theorem tw9818637091755037795:0=0:=rfl
theorem tw11167166439427351531:0=0:=rfl
theorem tw8299861958332767740:0=0:=rfl
theorem tw11699789140015571702:0=0:=rfl
theorem tw8877797066535360304:0=0:=rfl
theorem tw542015145929438753:0=0:=rfl
theorem tw2306661710852628730:0=0:=rfl
theorem tw12273623917887908338:0=0:=rfl
theorem tw7301005492219232058:0=0:=rfl
theorem tw7634475022451766803:0=0:=rfl
theorem tw11666167412495467592:0=0:=rfl
theorem tw15541515868541068027:0=0:=rfl
theorem tw321265951254225998:0=0:=rfl
theorem tw10830697736391791406:0=0:=rfl
theorem tw999823764172351232:0=0:=rfl
theorem tw3081446501330461727:0=0:=rfl
theorem tw7535307906270072455:0=0:=rfl
theorem tw14909861936333263302:0=0:=rfl
theorem tw2950853214044002591:0=0:=rfl
theorem tw9719902746341413920:0=0:=rfl
theorem tw1304107880663520775:0=0:=rfl
theorem tw11835164316799843286:0=0:=rfl
theorem tw5514235361100530650:0=0:=rfl
theorem tw10317499692710764577:0=0:=rfl
end PySem.W.Fast
open PySem PySem.W PyProof.Rows
set_option maxRecDepth 100000 in
set_option maxHeartbeats 0 in
theorem PySem.Challenge.cw_swapstride_k18_terms_refused_holds : PySem.Challenge.rw_swapstride_k18_terms_refused.Holds := by
 w_on; o_law; k_head; (case hw => w_witness2)
 k_fill
 refine L2.walk_of (l := PySem.Challenge.rw_swapstride_k18_terms_refused) (n := 63) (k := 50) (x := "_law_script") (CX := fun _ => L2.CX0) (sp := fun _ => K18.spLaw _) rfl (by decide) rfl ⟨rfl, by decide, by decide⟩ (fun w h Y => PySem.W.kIn_of Y) ?F (fun _ _ a ns hl _ hS => ⟨a, ns, rfl, hS, hl, fun _ => rfl⟩) fun _ _ _ _ _ z => z
 case F =>
  intro w mg fa h KX G hmg
  have d_need_once : L2.DefTx (L2.KOf KX) mg "need_once" K18.s_need_once ["names", "things"] := by
   walk_at "d"
  have d_sort_of : L2.DefTx (L2.KOf KX) mg "sort_of" K18.s_sort_of ["kinds", "K"] := by
   walk_at "d"
  have d_parts_of : L2.DefTx (L2.KOf KX) mg "parts_of" K18.s_parts_of ["kinds", "K"] := by
   walk_at "d"
  have d_kind_of : L2.DefTx (L2.KOf KX) mg "kind_of" K18.s_kind_of ["kinds", "term", "boxes"] := by
   walk_at "d"
  have d_num_kind : L2.DefTx (L2.KOf KX) mg "num_kind" K18.s_num_kind ["n"] := by
   walk_at "d"
  have d_box_kind : L2.DefTx (L2.KOf KX) mg "box_kind" K18.s_box_kind ["x", "boxes"] := by
   walk_at "d"
  have d_op_kind : L2.DefTx (L2.KOf KX) mg "op_kind" K18.s_op_kind ["kinds", "term", "boxes"] := by
   walk_at "d"
  have d_rec_kind : L2.DefTx (L2.KOf KX) mg "rec_kind" K18.s_rec_kind ["kinds", "term", "boxes"] := by
   walk_at "d"
  have d_get_kind : L2.DefTx (L2.KOf KX) mg "get_kind" K18.s_get_kind ["kinds", "term", "boxes"] := by
   walk_at "d"
  have d_tag_kind : L2.DefTx (L2.KOf KX) mg "tag_kind" K18.s_tag_kind ["kinds", "term", "boxes"] := by
   walk_at "d"
  have d_case_kind : L2.DefTx (L2.KOf KX) mg "case_kind" K18.s_case_kind ["kinds", "term", "boxes"] := by
   walk_at "d"
  have d_arm_kind : L2.DefTx (L2.KOf KX) mg "arm_kind" K18.s_arm_kind ["kinds", "kind", "arm", "boxes"] := by
   walk_at "d"
  have d_if_kind : L2.DefTx (L2.KOf KX) mg "if_kind" K18.s_if_kind ["kinds", "term", "boxes"] := by
   walk_at "d"
  have d_need_kind : L2.DefTx (L2.KOf KX) mg "need_kind" K18.s_need_kind ["kinds", "term", "boxes", "kind"] := by
   walk_at "d"
  have d_need_same : L2.DefTx (L2.KOf KX) mg "need_same" K18.s_need_same ["found", "kind"] := by
   walk_at "d"
  have d_need_sort : L2.DefTx (L2.KOf KX) mg "need_sort" K18.s_need_sort ["kinds", "name", "sort"] := by
   walk_at "d"
  have d_kind_of_sort : L2.DefTx (L2.KOf KX) mg "kind_of_sort" K18.s_kind_of_sort ["kinds", "term", "boxes", "sort"] := by
   walk_at "d"
  have d_part_kind : L2.DefTx (L2.KOf KX) mg "part_kind" K18.s_part_kind ["kinds", "kind", "name"] := by
   walk_at "d"
  have d_need_tags : L2.DefTx (L2.KOf KX) mg "need_tags" K18.s_need_tags ["kinds", "kind", "arms"] := by
   walk_at "d"
  have d_with_box : L2.DefTx (L2.KOf KX) mg "with_box" K18.s_with_box ["boxes", "x", "thing"] := by
   walk_at "d"
  have dl_feed : L2.DefTx (L2.KOf KX) mg "_law_feed" K18.sl_feed ["_law_script", "_law_k"] := by
   walk_at "d"
  have dl_take : L2.DefTx (L2.KOf KX) mg "_law_take" K18.sl_take ["_law_feed_here", "_law_many"] := by
   walk_at "d"
  have dl_names : L2.DefTx (L2.KOf KX) mg "_law_names" K18.sl_names ["_law_cell", "_law_many"] := by
   walk_at "d"
  have dl_number : L2.DefTx (L2.KOf KX) mg "_law_number" K18.sl_number ["_law_feed_here"] := by
   walk_at "d"
  have dl_sort_of : L2.DefTx (L2.KOf KX) mg "_law_sort_of" K18.sl_sort_of ["_law_kinds_here", "_law_kind"] := by
   walk_at "d"
  have dl_size : L2.DefTx (L2.KOf KX) mg "_law_size" K18.sl_size ["_law_kinds_here", "_law_kind"] := by
   walk_at "d"
  have dl_small : L2.DefTx (L2.KOf KX) mg "_law_small" K18.sl_small ["_law_kinds_here", "_law_kind"] := by
   walk_at "d"
  have dl_parts : L2.DefTx (L2.KOf KX) mg "_law_parts" K18.sl_parts ["_law_feed_here", "_law_kinds_here", "_law_sort", "_law_names_here"] := by
   walk_at "d"
  have dl_kinds : L2.DefTx (L2.KOf KX) mg "_law_kinds" K18.sl_kinds ["_law_feed_here", "_law_names_here"] := by
   walk_at "d"
  have dl_high : L2.DefTx (L2.KOf KX) mg "_law_high" K18.sl_high ["_law_kinds_here", "_law_kind"] := by
   walk_at "d"
  have dl_any_kind : L2.DefTx (L2.KOf KX) mg "_law_any_kind" K18.sl_any_kind ["_law_feed_here", "_law_kinds_here"] := by
   walk_at "d"
  have dl_arms : L2.DefTx (L2.KOf KX) mg "_law_arms" K18.sl_arms ["_law_feed_here", "_law_kinds_here", "_law_boxes", "_law_parts_here", "_law_kind", "_law_room", "_law_nest"] := by
   walk_at "d"
  have dl_case : L2.DefTx (L2.KOf KX) mg "_law_case" K18.sl_case ["_law_feed_here", "_law_kinds_here", "_law_boxes", "_law_kind", "_law_room", "_law_nest"] := by
   walk_at "d"
  have dl_get : L2.DefTx (L2.KOf KX) mg "_law_get" K18.sl_get ["_law_feed_here", "_law_kinds_here", "_law_boxes", "_law_kind", "_law_room", "_law_nest"] := by
   walk_at "d"
  have dl_whole_term : L2.DefTx (L2.KOf KX) mg "_law_whole_term" K18.sl_whole_term ["_law_feed_here", "_law_kinds_here", "_law_boxes", "_law_kind", "_law_room", "_law_nest"] := by
   walk_at "d"
  have dl_term : L2.DefTx (L2.KOf KX) mg "_law_term" K18.sl_term ["_law_feed_here", "_law_kinds_here", "_law_boxes", "_law_kind", "_law_room", "_law_nest"] := by
   walk_at "d"
  have dl_cell_0 : L2.DefTx (L2.KOf KX) mg "_law_cell_0" K18.sl_cell_0 ["_law_script"] := by
   walk_at "d"
  have dl_good : L2.DefTx (L2.KOf KX) mg "_law_good" K18.sl_good ["_law_feed_here", "_law_kinds_here", "_law_boxes", "_law_kind"] := by
   walk_at "d"
  have dl_few : L2.DefTx (L2.KOf KX) mg "_law_few" K18.sl_few ["_law_feed_here", "_law_kinds_here", "_law_most"] := by
   walk_at "d"
  have dl_more_kinds : L2.DefTx (L2.KOf KX) mg "_law_more_kinds" K18.sl_more_kinds ["_law_feed_here", "_law_kinds_here", "_law_names_here"] := by
   walk_at "d"
  have dl_arms_of : L2.DefTx (L2.KOf KX) mg "_law_arms_of" K18.sl_arms_of ["_law_feed_here", "_law_kinds_here", "_law_boxes", "_law_names_here", "_law_kind"] := by
   walk_at "d"
  have dl_plain_fault : L2.DefTx (L2.KOf KX) mg "_law_plain_fault" K18.sl_plain_fault ["_law_feed_here", "_law_kinds_here", "_law_boxes", "_law_names_here", "_law_way"] := by
   walk_at "d"
  have dl_case_fault : L2.DefTx (L2.KOf KX) mg "_law_case_fault" K18.sl_case_fault ["_law_feed_here", "_law_kinds_here", "_law_boxes", "_law_names_here", "_law_way"] := by
   walk_at "d"
  have dl_last_fault : L2.DefTx (L2.KOf KX) mg "_law_last_fault" K18.sl_last_fault ["_law_feed_here", "_law_kinds_here", "_law_boxes", "_law_names_here", "_law_way"] := by
   walk_at "d"
  have dl_fault : L2.DefTx (L2.KOf KX) mg "_law_fault" K18.sl_fault ["_law_feed_here", "_law_kinds_here", "_law_boxes", "_law_names_here"] := by
   walk_at "d"
  have dl_within : L2.DefTx (L2.KOf KX) mg "_law_within" K18.sl_within ["_law_feed_here", "_law_kinds_here", "_law_boxes", "_law_names_here", "_law_kind", "_law_term_here", "_law_held"] := by
   walk_at "d"
  have dl_refused : L2.DefTx (L2.KOf KX) mg "_law_refused" K18.sl_refused ["_law_kinds_here", "_law_term_here", "_law_boxes"] := by
   walk_at "d"
  have d_law : L2.DefTx (L2.KOf KX) mg "law" K18.s_law ["_law_script"] := by
   walk_at "d"
  have g_WIDE : ∃ t, mg "WIDE" = some (.int 4294967296 t) := by
   refine' L2.gint_mk KX G ?a
   (case a => k_is)
  have z_ValueError : mg "ValueError" = none := by
   refine' PySem.W.mg_none_of KX G ?a
   (case a => k_is)
  have z_dict : mg "dict" = none := by
   refine' PySem.W.mg_none_of KX G ?a
   (case a => k_is)
  have z_int : mg "int" = none := by
   refine' PySem.W.mg_none_of KX G ?a
   (case a => k_is)
  have z_isinstance : mg "isinstance" = none := by
   refine' PySem.W.mg_none_of KX G ?a
   (case a => k_is)
  have z_len : mg "len" = none := by
   refine' PySem.W.mg_none_of KX G ?a
   (case a => k_is)
  have z_max : mg "max" = none := by
   refine' PySem.W.mg_none_of KX G ?a
   (case a => k_is)
  have z_range : mg "range" = none := by
   refine' PySem.W.mg_none_of KX G ?a
   (case a => k_is)
  have z_set : mg "set" = none := by
   refine' PySem.W.mg_none_of KX G ?a
   (case a => k_is)
  have z_sum : mg "sum" = none := by
   refine' PySem.W.mg_none_of KX G ?a
   (case a => k_is)
  have z_tuple : mg "tuple" = none := by
   refine' PySem.W.mg_none_of KX G ?a
   (case a => k_is)
  have z_zip : mg "zip" = none := by
   refine' PySem.W.mg_none_of KX G ?a
   (case a => k_is)
  have c_BadText : mg "BadText" = some (.ref (L2.cAt (L2.KOf KX) 0)) := by
   refine' PySem.W.mg_of KX G ?a
   (case a => kernel_rfl)
  have c_Twice : mg "Twice" = some (.ref (L2.cAt (L2.KOf KX) 1)) := by
   refine' PySem.W.mg_of KX G ?a
   (case a => kernel_rfl)
  have c_NoName : mg "NoName" = some (.ref (L2.cAt (L2.KOf KX) 2)) := by
   refine' PySem.W.mg_of KX G ?a
   (case a => kernel_rfl)
  have c_NoCount : mg "NoCount" = some (.ref (L2.cAt (L2.KOf KX) 3)) := by
   refine' PySem.W.mg_of KX G ?a
   (case a => kernel_rfl)
  have c_WrongKind : mg "WrongKind" = some (.ref (L2.cAt (L2.KOf KX) 4)) := by
   refine' PySem.W.mg_of KX G ?a
   (case a => kernel_rfl)
  have c_Lacks : mg "Lacks" = some (.ref (L2.cAt (L2.KOf KX) 5)) := by
   refine' PySem.W.mg_of KX G ?a
   (case a => kernel_rfl)
  have c_NotOwn : mg "NotOwn" = some (.ref (L2.cAt (L2.KOf KX) 6)) := by
   refine' PySem.W.mg_of KX G ?a
   (case a => kernel_rfl)
  have c_Falls : mg "Falls" = some (.ref (L2.cAt (L2.KOf KX) 7)) := by
   refine' PySem.W.mg_of KX G ?a
   (case a => kernel_rfl)
  have c_TooBig : mg "TooBig" = some (.ref (L2.cAt (L2.KOf KX) 8)) := by
   refine' PySem.W.mg_of KX G ?a
   (case a => kernel_rfl)
  have c_NoFit : mg "NoFit" = some (.ref (L2.cAt (L2.KOf KX) 9)) := by
   refine' PySem.W.mg_of KX G ?a
   (case a => kernel_rfl)
  have c_NoCode : mg "NoCode" = some (.ref (L2.cAt (L2.KOf KX) 10)) := by
   refine' PySem.W.mg_of KX G ?a
   (case a => kernel_rfl)
  have c_SwapError : mg "SwapError" = some (.ref (L2.ad (L2.KOf KX) "SwapError")) := by
   refine' PySem.W.mg_of KX G ?a
   (case a => kernel_rfl)
  have xt2 : L2.XTab2 (L2.KOf KX) := by
   refine' L2.xtab2_of ?a
   (case a => kernel_rfl)
  have xt : L2.XTab (L2.KOf KX) := by
   refine' L2.xtab_of ?a
   (case a => kernel_rfl)
  have it : L2.InitTx (L2.KOf KX) "BadText.__init__" (L2.ad (L2.KOf KX) "BadText") K18.s_init ["self", "at"] := by
   dsimp only [L2.KOf]
   refine' L2.init_mk ?a ?i ?n ?l ?c ?k ?b
   (case a => k_is); (case i => k_is); (case n => k_is); (case l => k_is); (case c => k_is); (case k => k_is)
   (case b => exact fun _ _ _ _ _ _ us hl => match us, hl with | [_, _], _ => rfl)
  have T : K18.Tx (L2.KOf KX) mg := ⟨d_need_once, d_sort_of, d_parts_of, d_kind_of, d_num_kind, d_box_kind, d_op_kind, d_rec_kind, d_get_kind, d_tag_kind, d_case_kind, d_arm_kind, d_if_kind, d_need_kind, d_need_same, d_need_sort, d_kind_of_sort, d_part_kind, d_need_tags, d_with_box, dl_feed, dl_take, dl_names, dl_number, dl_sort_of, dl_size, dl_small, dl_parts, dl_kinds, dl_high, dl_any_kind, dl_arms, dl_case, dl_get, dl_whole_term, dl_term, dl_cell_0, dl_good, dl_few, dl_more_kinds, dl_arms_of, dl_plain_fault, dl_case_fault, dl_last_fault, dl_fault, dl_within, dl_refused, d_law, g_WIDE, z_ValueError, z_dict, z_int, z_isinstance, z_len, z_max, z_range, z_set, z_sum, z_tuple, z_zip, c_BadText, c_Twice, c_NoName, c_NoCount, c_WrongKind, c_Lacks, c_NotOwn, c_Falls, c_TooBig, c_NoFit, c_NoCode, c_SwapError, xt2, xt, it⟩
  exact L2.law_top d_law hmg fun base => K18.law_is T
