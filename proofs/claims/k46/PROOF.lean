import PyProof.Rows.All
import Wide.All
import OpenK.AllK
import Wide.FinOn
import Lean
import PyProof.EqAt
import PyProof.EqKinds
import PyProof.TupleCall
import PyProof.ZipIter
import PyProof.ListNew
import PyProof.TupleIter
import PyProof.WalksMore
import KE.KIntText
import PyProof.Rows.EqBoolInt
import PyProof.Rows.ZipGen
import PySem.Str
import PyProof.StrLawsTight
import PyProof.StrLawsIdx
import PyProof.StrLawsIn
import PyProof.NeKinds
import PyProof.Rows.SetFrom
import KE.KDictSum
import PyProof.Rows.SortWalk
import PyProof.EnumMake
import PyProof.Rows.EnumRows
import PyProof.ExcInit
import PyProof.InstStoreFacts
import PyProof.ExcArgsOwn
import PyProof.ExcAttrAll.ValueError
import PyProof.ExcBaseAll.ValueError
import KE.KDictList
import KE.KRevIter
import PyProof.ConsumeWalk
import PyProof.AttrMissHeap
import KE.KItemsList
import KE.KEqDict
import PyProof.DictWalks
import PyProof.Rows.SortStr
import PyProof.StationsW
import PyProof.RulesAs
import PyProof.NsDelKeeps
import PySem.Challenge.RW_swapstride_k46_what_is_lost
set_option Elab.async false
set_option linter.all false
set_option maxRecDepth 100000
set_option maxHeartbeats 4000000
local macro_rules | `(tactic| walk_at "o")=>`(tactic| first | exact Or.inl rfl | exact Or.inr rfl)
local macro_rules | `(tactic| walk_at "q")=>`(tactic| exact ⟨rfl,rfl,rfl,by decide +kernel,rfl,by decide +kernel,by decide +kernel⟩)
local macro_rules | `(tactic| walk_at "k")=>`(tactic| decide +kernel)
local macro_rules | `(tactic| walk_at "c")=>`(tactic| ((case a=>k_is); (case l=>k_is); (case c=>k_is); (case k=>k_is)))
set_option hygiene false in
local macro_rules | `(tactic| walk_at "d")=>`(tactic| (dsimp only [L2.KOf]; refine' L2.deftx_mk KX G ?a ?l ?c ?k ?b; (case a=>k_is); (case l=>k_is); (case c=>k_is); (case k=>k_is); (case b=>(intro _ _ _ _ _ _ us hl; first | (obtain ⟨_,rfl⟩:=L2.ln1 hl; rfl) | (obtain ⟨_,_,rfl⟩:=L2.ln2 hl; rfl) | (obtain ⟨_,_,_,rfl⟩:=L2.ln3 hl; rfl) | (obtain ⟨_,_,_,_,rfl⟩:=L2.ln4 hl; rfl) | (obtain ⟨_,_,_,_,_,rfl⟩:=L2.ln5 hl; rfl) | (obtain ⟨_,_,_,_,_,_,rfl⟩:=L2.ln6 hl; rfl) | (obtain ⟨_,_,_,_,_,_,_,rfl⟩:=L2.ln7 hl; rfl)))))
set_option hygiene false in
local macro_rules | `(tactic| walk_at "i")=>`(tactic| first | intro f cdv A outer s H vs Q E hr h | intro vs H Q E h)
local macro_rules | `(tactic| walk_at "s")=>`(tactic| first | (show 2 ≤ PySem.sizeLine; decide) | (show 3 ≤ PySem.sizeLine; decide) | (show 1 ≤ PySem.sizeLine; decide) | (show 0 ≤ PySem.sizeLine; decide) | (show 4 ≤ PySem.sizeLine; decide) | (show 5 ≤ PySem.sizeLine; decide) | (show 6 ≤ PySem.sizeLine; decide) | (show 8 ≤ PySem.sizeLine; decide))
theorem zGA {α:Type _} {l:List α} {i:Nat} (h:i < l.length):l[i]?=some l[i]:=List.getElem?_eq_getElem h
theorem zMS {α β:Type _} {f:α→β} {x:Option α} {b:β} (h:x.map f=some b):∃ a,x=some a∧f a=b:=Option.map_eq_some_iff.mp h
theorem zLM {α β:Type _} {as:List α} (f:α→β):(as.map f).length=as.length:=List.length_map f
theorem zGM {α β:Type _} {f:α→β} {l:List α} {i:Nat}:(l.map f)[i]?=l[i]?.map f:=List.getElem?_map
theorem zES {α:Type _} {l:List α} {i:Nat} {a:α} (h:l[i]?=some a):∃ h:i < l.length,l[i]=a:=List.getElem?_eq_some_iff.mp h
theorem zMG {α:Type _} {l:List α} {i:Nat} {a:α} (e:l[i]?=some a):a∈l:=List.mem_of_getElem? e
theorem zTL {α:Type _} {i:Nat} {l:List α} (h:l.length ≤ i):l.take i=l:=List.take_of_length_le h
theorem zMA {α:Type _} {a:α} {s t:List α} (h:a∈s++t):a∈s∨a∈t:=List.mem_append.mp h
theorem zMO {α:Type _} {a b:α} (h:a∈[b]):a=b:=List.mem_singleton.mp h
theorem zDT {p:Prop} [Decidable p] (h:p):decide p=true:=decide_eq_true h
theorem zDF {p:Prop} [Decidable p] (h:¬p):decide p=false:=decide_eq_false h
local macro_rules | `(tactic| walk_at "rd1")=>`(tactic| first
 | refine ⟨_,rfl,?_⟩
 | refine ⟨_,_,rfl,rfl,?_⟩
 | refine ⟨_,_,_,_,rfl,rfl,(by assumption),(by first | rfl | assumption),?_⟩
 | refine ⟨_,_,rfl,.inl (by assumption),?_⟩
 | refine ⟨(by first | exact .inr ⟨by decide,by decide⟩ | exact .inl ⟨by decide,by decide⟩ | exact ⟨by decide,by decide,by decide⟩ | exact ⟨by decide,by decide⟩ | exact ⟨by assumption,by assumption⟩ | (show (0:Int) < _; first | decide | assumption)),?_⟩
 | refine ⟨rfl,?_⟩)
local macro_rules | `(tactic| walk_at "rd")=>`(tactic| repeat walk_at "rd1")
local macro_rules | `(tactic| walk_at "rd1")=>`(tactic| first
 | refine ⟨_,rfl,?_⟩
 | refine ⟨_,_,rfl,rfl,?_⟩
 | refine ⟨_,_,_,_,rfl,rfl,(by assumption),(by first | rfl | assumption),?_⟩
 | refine ⟨rfl,?_⟩
 | refine M.iteKF (by walk_at "k") ?_
 | refine M.iteKT (by walk_at "k") ?_)
section
open PySem
theorem zPO {h:Heap} {a:Addr} {u:Obj} (o:Obj) (e:h.get? a=some u):(h.push o).get? a=some u:=Heap.get?_push_of_some o e
theorem zLA {α:Type _} {as bs:List α}:(as++bs).length=as.length + bs.length:=List.length_append
theorem zMF {α:Type _} {p:α→Bool} {a:α} {l:List α} (h:l.find? p=some a):a∈l:=List.mem_of_find?_eq_some h
theorem zTA {α:Type _} {l:List α} {i:Nat}:l.take (i + 1)=l.take i++l[i]?.toList:=List.take_add_one
theorem zMI {α:Type _} {a:α} {l:List α} (h:a∈l):∃ (i:Nat) (h:i < l.length),l[i]=a:=List.mem_iff_getElem.mp h
theorem zMC {α:Type _} {a b:α} {l:List α} (h:a∈b :: l):a=b∨a∈l:=List.mem_cons.mp h
theorem zMP {α β:Type _} {b:β} {f:α→β} {l:List α} (h:b∈l.map f):∃ a,a∈l∧f a=b:=List.mem_map.mp h
theorem zAP {α β:Type _} {f:α→β} {as bs:List α}:(as++bs).map f=as.map f++bs.map f:=List.map_append
end
namespace L2
theorem ln1 {α:Type} {l:List α} (h:l.length=1):∃ a,l=[a]:=match l,h with | [a],_=>⟨a,rfl⟩
theorem ln2 {α:Type} {l:List α} (h:l.length=2):∃ a b,l=[a,b]:=match l,h with | [a,b],_=>⟨a,b,rfl⟩
theorem ln3 {α:Type} {l:List α} (h:l.length=3):∃ a b c,l=[a,b,c]:=match l,h with | [a,b,c],_=>⟨a,b,c,rfl⟩
theorem ln4 {α:Type} {l:List α} (h:l.length=4):∃ a b c d,l=[a,b,c,d]:=match l,h with | [a,b,c,d],_=>⟨a,b,c,d,rfl⟩
theorem ln5 {α:Type} {l:List α} (h:l.length=5):∃ a b c d e,l=[a,b,c,d,e]:=match l,h with | [a,b,c,d,e],_=>⟨a,b,c,d,e,rfl⟩
theorem ln6 {α:Type} {l:List α} (h:l.length=6):∃ a b c d e f,l=[a,b,c,d,e,f]:=match l,h with | [a,b,c,d,e,f],_=>⟨a,b,c,d,e,f,rfl⟩
theorem ln7 {α:Type} {l:List α} (h:l.length=7):∃ a b c d e f g,l=[a,b,c,d,e,f,g]:=match l,h with | [a,b,c,d,e,f,g],_=>⟨a,b,c,d,e,f,g,rfl⟩
end L2
namespace L2
open PySem PySem.Spec PyProof.Rows
abbrev Key:=Sum Int Str
def xn0:Key->Value->Bool
 | .inl k,v=>Value.isInt k v
 | .inr x,v=>Value.isStrOf x v
def keyH (w:World):Key->Int
 | .inl k=>hashInt k
 | .inr x=>hashStr w x
theorem xbw:∀ {k:Key} {v:Value},xn0 k v=true->(∃ i t,k=Sum.inl i/\v=Value.int i t)\/(∃ x t,k=Sum.inr x/\v=Value.str x t)
 | .inl i,v,h=>by
  obtain ⟨t,e⟩:=Value.isInt_shape (k:=i) (v:=v) h
  exact .inl ⟨i,t,rfl,e⟩
 | .inr x,v,h=>by
  obtain ⟨t,e⟩:=Value.isStrOf_shape (x:=x) (v:=v) h
  exact .inr ⟨x,t,rfl,e⟩
theorem xp7 (i:Int) (t:Tok):xn0 (.inl i) (.int i t)=true:=by simp [xn0,Value.isInt]
theorem xp6 (x:Str) (t:Tok):xn0 (.inr x) (.str x t)=true:=by simp [xn0,Value.isStrOf]
theorem xvs (a b:Int):decide ((Sum.inl a:Key)=Sum.inl b)=(a == b):=by
 by_cases e:a=b
 ·subst e; simp
 ·have h:¬ (Sum.inl a:Key)=Sum.inl b:=fun q=>e (Sum.inl.inj q)
  rw [zDF h]
  exact (beq_eq_false_iff_ne.mpr e).symm
theorem xvp (a b:Str):decide ((Sum.inr a:Key)=Sum.inr b)=decide (a=b):=by
 by_cases e:a=b
 ·subst e; simp
 ·have h:¬ (Sum.inr a:Key)=Sum.inr b:=fun q=>e (Sum.inr.inj q)
  rw [zDF h,zDF e]
theorem xvr (a:Int) (b:Str):decide ((Sum.inl a:Key)=Sum.inr b)=false:=zDF (fun q=>nomatch q)
theorem xvq (a:Str) (b:Int):decide ((Sum.inr a:Key)=Sum.inl b)=false:=zDF (fun q=>nomatch q)
def xbs (prog:Program) (w:World):PySem.KeyKind prog w Key where
 is:=xn0
 hash:=keyH w
 inj:=fun v a b ha hb=>by
  rcases xbw ha with ⟨i,t,rfl,rfl⟩ | ⟨x,t,rfl,rfl⟩
  ·rcases xbw hb with ⟨j,u,rfl,e⟩ | ⟨y,u,rfl,e⟩
   ·injection e with e1 _; rw [e1]
   ·exact nomatch e
  ·rcases xbw hb with ⟨j,u,rfl,e⟩ | ⟨y,u,rfl,e⟩
   ·exact nomatch e
   ·injection e with e1 _; rw [e1]
 byValue:=fun k v h=>by
  rcases xbw h with ⟨i,t,rfl,rfl⟩ | ⟨x,t,rfl,rfl⟩ <;> rfl
 pyHash:=fun hv h=>by
  rcases xbw hv with ⟨i,t,rfl,rfl⟩ | ⟨x,t,rfl,rfl⟩
  ·exact wpAny_pyHash_int h
  ·exact wpAny_pyHash_str h
 eqBool:=fun hu hv h=>by
  rcases xbw hu with ⟨i,t,rfl,rfl⟩ | ⟨x,t,rfl,rfl⟩
  ·rcases xbw hv with ⟨j,u,rfl,rfl⟩ | ⟨y,u,rfl,rfl⟩
   ·rw [xvs] at h; exact wpAny_eqBool_int h
   ·rw [xvr] at h; exact SeqAt.EqAt.int_str i t y u _ _ _ _ h
  ·rcases xbw hv with ⟨j,u,rfl,rfl⟩ | ⟨y,u,rfl,rfl⟩
   ·rw [xvq] at h; exact SeqAt.EqAt.str_int x t j u _ _ _ _ h
   ·rw [xvp] at h; exact wpAny_eqBool_str h
 «strs»:=fun k x t v h=>by
  rcases xbw h with ⟨i,u,rfl,e⟩ | ⟨y,u,rfl,e⟩
  ·exact nomatch e
  ·injection e with e1 _
   subst e1
   cases v <;> rfl
theorem xlu (prog:Program) (w:World) (i:Int) (t:Tok):(xbs prog w).is (.inl i) (.int i t)=true:=xp7 i t
theorem xlt (prog:Program) (w:World) (x:Str) (t:Tok):(xbs prog w).is (.inr x) (.str x t)=true:=xp6 x t
end L2
namespace L2
open PySem PySem.Spec PyProof.Rows
inductive V where
 | non | bl (b:Bool) | int (i:Int) | str (x:Str) | byt (b:Array UInt8) | flt (b:UInt64) | ref (a:Addr) | ty (n:String)
 deriving DecidableEq
def RelV:V->Value->Prop
 | .non,u=>u=Value.none
 | .bl b,u=>u=Value.bool b
 | .int i,u=>∃ t,u=Value.int i t
 | .str x,u=>∃ t,u=Value.str x t
 | .byt b,u=>∃ t,u=Value.bytes b t
 | .flt b,u=>∃ t,u=Value.float b t
 | .ref a,u=>u=Value.ref a
 | .ty n,u=>u=Value.type n
abbrev Vals:List V->List Value->Prop:=Paired RelV
theorem Vals.length {xs:List V} {us:List Value} (r:Vals xs us):xs.length=us.length:=Paired.length r
theorem Vals.get:∀ {xs:List V} {us:List Value} {i:Nat} {x:V},Vals xs us->xs[i]?=some x->∃ u,us[i]?=some u/\RelV x u
 | _,_,_,_,.nil,e=>by simp at e
 | _,_,0,_,.cons r _,e=>by simp at e; subst e; exact ⟨_,rfl,r⟩
 | _,_,i + 1,x,.cons _ t,e=>by
  obtain ⟨u,h1,h2⟩:=Vals.get (i:=i) (x:=x) t (by simpa using e)
  exact ⟨u,by simpa using h1,h2⟩
theorem Vals.set {x:V} {u:Value} (r:RelV x u):∀ {xs:List V} {us:List Value} (i:Nat),Vals xs us->Vals (xs.set i x) (us.set i u)
 | _,_,_,.nil=>.nil
 | _,_,0,.cons _ t=>.cons r t
 | _,_,i + 1,.cons q t=>.cons q (Vals.set r i t)
theorem Vals.append:∀ {xs ys:List V} {us ws:List Value},Vals xs us->Vals ys ws->Vals (xs++ys) (us++ws)
 | _,_,_,_,.nil,s=>s
 | _,_,_,_,.cons r t,s=>.cons r (Vals.append t s)
theorem Vals.take:∀ {xs:List V} {us:List Value} (n:Nat),Vals xs us->Vals (xs.take n) (us.take n)
 | _,_,0,_=>.nil
 | _,_,_ + 1,.nil=>.nil
 | _,_,n + 1,.cons r t=>.cons r (Vals.take n t)
theorem Vals.drop:∀ {xs:List V} {us:List Value} (n:Nat),Vals xs us->Vals (xs.drop n) (us.drop n)
 | _,_,0,r=>r
 | _,_,_ + 1,.nil=>.nil
 | _,_,n + 1,.cons _ t=>Vals.drop n t
def RelO:Option V->Option Value->Prop
 | some v,some u=>RelV v u
 | none,none=>True
 | _,_=>False
def KV {κ:Type}:List (κ×V)->List (κ×Value)->Prop:=Paired fun (p:κ×V) (q:κ×Value)=>p.1=q.1/\RelV p.2 q.2
def kV:Key->V
 | .inl i=>.int i
 | .inr x=>.str x
inductive HO where
 | lst (xs:List V)
 | tup (xs:List V)
 | dK (kvs:List (Key×V)) | dT (kvs:List (List Key×V))
 | set (S:Int->Bool) (n:Nat)
 | ins (C dx:Addr) (fs:List (Str×V))
 | own (x:Addr)
 | xd (fs:List (Str×V))
 | met (f x:Addr)
 | rng (lo hi:Int)
 | frz (o:Obj) (u:HO)
 | tbl (ps:Array Value)
 | ext (φ:Heap->Prop)
abbrev Hp:=Addr->Option HO
def upd (H:Hp) (a:Addr) (o:HO):Hp:=fun b=>if b=a then some o else H b
theorem ups {H:Hp} {a:Addr} {o:HO}:upd H a o a=some o:=by unfold upd; rw [if_pos rfl]
theorem xba {H:Hp} {a b:Addr} {o:HO} (h:b≠a):upd H a o b=H b:=by unfold upd; rw [if_neg h]
theorem xs6 {H:Hp} {a:Addr} {o u:HO}:upd (upd H a o) a u=upd H a u:=by
 funext b; unfold upd; split <;> rfl
theorem xw3 {H:Hp} {a b:Addr} {o u:HO} (h:H a=some o) (h':H b=some u) (d:o≠u):a≠b:=by
 intro e; subst e; rw [h] at h'; exact d (Option.some.inj h')
theorem neN {H:Hp} {a b:Addr} {o:HO} (h:H a=some o) (h':H b=none):a≠b:=by
 intro e; subst e; rw [h] at h'; cases h'
section
variable (P:Program) (w:World)
def ObjOk (H:Hp) (h:Heap) (a:Addr):HO->Prop
 | .lst xs=>xs.length<=sizeLine/\∃ (its:List Value) (n:Nat),Vals xs its/\h.get? a=some { cls:=.type "list",data:=.seq its.toArray n }
 | .tup xs=>xs.length<=sizeLine/\∃ its:List Value,Vals xs its/\∃ o,h.get? a=some o/\o.cls=.type "tuple"/\∃ n,o.data=.seq its.toArray n/\o.dict=none
 | .dK kvs=>kvs.length<=sizeLine/\(a == sysModules)=false/\∃ vs,KV kvs vs/\h.DictOf (xbs P w) a vs
 | .dT kvs=>kvs.length<=sizeLine/\(a == sysModules)=false/\∃ xs:List (List Key×Addr×Value),
   Paired (fun (p:List Key×V) (q:List Key×Addr×Value)=>p.1=q.1/\H q.2.1=some (.tup (p.1.map kV))/\RelV p.2 q.2.2) kvs xs ∧
   ∃ o es ep,h.get? a=some o/\o.ExactDict/\o.data=.dict es ep/\es.toList=xs.map (entryOfKey (tupleKind (xbs P w)))/\(xs.map (·.1)).Nodup
 | .set S n=>h.SetOf (intKind P w) a S n
 | .ins C dx fs=>H dx=some (.own a)/\fs.length<=1000/\dx≠a/\h.get? a=some (PySem.W.instObj C dx) ∧
   ∃ mA,h.Ns1 dx mA/\(∀ f,RelO (fs.lookup f) (mA f))/\PySem.Within mA (fs.map (·.1))
 | .own _=>∃ o,h.get? a=some o
 | .xd fs=>∃ mA,h.Ns1 a mA/\∀ f,RelO (fs.lookup f) (mA f)
 | .rng lo hi=>∃ t u v,h.get? a=some { cls:=.type "range",data:=.fields #[.int lo t,.int hi u,.int 1 v] }
 | .frz o u=>h.get? a=some o/\ObjOk H h a u
 | .tbl ps=>h.get? a=some { cls:=.none,data:=.fields ps }
 | .met f x=>h.get? a=some (PySem.W.methodObj (.ref f) (.ref x))
 | .ext φ=>φ h/\(∃ o,h.get? a=some o)/\∀ h1 h2:Heap,φ h1->(∀ o,h1.get? a=some o->h2.get? a=some o)->φ h2
def HOk (H:Hp) (h:Heap):Prop:=∀ a o,H a=some o->ObjOk P w H h a o
end
section
variable {P:Program} {w:World} {H H':Hp} {h h':Heap} {a:Addr} {o:HO}
theorem ObjOk.lt (x:ObjOk P w H h a o):a < h.objs.size:=by
 cases o with
 | lst xs=>obtain ⟨_,_,_,_,e⟩:=x; exact Heap.lt_size e
 | tup xs=>obtain ⟨_,_,_,_,e,_⟩:=x; exact Heap.lt_size e
 | dK kvs=>obtain ⟨_,_,_,_,o,_,_,e,_⟩:=x; exact Heap.lt_size e
 | dT kvs=>obtain ⟨_,_,_,_,o,_,_,e,_⟩:=x; exact Heap.lt_size e
 | set S n=>obtain ⟨o,_,_,_,e,_⟩:=x; exact Heap.lt_size e
 | ins C dx fs=>obtain ⟨_,_,_,e,_⟩:=x; exact Heap.lt_size e
 | own y=>obtain ⟨_,e⟩:=x; exact Heap.lt_size e
 | xd fs=>obtain ⟨_,⟨_,_,_,e,_⟩,_⟩:=x; exact Heap.lt_size e
 | rng lo hi=>obtain ⟨_,_,_,e⟩:=x; exact Heap.lt_size e
 | frz ob u=>obtain ⟨e,_⟩:=x; exact Heap.lt_size e
 | tbl ps=>exact Heap.lt_size (show h.get? a=some _ from x)
 | met f y=>exact Heap.lt_size (show h.get? a=some _ from x)
 | ext φ=>obtain ⟨_,⟨_,e⟩,_⟩:=x; exact Heap.lt_size e
theorem Paired.mapP {α β:Type} {F G:α->β->Prop}:∀ {l₁:List α} {l₂:List β},Paired F l₁ l₂->(∀ a b,F a b->G a b)->Paired G l₁ l₂
 | _,_,.nil,_=>.nil
 | _,_,.cons r t,f=>.cons (f _ _ r) (Paired.mapP t f)
theorem ObjOk.stay (x:ObjOk P w H h a o) (k:∀ b u,(b=a\/H b=some (.own a))->h.get? b=some u->h'.get? b=some u)
  (ho:∀ b,H b=some (.own a)->H' b=some (.own a)) (ht:∀ b xs,H b=some (.tup xs)->H' b=some (.tup xs)):ObjOk P w H' h' a o:=by
 induction o with
 | lst xs=>obtain ⟨z,its,n,r,e⟩:=x; exact ⟨z,its,n,r,k _ _ (.inl rfl) e⟩
 | tup xs=>obtain ⟨z,its,r,ob,e,c⟩:=x; exact ⟨z,its,r,ob,k _ _ (.inl rfl) e,c⟩
 | dK kvs=>obtain ⟨z,y,vs,r,ob,es,ep,e,c⟩:=x; exact ⟨z,y,vs,r,ob,es,ep,k _ _ (.inl rfl) e,c⟩
 | dT kvs=>
  obtain ⟨z,y,xs,r,ob,es,ep,e,c⟩:=x
  exact ⟨z,y,xs,Paired.mapP r fun p q z=>⟨z.1,ht _ _ z.2.1,z.2.2⟩,ob,es,ep,k _ _ (.inl rfl) e,c⟩
 | set S n=>obtain ⟨ob,es,ep,t,e,c⟩:=x; exact ⟨ob,es,ep,t,k _ _ (.inl rfl) e,c⟩
 | ins C dx fs=>
  obtain ⟨d,z,ne,e,mA,⟨od,es,ep,e2,c⟩,r⟩:=x
  exact ⟨ho _ d,z,ne,k _ _ (.inl rfl) e,mA,⟨od,es,ep,k _ _ (.inr d) e2,c⟩,r⟩
 | own y=>obtain ⟨ob,e⟩:=x; exact ⟨ob,k _ _ (.inl rfl) e⟩
 | xd fs=>obtain ⟨mA,⟨od,es,ep,e,c⟩,r⟩:=x; exact ⟨mA,⟨od,es,ep,k _ _ (.inl rfl) e,c⟩,r⟩
 | rng lo hi=>obtain ⟨t,u,v,e⟩:=x; exact ⟨t,u,v,k _ _ (.inl rfl) e⟩
 | frz ob u ih=>obtain ⟨e,q⟩:=x; exact ⟨k _ _ (.inl rfl) e,ih q⟩
 | tbl ps=>
  have e:h.get? a=some { cls:=.none,data:=.fields ps }:=x
  show h'.get? a=some { cls:=.none,data:=.fields ps }
  exact k a _ (.inl rfl) e
 | met f y=>
  have e:h.get? a=some (PySem.W.methodObj (.ref f) (.ref y)):=x
  show h'.get? a=some (PySem.W.methodObj (.ref f) (.ref y))
  exact k a _ (.inl rfl) e
 | ext φ=>obtain ⟨p,⟨o,e⟩,st⟩:=x; exact ⟨st _ _ p fun o q=>k _ _ (.inl rfl) q,⟨o,k _ _ (.inl rfl) e⟩,st⟩
theorem HOk.lt (x:HOk P w H h) (e:H a=some o):a < h.objs.size:=(x a o e).lt
theorem HOk.fresh (x:HOk P w H h) (e:h.objs.size<=a):H a=none:=by
 cases q:H a with
 | none=>rfl
 | some u=>exact absurd (Nat.lt_of_lt_of_le (x.lt q) e) (Nat.lt_irrefl _)
theorem HOk.kept (x:HOk P w H h) (k:∀ b u,h.get? b=some u->h'.get? b=some u):HOk P w H h':=fun a o e=>
 (x a o e).stay (fun b u _ q=>k b u q) (fun _ q=>q) fun _ _ q=>q
theorem HOk.laid (x:HOk P w H h) (k:∀ b u,h.get? b=some u->h'.get? b=some u) (hp:h.objs.size<=a) (new:ObjOk P w (upd H a o) h' a o):HOk P w (upd H a o) h':=fun b u e=>by
 have hn:=x.fresh hp
 by_cases hb:b=a
 ·subst hb; rw [ups] at e; cases e; exact new
 ·rw [xba hb] at e
  exact (x b u e).stay (fun c v _ q=>k c v q) (fun c q=>by rw [xba (neN q hn)]; exact q) fun c xs q=>by rw [xba (neN q hn)]; exact q
end
def Rd (H:Hp) (a:Addr) (u:HO):Prop:=H a=some u\/∃ o,H a=some (.frz o u)
theorem Rd.ok {P:Program} {w:World} {H:Hp} {h:Heap} {a:Addr} {u:HO} (r:Rd H a u) (x:HOk P w H h):ObjOk P w H h a u:=by
 rcases r with r | ⟨o,r⟩
 ·exact x a u r
 ·obtain ⟨_,q⟩:=x a _ r
  exact q
def Mut:Option HO->Prop
 | some (.lst _)=>True
 | some (.dK _)=>True
 | some (.dT _)=>True
 | some (.set _ _)=>True
 | some (.ins _ _ _)=>True
 | some (.ext _)=>True
 | _=>False
section
variable {P:Program} {w:World} {H:Hp} {h h':Heap} {x e:Addr} {o':HO}
theorem HOk.write (ok:HOk P w H h) (mu:Mut (H x)) (he:e=x\/H e=some (.own x)) (k:∀ b u,b≠e->h.get? b=some u->h'.get? b=some u) (heo:∃ u,h'.get? e=some u)
  (new:ObjOk P w (upd H x o') h' x o'):HOk P w (upd H x o') h':=fun b u q=>by
 have nown:∀ c y,H c=some (.own y)->c≠x:=fun c y r z=>by subst z; rw [r] at mu; exact mu
 have ntup:∀ c xs,H c=some (.tup xs)->c≠x:=fun c xs r z=>by subst z; rw [r] at mu; exact mu
 by_cases hb:b=x
 ·subst hb; rw [ups] at q; cases q; exact new
 ·rw [xba hb] at q
  by_cases hbe:b=e
  ·have q':H b=some (.own x):=by
    rcases he with z | z
    ·exact absurd (hbe.trans z) hb
    ·rw [hbe]; exact z
   rw [q] at q'; cases q'
   obtain ⟨v,hv⟩:=heo
   exact ⟨v,by rw [hbe]; exact hv⟩
  ·refine (ok b u q).stay (fun c v hc r=>k c v ?_ r) (fun c r=>by rw [xba (nown c b r)]; exact r) fun c xs r=>by rw [xba (ntup c xs r)]; exact r
   rcases hc with rfl | hc
   ·exact hbe
   ·rintro rfl
    rcases he with z | z
    ·exact nown c b hc z
    ·rw [hc] at z; cases z; exact hb rfl
end
structure Un (fs ex:List Addr) (H H':Hp) (h h':Heap):Prop where
 keep:∀ b o,h.get? b=some o->H b=none->b ∉ fs->b ∉ ex->h'.get? b=some o
 slot:∀ b o,h.get? b=some o->H b=none->b∈fs->b ∉ ex->∃ sl,h'.get? b=some { o with slots:=sl }
 free:∀ b o,h.get? b=some o->H b=none->b ∉ ex->H' b=none
 there:∀ b o,h.get? b=some o->b ∉ ex->∃ o',h'.get? b=some o'
 tups:∀ b xs,H b=some (.tup xs)->H' b=some (.tup xs)
 frzs:∀ b o u,H b=some (.frz o u)->H' b=some (.frz o u)
 tbls:∀ b ps,H b=some (.tbl ps)->∃ more,H' b=some (.tbl (ps++more))
section
variable {fs fs' ex ex':List Addr} {H H1 H2:Hp} {h h1 h2 h':Heap} {a x e:Addr} {o:HO}
theorem Un.any (u:Un fs ex H H1 h h1) {b:Addr} {ob:Obj} (q:h.get? b=some ob) (n:H b=none) (hx:b ∉ ex):∃ sl,h1.get? b=some { ob with slots:=sl }:=by
 by_cases hb:b∈fs
 ·exact u.slot b ob q n hb hx
 ·exact ⟨ob.slots,u.keep b ob q n hb hx⟩
theorem Un.kept (k:∀ b u,h.get? b=some u->h'.get? b=some u):Un fs ex H H h h':=
 ⟨fun b ob q _ _ _=>k b ob q,fun b ob q _ _ _=>⟨ob.slots,k b ob q⟩,fun _ _ _ n _=>n,fun b ob q _=>⟨ob,k b ob q⟩,fun _ _ q=>q,fun _ _ _ q=>q,fun _ ps q=>⟨#[],by rw [q]; simp⟩⟩
theorem Un.refl:Un fs ex H H h h:=Un.kept fun _ _ q=>q
theorem Un.laid (k:∀ b u,h.get? b=some u->h'.get? b=some u) (hp:h.objs.size<=a) (hn:H a=none):Un fs ex H (upd H a o) h h' where
 keep:=fun b u q _ _ _=>k b u q
 slot:=fun b u q _ _ _=>⟨u.slots,k b u q⟩
 free:=fun b u q n _=>by rw [xba (Nat.ne_of_lt (Nat.lt_of_lt_of_le (Heap.lt_size q) hp))]; exact n
 there:=fun b u q _=>⟨u,k b u q⟩
 tups:=fun b xs q=>by rw [xba (neN q hn)]; exact q
 frzs:=fun b u xs q=>by rw [xba (neN q hn)]; exact q
 tbls:=fun b ps q=>⟨#[],by rw [xba (neN q hn),q]; simp⟩
theorem Un.write (mu:Mut (H x)) (he:e=x\/H e=some (.own x)) (k:∀ b u,b≠e->h.get? b=some u->h'.get? b=some u) (heo:∃ u,h'.get? e=some u):Un fs ex H (upd H x o) h h':=by
 have hx:∀ b,H b=none->b≠x:=fun b n z=>by subst z; rw [n] at mu; exact mu
 have hb:∀ b,H b=none->b≠e:=fun b n z=>by
  subst z
  rcases he with r | r
  ·exact hx b n r
  ·rw [n] at r; cases r
 have hm:∀ b u,H b=some u->¬ Mut (some u)->b≠x:=fun b u q nm z=>by subst z; rw [q] at mu; exact nm mu
 refine ⟨fun b u q n _ _=>k b u (hb b n) q,fun b u q n _ _=>⟨u.slots,k b u (hb b n) q⟩,fun b u q n _=>by rw [xba (hx b n)]; exact n,fun b u q _=>?_,
  fun b xs q=>by rw [xba (hm b _ q fun z=>z)]; exact q,fun b u xs q=>by rw [xba (hm b _ q fun z=>z)]; exact q,fun b ps q=>⟨#[],by rw [xba (hm b _ q fun z=>z),q]; simp⟩⟩
 by_cases hbe:b=e
 ·subst hbe; exact heo
 ·exact ⟨u,k b u hbe q⟩
end
def trk (h:Heap) (H:Hp):List Addr:=(List.range h.objs.size).filter fun a=>(H a).isSome
def hidT (h:Heap) (H:Hp):Heap:=PySem.W.hideAll h (trk h H)
theorem xqd (h:Heap) (H:Hp):(hidT h H).objs.size=h.objs.size:=PySem.W.hideAll_size _ _
theorem xr4 {h:Heap} {H:Hp} {b:Addr} {o:Obj} (e:h.get? b=some o) (n:H b=none):(hidT h H).get? b=some o:=
 PySem.W.hideAll_get _ e fun hm=>by
  have q:(H b).isSome=true:=(List.mem_filter.mp hm).2
  rw [n] at q; simp at q
theorem xtt {h:Heap} {H:Hp} {b:Addr} {o:Obj} (e:(hidT h H).get? b=some o):h.get? b=some o/\H b=none:=by
 have e':h.get? b=some o:=PySem.W.of_hideAll (trk h H) e
 refine ⟨e',?_⟩
 cases q:H b with
 | none=>rfl
 | some x=>
  have hm:b∈trk h H:=List.mem_filter.mpr ⟨List.mem_range.mpr (Heap.lt_size e'),by simp [q]⟩
  have z:(hidT h H).get? b=none:=PySem.W.hideAll_none (trk h H) hm
  rw [z] at e; cases e
end L2
namespace L2
open PySem PySem.Spec PyProof.Rows
structure Mod (K:PySem.W.Frag) (mg:Str->Option Value) (base:Heap):Prop where
 kin:K.In base
 glob:base.Ns mainGlobals mg
 blt:∃ mb,base.Ns builtinsNs mb/\∀ x:Str,x≠"__name__"->mb x=bootBuiltins x
 nolimit:base.NoLimit
structure Cx where
 prog:Program
 w:World
 K:PySem.W.Frag
 mg:Str->Option Value
 base:Heap
 A:Around
 N:List Str
 s₀:Shared
 H₀:Hp
 env:Env
 outer:List Env
 stack:List Env
 ex:List Addr
 fn:Str->Bool
 calm:Bool
 pn:List (Addr×Obj)
 xe:Value->Shared->Prop
def frs (l:List Env):List Addr:=l.filterMap (·.frame)
abbrev Cx.fs (X:Cx):List Addr:=frs X.outer
def Vis (sc:Scope) (x:Str):Prop:=sc.names.lookup x=some .local\/sc.names.lookup x=some .cell\/sc.names.lookup x=some .free
def Loc (sc:Scope) (x:Str):Prop:=sc.names.lookup x=some .local\/sc.names.lookup x=some .cell
def Look (env:Env) (h:Heap) (m:Str->Option Value) (x:Str) (u:Value):Prop:=
 (env.kindOf x=some .local/\m x=some u)\/((env.kindOf x=some .cell\/env.kindOf x=some .free)/\∃ c,env.cells.lookup x=some c/\h.IsCell c (some u))
structure Cx.Ok (X:Cx):Prop where
 mod:Mod X.K X.mg X.base
 kind:X.env.scope.kind=.function
 glob:X.env.globals=mainGlobals
 blt:X.env.builtins=builtinsNs
 above:X.s₀.heap.objs.size<=X.env.locals
 inj:∀ x y c,X.env.cells.lookup x=some c->X.env.cells.lookup y=some c->x=y
 has:∀ x,(X.env.kindOf x=some .cell\/X.env.kindOf x=some .free)->∃ c,X.env.cells.lookup x=some c
 cab:∀ x c,X.fn x=true->X.env.cells.lookup x=some c->X.s₀.heap.objs.size<=c
 hd:X.calm=true->X.A.handled=none
 frames:X.A.frames=some X.stack
 stk:X.stack=X.outer\/(X.stack=X.env :: X.outer/\X.env.frame=some X.env.locals)
 exf:∀ b∈X.ex,b≠X.env.locals/\∀ x c,X.env.cells.lookup x=some c->c≠b
 bs:∀ b o,X.base.get? b=some o->X.s₀.heap.get? b=some o/\X.H₀ b=none
 bsz:X.base.objs.size<=X.s₀.heap.objs.size
 noex:∀ b o,X.base.get? b=some o->b ∉ X.ex
 exfs:∀ b∈X.ex,b ∉ X.fs
 funs:X.s₀.heap.FunFrames X.base X.outer
 frf:∀ b∈X.fs,X.H₀ b=none
structure Inv (X:Cx) (pins:List (Addr×Obj)) (σ:List (Option V)) (H:Hp) (s:Shared):Prop where
 ok:X.Ok
 os:s.os=X.s₀.os
 bare:AllBare s.gens
 base:Un X.fs X.ex X.H₀ H X.s₀.heap s.heap
 loc:∃ m,s.heap.Ns X.env.locals m/\∀ (i:Nat) (x:Str) (v:V),X.N[i]?=some x->σ[i]?=some (some v)->Vis X.env.scope x->∃ u,RelV v u/\Look X.env s.heap m x u
 cell:∀ x c,X.env.cells.lookup x=some c->∃ v,s.heap.IsCell c v
 free:H X.env.locals=none
 freeC:∀ x c,X.env.cells.lookup x=some c->H c=none
 pin:∀ p∈X.pn++pins,s.heap.get? p.1=some p.2/\H p.1=none/\p.1≠X.env.locals/\p.1 ∉ X.fs/\∀ v,p.2.data≠.cell v
 hok:HOk X.prog X.w H s.heap
 len:σ.length=X.N.length
section
variable {X:Cx} {pins:List (Addr×Obj)} {σ:List (Option V)} {H H':Hp} {s:Shared} {h':Heap}
theorem Cx.Ok.nofr (ok:X.Ok) {b:Addr} {o:Obj} (e:X.base.get? b=some o):b ∉ X.fs:=fun hb=>by
 have:=(ok.funs.mem hb).1
 rw [e] at this; cases this
theorem Inv.bs (I:Inv X pins σ H s):∀ b o,X.base.get? b=some o->s.heap.get? b=some o/\H b=none:=fun b o e=>
 ⟨I.base.keep b o (I.ok.bs b o e).1 (I.ok.bs b o e).2 (I.ok.nofr e) (I.ok.noex b o e),I.base.free b o (I.ok.bs b o e).1 (I.ok.bs b o e).2 (I.ok.noex b o e)⟩
theorem Inv.bk (I:Inv X pins σ H s):∀ b o,X.base.get? b=some o->s.heap.get? b=some o:=fun b o e=>(I.bs b o e).1
theorem Inv.mod (I:Inv X pins σ H s):Mod X.K X.mg X.base:=I.ok.mod
theorem Inv.kIn (I:Inv X pins σ H s):X.K.In s.heap:=I.ok.mod.kin.keeps I.bk
theorem Inv.lt (I:Inv X pins σ H s):X.env.locals < s.heap.objs.size:=let ⟨_,hn,_⟩:=I.loc; hn.lt
theorem Inv.sz (I:Inv X pins σ H s):X.s₀.heap.objs.size<=s.heap.objs.size:=Nat.le_trans I.ok.above (Nat.le_of_lt I.lt)
theorem Inv.nofs (I:Inv X pins σ H s) {a:Addr} (h:s.heap.objs.size<=a):a ∉ X.fs:=fun hb=>by
 obtain ⟨_,o,ho,_⟩:=I.ok.funs.mem hb
 exact absurd (Nat.lt_of_lt_of_le (Heap.lt_size ho) (Nat.le_trans I.sz h)) (Nat.lt_irrefl _)
theorem Inv.cne (I:Inv X pins σ H s):∀ x c,X.env.cells.lookup x=some c->c≠X.env.locals:=fun x c e z=>by
 obtain ⟨v,o,ho,hd⟩:=I.cell x c e
 obtain ⟨m,⟨o',es,ep,ho',hd',_⟩,_⟩:=I.loc
 rw [z,ho'] at ho; cases ho; rw [hd'] at hd; cases hd
theorem Inv.funs (I:Inv X pins σ H s):s.heap.FunFrames X.base X.outer:=by
 have all:∀ (l:List Env),(∀ b∈frs l,b∈X.fs)->X.s₀.heap.FunFrames X.base l->s.heap.FunFrames X.base l:=by
  intro l
  induction l with
  | nil=>intro _ _; trivial
  | cons env r ih=>
   intro hs hl
   obtain ⟨hk,⟨L,o,hf,hn,ho,hd⟩,hr⟩:=hl
   have hL:L∈X.fs:=hs L (by unfold frs; rw [List.filterMap_cons,hf]; exact List.mem_cons_self)
   obtain ⟨sl,e⟩:=I.base.slot L o ho (I.ok.frf L hL) hL fun z=>I.ok.exfs L z hL
   exact ⟨hk,⟨L,_,hf,hn,e,hd⟩,ih (fun b hb=>hs b (by unfold frs; rw [List.filterMap_cons,hf]; exact List.mem_cons_of_mem _ hb)) hr⟩
 exact all X.outer (fun _ hb=>hb) I.ok.funs
theorem Inv.stack (I:Inv X pins σ H s):s.heap.FunFrames X.base X.stack:=by
 rcases I.ok.stk with e | ⟨e,hf⟩
 ·rw [e]; exact I.funs
 ·rw [e]
  obtain ⟨m,hn,_⟩:=I.loc
  refine .cons (by rw [I.ok.kind]; decide) hf hn ?_ I.funs
  exact Heap.get?_none_of_le (Nat.le_trans I.ok.bsz I.ok.above)
theorem Inv.stkSub (I:Inv X pins σ H s):∀ b∈frs X.stack,b∈X.env.locals :: X.fs:=fun b hb=>by
 rcases I.ok.stk with e | ⟨e,hf⟩
 ·rw [e] at hb; exact List.mem_cons_of_mem _ hb
 ·rw [e] at hb
  unfold frs at hb
  rw [List.filterMap_cons,hf] at hb
  exact hb
theorem Inv.stkFree (I:Inv X pins σ H s):∀ b∈frs X.stack,H b=none:=fun b hb=>by
 rcases zMC (I.stkSub b hb) with e | hb
 ·rw [e]; exact I.free
 ·obtain ⟨_,o,ho,_⟩:=I.ok.funs.mem hb
  exact I.base.free b o ho (I.ok.frf b hb) fun z=>I.ok.exfs b z hb
theorem Inv.step {g':Array GenState} {t':Nat} {d':Drawn} {ch:List Addr} (I:Inv X pins σ H s)
  (hch:∀ b∈ch,(b∈X.ex\/X.s₀.heap.objs.size<=b)/\b≠X.env.locals/\(∀ x c,X.env.cells.lookup x=some c->c≠b)/\∀ p∈X.pn++pins,p.1≠b)
  (keep:∀ b o,b≠X.env.locals->b ∉ X.fs->b ∉ ch->s.heap.get? b=some o->H b=none->h'.get? b=some o)
  (slot:∀ b o,b≠X.env.locals->b∈X.fs->b ∉ ch->s.heap.get? b=some o->H b=none->∃ sl,h'.get? b=some { o with slots:=sl }) (free:∀ b o,b ∉ ch->s.heap.get? b=some o->H b=none->H' b=none)
  (there:∀ b o,b ∉ ch->s.heap.get? b=some o->∃ o',h'.get? b=some o')
  (tups:∀ b xs,H b=some (.tup xs)->H' b=some (.tup xs)) (frzs:∀ b o u,H b=some (.frz o u)->H' b=some (.frz o u)) (tbls:∀ b ps,H b=some (.tbl ps)->∃ more,H' b=some (.tbl (ps++more)))
  (ns:∀ m,s.heap.Ns X.env.locals m->h'.Ns X.env.locals m) (hok:HOk X.prog X.w H' h') (hg:AllBare g') :
  Inv X pins σ H' { s with heap:=h',gens:=g',drawn:=d',toks:=t' }:=by
 have neL:∀ b o,X.s₀.heap.get? b=some o->b≠X.env.locals:=fun b o e=>Nat.ne_of_lt (Nat.lt_of_lt_of_le (Heap.lt_size e) I.ok.above)
 have neC:∀ b o,X.s₀.heap.get? b=some o->b ∉ X.ex->b ∉ ch:=fun b o e hx hb=>by
  rcases (hch b hb).1 with z | z
  ·exact hx z
  ·exact absurd (Nat.lt_of_lt_of_le (Heap.lt_size e) z) (Nat.lt_irrefl _)
 have cellK:∀ x c,X.env.cells.lookup x=some c->∀ v,s.heap.IsCell c v->h'.IsCell c v:=fun x c e v ⟨o,ho,hd⟩=>by
  have nch:c ∉ ch:=fun z=>(hch c z).2.2.1 x c e rfl
  by_cases hc:c∈X.fs
  ·obtain ⟨sl,q⟩:=slot c o (I.cne x c e) hc nch ho (I.freeC x c e)
   exact ⟨_,q,hd⟩
  ·exact ⟨o,keep c o (I.cne x c e) hc nch ho (I.freeC x c e),hd⟩
 refine ⟨I.ok,I.os,hg,⟨fun b o e n hb hx=>?_,fun b o e n hb hx=>?_,fun b o e n hx=>?_,fun b o e hx=>?_,fun b xs e=>tups b xs (I.base.tups b xs e),fun b o xs e=>frzs b o xs (I.base.frzs b o xs e),fun b ps e=>?_⟩,?_,fun x c e=>?_,?_,fun x c e=>?_,fun p hp=>?_,hok,I.len⟩
 ·exact keep b o (neL b o e) hb (neC b o e hx) (I.base.keep b o e n hb hx) (I.base.free b o e n hx)
 ·obtain ⟨sl,e1⟩:=I.base.slot b o e n hb hx
  obtain ⟨sl',e2⟩:=slot b _ (neL b o e) hb (neC b o e hx) e1 (I.base.free b o e n hx)
  exact ⟨sl',e2⟩
 ·obtain ⟨o',e1⟩:=I.base.there b o e hx
  exact free b o' (neC b o e hx) e1 (I.base.free b o e n hx)
 ·obtain ⟨o',e1⟩:=I.base.there b o e hx
  exact there b o' (neC b o e hx) e1
 ·obtain ⟨m1,e1⟩:=I.base.tbls b ps e
  obtain ⟨m2,e2⟩:=tbls b _ e1
  exact ⟨m1++m2,by rw [e2,Array.append_assoc]⟩
 ·obtain ⟨m,hn,hl⟩:=I.loc
  refine ⟨m,ns m hn,fun i x v e1 e2 e3=>?_⟩
  obtain ⟨u,r,l⟩:=hl i x v e1 e2 e3
  refine ⟨u,r,?_⟩
  rcases l with l | ⟨k,c,e,z⟩
  ·exact .inl l
  ·exact .inr ⟨k,c,e,cellK x c e _ z⟩
 ·obtain ⟨v,z⟩:=I.cell x c e
  exact ⟨v,cellK x c e v z⟩
 ·obtain ⟨m,⟨o,_,_,ho,_⟩,_⟩:=I.loc
  exact free _ o (fun z=>(hch _ z).2.1 rfl) ho I.free
 ·obtain ⟨v,o,ho,hd⟩:=I.cell x c e
  exact free c o (fun z=>(hch c z).2.2.1 x c e rfl) ho (I.freeC x c e)
 ·obtain ⟨e,n,ne,nf,d⟩:=I.pin p hp
  have nch:p.1 ∉ ch:=fun z=>(hch p.1 z).2.2.2 p hp rfl
  exact ⟨keep p.1 p.2 ne nf nch e n,free p.1 p.2 nch e n,ne,nf,d⟩
theorem Inv.un {t':Nat} (I:Inv X pins σ H s) (u:Un X.fs [] H H' s.heap h') (hok:HOk X.prog X.w H' h'):Inv X pins σ H' { s with heap:=h',toks:=t' }:=by
 obtain ⟨m,⟨o,es,ep,ho,r⟩,_⟩:=id I.loc
 obtain ⟨sl,hL⟩:=u.any ho I.free (by simp)
 exact I.step (g':=s.gens) (d':=s.drawn) (ch:=[]) (fun _ z=>nomatch z) (fun b o _ hb _ e n=>u.keep b o e n hb (by simp)) (fun b o _ hb _ e n=>u.slot b o e n hb (by simp)) (fun b o _ e n=>u.free b o e n (by simp)) (fun b o _ e=>u.there b o e (by simp)) u.tups u.frzs u.tbls (fun m' hm=>by
  obtain ⟨o',es',ep',ho',r'⟩:=hm
  rw [ho] at ho'; cases ho'
  exact ⟨_,es',ep',hL,r'⟩) hok I.bare
theorem Inv.call {g':Array GenState} {t':Nat} {d':Drawn} {ch:List Addr} (I:Inv X pins σ H s) (u:Un (frs X.stack) ch H H' s.heap h') (hok:HOk X.prog X.w H' h') (hg:AllBare g')
  (hch:∀ b∈ch,(b∈X.ex\/X.s₀.heap.objs.size<=b)/\b≠X.env.locals/\(∀ x c,X.env.cells.lookup x=some c->c≠b)/\∀ p∈X.pn++pins,p.1≠b) :
  Inv X pins σ H' { s with heap:=h',gens:=g',drawn:=d',toks:=t' }:=by
 obtain ⟨m,⟨o,es,ep,ho,r⟩,_⟩:=id I.loc
 obtain ⟨sl,hL⟩:=u.any ho I.free fun z=>(hch _ z).2.1 rfl
 exact I.step (ch:=ch) hch (fun b o hL hb hc e n=>u.keep b o e n (fun z=>(zMC (I.stkSub b z)).elim hL hb) hc) (fun b o _ _ hc e n=>u.any e n hc) (fun b o hc e n=>u.free b o e n hc) (fun b o hc e=>u.there b o e hc) u.tups u.frzs u.tbls (fun m' hm=>by
  obtain ⟨o',es',ep',ho',r'⟩:=hm
  rw [ho] at ho'; cases ho'
  exact ⟨_,es',ep',hL,r'⟩) hok hg
theorem Inv.turned {t':Nat} {it:Addr} (I:Inv X pins σ H s) (k:∀ b o,b≠it->s.heap.get? b=some o->h'.get? b=some o) (hn:H it=none) (hL:it≠X.env.locals)
  (h1:it∈X.ex\/X.s₀.heap.objs.size<=it) (h2:∀ x c,X.env.cells.lookup x=some c->c≠it) (h3:∀ p∈X.pn++pins,p.1≠it):Inv X pins σ H { s with heap:=h',toks:=t' }:=by
 have nit:∀ b u,H b=some u->b≠it:=fun b u e z=>by rw [z,hn] at e; cases e
 refine I.step (g':=s.gens) (d':=s.drawn) (ch:=[it]) (fun b hb=>?_) (fun b o _ _ hc e _=>k b o (fun z=>hc (by simp [z])) e) (fun b o _ _ hc e _=>⟨o.slots,k b o (fun z=>hc (by simp [z])) e⟩) (fun _ _ _ _ n=>n)
  (fun b o hc e=>⟨o,k b o (fun z=>hc (by simp [z])) e⟩) (fun _ _ e=>e) (fun _ _ _ e=>e) (fun b ps e=>⟨#[],by rw [e]; simp⟩) (fun m hm=>?_) (fun b u e=>?_) I.bare
 ·have e:b=it:=by simpa using hb
  subst e
  exact ⟨h1,hL,h2,h3⟩
 ·obtain ⟨o,es,ep,ho,r⟩:=hm
  exact ⟨o,es,ep,k _ o (Ne.symm hL) ho,r⟩
 ·refine (I.hok b u e).stay (fun c v hc q=>k c v ?_ q) (fun _ q=>q) fun _ _ q=>q
  rcases hc with z | z
  ·rw [z]; exact nit b u e
  ·exact nit c _ z
theorem Inv.tok (I:Inv X pins σ H s) (t:Nat):Inv X pins σ H { s with toks:=t }:=I.un (h':=s.heap) (t':=t) Un.refl I.hok
theorem Inv.kept {t':Nat} (I:Inv X pins σ H s) (k:∀ b u,s.heap.get? b=some u->h'.get? b=some u):Inv X pins σ H { s with heap:=h',toks:=t' }:=I.un (Un.kept k) (I.hok.kept k)
theorem Inv.laid {a:Addr} {o:HO} {t':Nat} (I:Inv X pins σ H s) (k:∀ b u,s.heap.get? b=some u->h'.get? b=some u) (hp:s.heap.objs.size<=a) (new:ObjOk X.prog X.w (upd H a o) h' a o) :
  Inv X pins σ (upd H a o) { s with heap:=h',toks:=t' }:=I.un (Un.laid k hp (I.hok.fresh hp)) (I.hok.laid k hp new)
theorem Inv.write {x e:Addr} {o:HO} {t':Nat} (I:Inv X pins σ H s) (mu:Mut (H x)) (he:e=x\/H e=some (.own x)) (k:∀ b u,b≠e->s.heap.get? b=some u->h'.get? b=some u) (heo:∃ u,h'.get? e=some u)
  (new:ObjOk X.prog X.w (upd H x o) h' x o):Inv X pins σ (upd H x o) { s with heap:=h',toks:=t' }:=I.un (Un.write mu he k heo) (I.hok.write mu he k heo new)
theorem Inv.weak {σ':List (Option V)} (I:Inv X pins σ H s) (hl:σ'.length=σ.length) (w:∀ (i:Nat) v,σ'[i]?=some (some v)->σ[i]?=some (some v)):Inv X pins σ' H s:=
 ⟨I.ok,I.os,I.bare,I.base,let ⟨m,hn,hl'⟩:=I.loc; ⟨m,hn,fun i x v e1 e2 e3=>hl' i x v e1 (w i v e2) e3⟩,I.cell,I.free,I.freeC,I.pin,I.hok,hl.trans I.len⟩
theorem Inv.pins_of {pins':List (Addr×Obj)} (I:Inv X pins σ H s) (h:∀ p∈pins',s.heap.get? p.1=some p.2/\H p.1=none/\p.1≠X.env.locals/\p.1 ∉ X.fs/\∀ v,p.2.data≠.cell v):Inv X pins' σ H s:=
 ⟨I.ok,I.os,I.bare,I.base,I.loc,I.cell,I.free,I.freeC,fun p hp=>(zMA hp).elim (fun z=>I.pin p (List.mem_append_left _ z)) (h p),I.hok,I.len⟩
theorem xmy {N:List Str} (hN:N.Nodup) {i j:Nat} {x:Str} (a:N[i]?=some x) (b:N[j]?=some x):i=j:=by
 obtain ⟨h1,e1⟩:=zES a
 obtain ⟨h2,e2⟩:=zES b
 exact (List.getElem_inj hN).mp (e1.trans e2.symm)
theorem xjh {M:Model} {A:Around} {E:Value->Shared->Prop} {i:Nat} {x:Str} {v:V} {u:Value} {Q:Unit->Shared->Prop} (I:Inv X pins σ H s) (hN:X.N.Nodup) (hi:X.N[i]?=some x) (hx:Loc X.env.scope x) (r:RelV v u)
  (h:∀ s',Inv X pins (σ.set i (some v)) H s'->(∃ a,Heap.SameBut a s.heap s'.heap/\(a=X.env.locals\/X.env.cells.lookup x=some a))->Q () s') (hf:X.fn x=true\/X.env.scope.names.lookup x=some .local:=by first | exact .inl rfl | exact .inr rfl | assumption):wpAny M A (storeName X.env x u) Q E s:=by
 obtain ⟨m,hn,hl⟩:=id I.loc
 have hcls:(X.env.scope.kind == .class || (X.env.scope.kind == .module && X.env.locals != X.env.globals))=false:=by rw [I.ok.kind]; rfl
 have hiσ:i < σ.length:=by rw [I.len]; exact (zES hi).1
 have cne:=I.cne
 have tracked:∀ {a:Addr} {h':Heap},(∃ o,s.heap.get? a=some o/\H a=none)->Heap.SameBut a s.heap h'->HOk X.prog X.w H h':=fun {a h'} ha hs b ob e=>by
  obtain ⟨_,_,hfree⟩:=ha
  refine (I.hok b ob e).stay (fun c w' hc q=>(hs.2 c ?_).trans q) (fun _ q=>q) fun _ _ q=>q
  rintro rfl
  rcases hc with rfl | hc
  ·rw [hfree] at e; cases e
  ·rw [hfree] at hc; cases hc
 rcases hx with hk | hk
 ·refine wpAny_storeName_local hk hn (fun h' hn' hs=>?_) hcls
  obtain ⟨oL,_,_,hoL,_⟩:=id hn
  refine h _ ⟨I.ok,I.os,I.bare,⟨fun b o e n hb hx=>?_,fun b o e n hb hx=>?_,I.base.free,fun b o e hx=>?_,I.base.tups,I.base.frzs,I.base.tbls⟩,⟨_,hn',fun j y v' e1 e2 e3=>?_⟩,fun y c e=>?_,I.free,I.freeC,fun p hp=>?_,tracked ⟨oL,hoL,I.free⟩ hs,by simpa using I.len⟩ ⟨_,hs,.inl rfl⟩
  ·exact (hs.2 b (Nat.ne_of_lt (Nat.lt_of_lt_of_le (Heap.lt_size e) I.ok.above))).trans (I.base.keep b o e n hb hx)
  ·obtain ⟨sl,e1⟩:=I.base.slot b o e n hb hx
   exact ⟨sl,(hs.2 b (Nat.ne_of_lt (Nat.lt_of_lt_of_le (Heap.lt_size e) I.ok.above))).trans e1⟩
  ·obtain ⟨o',e1⟩:=I.base.there b o e hx
   exact ⟨o',(hs.2 b (Nat.ne_of_lt (Nat.lt_of_lt_of_le (Heap.lt_size e) I.ok.above))).trans e1⟩
  ·by_cases hj:j=i
   ·subst hj
    rw [hi] at e1; cases e1
    rw [List.getElem?_set_self hiσ] at e2
    cases e2
    exact ⟨u,r,.inl ⟨hk,by simp⟩⟩
   ·rw [List.getElem?_set_ne (Ne.symm hj)] at e2
    obtain ⟨u',r',q⟩:=hl j y v' e1 e2 e3
    refine ⟨u',r',?_⟩
    rcases q with ⟨k,e⟩ | ⟨k,c,e,z⟩
    ·refine .inl ⟨k,?_⟩
     have:y≠x:=fun e=>hj (xmy hN e1 (e ▸ hi))
     simp [this,e]
    ·exact .inr ⟨k,c,e,z.sameBut hs (cne y c e)⟩
  ·obtain ⟨w',z⟩:=I.cell y c e
   exact ⟨w',z.sameBut hs (cne y c e)⟩
  ·obtain ⟨e,n,ne,nf,d⟩:=I.pin p hp
   exact ⟨(hs.2 p.1 ne).trans e,n,ne,nf,d⟩
 ·have hfn:X.fn x=true:=by
   rcases hf with z | z
   ·exact z
   ·rw [z] at hk; cases hk
  obtain ⟨c,hc⟩:=I.ok.has x (.inl hk)
  obtain ⟨w',z⟩:=I.cell x c hc
  refine wpAny_storeName_cell I.ok.kind hk hc z (fun h' hc' hs=>?_)
  obtain ⟨oc,hoc,hocd⟩:=id z
  refine h { s with heap:=h' } ⟨I.ok,I.os,I.bare,⟨fun b o e n hb hx=>?_,fun b o e n hb hx=>?_,I.base.free,fun b o e hx=>?_,I.base.tups,I.base.frzs,I.base.tbls⟩,⟨m,hn.sameBut hs (Ne.symm (cne x c hc)),fun j y v' e1 e2 e3=>?_⟩,fun y c' e=>?_,I.free,I.freeC,fun p hp=>?_,tracked ⟨oc,hoc,I.freeC x c hc⟩ hs,by simpa using I.len⟩ ⟨c,hs,.inr hc⟩
  ·exact (hs.2 b (Nat.ne_of_lt (Nat.lt_of_lt_of_le (Heap.lt_size e) (I.ok.cab x c hfn hc)))).trans (I.base.keep b o e n hb hx)
  ·obtain ⟨sl,e1⟩:=I.base.slot b o e n hb hx
   exact ⟨sl,(hs.2 b (Nat.ne_of_lt (Nat.lt_of_lt_of_le (Heap.lt_size e) (I.ok.cab x c hfn hc)))).trans e1⟩
  ·obtain ⟨o',e1⟩:=I.base.there b o e hx
   exact ⟨o',(hs.2 b (Nat.ne_of_lt (Nat.lt_of_lt_of_le (Heap.lt_size e) (I.ok.cab x c hfn hc)))).trans e1⟩
  ·by_cases hj:j=i
   ·subst hj
    rw [hi] at e1; cases e1
    rw [List.getElem?_set_self hiσ] at e2
    cases e2
    exact ⟨u,r,.inr ⟨.inl hk,c,hc,hc'⟩⟩
   ·rw [List.getElem?_set_ne (Ne.symm hj)] at e2
    obtain ⟨u',r',q⟩:=hl j y v' e1 e2 e3
    refine ⟨u',r',?_⟩
    rcases q with q | ⟨k,c',e,z'⟩
    ·exact .inl q
    ·refine .inr ⟨k,c',e,z'.sameBut hs ?_⟩
     rintro rfl
     exact hj (xmy hN e1 (I.ok.inj _ _ _ e hc ▸ hi))
  ·by_cases hcc:c'=c
   ·subst hcc; exact ⟨_,hc'⟩
   ·obtain ⟨w2,z2⟩:=I.cell y c' e
    exact ⟨w2,z2.sameBut hs hcc⟩
  ·obtain ⟨e,n,ne,nf,d⟩:=I.pin p hp
   refine ⟨(hs.2 p.1 ?_).trans e,n,ne,nf,d⟩
   intro q
   rw [q,hoc] at e
   have q':oc=p.2:=Option.some.inj e
   exact d w' (by rw [<- q']; exact hocd)
theorem xmm {M:Model} {A:Around} {E:Value->Shared->Prop} {i:Nat} {x:Str} {v:V} {u:Value} {Q:Unit->Shared->Prop} (I:Inv X pins σ H s) (hN:X.N.Nodup) (hi:X.N[i]?=some x) (hx:Loc X.env.scope x) (r:RelV v u)
  (h:∀ s',Inv X pins (σ.set i (some v)) H s'->Q () s') (hf:X.fn x=true\/X.env.scope.names.lookup x=some .local:=by first | exact .inl rfl | exact .inr rfl | assumption):wpAny M A (storeName X.env x u) Q E s:=
 xjh I hN hi hx r (fun s' I' _=>h s' I') hf
theorem Inv.call' {s':Shared} {ch:List Addr} (I:Inv X pins σ H s) (ho:s'.os=s.os) (u:Un (frs X.stack) ch H H' s.heap s'.heap) (hok:HOk X.prog X.w H' s'.heap) (hg:AllBare s'.gens)
  (hch:∀ b∈ch,(b∈X.ex\/X.s₀.heap.objs.size<=b)/\b≠X.env.locals/\(∀ x c,X.env.cells.lookup x=some c->c≠b)/\∀ p∈X.pn++pins,p.1≠b):Inv X pins σ H' s':=by
 obtain ⟨h',g',d',t',o'⟩:=s'
 have e:o'=s.os:=ho
 subst e
 exact I.call (g':=g') (t':=t') (d':=d') u hok hg hch
end
abbrev XK:=Value->Option Addr->Hp->Prop
abbrev St:=List (Option V)
abbrev VK:=V->Hp->Prop
abbrev TE:=St->Hp->VK->Prop
abbrev TT:=St->Hp->(Bool->Hp->Prop)->Prop
abbrev TA:=St->Hp->(List V->Hp->Prop)->Prop
structure Ends where
 nx:St->Hp->Prop
 rt:VK
 bk:St->Hp->Prop:=fun _ _=>False
 ct:St->Hp->Prop:=fun _ _=>False
abbrev TS:=Ends->St->Hp->Prop
def EP (X:Cx) (pins:List (Addr×Obj)) (σ:St) (Q:VK) (u:Value) (s':Shared):Prop:=∃ v H',Inv X pins σ H' s'/\RelV v u/\Q v H'
def TP (X:Cx) (pins:List (Addr×Obj)) (σ:St) (Q:Bool->Hp->Prop) (b:Bool) (s':Shared):Prop:=∃ H',Inv X pins σ H' s'/\Q b H'
def AP (X:Cx) (pins:List (Addr×Obj)) (σ:St) (Q:List V->Hp->Prop) (us:List Value) (s':Shared):Prop:=∃ vs H',Inv X pins σ H' s'/\Vals vs us/\Q vs H'
def SP (X:Cx) (pins:List (Addr×Obj)) (D:Ends) (f:Flow) (s':Shared):Prop:=
 match f with
 | .next=>∃ σ' H',Inv X pins σ' H' s'/\D.nx σ' H'
 | .brk=>∃ σ' H',Inv X pins σ' H' s'/\D.bk σ' H'
 | .cont=>∃ σ' H',Inv X pins σ' H' s'/\D.ct σ' H'
 | .ret u=>∃ v σ' H',Inv X pins σ' H' s'/\RelV v u/\D.rt v H'
def PE (X:Cx) (e:Expr) (t:TE):Prop:=
 ∀ (pins:List (Addr×Obj)) (s:Shared) (σ:St) (H:Hp) (Q:VK),Inv X pins σ H s->t σ H Q->wpAny (model X.prog X.w) X.A (eval e X.env) (EP X pins σ Q) X.xe s
def PT (X:Cx) (e:Expr) (t:TT):Prop:=
 ∀ (pins:List (Addr×Obj)) (s:Shared) (σ:St) (H:Hp) (Q:Bool->Hp->Prop),Inv X pins σ H s->t σ H Q->wpAny (model X.prog X.w) X.A (isTrue e X.env (eval e X.env)) (TP X pins σ Q) X.xe s
def PW (X:Cx) (e:Expr) (t:TT):Prop:=
 ∀ (whole:Sem Value) (pins:List (Addr×Obj)) (s:Shared) (σ:St) (H:Hp) (Q:Bool->Hp->Prop),Inv X pins σ H s->t σ H Q->wpAny (model X.prog X.w) X.A (isTrue e X.env whole) (TP X pins σ Q) X.xe s
theorem PW.pt {X:Cx} {e:Expr} {t:TT} (h:PW X e t):PT X e t:=h _
def PA (X:Cx) (es:List Expr) (t:TA):Prop:=
 ∀ (pos:Pos) (pins:List (Addr×Obj)) (s:Shared) (σ:St) (H:Hp) (Q:List V->Hp->Prop),Inv X pins σ H s->t σ H Q->wpAny (model X.prog X.w) X.A (spliced (backTo pos (starEach es X.env))) (AP X pins σ Q) X.xe s
def PS (X:Cx) (st:Stmt) (t:TS):Prop:=
 ∀ (pins:List (Addr×Obj)) (s:Shared) (σ:St) (H:Hp) (D:Ends),Inv X pins σ H s->t D σ H->wpAny (model X.prog X.w) X.A (exec st X.env) (SP X pins D) X.xe s
def PSs (X:Cx) (st:List Stmt) (t:TS):Prop:=
 ∀ (pins:List (Addr×Obj)) (s:Shared) (σ:St) (H:Hp) (D:Ends),Inv X pins σ H s->t D σ H->wpAny (model X.prog X.w) X.A (execs st X.env) (SP X pins D) X.xe s
theorem thn {α:Type} {t:Sem α} {Q Q':α->Shared->Prop} {M:Model} {A:Around} {E:Value->Shared->Prop} {s:Shared} (h:wpAny M A t Q E s) (hQ:∀ a s,Q a s->Q' a s):wpAny M A t Q' E s:=wpAny_mono h hQ fun _ _ x=>x
end L2
namespace L2
open PySem PySem.Spec PyProof.Rows
section
variable {X:Cx}
def tVar (i:Nat):TE:=fun σ H Q=>∃ v,σ[i]?=some (some v)/\Q v H
def tC (v:V):TE:=fun _ H Q=>Q v H
theorem xvc {i:Nat} {x:Str} {pos:Pos} (hN:X.N[i]?=some x) (hv:Vis X.env.scope x) (hd:(x == ("__debug__":Str))=false:=by decide) (hcd:(x == ("__classdict__":Str))=false:=by decide):PE X (.Name x pos) (tVar i):=by
 intro pins s σ H Q I h
 obtain ⟨v,e,h⟩:=h
 obtain ⟨m,hn,hl⟩:=I.loc
 obtain ⟨u,r,l⟩:=hl i x v hN e hv
 have fin:EP X pins σ Q u s:=⟨v,H,I,r,h⟩
 rcases l with ⟨hk,hm⟩ | ⟨hk,c,hc,hcell⟩
 ·exact wpAny_Name (wpAny_loadName_local I.ok.kind hk hn hm fin) hd
 ·rcases hk with hk | hk
  ·exact wpAny_Name (wpAny_loadName_cell I.ok.kind hk hc hcell fin) hd
  ·exact wpAny_Name (wpAny_loadName_free I.ok.kind hk hc hcell fin hcd) hd
theorem pI {i j pos}:PE X (.Constant (.int i) j pos) (tC (.int i)):=fun _ _ _ H _ I h=>wpAny_Constant_int ⟨.int i,H,I.tok _,⟨_,rfl⟩,h⟩
theorem xnu {b j pos}:PE X (.Constant (.bool b) j pos) (tC (.bl b)):=fun _ _ _ H _ I h=>Constant_bool ⟨.bl b,H,I,rfl,h⟩
theorem xee {j pos}:PE X (.Constant .none j pos) (tC .non):=fun _ _ _ H _ I h=>Constant_none ⟨.non,H,I,rfl,h⟩
theorem pS {x j pos}:PE X (.Constant (.str x) j pos) (tC (.str x)):=fun _ _ _ H _ I h=>Calls.Constant_str ⟨.str x,H,I.tok _,⟨_,rfl⟩,h⟩
def Gl (X:Cx) (x:Str):Prop:=X.env.kindOf x=some .globalImplicit
theorem xp4 {E:Value->Shared->Prop} {pins:List (Addr×Obj)} {s:Shared} {σ:St} {H:Hp} {x:Str} {u:Value} {pos:Pos} {Q:Value->Shared->Prop} (I:Inv X pins σ H s) (hg:Gl X x) (hm:X.mg x=some u) (h:Q u s)
  (hd:(x == ("__debug__":Str))=false:=by decide):wpAny (model X.prog X.w) X.A (eval (.Name x pos) X.env) Q E s:=
 Calls.Name_function_global I.ok.kind hg (Calls.loadGlobal_global (by rw [I.ok.glob]; exact I.mod.glob.keeps I.bk) hm h) hd
theorem xfj {E:Value->Shared->Prop} {pins:List (Addr×Obj)} {s:Shared} {σ:St} {H:Hp} {x:Str} {u:Value} {pos:Pos} {Q:Value->Shared->Prop} (I:Inv X pins σ H s) (hg:Gl X x) (hm:X.mg x=none) (hv:bootBuiltins x=some u) (h:Q u s)
  (hn:x≠"__name__":=by decide) (hd:(x == ("__debug__":Str))=false:=by decide):wpAny (model X.prog X.w) X.A (eval (.Name x pos) X.env) Q E s:=by
 obtain ⟨mb,h1,h2⟩:=I.mod.blt
 exact Calls.Name_function_global I.ok.kind hg (Calls.loadGlobal_builtin (by rw [I.ok.glob]; exact I.mod.glob.keeps I.bk) hm (by rw [I.ok.blt]; exact h1.keeps I.bk) ((h2 x hn).trans hv) h) hd
theorem xto {x:Str} {v:V} {u:Value} {pos:Pos} (hg:Gl X x) (hm:X.mg x=some u) (r:RelV v u) (hd:(x == ("__debug__":Str))=false:=by decide):PE X (.Name x pos) (tC v):=
 fun _ _ _ H _ I h=>xp4 I hg hm ⟨v,H,I,r,h⟩ hd
variable {a b:Expr} {ta tb:TE} {pos:Pos}
def PC (X:Cx) (op:CmpOp) (a b:Expr) (t:TE):Prop:=
 ∀ (pins:List (Addr×Obj)) (s:Shared) (σ:St) (H:Hp) (Q:VK),Inv X pins σ H s->t σ H Q->
  wpAny (model X.prog X.w) X.A (eval a X.env) (fun v s₁=>wpAny (model X.prog X.w) X.A (eval b X.env) (fun u s₂=>wpAny (model X.prog X.w) X.A (compareOp op v u) (EP X pins σ Q) X.xe s₂) X.xe s₁) X.xe s
def tB (t:TE):TT:=fun σ H Q=>t σ H fun x H1=>∃ c,x=.bl c/\Q c H1
theorem xmr {op:CmpOp} {t:TE} (h:PC X op a b t) (h1:behindInMarks op b=false:=by first | exact nobehind _ (by decide) (by decide) | rfl):PT X (.Compare a [op] [b] pos) (tB t):=by
 intro pins s σ H Q I hw
 refine wpAny_isTrue_Compare1 (thn (h pins s σ H _ I hw) fun v s1 h1=>thn h1 fun u s2 h2=>thn h2 fun c s3 ⟨x,H1,I1,r1,q1⟩=>?_) h1
 obtain ⟨d,rfl,q⟩:=q1
 cases r1
 exact wpAny_truthy_bool ⟨H1,I1,q⟩
theorem xu9 {e:Expr} {t:TE} (h:PE X e t) (he:∀ whole,isTrue e X.env whole=(do let v <- whole; standAt e.pos; holding [v] (truthy v)):=by intro _; rfl):PT X e (tB t):=by
 intro pins s σ H Q I hw
 refine isTrue_plain (thn (h pins s σ H _ I hw) fun v s1 ⟨x,H1,I1,r1,q1⟩=>?_) (he _)
 obtain ⟨d,rfl,q⟩:=q1
 cases r1
 exact wpAny_truthy_bool ⟨H1,I1,q⟩
variable {tA tB':TT} {rest:List Expr}
def tAnd (t u:TT):TT:=fun σ H Q=>t σ H fun c H1=>if c=true then u σ H1 Q else Q false H1
def tOr (t u:TT):TT:=fun σ H Q=>t σ H fun c H1=>if c=true then Q true H1 else u σ H1 Q
def tNot (t:TT):TT:=fun σ H Q=>t σ H fun c H1=>Q (!c) H1
theorem xc8 (ha:PT X a tA):PW X (.BoolOp .And [a] pos) tA:=by
 intro wh pins s σ H Q I h
 refine isTrue_and (thn (ha pins s σ H Q I h) fun c s1 e=>?_)
 cases c with
 | true=>exact isTrue_and_nil e
 | false=>exact e
theorem xh5 (ha:PT X a tA):PW X (.BoolOp .Or [a] pos) tA:=by
 intro wh pins s σ H Q I h
 refine isTrue_or (thn (ha pins s σ H Q I h) fun c s1 e=>?_)
 cases c with
 | false=>exact isTrue_or_nil e
 | true=>exact e
theorem xd6 (ha:PT X a tA) (hb:PW X (.BoolOp .And (b :: rest) pos) tB'):PW X (.BoolOp .And (a :: b :: rest) pos) (tAnd tA tB'):=by
 intro wh pins s σ H Q I h
 refine isTrue_and (thn (ha pins s σ H _ I h) fun c s1 ⟨H1,I1,q1⟩=>?_)
 cases c with
 | true=>exact hb wh pins s1 σ H1 Q I1 q1
 | false=>exact ⟨H1,I1,q1⟩
theorem xli (ha:PT X a tA) (hb:PW X (.BoolOp .Or (b :: rest) pos) tB'):PW X (.BoolOp .Or (a :: b :: rest) pos) (tOr tA tB'):=by
 intro wh pins s σ H Q I h
 refine isTrue_or (thn (ha pins s σ H _ I h) fun c s1 ⟨H1,I1,q1⟩=>?_)
 cases c with
 | true=>exact ⟨H1,I1,q1⟩
 | false=>exact hb wh pins s1 σ H1 Q I1 q1
theorem xva (ha:PT X a tA):PT X (.UnaryOp .Not a pos) (tNot tA):=by
 intro pins s σ H Q I h
 exact isTrue_not (ha pins s σ H (fun c H1=>Q (!c) H1) I h)
def xwr (ta tb:TE):TE:=fun σ H Q=>ta σ H fun x H1=>∃ c,x=.bl c/\if c=true then tb σ H1 Q else Q (.bl false) H1
theorem xvd {op} {t:TE} (h:PE X a t):PE X (.BoolOp op [a] pos) t:=fun pins s σ H Q I hw=>BoolOp_one (h pins s σ H Q I hw)
theorem xve (ha:PE X a ta) (hb:PE X (.BoolOp .And (b :: rest) pos) tb):PE X (.BoolOp .And (a :: b :: rest) pos) (xwr ta tb):=by
 intro pins s σ H Q I h
 refine BoolOp_and (thn (ha pins s σ H _ I h) fun v s1 ⟨x,H1,I1,r1,q1⟩=>?_)
 obtain ⟨c,rfl,q1⟩:=q1
 cases r1
 refine wpAny_truthy_bool ?_
 cases c with
 | true=>exact hb pins s1 σ H1 Q I1 q1
 | false=>exact ⟨.bl false,H1,I1,rfl,q1⟩
def tIf (t:TT) (ta tb:TE):TE:=fun σ H Q=>t σ H fun c H1=>if c=true then ta σ H1 Q else tb σ H1 Q
theorem xiq {c:Expr} (hc:PT X c tA) (ha:PE X a ta) (hb:PE X b tb):PE X (.IfExp c a b pos) (tIf tA ta tb):=by
 intro pins s σ H Q I h
 refine wpAny_IfExp (thn (hc pins s σ H _ I h) fun d s1 ⟨H1,I1,q1⟩=>?_)
 cases d with
 | true=>exact ha pins s1 σ H1 Q I1 q1
 | false=>exact hb pins s1 σ H1 Q I1 q1
end
end L2
namespace L2
open PySem PySem.Spec PyProof.Rows
def SqL (K:PySem.W.Frag) (H:Hp) (a:Addr) (xs:List V):Prop:=
 Rd H a (.lst xs) ∨
  ∃ (o:Obj) (its:Array Value) (n:Nat),K.lookup a=some o/\o.cls=.type "list"/\o.dict=none/\o.data=.seq its n/\its.size<=sizeLine/\Vals xs its.toList
def SqT (K:PySem.W.Frag) (H:Hp) (a:Addr) (xs:List V):Prop:=
 Rd H a (.tup xs) ∨
  ∃ (o:Obj) (its:Array Value) (n:Nat),K.lookup a=some o/\o.cls=.type "tuple"/\o.data=.seq its n/\its.size<=sizeLine/\Vals xs its.toList
def absV:Value->Option V
 | .none=>some .non
 | .bool b=>some (.bl b)
 | .int i _=>some (.int i)
 | .str x _=>some (.str x)
 | .bytes b _=>some (.byt b)
 | .float b _=>some (.flt b)
 | .ref a=>some (.ref a)
 | .type n=>some (.ty n)
 | _=>none
theorem RelV.abs {x:V} {u:Value} (r:RelV x u):absV u=some x:=by
 cases x with
 | non=>cases r; rfl
 | bl _=>cases r; rfl
 | int _=>obtain ⟨t,rfl⟩:=r; rfl
 | str _=>obtain ⟨t,rfl⟩:=r; rfl
 | byt _=>obtain ⟨t,rfl⟩:=r; rfl
 | flt _=>obtain ⟨t,rfl⟩:=r; rfl
 | ref _=>cases r; rfl
 | ty _=>cases r; rfl
theorem RelV.inj {x y:V} {u:Value} (r:RelV x u) (q:RelV y u):x=y:=Option.some.inj (r.abs.symm.trans q.abs)
theorem Vals.inj:∀ {xs ys:List V} {us:List Value},Vals xs us->Vals ys us->xs=ys
 | _,_,_,.nil,.nil=>rfl
 | _,_,_,.cons r t,.cons r' t'=>by rw [r.inj r',Vals.inj t t']
section
variable {X:Cx} {pins:List (Addr×Obj)} {σ:St} {H:Hp} {s:Shared} {a:Addr} {xs ys:List V}
theorem SqL.of {K:PySem.W.Frag} (h:H a=some (.lst xs)):SqL K H a xs:=.inl (.inl h)
theorem SqT.of {K:PySem.W.Frag} (h:H a=some (.tup xs)):SqT K H a xs:=.inl (.inl h)
theorem Inv.list (I:Inv X pins σ H s) (h:SqL X.K H a xs):∃ its:List Value,Vals xs its/\PlainL s.heap a its.toArray/\xs.length<=sizeLine:=by
 rcases h with h | ⟨o,its,n,hk,hc,hd,hs,hz,r⟩
 ·obtain ⟨z,its,n,r,e⟩:=h.ok I.hok
  exact ⟨its,r,⟨_,n,e,rfl,rfl,rfl⟩,z⟩
 ·refine ⟨its.toList,r,⟨o,n,I.kIn a o hk,hc,hd,by simpa using hs⟩,?_⟩
  have e:=r.length
  simp only [Array.length_toList] at e
  omega
theorem Inv.tuple (I:Inv X pins σ H s) (h:SqT X.K H a xs):∃ its:List Value,Vals xs its/\IsTup s.heap a its.toArray/\xs.length<=sizeLine:=by
 rcases h with h | ⟨o,its,n,hk,hc,hs,hz,r⟩
 ·obtain ⟨z,its,r,o,e,c,n,d,_⟩:=h.ok I.hok
  exact ⟨its,r,⟨o,e,c,n,d⟩,z⟩
 ·refine ⟨its.toList,r,⟨o,I.kIn a o hk,hc,n,by simpa using hs⟩,?_⟩
  have e:=r.length
  simp only [Array.length_toList] at e
  omega
theorem Inv.list_inj (I:Inv X pins σ H s) (h:SqL X.K H a xs) (h':SqL X.K H a ys):xs=ys:=by
 obtain ⟨its,r,⟨o,n,e,_,_,d⟩,_⟩:=I.list h
 obtain ⟨its',r',⟨o',n',e',_,_,d'⟩,_⟩:=I.list h'
 rw [e] at e'; cases e'
 rw [d] at d'
 injection d' with d1 _
 have:its=its':=by simpa using congrArg Array.toList d1
 subst this
 exact r.inj r'
theorem Inv.tuple_inj (I:Inv X pins σ H s) (h:SqT X.K H a xs) (h':SqT X.K H a ys):xs=ys:=by
 obtain ⟨its,r,⟨o,e,_,n,d⟩,_⟩:=I.tuple h
 obtain ⟨its',r',⟨o',e',_,n',d'⟩,_⟩:=I.tuple h'
 rw [e] at e'; cases e'
 rw [d] at d'
 injection d' with d1 _
 have:its=its':=by simpa using congrArg Array.toList d1
 subst this
 exact r.inj r'
end
abbrev Cx.wish (X:Cx) (E:Value->Shared->Prop):Cx:={ X with xe:=E }
abbrev Cx.nox (X:Cx):Cx:=X.wish fun _ _=>False
theorem Cx.Ok.wish {X:Cx} (ok:X.Ok) (E:Value->Shared->Prop):(X.wish E).Ok:=
 ⟨ok.mod,ok.kind,ok.glob,ok.blt,ok.above,ok.inj,ok.has,ok.cab,ok.hd,ok.frames,ok.stk,ok.exf,ok.bs,ok.bsz,ok.noex,ok.exfs,ok.funs,ok.frf⟩
theorem Cx.Ok.unwish {X:Cx} {E:Value->Shared->Prop} (ok:(X.wish E).Ok):X.Ok:=
 ⟨ok.mod,ok.kind,ok.glob,ok.blt,ok.above,ok.inj,ok.has,ok.cab,ok.hd,ok.frames,ok.stk,ok.exf,ok.bs,ok.bsz,ok.noex,ok.exfs,ok.funs,ok.frf⟩
section
variable {X:Cx} {pins:List (Addr×Obj)} {σ:St} {H:Hp} {s:Shared} {E:Value->Shared->Prop}
theorem Inv.wish (I:Inv X pins σ H s) (E:Value->Shared->Prop):Inv (X.wish E) pins σ H s:=⟨I.ok.wish E,I.os,I.bare,I.base,I.loc,I.cell,I.free,I.freeC,I.pin,I.hok,I.len⟩
theorem Inv.unwish (I:Inv (X.wish E) pins σ H s):Inv X pins σ H s:=⟨I.ok.unwish,I.os,I.bare,I.base,I.loc,I.cell,I.free,I.freeC,I.pin,I.hok,I.len⟩
theorem SP.unwish {D:Ends} {f:Flow} {s':Shared} (h:SP (X.wish E) pins D f s'):SP X pins D f s':=by
 cases f with
 | next=>obtain ⟨σ',H',I,q⟩:=h; exact ⟨σ',H',I.unwish,q⟩
 | brk=>obtain ⟨σ',H',I,q⟩:=h; exact ⟨σ',H',I.unwish,q⟩
 | cont=>obtain ⟨σ',H',I,q⟩:=h; exact ⟨σ',H',I.unwish,q⟩
 | ret u=>obtain ⟨v,σ',H',I,r,q⟩:=h; exact ⟨v,σ',H',I.unwish,r,q⟩
theorem PSs.nox {st:List Stmt} {t:TS} (h:PSs X.nox st t):PSs X st t:=fun pins s σ H D I hw=>
 wpAny_mono (h pins s σ H D (I.wish _) hw) (fun _ _ q=>q.unwish) fun _ _ z=>False.elim z
end
section
variable {X:Cx} {st:Stmt} {rest:List Stmt} {t u:TS} {e:Expr} {te:TE} {pos:Pos}
def xwm:TS:=fun D σ H=>D.nx σ H
def tSeq (t u:TS):TS:=fun D σ H=>t { D with nx:=u D } σ H
theorem pQ:PSs X [] xwm:=fun _ _ σ H _ I h=>wpAny_execs_nil ⟨σ,H,I,h⟩
theorem zpn (h1:PS X st t) (h2:PSs X rest u):PSs X (st :: rest) (tSeq t u):=by
 intro pins s σ H D I h
 refine wpAny_execs_cons (thn (h1 pins s σ H { D with nx:=u D } I h) fun f s1 q=>?_)
 cases f with
 | next=>
  obtain ⟨σ',H',I',q⟩:=q
  exact h2 pins s1 σ' H' D I' q
 | ret v=>exact q
 | brk=>exact q
 | cont=>exact q
theorem po (h1:PS X st t):PSs X [st] t:=by
 intro pins s σ H D I h
 refine wpAny_execs_cons (thn (h1 pins s σ H D I h) fun f s1 q=>?_)
 cases f with
 | next=>exact wpAny_execs_nil q
 | ret v=>exact q
 | brk=>exact q
 | cont=>exact q
theorem Inv.quiet {pins:List (Addr×Obj)} {σ:St} {H:Hp} {s:Shared} (I:Inv X pins σ H s):interactive X.env=false:=by simp [interactive,I.ok.kind]
def xwn (te:TE):TS:=fun D σ H=>te σ H fun _ H1=>D.nx σ H1
theorem xck (he:PE X e te) (hs:swapsWith e none pos.line X.env=pure false:=by rfl):PS X (.Expr e pos) (xwn te):=by
 intro pins s σ H D I h
 exact wpAny_Expr_any (thn (he pins s σ H _ I h) fun v s1 ⟨x,H1,I1,r1,q1⟩=>⟨σ,H1,I1,q1⟩) I.quiet hs
def tRet (te:TE):TS:=fun D σ H=>te σ H D.rt
theorem xae (he:PE X e te):PS X (.Return (some e) pos) (tRet te):=by
 intro pins s σ H D I h
 exact wpAny_Return_some (thn (he pins s σ H _ I h) fun v s1 ⟨x,H1,I1,r1,q1⟩=>⟨x,σ,H1,I1,r1,q1⟩)
def tIfS (c:TT) (t u:TS):TS:=fun D σ H=>c σ H fun b H1=>if b=true then t D σ H1 else u D σ H1
theorem xa1 {c:Expr} {a b:List Stmt} {tc:TT} (hc:PT X c tc) (ha:PSs X a t) (hb:PSs X b u):PS X (.If c a b pos) (tIfS tc t u):=by
 intro pins s σ H D I h
 refine wpAny_If (thn (hc pins s σ H _ I h) fun d s1 ⟨H1,I1,q1⟩=>?_)
 cases d with
 | true=>exact ha pins s1 σ H1 D I1 q1
 | false=>exact hb pins s1 σ H1 D I1 q1
def xus:TS:=fun _ _ _=>False
theorem xrf:PS X st xus:=fun _ _ _ _ _ _ h=>h.elim
end
abbrev TG:=V->St->Hp->(St->Hp->Prop)->Prop
abbrev TGs:=List V->St->Hp->(St->Hp->Prop)->Prop
def PG (X:Cx) (target:Expr) (t:TG):Prop:=
 ∀ (pins:List (Addr×Obj)) (s:Shared) (σ:St) (H:Hp) (v:V) (u:Value) (Q:St->Hp->Prop),Inv X pins σ H s->RelV v u->t v σ H Q->
  wpAny (model X.prog X.w) X.A (assign target X.env u) (fun _ s'=>∃ σ' H',Inv X pins σ' H' s'/\Q σ' H') X.xe s
def PGs (X:Cx) (ts:List Expr) (t:TGs):Prop:=
 ∀ (pins:List (Addr×Obj)) (s:Shared) (σ:St) (H:Hp) (vs:List V) (us:List Value) (Q:St->Hp->Prop),Inv X pins σ H s->Vals vs us->t vs σ H Q->
  wpAny (model X.prog X.w) X.A (assignInOrder ((assignEach ts X.env).map (·.2)) us) (fun _ s'=>∃ σ' H',Inv X pins σ' H' s'/\Q σ' H') X.xe s
abbrev TSet:=V->V->V->Hp->(Hp->Prop)->Prop
def PSet (X:Cx) (t:TSet):Prop:=
 ∀ (pins:List (Addr×Obj)) (s:Shared) (σ:St) (H:Hp) (o i v:V) (ov iv u:Value) (Q:Hp->Prop),Inv X pins σ H s->RelV o ov->RelV i iv->RelV v u->t o i v H Q->
  wpAny (model X.prog X.w) X.A (setItem ov iv u) (fun _ s'=>∃ H',Inv X pins σ H' s'/\Q H') X.xe s
section
variable {X:Cx} {pos:Pos}
def xkn (i:Nat):TG:=fun v σ H Q=>Q (σ.set i (some v)) H
theorem xab {i:Nat} {x:Str} (hN:X.N.Nodup) (hi:X.N[i]?=some x) (hx:Loc X.env.scope x) (hf:X.fn x=true\/X.env.scope.names.lookup x=some .local:=by first | exact .inl rfl | exact .inr rfl | assumption):PG X (.Name x pos) (xkn i):=by
 intro pins s σ H v u Q I r h
 exact wpAny_assign_Name (xmm I hN hi hx r (fun s' I'=>⟨_,H,I',h⟩) hf)
def gNil:TGs:=fun vs σ H Q=>vs=[]/\Q σ H
def xxf (t:TG) (u:TGs):TGs:=fun vs σ H Q=>∃ v r,vs=v :: r/\t v σ H fun σ' H'=>u r σ' H' Q
theorem xa0:PGs X [] gNil:=by
 intro pins s σ H vs us Q I r h
 obtain ⟨e,h⟩:=h
 subst e
 cases r
 exact assignInOrder_nil ⟨σ,H,I,h⟩
theorem xac {e:Expr} {es:List Expr} {t:TG} {u:TGs} (h1:PG X e t) (h2:PGs X es u)
  (hs:(assignEach (e :: es) X.env).map (·.2)=assign e X.env :: (assignEach es X.env).map (·.2):=by rfl):PGs X (e :: es) (xxf t u):=by
 intro pins s σ H vs us Q I r h
 obtain ⟨v,vr,e1,h⟩:=h
 subst e1
 cases r with
 | cons r rr=>
  rw [hs]
  refine assignInOrder_cons (thn (h1 pins s σ H _ _ _ I r h) fun _ s1 ⟨σ1,H1,I1,q1⟩=>?_)
  exact h2 pins s1 σ1 H1 _ _ Q I1 rr q1
def gTup (K:PySem.W.Frag) (n:Nat) (t:TGs):TG:=fun v σ H Q=>∃ a xs,v=.ref a/\SqT K H a xs/\xs.length=n/\t xs σ H Q
theorem xbr {es:List Expr} {k:Nat} {t:TGs} {n:Nat} (hc:X.calm=true) (h:PGs X es t)
  (hn:(assignEach es X.env).length=n:=by rfl) (hst:(assignEach es X.env).findIdx? (·.1)=none:=by rfl):PG X (.Tuple es k pos) (gTup X.K n t):=by
 intro pins s σ H v u Q I r hw
 obtain ⟨a,xs,e1,hq,hl,hw⟩:=hw
 subst e1
 cases r
 obtain ⟨its,rv,ht,hz⟩:=I.tuple hq
 refine assign_Tuple_tuple (I.ok.hd hc) ht (by simp [hn,<- hl,rv.length]) hst fun h' hx=>?_
 have I1:Inv X pins σ H { s with heap:=h' }:=I.kept (t':=s.toks) fun b o e=>hx b o (Nat.ne_of_lt (Heap.lt_size e)) e
 exact h pins _ σ H xs _ Q I1 (by simpa using rv) hw
def gSub (to ti:TE) (t:TSet):TG:=fun v σ H Q=>to σ H fun o H1=>ti σ H1 fun i H2=>t o i v H2 fun H3=>Q σ H3
theorem xms {o i:Expr} {to ti:TE} {t:TSet} (ho:PE X o to) (hi:PE X i ti) (hs:PSet X t)
  (ha:∀ v,assign (.Subscript o i pos) X.env v=(do
   let ov <- holding [v] (eval o X.env)
   let iv <- holding [v,ov] (eval i X.env)
   standAt pos
   holding [v,ov,iv] (setItem ov iv v)
   release [v,ov,iv] []):=by intro _; rfl):PG X (.Subscript o i pos) (gSub to ti t):=by
 intro pins s σ H v u Q I r h
 rw [ha]
 refine wpAny_bind (wpAny_holding (thn (ho pins s σ H _ I h) fun ov s1 ⟨x,H1,I1,r1,q1⟩=>?_))
 refine wpAny_bind (wpAny_holding (thn (hi pins s1 σ H1 _ I1 q1) fun iv s2 ⟨y,H2,I2,r2,q2⟩=>?_))
 refine wpAny_bind (wpAny_standAt (wpAny_bind (wpAny_holding (thn (hs pins s2 σ H2 x y v ov iv u _ I2 r1 r2 r q2) fun _ s3 ⟨H3,I3,q3⟩=>?_))))
 exact wpAny_release ⟨σ,H3,I3,q3⟩
def tAsg (te:TE) (g:TG):TS:=fun D σ H=>te σ H fun x H1=>g x σ H1 D.nx
theorem xcz {tg e:Expr} {te:TE} {g:TG} (he:PE X e te) (hg:PG X tg g) (hs:swapsWithSole [tg] e pos.line X.env=pure false:=by rfl) (hw:swappedStores [tg] e X.env=pure none:=by rfl)
  (h1:(assignEach [tg] X.env).map (·.2)=[assign tg X.env]:=by rfl):PS X (.Assign [tg] e pos) (tAsg te g):=by
 intro pins s σ H D I h
 refine wpAny_Assign_stores (thn (he pins s σ H _ I h) fun v s1 ⟨x,H1,I1,r1,q1⟩=>?_) hs hw
 rw [h1]
 exact thn (hg pins s1 σ H1 x v _ I1 r1 q1) fun _ s2 q=>q
theorem xal {i:Nat} {x:Str} {e:Expr} {te:TE} {pos':Pos} (hN:X.N.Nodup) (hi:X.N[i]?=some x) (hx:Loc X.env.scope x) (he:PE X e te) (hs:swapsWith e (some (.Name x pos')) pos.line X.env=pure false:=by rfl) (hf:X.fn x=true\/X.env.scope.names.lookup x=some .local:=by first | exact .inl rfl | exact .inr rfl | assumption) :
  PS X (.Assign [.Name x pos'] e pos) (tAsg te (xkn i)):=by
 intro pins s σ H D I h
 refine wpAny_Assign_Name (thn (he pins s σ H _ I h) fun v s1 ⟨y,H1,I1,r1,q1⟩=>?_) hs
 exact xmm I1 hN hi hx r1 (fun s2 I2=>⟨_,H1,I2,q1⟩) hf
end
structure It where
 go:Nat->Hp->Prop
 yld:Nat->Hp->V->Hp->Prop
 stop:Nat->Hp->Prop
def FpOk (X:Cx) (pins:List (Addr×Obj)) (H:Hp) (b:Addr):Prop:=
 H b=none/\b≠X.env.locals/\b ∉ X.fs/\(b∈X.ex\/X.s₀.heap.objs.size<=b)/\(∀ x c,X.env.cells.lookup x=some c->c≠b)/\∀ p∈X.pn++pins,p.1≠b
theorem Inv.fpOk {X:Cx} {pins:List (Addr×Obj)} {σ:St} {H H':Hp} {s:Shared} {b:Addr} (I:Inv X pins σ H s) (hb:s.heap.objs.size<=b) (hn:H' b=none):FpOk X pins H' b:=by
 refine ⟨hn,Nat.ne_of_gt (Nat.lt_of_lt_of_le I.lt hb),I.nofs hb,.inr (Nat.le_trans I.sz hb),fun x c e z=>?_,fun p hp z=>?_⟩
 ·obtain ⟨v,q⟩:=I.cell x c e
  exact absurd (Nat.lt_of_lt_of_le q.lt (by rw [z]; exact hb)) (Nat.lt_irrefl _)
 ·exact absurd (Nat.lt_of_lt_of_le (Heap.lt_size (I.pin p hp).1) (by rw [z]; exact hb)) (Nat.lt_irrefl _)
structure Turn (P:Program) (w:World) (K:PySem.W.Frag) (tg:Expr) (J:It) (fp:List Addr) (it:Addr) (tn:Nat->Heap->Prop):Prop where
 mem:it∈fp
 obj:∀ i h,tn i h->∀ b∈fp,∃ o,h.get? b=some o/\∀ v,o.data≠.cell v
 keep:∀ i h h',tn i h->(∀ b∈fp,∀ o,h.get? b=some o->h'.get? b=some o)->tn i h'
 item:∀ (X:Cx),X.prog=P->X.w=w->X.K=K->X.calm=true->∀ (i:Nat) (pins:List (Addr×Obj)) (s:Shared) (σ:St) (H:Hp) (E:Value->Shared->Prop),Inv X pins σ H s->(∀ b∈fp,FpOk X pins H b)->tn i s.heap->J.go i H->
  wpAny (model P w) X.A (pyNext (.ref it)) (fun r s1=>∃ u,r=some u ∧
   wpAny (model P w) X.A (letOwnedTupleGo tg (.ref it) u) (fun _ s2=>∃ x H',Inv X pins σ H' s2/\RelV x u/\J.yld i H x H'/\tn (i + 1) s2.heap/\∀ b∈fp,H' b=none) E s1) E s
 done:∀ (X:Cx),X.prog=P->X.w=w->X.K=K->X.calm=true->∀ (i:Nat) (pins:List (Addr×Obj)) (s:Shared) (σ:St) (H:Hp) (E:Value->Shared->Prop),Inv X pins σ H s->(∀ b∈fp,FpOk X pins H b)->tn i s.heap->J.stop i H->
  wpAny (model P w) X.A (pyNext (.ref it)) (fun r s1=>r=none/\Inv X pins σ H s1) E s
 self:∀ (A:Around) (i:Nat) (s:Shared) (Q:Value->Shared->Prop) (E:Value->Shared->Prop),tn i s.heap->Q (.ref it) s->wpAny (model P w) A (pyIter (.ref it)) Q E s
abbrev TI:=St->Hp->(It->Hp->Prop)->Prop
def PIE (X:Cx) (pins:List (Addr×Obj)) (σ:St) (tg:Expr) (R:It->Hp->Prop) (itv:Value) (s2:Shared):Prop:=
 ∃ (it:Addr) (fp:List Addr) (tn:Nat->Heap->Prop) (J:It) (H':Hp),itv=.ref it/\Inv X pins σ H' s2/\Turn X.prog X.w X.K tg J fp it tn/\tn 0 s2.heap/\(∀ b∈fp,FpOk X pins H' b)/\R J H'
def PI (X:Cx) (tg iter:Expr) (wi:TI):Prop:=
 ∀ (pins:List (Addr×Obj)) (s:Shared) (σ:St) (H:Hp) (R:It->Hp->Prop),Inv X pins σ H s->wi σ H R->
  wpAny (model X.prog X.w) X.A (eval iter X.env) (fun v s1=>wpAny (model X.prog X.w) X.A (pyIter v) (PIE X pins σ tg R) X.xe s1) X.xe s
theorem xub {M:Model} {A:Around} {E:Value->Shared->Prop} {s:Shared} {tg:Expr} {it:Addr} {u:Value} {o:Obj} {n:String} {vs:Array Value} {Q:Unit->Shared->Prop} (ho:s.heap.get? it=some o) (hc:o.cls=.type n) (hd:o.data=.fields vs)
    (hn:["enumerate","zip","dict_itemiterator","dict_reverseitemiterator","odict_iterator","itertools.zip_longest","itertools.pairwise"].contains n=false) (hQ:Q () s):wpAny M A (letOwnedTupleGo tg (.ref it) u) Q E s:=by
  unfold letOwnedTupleGo
  cases tg <;> first
    | exact wpAny_pure hQ
    | (cases u <;> first
        | exact wpAny_pure hQ
        | (refine wpAny_bind (wpAny_load ho ?_)
           rw [hc,hd]
           show wpAny M A (if (["enumerate","zip","dict_itemiterator","dict_reverseitemiterator","odict_iterator","itertools.zip_longest","itertools.pairwise"].contains n && vs[0]? == some (rawInt _))=true then _ else _) Q E s
           rw [if_neg (by intro h; rw [hn,Bool.false_and] at h; cases h)]
           exact wpAny_pure hQ))
def Itl (K:PySem.W.Frag) (a:Addr):It:=
 ⟨fun i H=>∃ xs x,SqL K H a xs/\xs[i]?=some x,fun i H x H'=>H'=H/\∀ xs,SqL K H a xs->xs[i]?=some x,fun i H=>∃ xs,SqL K H a xs/\xs.length<=i⟩
def Itt (K:PySem.W.Frag) (a:Addr):It:=
 ⟨fun i H=>∃ xs x,SqT K H a xs/\xs[i]?=some x,fun i H x H'=>H'=H/\∀ xs,SqT K H a xs->xs[i]?=some x,fun i H=>∃ xs,SqT K H a xs/\xs.length<=i⟩
def Itr (lo:Int) (n:Nat):It:=⟨fun i _=>i < n,fun i H x H'=>H'=H/\x=.int (lo + i),fun i _=>n<=i⟩
theorem xoh {P:Program} {w:World} {K:PySem.W.Frag} {tg:Expr} (a it:Addr):Turn P w K tg (Itl K a) [it] it (fun i h=>h.IsListIter it a i) where
 mem:=by simp
 obj:=fun i h st b hb=>by
  have e:b=it:=by simpa using hb
  subst e
  obtain ⟨o,e,c,d⟩:=st
  exact ⟨o,e,fun v z=>by rw [d] at z; cases z⟩
 keep:=fun i h h' st k=>st.at fun o e=>k it (by simp) o e
 item:=by
  intro X hP hw hK hc i pins s σ H E I hf st hg
  subst hP hw hK
  obtain ⟨xs,x,hq,hx⟩:=hg
  obtain ⟨its,rv,p,hz⟩:=I.list hq
  obtain ⟨u,hu,ru⟩:=rv.get hx
  obtain ⟨f0,f1,f2,f3,f4,f5⟩:=hf it (by simp)
  refine wpAny_pyNext_list_item st p.isList (x:=u) (by simpa using hu) fun h' st' sb=>?_
  have I1:Inv X pins σ H { s with heap:=h' }:=I.turned (t':=s.toks) (fun b o hb e=>(sb.2 b hb).trans e) f0 f1 f3 f4 f5
  obtain ⟨o,e,c,d⟩:=id st'
  exact ⟨u,rfl,xub (s:={ s with heap:=h' }) e c d (by decide) ⟨x,H,I1,ru,⟨rfl,fun ys hy=>by rw [I.list_inj hy hq]; exact hx⟩,st',fun b hb=>(hf b hb).1⟩⟩
 done:=by
  intro X hP hw hK hc i pins s σ H E I hf st hg
  subst hP hw hK
  obtain ⟨xs,hq,hx⟩:=hg
  obtain ⟨its,rv,p,hz⟩:=I.list hq
  obtain ⟨f0,f1,f2,f3,f4,f5⟩:=hf it (by simp)
  have hl:=rv.length
  exact wpAny_pyNext_list_end (I.ok.hd hc) st p.isList (by simp; omega) fun h' eb=>⟨rfl,I.turned (t':=s.toks) (fun b o hb e=>eb b o hb e) f0 f1 f3 f4 f5⟩
 self:=fun _ _ _ _ _ st h=>wpAny_pyIter_listiter st h
theorem xnm {P:Program} {w:World} {K:PySem.W.Frag} {tg:Expr} (a it:Addr):Turn P w K tg (Itt K a) [it] it (fun i h=>h.IsTupleIter it a i) where
 mem:=by simp
 obj:=fun i h st b hb=>by
  have e:b=it:=by simpa using hb
  subst e
  obtain ⟨o,e,c,d⟩:=st
  exact ⟨o,e,fun v z=>by rw [d] at z; cases z⟩
 keep:=fun i h h' st k=>st.at fun o e=>k it (by simp) o e
 item:=by
  intro X hP hw hK hc i pins s σ H E I hf st hg
  subst hP hw hK
  obtain ⟨xs,x,hq,hx⟩:=hg
  obtain ⟨its,rv,p,hz⟩:=I.tuple hq
  obtain ⟨u,hu,ru⟩:=rv.get hx
  obtain ⟨f0,f1,f2,f3,f4,f5⟩:=hf it (by simp)
  refine wpAny_pyNext_tuple_item st (show s.heap.IsTuple a its.toArray from p) (x:=u) (by simpa using hu) fun h' st' sb=>?_
  have I1:Inv X pins σ H { s with heap:=h' }:=I.turned (t':=s.toks) (fun b o hb e=>(sb.2 b hb).trans e) f0 f1 f3 f4 f5
  obtain ⟨o,e,c,d⟩:=id st'
  exact ⟨u,rfl,xub (s:={ s with heap:=h' }) e c d (by decide) ⟨x,H,I1,ru,⟨rfl,fun ys hy=>by rw [I.tuple_inj hy hq]; exact hx⟩,st',fun b hb=>(hf b hb).1⟩⟩
 done:=by
  intro X hP hw hK hc i pins s σ H E I hf st hg
  subst hP hw hK
  obtain ⟨xs,hq,hx⟩:=hg
  obtain ⟨its,rv,p,hz⟩:=I.tuple hq
  obtain ⟨f0,f1,f2,f3,f4,f5⟩:=hf it (by simp)
  have hl:=rv.length
  exact wpAny_pyNext_tuple_end (I.ok.hd hc) st (show s.heap.IsTuple a its.toArray from p) (by simp; omega) fun h' eb=>⟨rfl,I.turned (t':=s.toks) (fun b o hb e=>eb b o hb e) f0 f1 f3 f4 f5⟩
 self:=fun _ _ _ _ _ st h=>wpAny_pyIter_tupleiter st h
theorem xnn {P:Program} {w:World} {K:PySem.W.Frag} {tg:Expr} (it:Addr) (lo:Int) (n:Nat):Turn P w K tg (Itr lo n) [it] it (fun i h=>IsRangeIter h it (lo + (i:Nat) * 1) ((n:Int) - (i:Nat)) 1) where
 mem:=by simp
 obj:=fun i h st b hb=>by
  have e:b=it:=by simpa using hb
  subst e
  exact ⟨_,st,fun v z=>by
   have z':Data.fields _=Data.cell v:=z
   cases z'⟩
 keep:=fun i h h' st k=>k it (by simp) _ st
 item:=by
  intro X hP hw hK hc i pins s σ H E I hf st hg
  subst hP hw hK
  obtain ⟨f0,f1,f2,f3,f4,f5⟩:=hf it (by simp)
  have W:=Walks.range (prog:=X.prog) (w:=X.w) (I.ok.hd hc) it lo 1 n
  refine W.item i s _ _ hg st fun v h' tk hv st' kk=>?_
  obtain ⟨t,rfl⟩:=hv
  have I1:Inv X pins σ H { s with heap:=h',toks:=tk }:=I.turned (fun b o hb e=>kk b o (by simpa using hb) e) f0 f1 f3 f4 f5
  refine ⟨_,rfl,xub (s:={ s with heap:=h',toks:=tk }) (n:="range_iterator") st' rfl rfl (by decide) ⟨.int (lo + i),H,I1,⟨t,?_⟩,⟨rfl,rfl⟩,st',fun b hb=>(hf b hb).1⟩⟩
  rw [Int.mul_one]
 done:=by
  intro X hP hw hK hc i pins s σ H E I hf st hg
  subst hP hw hK
  obtain ⟨f0,f1,f2,f3,f4,f5⟩:=hf it (by simp)
  exact wpAny_pyNext_range_end (I.ok.hd hc) st (by have:n<=i:=hg; omega) fun h' eb=>⟨rfl,I.turned (t':=s.toks) (fun b o hb e=>eb b o hb e) f0 f1 f3 f4 f5⟩
 self:=fun _ _ _ _ _ st h=>wpAny_pyIter_rangeiter st h
end L2
namespace L2
open PySem PySem.Spec PyProof.Rows
section
variable {X:Cx} {tg:Expr}
def xv0 (K:PySem.W.Frag) (tl:TE):TI:=fun σ H R=>tl σ H fun x H1=>∃ a,x=.ref a/\(∃ xs,SqL K H1 a xs)/\R (Itl K a) H1
def iTup (K:PySem.W.Frag) (tl:TE):TI:=fun σ H R=>tl σ H fun x H1=>∃ a,x=.ref a/\(∃ xs,SqT K H1 a xs)/\R (Itt K a) H1
theorem xdk {l:Expr} {tl:TE} (hl:PE X l tl):PI X tg l (xv0 X.K tl):=by
 intro pins s σ H R I h
 refine thn (hl pins s σ H _ I h) fun v s1 ⟨x,H1,I1,r1,q1⟩=>?_
 obtain ⟨a,e,⟨xs,hq⟩,q⟩:=q1
 subst e
 cases r1
 obtain ⟨its,rv,p,hz⟩:=I1.list hq
 refine wpAny_pyIter_list p.isList ?_
 refine ⟨s1.heap.objs.size,[s1.heap.objs.size],_,_,H1,rfl,I1.kept (t':=s1.toks) fun b o e=>zPO _ e,xoh a _,⟨_,Heap.get?_push_size _ rfl,rfl,rfl⟩,fun b hb=>?_,q⟩
 have e:b=s1.heap.objs.size:=by simpa using hb
 subst e
 exact I1.fpOk (Nat.le_refl _) (I1.hok.fresh (Nat.le_refl _))
theorem xbi {l:Expr} {tl:TE} (hl:PE X l tl):PI X tg l (iTup X.K tl):=by
 intro pins s σ H R I h
 refine thn (hl pins s σ H _ I h) fun v s1 ⟨x,H1,I1,r1,q1⟩=>?_
 obtain ⟨a,e,⟨xs,hq⟩,q⟩:=q1
 subst e
 cases r1
 obtain ⟨its,rv,p,hz⟩:=I1.tuple hq
 refine wpAny_pyIter_tuple (show s1.heap.IsTuple a its.toArray from p) ?_
 refine ⟨s1.heap.objs.size,[s1.heap.objs.size],_,_,H1,rfl,I1.kept (t':=s1.toks) fun b o e=>zPO _ e,xnm a _,⟨_,Heap.get?_push_size _ rfl,rfl,rfl⟩,fun b hb=>?_,q⟩
 have e:b=s1.heap.objs.size:=by simpa using hb
 subst e
 exact I1.fpOk (Nat.le_refl _) (I1.hok.fresh (Nat.le_refl _))
theorem xmq {pins:List (Addr×Obj)} {σ:St} {H:Hp} {s:Shared} {R:It->Hp->Prop} {E:Value->Shared->Prop} {lo hi:Int} {t u v:Tok} {tk:Nat} (I:Inv X pins σ H s) (h1:-(2 ^ 62)<=lo) (h2:lo < 2 ^ 62) (h3:-(2 ^ 62)<=hi) (h4:hi < 2 ^ 62)
  (q:R (Itr lo (hi - lo).toNat) H):wpAny (model X.prog X.w) X.A (pyIter (.ref s.heap.objs.size)) (PIE X pins σ tg R) E { s with heap:=s.heap.push { cls:=.type "range",data:=.fields #[.int lo t,.int hi u,.int 1 v] },toks:=tk }:=by
 refine wpAny_pyIter_range (IsRange.new ..) (small_one h1 h2 h3 h4) ?_
 have I1:Inv X pins σ H { s with heap:=s.heap.push { cls:=.type "range",data:=.fields #[.int lo t,.int hi u,.int 1 v] },toks:=tk }:=I.kept fun b o e=>zPO _ e
 refine ⟨(s.heap.push { cls:=.type "range",data:=.fields #[.int lo t,.int hi u,.int 1 v] }).objs.size,[(s.heap.push { cls:=.type "range",data:=.fields #[.int lo t,.int hi u,.int 1 v] }).objs.size],_,_,H,rfl,
  I1.kept (t':=tk) fun b o e=>zPO _ e,xnn _ lo (hi - lo).toNat,?_,fun b hb=>?_,q⟩
 ·have e1:lo + ((0:Nat):Int) * 1=lo:=by simp
  have e2:(((hi - lo).toNat:Nat):Int) - ((0:Nat):Int)=Builtin.Range.rangeSize lo hi 1:=by rw [rangeSize_one]; split <;> omega
  show IsRangeIter _ _ (lo + ((0:Nat):Int) * 1) ((((hi - lo).toNat:Nat):Int) - ((0:Nat):Int)) 1
  rw [e1,e2]
  exact Heap.get?_push_size _ rfl
 ·have e:b=(s.heap.push { cls:=.type "range",data:=.fields #[.int lo t,.int hi u,.int 1 v] }).objs.size:=by simpa using hb
  subst e
  exact I1.fpOk (Nat.le_refl _) (I1.hok.fresh (Nat.le_refl _))
def xxa (ta:TA):TI:=fun σ H R=>ta σ H fun vs H1=>∃ j:Int,vs=[.int j]/\-(2 ^ 62)<=j/\j < 2 ^ 62/\R (Itr 0 j.toNat) H1
def xw9 (ta:TA):TI:=fun σ H R=>ta σ H fun vs H1=>∃ i j:Int,vs=[.int i,.int j]/\(-(2 ^ 62)<=i/\i < 2 ^ 62/\-(2 ^ 62)<=j/\j < 2 ^ 62)/\R (Itr i (j - i).toNat) H1
theorem xdo {a:Expr} {ta:TA} {p pos:Pos} (hg:Gl X "range") (hm:X.mg "range"=none) (ha:PA X [a] ta) (hs:starEach [a] X.env=[(false,eval a X.env)]:=by rfl):PI X tg (.Call (.Name "range" p) [a] [] pos) (xxa ta):=by
 intro pins s σ H R I h
 refine Call_ (xfj I hg hm boot_range (PyProof.Rows.callWith_type1 (thn (ha pos pins s σ H _ I h) fun us s1 ⟨vs,H1,I1,r1,q1⟩=>?_) hs rfl))
 obtain ⟨j,e,q1,q2,q⟩:=q1
 subst e
 cases r1 with
 | cons r rr=>
  cases rr
  obtain ⟨t,rfl⟩:=r
  exact call_range_1 (xmq I1 (by omega) (by omega) q1 q2 (by simpa using q))
theorem xpe {a b:Expr} {ta:TA} {p pos:Pos} (hg:Gl X "range") (hm:X.mg "range"=none) (ha:PA X [a,b] ta) (hs:starEach [a,b] X.env=[(false,eval a X.env),(false,eval b X.env)]:=by rfl) (hs2:starEach [b] X.env=[(false,eval b X.env)]:=by rfl) :
  PI X tg (.Call (.Name "range" p) [a,b] [] pos) (xw9 ta):=by
 intro pins s σ H R I h
 refine Call_ (xfj I hg hm boot_range (PyProof.Rows.callWith_type1 (thn (ha pos pins s σ H _ I h) fun us s1 ⟨vs,H1,I1,r1,q1⟩=>?_) (by rw [hs,hs2]) (by rw [hs2]; rfl)))
 obtain ⟨i,j,e,⟨q1,q2,q3,q4⟩,q⟩:=q1
 subst e
 cases r1 with
 | cons r rr=>
  cases rr with
  | cons r' rr=>
   cases rr
   obtain ⟨t,rfl⟩:=r
   obtain ⟨t',rfl⟩:=r'
   exact call_range_2 (xmq I1 q1 q2 q3 q4 q)
def tFor (wi:TI) (g:TG) (tb:TS):TS:=fun D σ H=>wi σ H fun J H1=>∃ W:Nat->Nat->St->Hp->Prop,(∃ m,W 0 m σ H1)/\∀ i m σ H,W i m σ H->
 (J.stop i H/\D.nx σ H)\/(J.go i H/\∃ N:St->Hp->Prop,(∀ σ' H',N σ' H'->∃ m',m' < m/\W (i + 1) m' σ' H')/\∀ x H',J.yld i H x H'->g x σ H' fun σ2 H2=>tb { D with nx:=N,ct:=N,bk:=D.nx } σ2 H2)
def xjt (fp:List Addr) (h:Heap):List (Addr×Obj):=fp.filterMap fun b=>(h.get? b).map fun o=>(b,o)
theorem xer {fp:List Addr} {h:Heap} {b:Addr} {o:Obj} (hb:b∈fp) (e:h.get? b=some o):(b,o)∈xjt fp h:=List.mem_filterMap.mpr ⟨b,hb,by rw [e]; rfl⟩
theorem xpm {fp:List Addr} {h:Heap} {p:Addr×Obj} (hp:p∈xjt fp h):p.1∈fp/\h.get? p.1=some p.2:=by
 obtain ⟨b,hb,e⟩:=List.mem_filterMap.mp hp
 cases q:h.get? b with
 | none=>rw [q] at e; cases e
 | some o=>
  rw [q] at e
  have e':(b,o)=p:=Option.some.inj e
  subst e'
  exact ⟨hb,q⟩
theorem Inv.pinned {pins:List (Addr×Obj)} {σ:St} {H:Hp} {s:Shared} {fp:List Addr} (I:Inv X pins σ H s) (hf:∀ b∈fp,FpOk X pins H b) (ho:∀ b∈fp,∃ o,s.heap.get? b=some o/\∀ v,o.data≠.cell v):Inv X (pins++xjt fp s.heap) σ H s:=
 I.pins_of fun p hp=>(zMA hp).elim (fun z=>I.pin p (List.mem_append_right _ z)) fun z=>by
  obtain ⟨hb,e⟩:=xpm z
  obtain ⟨f0,f1,f2,_⟩:=hf p.1 hb
  obtain ⟨o,e',d⟩:=ho p.1 hb
  rw [e] at e'; cases e'
  exact ⟨e,f0,f1,f2,d⟩
theorem Inv.unpinned {pins pl:List (Addr×Obj)} {σ:St} {H:Hp} {s:Shared} (I:Inv X (pins++pl) σ H s):Inv X pins σ H s:=I.pins_of fun p hp=>I.pin p (List.mem_append_right _ (List.mem_append_left _ hp))
theorem xcf {iter:Expr} {body:List Stmt} {wi:TI} {g:TG} {tb:TS} {pos:Pos} (hp:PassesOwn (model X.prog X.w) X.A X.env X.xe) (hc:X.calm=true) (hi:PI X tg iter wi) (hg:PG X tg g) (hb:PSs X body tb)
  (hs:∀ x,foldedSetIterable iter X.env x=pure x:=by intro _; rfl):PS X (.For tg iter body [] pos) (tFor wi g tb):=by
 intro pins s σ H D I h
 refine wpAny_For (thn (hi pins s σ H _ I h) fun v s1 h1=>thn h1 fun itv s2 h2=>?_) hs
 obtain ⟨it,fp,tn,J,H2,e,I2,T,st2,f2,W,⟨m0,w0⟩,turn⟩:=h2
 subst e
 have stat:∀ {H':Hp},(∀ b∈fp,H' b=none)->∀ b∈fp,FpOk X pins H' b:=fun hn b hb=>⟨hn b hb,(f2 b hb).2⟩
 refine codeAny_forLoop_any (fun n s'=>∃ i σ' H',Inv X pins σ' H' s'/\tn i s'.heap/\(∀ b∈fp,H' b=none)/\W i n σ' H') ?_ m0 ⟨0,σ,H2,I2,st2,fun b hb=>(f2 b hb).1,w0⟩
 rintro n s3 ⟨i,σ3,H3,I3,st3,fr3,w3⟩
 rcases turn i n σ3 H3 w3 with ⟨stop,qn⟩ | ⟨go,N,hN,step⟩
 ·refine wpAny_passesOwn hp (thn (T.done X rfl rfl rfl hc i pins s3 σ3 H3 X.xe I3 (stat fr3) st3 stop) fun r s4 ⟨hr,I4⟩=>?_)
  subst hr
  exact wpAny_execs_nil ⟨σ3,H3,I4,qn⟩
 ·refine wpAny_passesOwn hp (thn (T.item X rfl rfl rfl hc i pins s3 σ3 H3 X.xe I3 (stat fr3) st3 go) fun r s4 ⟨u,hr,h4⟩=>?_)
  subst hr
  refine wpAny_passesOwn hp (thn h4 fun _ s5 ⟨x,H5,I5,r5,y5,st5,fr5⟩=>?_)
  have I5':=I5.pinned (stat fr5) (T.obj _ _ st5)
  refine wpAny_passesOwn hp (thn (hg _ s5 σ3 H5 x u _ I5' r5 (step x H5 y5)) fun _ s6 ⟨σ6,H6,I6,q6⟩=>?_)
  refine wpAny_passesOwn hp (thn (hb _ s6 σ6 H6 _ I6 q6) fun f s7 q7=>?_)
  have again:∀ {σ7:St} {H7:Hp},Inv X (pins++xjt fp s5.heap) σ7 H7 s7->N σ7 H7->∃ m,m < n/\∃ i σ' H',Inv X pins σ' H' s7/\tn i s7.heap/\(∀ b∈fp,H' b=none)/\W i m σ' H':=fun {σ7 H7} I7 n7=>by
   obtain ⟨m',hm,w7⟩:=hN σ7 H7 n7
   refine ⟨m',hm,i + 1,σ7,H7,I7.unpinned,T.keep _ _ _ st5 fun b hb o e=>(I7.pin (b,o) (List.mem_append_right _ (List.mem_append_right _ (xer hb e)))).1,fun b hb=>?_,w7⟩
   obtain ⟨o,e,d⟩:=T.obj _ _ st5 b hb
   exact (I7.pin (b,o) (List.mem_append_right _ (List.mem_append_right _ (xer hb e)))).2.1
  cases f with
  | next=>obtain ⟨σ7,H7,I7,n7⟩:=q7; exact again I7 n7
  | cont=>obtain ⟨σ7,H7,I7,n7⟩:=q7; exact again I7 n7
  | brk=>obtain ⟨σ7,H7,I7,q7⟩:=q7; exact ⟨σ7,H7,I7.unpinned,q7⟩
  | ret v=>obtain ⟨x7,σ7,H7,I7,r7,q7⟩:=q7; exact ⟨x7,σ7,H7,I7.unpinned,r7,q7⟩
end
theorem xm8 {K:PySem.W.Frag} {a:Addr} {xs:List V} {g:TG} {tb:TS} {D:Ends} {σ:St} {H:Hp} (Pv:Nat->St->Hp->Prop) (h0:Pv 0 σ H) (hl:∀ i σ H,i<=xs.length->Pv i σ H->SqL K H a xs)
  (hs:∀ i x σ H,xs[i]?=some x->Pv i σ H->g x σ H fun σ2 H2=>tb { D with nx:=Pv (i + 1),ct:=Pv (i + 1),bk:=D.nx } σ2 H2) (hd:∀ σ H,Pv xs.length σ H->D.nx σ H) :
  ∃ W:Nat->Nat->St->Hp->Prop,(∃ m,W 0 m σ H)/\∀ i m σ H,W i m σ H->
   ((Itl K a).stop i H/\D.nx σ H)\/((Itl K a).go i H/\∃ N:St->Hp->Prop,(∀ σ' H',N σ' H'->∃ m',m' < m/\W (i + 1) m' σ' H')/\∀ x H',(Itl K a).yld i H x H'->g x σ H' fun σ2 H2=>tb { D with nx:=N,ct:=N,bk:=D.nx } σ2 H2):=by
 refine ⟨fun i m σ H=>m=xs.length - i/\i<=xs.length/\Pv i σ H,⟨xs.length,by simp,Nat.zero_le _,h0⟩,?_⟩
 rintro i m σ H ⟨rfl,hi,p⟩
 have q:=hl i σ H hi p
 by_cases hlt:i < xs.length
 ·refine .inr ⟨⟨xs,xs[i],q,by simp [hlt]⟩,Pv (i + 1),fun σ' H' p'=>⟨xs.length - (i + 1),by omega,rfl,hlt,p'⟩,fun x H' y=>?_⟩
  obtain ⟨e,y⟩:=y
  subst e
  exact hs i x σ _ (y xs q) p
 ·have e:i=xs.length:=by omega
  subst e
  exact .inl ⟨⟨xs,q,Nat.le_refl _⟩,hd σ H p⟩
theorem xcq {K:PySem.W.Frag} {a:Addr} {xs:List V} {g:TG} {tb:TS} {D:Ends} {σ:St} {H:Hp} (Pv:Nat->St->Hp->Prop) (h0:Pv 0 σ H) (hl:∀ i σ H,i<=xs.length->Pv i σ H->SqT K H a xs)
  (hs:∀ i x σ H,xs[i]?=some x->Pv i σ H->g x σ H fun σ2 H2=>tb { D with nx:=Pv (i + 1),ct:=Pv (i + 1),bk:=D.nx } σ2 H2) (hd:∀ σ H,Pv xs.length σ H->D.nx σ H) :
  ∃ W:Nat->Nat->St->Hp->Prop,(∃ m,W 0 m σ H)/\∀ i m σ H,W i m σ H->
   ((Itt K a).stop i H/\D.nx σ H)\/((Itt K a).go i H/\∃ N:St->Hp->Prop,(∀ σ' H',N σ' H'->∃ m',m' < m/\W (i + 1) m' σ' H')/\∀ x H',(Itt K a).yld i H x H'->g x σ H' fun σ2 H2=>tb { D with nx:=N,ct:=N,bk:=D.nx } σ2 H2):=by
 refine ⟨fun i m σ H=>m=xs.length - i/\i<=xs.length/\Pv i σ H,⟨xs.length,by simp,Nat.zero_le _,h0⟩,?_⟩
 rintro i m σ H ⟨rfl,hi,p⟩
 have q:=hl i σ H hi p
 by_cases hlt:i < xs.length
 ·refine .inr ⟨⟨xs,xs[i],q,by simp [hlt]⟩,Pv (i + 1),fun σ' H' p'=>⟨xs.length - (i + 1),by omega,rfl,hlt,p'⟩,fun x H' y=>?_⟩
  obtain ⟨e,y⟩:=y
  subst e
  exact hs i x σ _ (y xs q) p
 ·have e:i=xs.length:=by omega
  subst e
  exact .inl ⟨⟨xs,q,Nat.le_refl _⟩,hd σ H p⟩
theorem xfp {lo:Int} {n:Nat} {g:TG} {tb:TS} {D:Ends} {σ:St} {H:Hp} (Pv:Nat->St->Hp->Prop) (h0:Pv 0 σ H)
  (hs:∀ i σ H,i < n->Pv i σ H->g (.int (lo + i)) σ H fun σ2 H2=>tb { D with nx:=Pv (i + 1),ct:=Pv (i + 1),bk:=D.nx } σ2 H2) (hd:∀ σ H,Pv n σ H->D.nx σ H) :
  ∃ W:Nat->Nat->St->Hp->Prop,(∃ m,W 0 m σ H)/\∀ i m σ H,W i m σ H->
   ((Itr lo n).stop i H/\D.nx σ H)\/((Itr lo n).go i H/\∃ N:St->Hp->Prop,(∀ σ' H',N σ' H'->∃ m',m' < m/\W (i + 1) m' σ' H')/\∀ x H',(Itr lo n).yld i H x H'->g x σ H' fun σ2 H2=>tb { D with nx:=N,ct:=N,bk:=D.nx } σ2 H2):=by
 refine ⟨fun i m σ H=>m=n - i/\i<=n/\Pv i σ H,⟨n,by simp,Nat.zero_le _,h0⟩,?_⟩
 rintro i m σ H ⟨rfl,hi,p⟩
 by_cases hlt:i < n
 ·refine .inr ⟨hlt,Pv (i + 1),fun σ' H' p'=>⟨n - (i + 1),by omega,rfl,hlt,p'⟩,fun x H' y=>?_⟩
  obtain ⟨e,y⟩:=y
  subst e y
  exact hs i σ _ hlt p
 ·have e:i=n:=by omega
  subst e
  exact .inl ⟨Nat.le_refl _,hd σ H p⟩
end L2
namespace L2
open PySem PySem.Spec PyProof.Rows
abbrev R2:=V->V->Hp->VK->Prop
def OpR (X:Cx) (f:Value->Value->Sem Value) (r:R2):Prop:=
 ∀ (pins:List (Addr×Obj)) (s:Shared) (σ:St) (H:Hp) (x y:V) (v u:Value) (Q:VK),Inv X pins σ H s->RelV x v->RelV y u->r x y H Q->
  wpAny (model X.prog X.w) X.A (f v u) (EP X pins σ Q) X.xe s
def xew (X:Cx) (f:Value) (r:List V->Hp->VK->Prop):Prop:=
 ∀ (pins:List (Addr×Obj)) (s:Shared) (σ:St) (H:Hp) (xs:List V) (us:List Value) (Q:VK),Inv X pins σ H s->Vals xs us->r xs H Q->
  wpAny (model X.prog X.w) X.A (call f us) (EP X pins σ Q) X.xe s
def tOp (r:R2) (ta tb:TE):TE:=fun σ H Q=>ta σ H fun x H1=>tb σ H1 fun y H2=>r x y H2 Q
def rI (C:Int->Int->Prop) (g:Int->Int->V):R2:=fun x y H Q=>∃ i j,x=.int i/\y=.int j/\C i j/\Q (g i j) H
def rI0 (g:Int->Int->V):R2:=fun x y H Q=>∃ i j,x=.int i/\y=.int j/\Q (g i j) H
section
variable {X:Cx} {a b c:Expr} {ta tb tc:TE} {pos:Pos}
theorem binT (ha:PE X a ta) (hb:PE X b tb) {pins:List (Addr×Obj)} {s:Shared} {σ:St} {H:Hp} {R:V->V->Hp->Prop} (I:Inv X pins σ H s)
  (h:ta σ H fun x H1=>tb σ H1 fun y H2=>R x y H2) {Q:Value->Shared->Prop} {f:Value->Value->Sem Value}
  (hf:∀ v u s2 x y H2,Inv X pins σ H2 s2->RelV x v->RelV y u->R x y H2->wpAny (model X.prog X.w) X.A (f v u) Q X.xe s2) :
  wpAny (model X.prog X.w) X.A (eval a X.env) (fun v s₁=>wpAny (model X.prog X.w) X.A (eval b X.env) (fun u s₂=>wpAny (model X.prog X.w) X.A (f v u) Q X.xe s₂) X.xe s₁) X.xe s:=by
 refine thn (ha pins s σ H _ I h) fun v s1 ⟨x,H1,I1,r1,q1⟩=>?_
 refine thn (hb pins s1 σ H1 _ I1 q1) fun u s2 ⟨y,H2,I2,r2,q2⟩=>?_
 exact hf v u s2 x y H2 I2 r1 r2 q2
theorem xaq {op:Operator} {r:R2} (ho:OpR X (binaryOp op) r) (ha:PE X a ta) (hb:PE X b tb):PE X (.BinOp a op b pos) (tOp r ta tb):=by
 intro pins s σ H Q I h
 exact wpAny_BinOp (binT ha hb I h fun v u s2 x y H2 I2 rx ry q=>ho pins s2 σ H2 x y v u Q I2 rx ry q)
theorem opI {f:Value->Value->Sem Value} {C:Int->Int->Prop} {g:Int->Int->Int}
  (rule:∀ (i j:Int) (t u:Tok) (s:Shared) (Q:Value->Shared->Prop) (E:Value->Shared->Prop),C i j->Q (.int (g i j) s.toks) { s with toks:=s.toks + 1 }->wpAny (model X.prog X.w) X.A (f (.int i t) (.int j u)) Q E s) :
  OpR X f (rI C fun i j=>.int (g i j)):=by
 intro pins s σ H x y v u Q I rx ry h
 obtain ⟨i,j,rfl,rfl,hc,q⟩:=h
 obtain ⟨t,rfl⟩:=rx
 obtain ⟨t',rfl⟩:=ry
 exact rule i j t t' s _ _ hc ⟨.int (g i j),H,I.tok _,⟨_,rfl⟩,q⟩
theorem opI0 {f:Value->Value->Sem Value} {g:Int->Int->Int}
  (rule:∀ (i j:Int) (t u:Tok) (s:Shared) (Q:Value->Shared->Prop) (E:Value->Shared->Prop),Q (.int (g i j) s.toks) { s with toks:=s.toks + 1 }->wpAny (model X.prog X.w) X.A (f (.int i t) (.int j u)) Q E s) :
  OpR X f (rI0 fun i j=>.int (g i j)):=by
 intro pins s σ H x y v u Q I rx ry h
 obtain ⟨i,j,rfl,rfl,q⟩:=h
 obtain ⟨t,rfl⟩:=rx
 obtain ⟨t',rfl⟩:=ry
 exact rule i j t t' s _ _ ⟨.int (g i j),H,I.tok _,⟨_,rfl⟩,q⟩
theorem opB0 {f:Value->Value->Sem Value} {g:Int->Int->Bool}
  (rule:∀ (i j:Int) (t u:Tok) (s:Shared) (Q:Value->Shared->Prop) (E:Value->Shared->Prop),Q (.bool (g i j)) s->wpAny (model X.prog X.w) X.A (f (.int i t) (.int j u)) Q E s) :
  OpR X f (rI0 fun i j=>.bl (g i j)):=by
 intro pins s σ H x y v u Q I rx ry h
 obtain ⟨i,j,rfl,rfl,q⟩:=h
 obtain ⟨t,rfl⟩:=rx
 obtain ⟨t',rfl⟩:=ry
 exact rule i j t t' s _ _ ⟨.bl (g i j),H,I,rfl,q⟩
def CPow (i j:Int):Prop:=0<=j/\j<=1000000/\i.natAbs < 2 ^ 64
def CMul (i j:Int):Prop:=(-(2 ^ 64) < i/\i < 2 ^ 64)\/(-(2 ^ 64) < j/\j < 2 ^ 64)
theorem CMul.ok {i j:Int} (h:CMul i j):IntMulOk i j:=by
 rcases h with ⟨h1,h2⟩ | ⟨h1,h2⟩
 ·exact .of_left (intBits_le_64 h1 h2)
 ·exact .of_right (intBits_le_64 h1 h2)
theorem xbt:OpR X (binaryOp .Add) (rI0 fun i j=>.int (i + j)):=opI0 fun _ _ _ _ _ _ _ q=>add_int q
theorem xcm:OpR X (binaryOp .Sub) (rI0 fun i j=>.int (i - j)):=opI0 fun _ _ _ _ _ _ _ q=>sub_int q
theorem xdp:OpR X (binaryOp .Mult) (rI CMul fun i j=>.int (i * j)):=opI fun _ _ _ _ _ _ _ hc q=>mul_int q hc.ok
theorem xcg:OpR X (binaryOp .Mod) (rI (fun _ j=>0 < j) fun i j=>.int (i % j)):=opI fun i j _ _ _ _ _ hc q=>by
 have h1:(0:Int) < j:=hc
 exact mod_int' (by omega) (by rw [Int.fmod_eq_emod_of_nonneg i (by omega)]; exact q)
theorem xsn:OpR X (binaryOp .Pow) (rI CPow fun i j=>.int (i ^ j.toNat)):=opI fun _ _ _ _ _ _ _ hc q=>pow_int_small hc.1 hc.2.1 hc.2.2 q
end
def scal:V->V->Bool
 | .non,.non=>true | .non,.int _=>true | .int _,.non=>true | .non,.bl _=>true | .bl _,.non=>true | .non,.str _=>true | .str _,.non=>true
 | .int _,.int _=>true | .bl _,.bl _=>true | .str _,.str _=>true | .byt _,.byt _=>true
 | .int _,.str _=>true | .str _,.int _=>true | .bl _,.str _=>true | .str _,.bl _=>true
 | _,_=>false
def rEq:R2:=fun x y H Q=>scal x y=true/\Q (.bl (decide (x=y))) H
def rNe:R2:=fun x y H Q=>scal x y=true/\Q (.bl (!decide (x=y))) H
theorem xqm {i j:Int}:decide (V.int i=V.int j)=(i == j):=by
 rw [Bool.eq_iff_iff]
 simp
theorem xs0 {i j:Bool}:decide (V.bl i=V.bl j)=(i == j):=by
 rw [Bool.eq_iff_iff]
 simp
theorem xql {i j:Str}:decide (V.str i=V.str j)=(i == j):=by
 rw [Bool.eq_iff_iff]
 simp
theorem xqn {i j:Array UInt8}:decide (V.byt i=V.byt j)=(i.toList == j.toList):=by
 rw [Bool.eq_iff_iff]
 cases i
 cases j
 simp
section
variable {X:Cx} {a b c:Expr} {ta tb tc:TE} {pos:Pos}
theorem xbg {pins:List (Addr×Obj)} {σ:St} {H:Hp} {s:Shared} {Q:VK} {k k':Bool} (I:Inv X pins σ H s) (q:Q (.bl k) H) (e:k=k'):EP X pins σ Q (.bool k') s:=by
 subst e
 exact ⟨.bl k,H,I,rfl,q⟩
theorem xa4:OpR X (compareOp .Eq) rEq:=by
 intro pins s σ H x y v u Q I rx ry h
 obtain ⟨hs,q⟩:=h
 cases x with
 | non=>
  cases rx
  cases y with
  | non=>cases ry; exact PySem.EqNone.eq_none_none (xbg I q (by simp))
  | bl j=>cases ry; exact PySem.EqNone.eq_none_bool (xbg I q (by simp))
  | int j=>obtain ⟨t',rfl⟩:=ry; exact PySem.EqNone.eq_none_int (xbg I q (by simp))
  | str j=>obtain ⟨t',rfl⟩:=ry; exact PySem.EqNone.eq_none_str (xbg I q (by simp))
  | _=>exact absurd (show false=true from hs) Bool.false_ne_true
 | bl i=>
  cases rx
  cases y with
  | non=>cases ry; exact PySem.EqNone.eq_bool_none (xbg I q (by simp))
  | bl j=>cases ry; exact eq_bool (xbg I q xs0)
  | str j=>obtain ⟨t',rfl⟩:=ry; exact PySem.EqMixed.eq_bool_str (xbg I q (by simp))
  | _=>exact absurd (show false=true from hs) Bool.false_ne_true
 | int i=>
  obtain ⟨t,rfl⟩:=rx
  cases y with
  | non=>cases ry; exact PySem.EqNone.eq_int_none (xbg I q (by simp))
  | int j=>obtain ⟨t',rfl⟩:=ry; exact eq_int (xbg I q xqm)
  | str j=>obtain ⟨t',rfl⟩:=ry; exact PySem.EqMixed.eq_int_str (xbg I q (by simp))
  | _=>exact absurd (show false=true from hs) Bool.false_ne_true
 | str i=>
  obtain ⟨t,rfl⟩:=rx
  cases y with
  | non=>cases ry; exact PySem.EqNone.eq_str_none (xbg I q (by simp))
  | bl j=>cases ry; exact PySem.EqMixed.eq_str_bool (xbg I q (by simp))
  | int j=>obtain ⟨t',rfl⟩:=ry; exact PySem.EqMixed.eq_str_int (xbg I q (by simp))
  | str j=>obtain ⟨t',rfl⟩:=ry; exact eq_str (xbg I q xql)
  | _=>exact absurd (show false=true from hs) Bool.false_ne_true
 | byt i=>
  obtain ⟨t,rfl⟩:=rx
  cases y with
  | byt j=>obtain ⟨t',rfl⟩:=ry; exact PySem.W.eq_bytes (xbg I q xqn)
  | _=>exact absurd (show false=true from hs) Bool.false_ne_true
 | _=>cases y <;> exact absurd (show false=true from hs) Bool.false_ne_true
theorem xjw:OpR X (compareOp .NotEq) rNe:=by
 intro pins s σ H x y v u Q I rx ry h
 obtain ⟨hs,q⟩:=h
 cases x with
 | non=>
  cases rx
  cases y with
  | non=>cases ry; exact PySem.EqNone.ne_none_none (xbg I q (by simp))
  | bl j=>cases ry; exact PySem.EqNone.ne_none_bool (xbg I q (by simp))
  | int j=>obtain ⟨t',rfl⟩:=ry; exact PySem.EqNone.ne_none_int (xbg I q (by simp))
  | str j=>obtain ⟨t',rfl⟩:=ry; exact PySem.EqNone.ne_none_str (xbg I q (by simp))
  | _=>exact absurd (show false=true from hs) Bool.false_ne_true
 | bl i=>
  cases rx
  cases y with
  | non=>cases ry; exact PySem.EqNone.ne_bool_none (xbg I q (by simp))
  | bl j=>cases ry; exact ne_bool (xbg I q (congrArg not xs0))
  | str j=>obtain ⟨t',rfl⟩:=ry; exact PySem.EqMixed.ne_bool_str (xbg I q (by simp))
  | _=>exact absurd (show false=true from hs) Bool.false_ne_true
 | int i=>
  obtain ⟨t,rfl⟩:=rx
  cases y with
  | non=>cases ry; exact PySem.EqNone.ne_int_none (xbg I q (by simp))
  | int j=>obtain ⟨t',rfl⟩:=ry; exact ne_int (xbg I q (congrArg not xqm))
  | str j=>obtain ⟨t',rfl⟩:=ry; exact PySem.EqMixed.ne_int_str (xbg I q (by simp))
  | _=>exact absurd (show false=true from hs) Bool.false_ne_true
 | str i=>
  obtain ⟨t,rfl⟩:=rx
  cases y with
  | non=>cases ry; exact PySem.EqNone.ne_str_none (xbg I q (by simp))
  | bl j=>cases ry; exact PySem.EqMixed.ne_str_bool (xbg I q (by simp))
  | int j=>obtain ⟨t',rfl⟩:=ry; exact PySem.EqMixed.ne_str_int (xbg I q (by simp))
  | str j=>obtain ⟨t',rfl⟩:=ry; exact ne_str (xbg I q (congrArg not xql))
  | _=>exact absurd (show false=true from hs) Bool.false_ne_true
 | byt i=>
  obtain ⟨t,rfl⟩:=rx
  cases y with
  | byt j=>obtain ⟨t',rfl⟩:=ry; exact PySem.W.ne_bytes (xbg I q (congrArg not xqn))
  | _=>exact absurd (show false=true from hs) Bool.false_ne_true
 | _=>cases y <;> exact absurd (show false=true from hs) Bool.false_ne_true
theorem xnv:OpR X (compareOp .Lt) (rI0 fun i j=>.bl (decide (i < j))):=opB0 fun _ _ _ _ _ _ _ q=>lt_int q
theorem xe6:OpR X (compareOp .Gt) (rI0 fun i j=>.bl (decide (j < i))):=opB0 fun _ _ _ _ _ _ _ q=>gt_int q
theorem xvi:OpR X (compareOp .GtE) (rI0 fun i j=>.bl (decide (j<=i))):=opB0 fun _ _ _ _ _ _ _ q=>ge_int q
theorem xsp:OpR X (compareOp .Is) (fun x y H Q=>y=.non/\Q (.bl (decide (x=.non))) H):=by
 intro pins s σ H x y v u Q I rx ry h
 obtain ⟨rfl,q⟩:=h
 cases ry
 refine is_none_gen (xbg I q ?_)
 cases x <;> first
  | (cases rx; rfl)
  | (obtain ⟨t,rfl⟩:=rx; rfl)
theorem xll:OpR X (compareOp .IsNot) (fun x y H Q=>y=.non/\Q (.bl (!decide (x=.non))) H):=by
 intro pins s σ H x y v u Q I rx ry h
 obtain ⟨rfl,q⟩:=h
 cases ry
 refine isnot_none_gen (xbg I q ?_)
 cases x <;> first
  | (cases rx; rfl)
  | (obtain ⟨t,rfl⟩:=rx; rfl)
theorem nM (b:Expr) {op:CmpOp} (h:op≠.In:=by decide) (h2:op≠.NotIn:=by decide):behindInMarks op b=false:=by
 have e1:(op == CmpOp.In)=false:=by cases op <;> first | rfl | exact absurd rfl h
 have e2:(op == CmpOp.NotIn)=false:=by cases op <;> first | rfl | exact absurd rfl h2
 cases b <;> simp [behindInMarks,e1,e2]
theorem xg5 {op:CmpOp} {r:R2} (ho:OpR X (compareOp op) r) (ha:PE X a ta) (hb:PE X b tb) (hm:behindInMarks op b=false):PE X (.Compare a [op] [b] pos) (tOp r ta tb):=by
 intro pins s σ H Q I h
 exact wpAny_Compare1 (binT ha hb I h fun v u s2 x y H2 I2 rx ry q=>ho pins s2 σ H2 x y v u Q I2 rx ry q) hm
def xwk (t:TE):TT:=fun σ H Q=>t σ H fun x H'=>∃ k,x=.bl k/\Q k H'
theorem pR {op:CmpOp} {r:R2} (ho:OpR X (compareOp op) r) (ha:PE X a ta) (hb:PE X b tb) (hm:behindInMarks op b=false):PT X (.Compare a [op] [b] pos) (xwk (tOp r ta tb)):=by
 intro pins s σ H Q I h
 refine wpAny_isTrue_Compare1 (thn (ha pins s σ H _ I h) fun v s1 ⟨x,H1,I1,r1,q1⟩=>thn (hb pins s1 σ H1 _ I1 q1) fun u s2 ⟨y,H2,I2,r2,q2⟩=>
  thn (ho pins s2 σ H2 x y v u _ I2 r1 r2 q2) fun c s3 ⟨z,H3,I3,r3,k,e,q3⟩=>?_) hm
 subst e
 cases r3
 exact wpAny_truthy_bool ⟨H3,I3,q3⟩
theorem xkc:(sizeLine:Nat) < 2 ^ 63:=by rw [sizeLine_eq]; decide
theorem xep:OpR X (binaryOp .Add) (fun x y H Q=>∃ i j,x=.str i/\y=.str j/\i.length + j.length<=sizeLine/\Q (.str (i++j)) H):=by
 intro pins s σ H x y v u Q I rx ry h
 obtain ⟨i,j,rfl,rfl,hz,q⟩:=h
 obtain ⟨t,rfl⟩:=rx
 obtain ⟨t',rfl⟩:=ry
 exact add_str (fun t' tk=>⟨.str (i++j),H,I.tok _,⟨_,rfl⟩,q⟩) hz
theorem xfb {x:V} {us:List Value} (r:Vals [x] us):∃ u,us=[u]/\RelV x u:=by
 cases r with
 | cons r1 r2=>cases r2; exact ⟨_,rfl,r1⟩
theorem xuj {x y:V} {us:List Value} (r:Vals [x,y] us):∃ u w',us=[u,w']/\RelV x u/\RelV y w':=by
 cases r with
 | cons r1 r2=>
  cases r2 with
  | cons r3 r4=>cases r4; exact ⟨_,_,rfl,r1,r3⟩
theorem xqu (hc:X.calm=true):xew X (.builtin "max") (fun xs H Q=>∃ i j,xs=[.int i,.int j]/\Q (.int (if j > i then j else i)) H):=by
 intro pins s σ H xs us Q I r h
 obtain ⟨i,j,rfl,q⟩:=h
 obtain ⟨u,w',rfl,⟨t,rfl⟩,⟨t',rfl⟩⟩:=xuj r
 refine max_two_ints (I.ok.hd hc) fun h' tk k=>⟨_,H,I.kept k,?_,q⟩
 by_cases hj:j > i
 ·rw [if_pos hj,if_pos hj]; exact ⟨_,rfl⟩
 ·rw [if_neg hj,if_neg hj]; exact ⟨_,rfl⟩
theorem xqs (hc:X.calm=true):xew X (.builtin "min") (fun xs H Q=>∃ i j,xs=[.int i,.int j]/\Q (.int (if j < i then j else i)) H):=by
 intro pins s σ H xs us Q I r h
 obtain ⟨i,j,rfl,q⟩:=h
 obtain ⟨u,w',rfl,⟨t,rfl⟩,⟨t',rfl⟩⟩:=xuj r
 refine min_two_ints (I.ok.hd hc) fun h' tk k=>⟨_,H,I.kept k,?_,q⟩
 by_cases hj:j < i
 ·rw [if_pos hj,if_pos hj]; exact ⟨_,rfl⟩
 ·rw [if_neg hj,if_neg hj]; exact ⟨_,rfl⟩
theorem xfs:xew X (.type "int") (fun xs H Q=>(∃ i,xs=[.int i]/\Q (.int i) H)\/∃ k,xs=[.bl k]/\Q (.int (if k then 1 else 0)) H):=by
 intro pins s σ H xs us Q I r h
 rcases h with ⟨i,rfl,q⟩ | ⟨k,rfl,q⟩
 ·obtain ⟨u,rfl,t,rfl⟩:=xfb r
  exact call_int_int ⟨.int i,H,I,⟨_,rfl⟩,q⟩
 ·obtain ⟨u,rfl,r1⟩:=xfb r
  cases r1
  exact call_int_bool ⟨.int (if k then 1 else 0),H,I.tok _,⟨_,rfl⟩,q⟩
end
end L2
namespace L2
open PySem PySem.Spec PyProof.Rows
theorem RelO.some_of {v:V} {o:Option Value} (r:RelO (some v) o):∃ u,o=some u/\RelV v u:=by
 cases o with
 | none=>exact (show False from r).elim
 | some u=>exact ⟨u,rfl,r⟩
end L2
namespace L2
open PySem PySem.Spec PyProof.Rows
structure Room (k:Nat) (A:Around):Prop where
 hd:A.handled=none
 dp:A.depth + 3 * k + 5 < recursionLimit
 un:A.units + 16 * k + 200 < cLine
theorem Room.mono {j k:Nat} {A:Around} (r:Room k A) (h:j<=k):Room j A:=⟨r.hd,by have:=r.dp; omega,by have:=r.un; omega⟩
theorem Room.deeper {k:Nat} {A:Around} (r:Room (k + 1) A) (env:Env):Room k (A.deeper env):=
 ⟨r.hd,by have:=r.dp; show A.depth + 1 + 3 * k + 5 < _; omega,by have:=r.un; show A.units + 3 + 16 * k + 200 < _; omega⟩
theorem Room.depth {k:Nat} {A:Around} (r:Room k A):A.depth < recursionLimit:=by have:=r.dp; omega
theorem Room.units {k:Nat} {A:Around} (r:Room k A):A.units + 64 < cLine:=by have:=r.un; omega
def tNil:TA:=fun _ H Q=>Q [] H
def xwq (ta:TE) (tr:TA):TA:=fun σ H Q=>ta σ H fun x H1=>tr σ H1 fun xs H2=>Q (x :: xs) H2
section
variable {X:Cx} {e:Expr} {es:List Expr} {te:TE} {t:TA} {pos:Pos}
theorem pN:PA X [] tNil:=fun _ _ _ _ H Q I h=>Calls.spliced_nil ⟨[],H,I,.nil,h⟩
theorem pc (ha:PE X e te) (hr:PA X es t) (hs:starEach (e :: es) X.env=(false,eval e X.env) :: starEach es X.env:=by rfl):PA X (e :: es) (xwq te t):=by
 intro pos pins s σ H Q I h
 rw [hs]
 show wpAny _ _ (spliced ((false,eval e X.env) :: backTo pos (starEach es X.env))) _ _ s
 refine Calls.spliced_cons (thn (ha pins s σ H _ I h) fun u s1 ⟨x,H1,I1,r1,q1⟩=>?_)
 exact thn (hr pos pins s1 σ H1 _ I1 q1) fun us s2 ⟨xs,H2,I2,r2,q2⟩=>⟨x :: xs,H2,I2,.cons r1 r2,q2⟩
def tTup (t:TA):TE:=fun σ H Q=>t σ H fun xs H1=>xs.length<=sizeLine/\∀ p,H1 p=none->Q (.ref p) (upd H1 p (.tup xs))
def tLst (t:TA):TE:=fun σ H Q=>t σ H fun xs H1=>xs.length<=sizeLine/\∀ p,H1 p=none->Q (.ref p) (upd H1 p (.lst xs))
theorem xar {x1} (h:PA X es t):PE X (.Tuple es x1 pos) (tTup t):=by
 intro pins s σ H Q I hq
 refine wpAny_Tuple_spliced (thn (h pos pins s σ H _ I hq) fun us s1 ⟨xs,H1,I1,r,z,q⟩=>⟨by rw [<- r.length]; exact z,?_⟩)
 have hf:H1 s1.heap.objs.size=none:=I1.hok.fresh (Nat.le_refl _)
 refine ⟨.ref s1.heap.objs.size,upd H1 s1.heap.objs.size (.tup xs),I1.laid (t':=s1.toks) (fun b u e=>zPO _ e) (Nat.le_refl _) ?_,rfl,q _ hf⟩
 exact ⟨z,us,r,⟨_,Heap.get?_push_size _ rfl,rfl,_,rfl,rfl⟩⟩
theorem xb6 (h:PA X es t):PE X (.List es pos) (tLst t):=by
 intro pins s σ H Q I hq
 refine wpAny_List_spliced (thn (h pos pins s σ H _ I hq) fun us s1 ⟨xs,H1,I1,r,z,q⟩=>⟨by rw [<- r.length]; exact z,?_⟩)
 have hf:H1 s1.heap.objs.size=none:=I1.hok.fresh (Nat.le_refl _)
 refine ⟨.ref s1.heap.objs.size,upd H1 s1.heap.objs.size (.lst xs),I1.laid (t':=s1.toks) (fun b u e=>zPO _ e) (Nat.le_refl _) ?_,rfl,q _ hf⟩
 exact ⟨z,us,0,r,Heap.get?_push_size _ rfl⟩
end
abbrev Sp:=List V->Hp->VK->XK->Prop
abbrev CXT:=List Env->Hp->Shared->XK->Value->Shared->Prop
structure Env0 (P:Program) (w:World) (K:PySem.W.Frag) (mg:Str->Option Value) (base:Heap) (A:Around) (outer:List Env) (s:Shared) (H:Hp):Prop where
 frames:A.frames=some outer
 mod:Mod K mg base
 bs:∀ b o,base.get? b=some o->s.heap.get? b=some o/\H b=none
 bsz:base.objs.size<=s.heap.objs.size
 funs:s.heap.FunFrames base outer
 frf:∀ b∈frs outer,H b=none
 hok:HOk P w H s.heap
 bare:AllBare s.gens
def CE (outer:List Env) (P:Program) (w:World) (H:Hp) (s:Shared) (Q:VK) (u:Value) (s':Shared):Prop:=
 ∃ v H',s'.os=s.os/\AllBare s'.gens/\Un (frs outer) [] H H' s.heap s'.heap/\HOk P w H' s'.heap/\RelV v u/\Q v H'
def CR (CX:CXT) (outer:List Env) (P:Program) (w:World) (H:Hp) (s:Shared) (Q:VK) (E:XK) (r:Result) (s':Shared):Prop:=
 match r with
 | .ok (.ret u)=>CE outer P w H s Q u s'
 | .ok _=>False
 | .error e=>CX outer H s E e s'
structure FnOk (P:Program) (w:World) (K:PySem.W.Frag) (mg:Str->Option Value) (base:Heap) (CX:CXT) (k:Nat) (f:Addr) (fd:FuncData) (ps:List Str) (sp:Sp):Prop where
 len:∀ vs H Q E,sp vs H Q E->vs.length=ps.length
 run:∀ (A:Around) (outer:List Env) (s:Shared) (H:Hp) (args:Args) (us:List Value) (vs:List V) (Q:VK) (E:XK),Room k A->Env0 P w K mg base A outer s H->BindsTo s fd args (ps.zip us)->Vals vs us->sp vs H Q E->
  codeAny (model P w) A (.call (.ref f) args) (CR CX outer P w H s Q E) s
theorem FnOk.mono {P:Program} {w:World} {K:PySem.W.Frag} {mg:Str->Option Value} {base:Heap} {CX:CXT} {j k:Nat} {f:Addr} {fd:FuncData} {ps:List Str} {sp:Sp} (F:FnOk P w K mg base CX j f fd ps sp) (h:j<=k) :
  FnOk P w K mg base CX k f fd ps sp:=⟨F.len,fun A outer s H args us vs Q E hr=>F.run A outer s H args us vs Q E (hr.mono h)⟩
theorem FnOk.imp {P:Program} {w:World} {K:PySem.W.Frag} {mg:Str->Option Value} {base:Heap} {CX:CXT} {k:Nat} {f:Addr} {fd:FuncData} {ps:List Str} {sp sp':Sp} (F:FnOk P w K mg base CX k f fd ps sp)
  (h:∀ vs H Q E,sp' vs H Q E->sp vs H Q E):FnOk P w K mg base CX k f fd ps sp':=
 ⟨fun vs H Q E q=>F.len vs H Q E (h _ _ _ _ q),fun A outer s H args us vs Q E hr he hb hv hs=>F.run A outer s H args us vs Q E hr he hb hv (h _ _ _ _ hs)⟩
section
variable {X:Cx} {pins:List (Addr×Obj)} {σ:St} {H:Hp} {s s':Shared}
theorem Inv.env0 (I:Inv X pins σ H s):Env0 X.prog X.w X.K X.mg X.base X.A X.stack s H:=
 ⟨I.ok.frames,I.ok.mod,I.bs,Nat.le_trans I.ok.bsz I.sz,I.stack,I.stkFree,I.hok,I.bare⟩
theorem Inv.after {Q:VK} {u:Value} (I:Inv X pins σ H s) (h:CE X.stack X.prog X.w H s Q u s'):EP X pins σ Q u s':=by
 obtain ⟨v,H',os,bare,un,hok,r,q⟩:=h
 obtain ⟨hh,g,d,t,os'⟩:=s'
 obtain rfl:os'=s.os:=os
 exact ⟨v,H',I.call (h':=hh) (g':=g) (d':=d) (t':=t) (ch:=[]) un hok bare (fun b z=>absurd z (by simp)),r,q⟩
end
def xuv (sp:Sp) (dvs:List V) (E:XK) (t:TA):TE:=fun σ H Q=>t σ H fun vs H1=>sp (vs++dvs) H1 Q E
def Binds (K:PySem.W.Frag) (fd:FuncData) (ps:List Str) (ds:List Value):Prop:=
 ∀ (s:Shared) (us:List Value),K.In s.heap->(us++ds).length=ps.length->BindsTo s fd ⟨us,[]⟩ (ps.zip (us++ds))
theorem Binds.all {K:PySem.W.Frag} {fd:FuncData} {ps:List Str} (h:∀ us:List Value,us.length=ps.length->bindArgs fd ⟨us,[]⟩=pure (ps.zip us)):Binds K fd ps []:=fun s us _ hl=>by
 rw [List.append_nil] at hl ⊢
 exact .of_eq (h us hl)
def xqw (CX:CXT) (X:Cx) (E:XK):Prop:=∀ (pins:List (Addr×Obj)) (σ:St) (H:Hp) (s:Shared) (e:Value) (s':Shared),Inv X pins σ H s->CX X.stack H s E e s'->X.xe e s'
section
variable {X:Cx} {CX:CXT} {k:Nat} {f C:Addr} {fd:FuncData} {ps:List Str} {sp:Sp} {dvs:List V} {ds:List Value} {E:XK} {x m:Str} {p pos apos:Pos} {e o:Expr} {es:List Expr} {ta:TE} {t:TA}
theorem xu4 {pins:List (Addr×Obj)} {σ:St} {H:Hp} {s:Shared} {Q:VK} {us:List Value} {vs:List V} (F:FnOk X.prog X.w X.K X.mg X.base CX k f fd ps sp) (hr:Room k X.A) (hb:Binds X.K fd ps ds) (hd:Vals dvs ds) (hx:xqw CX X E)
  (I:Inv X pins σ H s) (r:Vals vs us) (h:sp (vs++dvs) H Q E):wpAny (model X.prog X.w) X.A (call (.ref f) us) (EP X pins σ Q) X.xe s:=by
 have r2:Vals (vs++dvs) (us++ds):=r.append hd
 have hl:(us++ds).length=ps.length:=by rw [<- r2.length]; exact F.len _ _ _ _ h
 refine wpAny_call (codeAny_mono (F.run X.A X.stack s H ⟨us,[]⟩ (us++ds) (vs++dvs) Q E hr I.env0 (hb s us I.kIn hl) r2 h) fun r s' hq=>?_)
 cases r with
 | error e=>exact hx pins σ H s e s' I hq
 | ok fl=>
  cases fl with
  | ret u=>exact I.after hq
  | next=>exact False.elim hq
  | brk=>exact False.elim hq
  | cont=>exact False.elim hq
theorem xtq (F:FnOk X.prog X.w X.K X.mg X.base CX k f fd ps sp) (hr:Room k X.A) (hg:Gl X x) (hm:X.mg x=some (.ref f)) (hk:PySem.W.keepIn X.K (.ref f)=true) (hb:Binds X.K fd ps ds) (hd:Vals dvs ds) (hx:xqw CX X E)
  (ha:PA X (e :: es) t) (hdb:(x == ("__debug__":Str))=false:=by decide) (he:starEach (e :: es) X.env=(false,eval e X.env) :: starEach es X.env:=by rfl) (hpl:(backTo pos (starEach es X.env)).any (·.1)=false:=by rfl) :
  PE X (.Call (.Name x p) (e :: es) [] pos) (xuv sp dvs E t):=by
 intro pins s σ H Q I h
 refine wpAny_Call_Name_kw (xp4 I hg hm ?_ hdb)
 refine PySem.W.callWith_K (h₀:=X.base) I.ok.mod.kin hk (thn (ha pos pins s σ H _ I h) fun us s1 ⟨vs,H1,I1,r,q⟩=>⟨I1.kIn,?_⟩) he hpl
 exact xu4 F hr hb hd hx I1 r q
end
structure FnScope (N P:List Str) (sc:Scope):Prop where
 kind:sc.kind=.function
 co:sc.isCoroutine=false
 gen:sc.isGenerator=false
 nd:N.Nodup
 pre:N.take P.length=P
 par:∀ x∈P,sc.names.lookup x=some .local\/sc.names.lookup x=some .cell
 nofree:∀ y∈sc.names,y.2≠.free
theorem xku {kindOf:Str->Option NameKind} {x:Str}:∀ {binds:List (Str×Value)} {m:Str->Option Value},(∀ v,(x,v) ∉ binds)->bindL kindOf binds m x=m x
 | [],_,_=>rfl
 | (n,v) :: r,m,h=>by
  unfold bindL
  rw [xku fun w hw=>h w (List.mem_cons_of_mem _ hw)]
  split
  ·have:x≠n:=by rintro rfl; exact h v List.mem_cons_self
   simp [this]
  ·rfl
theorem xkw {kindOf:Str->Option NameKind} {x:Str}:∀ {binds:List (Str×Value)} {m:Str->Option Value},(∀ v,(x,v) ∉ binds)->bindC kindOf binds m x=m x
 | [],_,_=>rfl
 | (n,v) :: r,m,h=>by
  unfold bindC
  rw [xkw fun w hw=>h w (List.mem_cons_of_mem _ hw)]
  split
  ·rfl
  ·have:x≠n:=by rintro rfl; exact h v List.mem_cons_self
   simp [this]
theorem xkv {kindOf:Str->Option NameKind} {x:Str} {v:Value}:∀ {P:List Str} {vs:List Value} {i:Nat} {m:Str->Option Value},P.Nodup->P[i]?=some x->vs[i]?=some v->kindOf x=some .local->
  bindL kindOf (P.zip vs) m x=some v
 | [],_,_,_,_,h,_,_=>by simp at h
 | _ :: _,[],_,_,_,_,h,_=>by simp at h
 | p :: P,w :: vs,0,m,nd,h1,h2,hk=>by
  simp at h1 h2; subst h1; subst h2
  show bindL kindOf ((p,w) :: P.zip vs) m p=_
  unfold bindL
  rw [xku fun v hv=>(List.nodup_cons.mp nd).1 (List.of_mem_zip hv).1,if_pos hk]
  simp
 | p :: P,w :: vs,i + 1,m,nd,h1,h2,hk=>by
  show bindL kindOf ((p,w) :: P.zip vs) m x=_
  unfold bindL
  exact xkv (i:=i) (List.nodup_cons.mp nd).2 (by simpa using h1) (by simpa using h2) hk
theorem xkx {kindOf:Str->Option NameKind} {x:Str} {v:Value}:∀ {P:List Str} {vs:List Value} {i:Nat} {m:Str->Option Value},P.Nodup->P[i]?=some x->vs[i]?=some v->kindOf x≠some .local->
  bindC kindOf (P.zip vs) m x=some v
 | [],_,_,_,_,h,_,_=>by simp at h
 | _ :: _,[],_,_,_,_,h,_=>by simp at h
 | p :: P,w :: vs,0,m,nd,h1,h2,hk=>by
  simp at h1 h2; subst h1; subst h2
  show bindC kindOf ((p,w) :: P.zip vs) m p=_
  unfold bindC
  rw [xkw fun v hv=>(List.nodup_cons.mp nd).1 (List.of_mem_zip hv).1,if_neg hk]
  simp
 | p :: P,w :: vs,i + 1,m,nd,h1,h2,hk=>by
  show bindC kindOf ((p,w) :: P.zip vs) m x=_
  unfold bindC
  exact xkx (i:=i) (List.nodup_cons.mp nd).2 (by simpa using h1) (by simpa using h2) hk
def xg0 (N:List Str) (vs:List V):St:=vs.map some++List.replicate (N.length - vs.length) none
def cxOf (CX:CXT) (P:Program) (w:World) (K:PySem.W.Frag) (mg:Str->Option Value) (base:Heap) (N:List Str) (qual:Str) (scope:Scope) (f:Addr) (cd:Value) (A:Around) (outer:List Env) (s:Shared) (H:Hp) (E:XK):Cx where
 prog:=P
 w:=w
 K:=K
 mg:=mg
 base:=base
 A:=A.deeper (envOfC qual scope s.heap.objs.size f cd)
 N:=N
 s₀:=s
 H₀:=H
 env:=envOfC qual scope s.heap.objs.size f cd
 outer:=outer
 stack:=envOfC qual scope s.heap.objs.size f cd :: outer
 ex:=[]
 calm:=true
 fn:=fun _=>true
 pn:=[]
 xe:=fun e s'=>wpAny (model P w) (A.deeper (envOfC qual scope s.heap.objs.size f cd)) (leaving (envOfC qual scope s.heap.objs.size f cd) e) (fun _ s''=>CX outer H s E e s'') (fun e' s''=>CX outer H s E e' s'') s'
theorem xnf {sc:Scope} {n:Nat} {x:Str} (h:sc.names.lookup x=some .cell):∃ c,(cellsFrom n sc.names []).lookup x=some c:=by
 have q:=PySem.W.cellsFrom_some sc.names n [] (.inl h)
 exact Option.isSome_iff_exists.mp q
theorem xqb {CX:CXT} {P:Program} {w:World} {K:PySem.W.Frag} {mg:Str->Option Value} {base:Heap} {N ps:List Str} {qual:Str} {scope:Scope} {f:Addr} {cd:Value} {A:Around} {outer:List Env} {s s1:Shared} {H:Hp} {E:XK} {us:List Value} {vs:List V}
  (S:FnScope N ps scope) (hd:A.handled=none) (e0:Env0 P w K mg base A outer s H) (hl:vs.length=ps.length) (r:Vals vs us)
  (x:InCallC s s.heap.objs.size (bindL (envOfC qual scope s.heap.objs.size f cd).kindOf (ps.zip us) fun _=>none) (cellsFrom (s.heap.objs.size + 1) scope.names []) (bindC (envOfC qual scope s.heap.objs.size f cd).kindOf (ps.zip us) fun _=>none) s1) :
  Inv (cxOf CX P w K mg base N qual scope f cd A outer s H E) [] (xg0 N vs) H s1:=by
 have hpl:ps.length<=N.length:=by have:=congrArg List.length S.pre; rw [List.length_take] at this; omega
 obtain ⟨h1,tk,rfl,hk⟩:=x.done
 have noA:∀ b:Addr,b ∉ (cxOf CX P w K mg base N qual scope f cd A outer s H E).ex:=fun b z=>absurd (show b∈([]:List Addr) from z) (by simp)
 refine ⟨⟨e0.mod,S.kind,rfl,rfl,Nat.le_refl _,fun y z c h1 h2=>?_,fun y hy=>?_,fun y c _ h=>?_,fun _=>hd,Around.frames_deeper e0.frames,.inr ⟨rfl,rfl⟩,fun b z=>absurd z (noA b),e0.bs,e0.bsz,fun b _ _=>noA b,fun b z=>absurd z (noA b),e0.funs,e0.frf⟩,
  rfl,e0.bare,Un.kept hk,⟨_,x.toInCall.ns,fun i y v h1 h2 h3=>?_⟩,fun y c h=>⟨_,x.cell y c h⟩,e0.hok.fresh (Nat.le_refl _),fun y c h=>?_,fun p hp=>absurd (show p∈([]:List (Addr×Obj)) from hp) (by simp),e0.hok.kept hk,?_⟩
 ·exact name_of_addr x.apart (PySem.mem_of_lookup h1) (PySem.mem_of_lookup h2)
 ·have hy:scope.names.lookup y=some .cell\/scope.names.lookup y=some .free:=hy
  rcases hy with hy | hy
  ·exact xnf hy
  ·exact absurd rfl (S.nofree _ (PySem.mem_of_lookup hy))
 ·exact Nat.le_of_lt (x.above y c (PySem.mem_of_lookup h))
 ·have hi:i < vs.length:=by
   unfold xg0 at h2
   by_cases hi:i < vs.length
   ·exact hi
   ·rw [List.getElem?_append_right (by simpa using hi)] at h2
    rw [List.getElem?_replicate] at h2
    split at h2 <;> cases h2
  have ha:vs[i]?=some v:=by
   unfold xg0 at h2
   rw [List.getElem?_append_left (by simpa using hi),zGM] at h2
   cases e:vs[i]? with
   | none=>rw [e] at h2; cases h2
   | some a=>rw [e] at h2; cases h2; rfl
  obtain ⟨u,hu,rv⟩:=r.get ha
  have hp:ps[i]?=some y:=by
   rw [<- S.pre,List.getElem?_take_of_lt (by omega)]; exact h1
  have ndP:ps.Nodup:=by rw [<- S.pre]; exact S.nd.sublist (List.take_sublist _ _)
  refine ⟨u,rv,?_⟩
  rcases S.par y (zMG hp) with k | k
  ·exact .inl ⟨k,xkv ndP hp hu k⟩
  ·obtain ⟨c,e⟩:=xnf (n:=s.heap.objs.size + 1) k
   refine .inr ⟨.inl k,c,e,?_⟩
   have q:=x.cell y c e
   rw [xkx ndP hp hu (by show scope.names.lookup y≠_; rw [k]; decide)] at q
   exact q
 ·exact e0.hok.fresh (Nat.le_of_lt (x.above y c (PySem.mem_of_lookup h)))
 ·unfold xg0
  show _=N.length
  rw [zLA,zLM,List.length_replicate]
  omega
theorem xxg {CX:CXT} {P:Program} {w:World} {K:PySem.W.Frag} {mg:Str->Option Value} {base:Heap} {k:Nat} {f:Addr} {name qual:Str} {params:Arguments} {body:List Stmt} {scope:Scope} {dV kV doc pm cdv ct oc:Value} {an od:Option Addr}
  {osl:Array (Option Value)} {N ps:List Str} {sp:Sp} (lk:K.lookup f=some ⟨oc,od,.func (PySem.W.fnOf name qual params body scope dV kV doc pm an cdv ct),osl⟩) (hcd:PySem.W.codeIn K cdv qual=true) (S:FnScope N ps scope)
  (len:∀ vs H Q E,sp vs H Q E->vs.length=ps.length)
  (hbody:∀ (A:Around) (outer:List Env) (s:Shared) (H:Hp) (vs:List V) (Q:VK) (E:XK),Room k (A.deeper (envOfC qual scope s.heap.objs.size f cdv))->sp vs H Q E->
   ∃ t,PSs (cxOf CX P w K mg base N qual scope f cdv A outer s H E) body t/\t { nx:=fun _ H'=>Q .non H',rt:=Q } (xg0 N vs) H) :
  FnOk P w K mg base CX (k + 1) f (PySem.W.fnOf name qual params body scope dV kV doc pm an cdv ct) ps sp:=by
 refine ⟨len,fun A outer s H args us vs Q E hr e0 hb r hsp=>?_⟩
 have hl:=len _ _ _ _ hsp
 have KX:K.In s.heap:=e0.mod.kin.keeps fun b o e=>(e0.bs b o e).1
 have lim:s.heap.NoLimit:=e0.mod.nolimit.keeps fun b o e=>(e0.bs b o e).1
 have hkind:∀ y∈ps.zip us,scope.names.lookup y.1=some .local\/(scope.names.lookup y.1=some .cell/\((cellsFrom (s.heap.objs.size + 1) scope.names []).lookup y.1).isSome=true):=fun ⟨n,v⟩ hy=>by
  rcases S.par n (List.of_mem_zip hy).1 with q | q
  ·exact .inl q
  ·exact .inr ⟨q,PySem.W.cellsFrom_some _ _ _ (.inl q)⟩
 refine codeAny_call_function hr.depth (KX _ _ lk) rfl S.co S.gen rfl (PySem.W.codeRec_of KX hcd) (hb _ _ _ _ ?_)
 refine wpAny_newFunctionEnv_cells S.kind hkind fun env he s1 x=>?_
 subst he
 refine ⟨lim.keeps x.toInCall.keep,codeAny_func ?_⟩
 obtain ⟨t,ht,hq⟩:=hbody A outer s H vs Q E (hr.deeper _) hsp
 have I:Inv (cxOf CX P w K mg base N qual scope f cdv A outer s H E) [] (xg0 N vs) H s1:=xqb S hr.hd e0 hl r x
 refine wpAny_mono (ht [] s1 (xg0 N vs) H _ I hq) (fun fl s' hs=>?_) fun e s' hs=>hs
 have fin:∀ {σ':St} {H':Hp} {v:V} {u:Value},Inv (cxOf CX P w K mg base N qual scope f cdv A outer s H E) [] σ' H' s'->RelV v u->Q v H'->CE outer P w H s Q u s':=
  fun {σ' H' v u} J rv q=>⟨v,H',J.os,J.bare,J.base,J.hok,rv,q⟩
 cases fl with
 | ret u=>
  obtain ⟨v,σ',H',J,rv,q⟩:=hs
  exact fin J rv q
 | next=>
  obtain ⟨σ',H',J,q⟩:=hs
  exact fin (v:=V.non) (u:=Value.none) J rfl q
 | brk=>
  obtain ⟨_,_,_,q⟩:=hs
  exact False.elim q
 | cont=>
  obtain ⟨_,_,_,q⟩:=hs
  exact False.elim q
end L2
namespace L2
open PySem PySem.Spec PyProof.Rows
section
variable {X:Cx} {x:Str} {p pos:Pos} {e:Expr} {es:List Expr} {t:TA} {id T:String} {r:List V->Hp->VK->Prop}
def tCB (r:List V->Hp->VK->Prop) (t:TA):TE:=fun σ H Q=>t σ H fun vs H1=>r vs H1 Q
theorem xax (hc:xew X (.builtin id) r) (hg:Gl X x) (hm:X.mg x=none) (hv:bootBuiltins x=some (.builtin id)) (ha:PA X (e :: es) t) (hn:x≠"__name__":=by decide) (hdb:(x == ("__debug__":Str))=false:=by decide)
  (he:starEach (e :: es) X.env=(false,eval e X.env) :: starEach es X.env:=by rfl) (hpl:(backTo pos (starEach es X.env)).any (·.1)=false:=by rfl):PE X (.Call (.Name x p) (e :: es) [] pos) (tCB r t):=by
 intro pins s σ H Q I h
 refine wpAny_Call_Name_kw (xfj I hg hm hv ?_ hn hdb)
 exact PyProof.Rows.callWith_builtin1 (thn (ha pos pins s σ H _ I h) fun us s1 ⟨vs,H1,I1,r1,q1⟩=>hc pins s1 σ H1 vs us Q I1 r1 q1) he hpl
theorem xat (hc:xew X (.type T) r) (hg:Gl X x) (hm:X.mg x=none) (hv:bootBuiltins x=some (.type T)) (ha:PA X (e :: es) t) (hn:x≠"__name__":=by decide) (hdb:(x == ("__debug__":Str))=false:=by decide)
  (he:starEach (e :: es) X.env=(false,eval e X.env) :: starEach es X.env:=by rfl) (hpl:(backTo pos (starEach es X.env)).any (·.1)=false:=by rfl):PE X (.Call (.Name x p) (e :: es) [] pos) (tCB r t):=by
 intro pins s σ H Q I h
 refine wpAny_Call_Name_kw (xfj I hg hm hv ?_ hn hdb)
 exact PyProof.Rows.callWith_type1 (thn (ha pos pins s σ H _ I h) fun us s1 ⟨vs,H1,I1,r1,q1⟩=>hc pins s1 σ H1 vs us Q I1 r1 q1) he hpl
end
end L2
namespace HT
open PySem PyProof.Rows
section
variable {prog:Program} {w:World} {A:Around} {E:Value->Shared->Prop} {s:Shared}
def sIx (n d:Nat):Option Int->Nat
 | none=>d
 | some v=>if v < 0 then (v + (n:Int)).toNat else min v.toNat n
theorem sIx_none (n d:Nat):sIx n d none=d:=rfl
theorem sIx_nat (n d k:Nat):sIx n d (some (k:Int))=min k n:=by
 show (if (k:Int) < 0 then ((k:Int) + (n:Int)).toNat else min (k:Int).toNat n)=min k n
 rw [if_neg (by omega),Int.toNat_natCast]
theorem xu3 (n d:Nat) (hd:d<=n) (o:Option Int):sIx n d o<=n:=by
 cases o with
 | none=>exact hd
 | some v=>
  show (if v < 0 then (v + (n:Int)).toNat else min v.toNat n)<=n
  by_cases hv:v < 0
  ·rw [if_pos hv]; omega
  ·rw [if_neg hv]; exact Nat.min_le_right _ _
theorem xqq (v:Int) (n d:Nat):(if v < 0 then max (v + (n:Int)) 0 else min v (n:Int))=((sIx n d (some v):Nat):Int):=by
 show (if v < 0 then max (v + (n:Int)) 0 else min v (n:Int))=(((if v < 0 then (v + (n:Int)).toNat else min v.toNat n):Nat):Int)
 by_cases hv:v < 0
 ·simp only [if_pos hv]; omega
 ·simp only [if_neg hv]; omega
theorem xn6 (lo hi:Option Int) (n:Nat):Builtin.Slice.sliceAdjust lo hi 1 (n:Int)=(((sIx n 0 lo:Nat):Int),((sIx n n hi:Nat):Int)):=by
 have h1:¬ ((1:Int) < 0):=by omega
 unfold Builtin.Slice.sliceAdjust
 simp only [h1,if_false]
 refine Prod.ext ?_ ?_
 ·cases lo with
  | none=>rfl
  | some v=>exact xqq v n 0
 ·cases hi with
  | none=>rfl
  | some v=>exact xqq v n n
theorem xnr (i j:Nat):Builtin.Slice.slicePlaces (i:Int) (j:Int) 1=j - i:=by
 unfold Builtin.Slice.slicePlaces
 have h1:(1:Int) > 0:=by omega
 simp only [h1,if_true,Int.ediv_one]
 split <;> omega
theorem xh3 {v:Value} {o:Option Int} {Q:Option Int->Shared->Prop} (p:IsPart v o) (h:Q o s):wpAny (model prog w) A (Builtin.Slice.slicePartIndex v) Q E s:=by
 cases p with
 | none=>exact slicePart_none h
 | int i t=>exact slicePart_int h
theorem xgf {sl:Addr} {vl vu:Value} {lo hi:Option Int} {n:Nat} {Q:Int×Int×Nat->Shared->Prop} (hs:s.heap.IsSliceOf sl vl vu .none) (pl:IsPart vl lo) (pu:IsPart vu hi)
  (h:Q (((sIx n 0 lo:Nat):Int),1,sIx n n hi - sIx n 0 lo) s):wpAny (model prog w) A (Builtin.Slice.sliceApplied (.ref sl) (pure (n:Int))) Q E s:=by
 obtain ⟨os,hos,hcs,hds⟩:=id hs
 unfold Builtin.Slice.sliceApplied Builtin.Slice.sliceFields
 refine wpAny_bind (wpAny_bind (wpAny_field hos hds (x:=vl) rfl (wpAny_bind (wpAny_field hos hds (x:=vu) rfl (wpAny_bind (wpAny_field hos hds (x:=.none) rfl (wpAny_pure ?_)))))))
 refine wpAny_bind (slicePart_none ?_)
 show wpAny _ _ (if ((1:Int) == 0)=true then _ else _) _ _ s
 rw [if_neg (by decide)]
 refine wpAny_bind (xh3 pl (wpAny_bind (xh3 pu (wpAny_bind (wpAny_pure ?_)))))
 show wpAny _ _ (match Builtin.Slice.sliceAdjust lo hi 1 (n:Int) with | (lo,hi)=>pure (lo,(1:Int),Builtin.Slice.slicePlaces lo hi 1)) _ _ s
 rw [xn6 lo hi n]
 show wpAny _ _ (pure (((sIx n 0 lo:Nat):Int),(1:Int),Builtin.Slice.slicePlaces ((sIx n 0 lo:Nat):Int) ((sIx n n hi:Nat):Int) 1)) _ _ s
 rw [xnr]
 exact wpAny_pure h
theorem xrh (xs:Array Value) (i k:Nat):((List.range k).filterMap fun (m:Nat)=>xs[((i:Int) + (m:Int) * 1).toNat]?).toArray=((xs.toList.drop i).take k).toArray:=by
 have e:(fun (m:Nat)=>xs[((i:Int) + (m:Int) * 1).toNat]?)=fun m=>xs[i + m]?:=by
  funext m
  have:((i:Int) + (m:Int) * 1).toNat=i + m:=by omega
  rw [this]
 rw [e]
 have:=pick_run xs i k
 rw [List.filterMap_map] at this
 have e2:((fun x=>xs[x]?) ∘ fun x=>i + x)=fun m=>xs[i + m]?:=rfl
 rw [e2] at this
 rw [this]
theorem getItem_tuple_cut {t sl:Addr} {items:Array Value} {vl vu:Value} {lo hi:Option Int} {Q:Value->Shared->Prop} (ht:IsTup s.heap t items) (hs:s.heap.IsSliceOf sl vl vu .none) (pl:IsPart vl lo) (pu:IsPart vu hi)
  (hw:¬ (sIx items.size 0 lo=0/\sIx items.size items.size hi=items.size))
  (h:Q (.ref s.heap.objs.size) { s with heap:=s.heap.push { cls:=.type "tuple",data:=.seq ((items.toList.drop (sIx items.size 0 lo)).take (sIx items.size items.size hi - sIx items.size 0 lo)).toArray } })
  (hsz:items.size<=sizeLine):wpAny (model prog w) A (getItem (.ref t) (.ref sl)) Q E s:=by
 have htake:sizeOk (.seq ((items.toList.drop (sIx items.size 0 lo)).take (sIx items.size items.size hi - sIx items.size 0 lo)).toArray):=by
  show ((items.toList.drop (sIx items.size 0 lo)).take (sIx items.size items.size hi - sIx items.size 0 lo)).toArray.size<=sizeLine
  rw [List.size_toArray,List.length_take,List.length_drop,Array.length_toList]
  omega
 have hj:sIx items.size items.size hi<=items.size:=xu3 _ _ (Nat.le_refl _) hi
 obtain ⟨os,hos,hcs,hds⟩:=id hs
 have hTs:s.TypeIs (.ref sl) "slice":=⟨os,hos,hcs⟩
 unfold getItem
 try with_reducible refine wpAny_holding ?_
 first | refine wpAny_bind (wpAny_pure ?_) | skip
 refine wpAny_bind (wpAny_sequenceKey ht.typeIs (by decide) ?_)
 refine wpAny_bind (wpAny_callSpecial?_slot (name:=Str.ofString "__getitem__") ht.typeIs PyProof.Rows.slot_tuple_getitem
  (wpAny_call_entry PyProof.Rows.slot_tuple_getitem ht.typeIs entry_tuple_getitem ?_ (args_tuple_getitem _ _)))
 show wpAny _ _ (Builtin.Tuple.tupleItemsOf (.ref t) >>= _) _ _ s
 refine wpAny_bind (tupleItemsOf_ ht ?_)
 refine wpAny_bind (wpAny_typeOf hTs ?_)
 rw [if_pos (by decide)]
 refine wpAny_bind (xgf hs pl pu ?_)
 have hno:¬ ((((sIx items.size 0 lo:Nat):Int) == 0 && (1:Int) == 1 && (sIx items.size items.size hi - sIx items.size 0 lo) == items.size)=true):=by
  intro q
  rw [Bool.and_eq_true,Bool.and_eq_true] at q
  have q1:((sIx items.size 0 lo:Nat):Int)=0:=eq_of_beq q.1.1
  have q2:sIx items.size items.size hi - sIx items.size 0 lo=items.size:=eq_of_beq q.2
  exact hw ⟨by omega,by omega⟩
 show wpAny _ _ (if (((sIx items.size 0 lo:Nat):Int) == 0 && (1:Int) == 1 && (sIx items.size items.size hi - sIx items.size 0 lo) == items.size)=true then _ else _) _ _ s
 rw [if_neg hno,xrh]
 first
  | exact wpAny_bind (m:=Builtin.Tuple.tupleExact _) (wpAny_newObj_type (wpAny_pure ⟨_,rfl,wpAny_pure h⟩) htake)
  | exact wpAny_bind (m:=Builtin.Tuple.tupleExact _) (wpAny_newObj_type (wpAny_bind (wpAny_pure (wpAny_pure ⟨_,rfl,wpAny_pure h⟩))) htake)
  | exact wpAny_bind (wpAny_bind (m:=Builtin.Tuple.tupleExact _) (wpAny_newObj_type (wpAny_pure (wpAny_pure ⟨_,rfl,wpAny_pure h⟩)) htake))
  | exact wpAny_bind (wpAny_bind (m:=Builtin.Tuple.tupleExact _) (wpAny_newObj_type (wpAny_pure ⟨_,rfl,wpAny_pure h⟩) htake))
end
end HT
namespace L2
open PySem PySem.Spec PyProof.Rows
abbrev TO:=St->Hp->(Option Int->Hp->Prop)->Prop
def PO (X:Cx) (e:Option Expr) (t:TO):Prop:=
 ∀ (pins:List (Addr×Obj)) (s:Shared) (σ:St) (H:Hp) (Q:Option Int->Hp->Prop),Inv X pins σ H s->t σ H Q->
  wpAny (model X.prog X.w) X.A (evalPart e X.env) (fun u s'=>∃ o H',Inv X pins σ H' s'/\IsPart u o/\Q o H') X.xe s
def xtc:TO:=fun _ H Q=>Q none H
def xwl (t:TE):TO:=fun σ H Q=>t σ H fun x H1=>∃ i,x=.int i/\Q (some i) H1
theorem xf0 {ns:List Int}:∀ {us:List Value},Vals (ns.map V.int) us->IntsAre us ns:=by
 induction ns with
 | nil=>intro us r; rw [List.map_nil] at r; cases r; exact .nil
 | cons n ns ih=>
  intro us r
  rw [List.map_cons] at r
  cases r with
  | cons r1 r2=>
   obtain ⟨t,e⟩:=r1
   subst e
   exact .cons n t (ih r2)
section
variable {X:Cx} {e:Expr} {te:TE} {lo hi:Option Expr} {tl th:TO} {pos p2:Pos}
theorem xe5:PO X none xtc:=by
 intro pins s σ H Q I h
 rw [evalPart_none]
 exact wpAny_pure ⟨none,H,I,.none,h⟩
theorem xda (h:PE X e te):PO X (some e) (xwl te):=by
 intro pins s σ H Q I hw
 rw [evalPart_some]
 refine thn (h pins s σ H _ I hw) fun u s1 ⟨x,H1,I1,r1,q1⟩=>?_
 obtain ⟨i,rfl,q⟩:=q1
 obtain ⟨t,rfl⟩:=r1
 exact ⟨some i,H1,I1,.int i t,q⟩
def SlR (X:Cx) (r:V->Option Int->Option Int->Hp->VK->Prop):Prop:=
 ∀ (pins:List (Addr×Obj)) (s:Shared) (σ:St) (H:Hp) (x:V) (v vl vu:Value) (lo hi:Option Int) (sl:Addr) (Q:VK),Inv X pins σ H s->RelV x v->s.heap.IsSliceOf sl vl vu .none->IsPart vl lo->IsPart vu hi->r x lo hi H Q->
  ∃ T id,typeLookup (.type T) "__getitem__"=pure (some (.builtin id))/\s.TypeIs v T/\wpAny (model X.prog X.w) X.A (getItem v (.ref sl)) (EP X pins σ Q) X.xe s
def tSl (r:V->Option Int->Option Int->Hp->VK->Prop) (te:TE) (tl th:TO):TE:=fun σ H Q=>te σ H fun x H1=>tl σ H1 fun l H2=>th σ H2 fun u H3=>r x l u H3 Q
theorem xc4 {r:V->Option Int->Option Int->Hp->VK->Prop} (hr:SlR X r) (he:PE X e te) (hl:PO X lo tl) (hu:PO X hi th):PE X (.Subscript e (.Slice lo hi none p2) pos) (tSl r te tl th):=by
 intro pins s σ H Q I h
 refine Subscript_ (thn (he pins s σ H _ I h) fun v s1 ⟨x,H1,I1,r1,q1⟩=>?_)
 refine wpAny_Slice (thn (hl pins s1 σ H1 _ I1 q1) fun vl s2 ⟨l,H2,I2,pl,q2⟩=>thn (hu pins s2 σ H2 _ I2 q2) fun vu s3 ⟨u,H3,I3,pu,q3⟩=>?_)
 rw [evalPart_none]
 refine wpAny_pure ?_
 have I4:Inv X pins σ H3 { s3 with heap:=s3.heap.push { cls:=.type "slice",data:=.fields #[vl,vu,.none] } }:=I3.kept (t':=s3.toks) fun b ob q=>zPO _ q
 obtain ⟨T,id,hT,ht,hg⟩:=hr pins { s3 with heap:=s3.heap.push { cls:=.type "slice",data:=.fields #[vl,vu,.none] } } σ H3 x v vl vu l u s3.heap.objs.size Q I4 r1 (Heap.IsSliceOf.new ..) pl pu q3
 show wpAny (model X.prog X.w) X.A (subscriptTail e (.Slice lo hi none p2) v (.ref s3.heap.objs.size)) (EP X pins σ Q) X.xe { s3 with heap:=s3.heap.push { cls:=.type "slice",data:=.fields #[vl,vu,.none] } }
 exact tail_any (ops:=[.ref s3.heap.objs.size,v]) ht hT hg (by with_unfolding_all rfl)
def cutV (xs:List V) (lo hi:Option Int):List V:=(xs.drop (HT.sIx xs.length 0 lo)).take (HT.sIx xs.length xs.length hi - HT.sIx xs.length 0 lo)
theorem xhp (xs:List V) (lo hi:Option Int):(cutV xs lo hi).length<=xs.length:=by
 unfold cutV
 rw [List.length_take,List.length_drop]
 omega
def rSlT (K:PySem.W.Frag):V->Option Int->Option Int->Hp->VK->Prop:=fun x lo hi H Q=>∃ a xs,x=.ref a/\SqT K H a xs ∧
 ¬ (HT.sIx xs.length 0 lo=0/\HT.sIx xs.length xs.length hi=xs.length)/\∀ p,H p=none->Q (.ref p) (upd H p (.tup (cutV xs lo hi)))
theorem xsj:SlR X (rSlT X.K):=by
 intro pins s σ H x v vl vu lo hi sl Q I rx hs pl pu h
 obtain ⟨a,xs,rfl,hx,hw,q⟩:=h
 cases rx
 obtain ⟨its,r,ht,hz⟩:=I.tuple hx
 have hlen:its.toArray.size=xs.length:=by rw [List.size_toArray]; exact r.length.symm
 refine ⟨"tuple",_,PyProof.Rows.slot_tuple_getitem.lookup,ht.typeIs,?_⟩
 refine HT.getItem_tuple_cut ht hs pl pu (by rw [hlen]; exact hw) ?_ (by rw [hlen]; exact hz)
 rw [hlen]
 refine ⟨.ref s.heap.objs.size,_,I.laid (t':=s.toks) (o:=.tup (cutV xs lo hi)) (fun b ob q=>zPO _ q) (Nat.le_refl _) ?_,rfl,q _ (I.hok.fresh (Nat.le_refl _))⟩
 exact ⟨Nat.le_trans (xhp xs lo hi) hz,_,(r.drop (HT.sIx xs.length 0 lo)).take (HT.sIx xs.length xs.length hi - HT.sIx xs.length 0 lo),_,Heap.get?_push_size _ rfl,rfl,_,rfl,rfl⟩
end
end L2
namespace L2
open PySem PySem.Spec PyProof.Rows
def ixN (n:Nat) (i:Int):Option Nat:=if 0<=i then (if i < n then some i.toNat else none) else if -(n:Int)<=i then some (i + n).toNat else none
def atI {α:Type} (xs:List α) (i:Int):Option α:=(ixN xs.length i).bind fun j=>xs[j]?
theorem xqa {n:Nat} {i:Int} {j:Nat} (h:ixN n i=some j):seqIndex? i n=some j/\j < n/\-(n:Int)<=i/\i < n:=by
 unfold ixN at h
 by_cases h0:0<=i
 ·rw [if_pos h0] at h
  by_cases h1:i < n
  ·rw [if_pos h1] at h
   have e:i.toNat=j:=Option.some.inj h
   exact ⟨by rw [seqIndex_of h0 h1,e],by omega,by omega,h1⟩
  ·rw [if_neg h1] at h; cases h
 ·rw [if_neg h0] at h
  by_cases h1:-(n:Int)<=i
  ·rw [if_pos h1] at h
   have e:(i + n).toNat=j:=Option.some.inj h
   exact ⟨by rw [seqIndex_neg (by omega) h1,e],by omega,h1,by omega⟩
  ·rw [if_neg h1] at h; cases h
theorem xma {α:Type} {xs:List α} {i:Int} {v:α} (h:atI xs i=some v):∃ j,seqIndex? i xs.length=some j/\xs[j]?=some v/\j < xs.length/\-(xs.length:Int)<=i/\i < xs.length:=by
 unfold atI at h
 cases e:ixN xs.length i with
 | none=>rw [e] at h; cases h
 | some j=>
  rw [e] at h
  obtain ⟨h1,h2,h3,h4⟩:=xqa e
  exact ⟨j,h1,h,h2,h3,h4⟩
theorem xaz {α:Type} {xs:List α} {j:Nat} {v:α} (h:xs[j]?=some v):atI xs (j:Int)=some v:=by
 have hj:j < xs.length:=(zES h).1
 have e:ixN xs.length (j:Int)=some j:=by
  unfold ixN
  rw [if_pos (by omega),if_pos (by omega)]; simp
 unfold atI; rw [e]; exact h
def xui (b:Expr):Prop:=∀ o i,subscripted b false o i=operate [o,i] (getItem o i)
def IxR (X:Cx) (r:R2):Prop:=
 ∀ (value slice:Expr) (pins:List (Addr×Obj)) (s:Shared) (σ:St) (H:Hp) (x y:V) (v u:Value) (Q:VK),Inv X pins σ H s->RelV x v->RelV y u->r x y H Q->
  subscripted slice false v u=operate [v,u] (getItem v u)->wpAny (model X.prog X.w) X.A (subscriptTail value slice v u) (EP X pins σ Q) X.xe s
def MtR (X:Cx) (id:String) (r:V->List V->Hp->VK->Prop):Prop:=
 ∀ (pins:List (Addr×Obj)) (s:Shared) (σ:St) (H:Hp) (x:V) (xs:List V) (v:Value) (us:List Value) (Q:VK),Inv X pins σ H s->RelV x v->Vals xs us->r x xs H Q->
  wpAny (model X.prog X.w) X.A (call (.builtin id) (v :: us)) (EP X pins σ Q) X.xe s
section
variable {X:Cx} {a b:Expr} {ta tb:TE} {pos:Pos}
theorem xaj {r:R2} (hr:IxR X r) (ha:PE X a ta) (hb:PE X b tb) (hs:xui b):PE X (.Subscript a b pos) (tOp r ta tb):=by
 intro pins s σ H Q I h
 exact Subscript_ (binT ha hb I h fun v u s2 x y H2 I2 rx ry q=>hr a b pins s2 σ H2 x y v u Q I2 rx ry q (hs _ _))
def rIxL (K:PySem.W.Frag):R2:=fun x y H Q=>∃ p xs i v,x=.ref p/\y=.int i/\SqL K H p xs/\atI xs i=some v/\Q v H
def rIxT (K:PySem.W.Frag):R2:=fun x y H Q=>∃ p xs i v,x=.ref p/\y=.int i/\SqT K H p xs/\atI xs i=some v/\Q v H
def rIxS:R2:=fun x y H Q=>∃ z i c,x=.str z/\y=.int i/\z.length<=sizeLine/\atI z.cps.toList i=some c/\Q (.str ⟨#[c]⟩) H
theorem iL:IxR X (rIxL X.K):=by
 intro value slice pins s σ H x y v u Q I rx ry h hs
 obtain ⟨p,xs,i,z,rfl,rfl,hq,he,q⟩:=h
 cases rx
 obtain ⟨t,rfl⟩:=ry
 obtain ⟨its,r,pl,hz⟩:=I.list hq
 obtain ⟨j,h1,h2,h3,h4,h5⟩:=xma he
 obtain ⟨w,ew,rw'⟩:=r.get h2
 have hl:=r.length
 have hn:=xkc
 have fin:EP X pins σ Q w s:=⟨z,H,I,rw',q⟩
 by_cases h0:0<=i
 ·have hj:i.toNat=j:=by
   rw [seqIndex_of h0 h5] at h1
   exact Option.some.inj h1
  exact item_listR pl.isList h0 (by omega) (by rw [hj]; simpa using ew) fin hs
 ·have hj:(i + (its.toArray.size:Int)).toNat=j:=by
   rw [seqIndex_neg (by omega) h4] at h1
   rw [List.size_toArray,<- hl]
   exact Option.some.inj h1
  exact subscriptTail_builtinR (x:=w) pl.isList.typeIs slot_list_getitem.lookup
   (wpAny_getItem_list_neg (Q:=fun r s'=>r=w/\EP X pins σ Q r s') pl.isList (by omega) (by rw [List.size_toArray] <;> omega) (by omega) (by rw [hj]; simpa using ew) ⟨rfl,fin⟩) hs
theorem xai:IxR X (rIxT X.K):=by
 intro value slice pins s σ H x y v u Q I rx ry h hs
 obtain ⟨p,xs,i,z,rfl,rfl,hq,he,q⟩:=h
 cases rx
 obtain ⟨t,rfl⟩:=ry
 obtain ⟨its,r,pl,hz⟩:=I.tuple hq
 obtain ⟨j,h1,h2,h3,h4,h5⟩:=xma he
 obtain ⟨w,ew,rw'⟩:=r.get h2
 have hl:=r.length
 have hn:=xkc
 have fin:EP X pins σ Q w s:=⟨z,H,I,rw',q⟩
 exact subscriptTail_builtinR (x:=w) pl.typeIs slot_tuple_getitem.lookup
  (getItem_tuple (j:=j) (Q:=fun r s'=>r=w/\EP X pins σ Q r s') pl (by omega) (by omega) (by rw [List.size_toArray,<- hl]; exact h1) (by simpa using ew) ⟨rfl,fin⟩) hs
theorem xm4:IxR X rIxS:=by
 intro value slice pins s σ H x y v u Q I rx ry h hs
 obtain ⟨z,i,c,rfl,rfl,hz,he,q⟩:=h
 obtain ⟨t,rfl⟩:=rx
 obtain ⟨t',rfl⟩:=ry
 obtain ⟨j,h1,h2,h3,h4,h5⟩:=xma he
 have hl:z.cps.toList.length=z.length:=by simp [Str.length]
 rw [hl] at h1 h4 h5
 have hn:=xkc
 exact tail_any (typeIs_str s z t) slot_str_getitem.lookup (getItem_str (c:=c) (by
  have e1:decide (i < -(2 ^ 63:Int))=false:=zDF (by omega)
  have e2:decide (i ≥ 2 ^ 63)=false:=zDF (by omega)
  rw [e1,e2,Bool.or_false]) (by rw [h1]; simpa using h2) ⟨.str ⟨#[c]⟩,H,I.tok _,⟨_,rfl⟩,q⟩) hs
theorem xnz (its:List Value) (n j:Nat) (u:Value):Obj.mapSeq (·.setIfInBounds j u) { cls:=.type "list",data:=.seq its.toArray n }={ cls:=.type "list",data:=.seq (its.set j u).toArray n }:=by
 simp [Obj.mapSeq]
theorem Inv.lst {pins:List (Addr×Obj)} {σ:St} {H:Hp} {s:Shared} {p:Addr} {xs:List V} (I:Inv X pins σ H s) (h:H p=some (.lst xs)) :
  ∃ (its:List Value) (n:Nat),Vals xs its/\s.heap.get? p=some { cls:=.type "list",data:=.seq its.toArray n }/\xs.length<=sizeLine:=by
 obtain ⟨z,its,n,r,e⟩:=I.hok p _ h
 exact ⟨its,n,r,e,z⟩
theorem Inv.lstUpd {pins:List (Addr×Obj)} {σ:St} {H:Hp} {s:Shared} {p:Addr} {xs ys:List V} {its its':List Value} {n n':Nat} {f:Obj->Obj} (I:Inv X pins σ H s) (h:H p=some (.lst xs))
  (ho:s.heap.get? p=some { cls:=.type "list",data:=.seq its.toArray n }) (hf:f { cls:=.type "list",data:=.seq its.toArray n }={ cls:=.type "list",data:=.seq its'.toArray n' }) (r:Vals ys its') (hz:ys.length<=sizeLine) (t:Nat) :
  Inv X pins σ (upd H p (.lst ys)) { s with heap:=s.heap.update p f,toks:=t }:=by
 have e:(s.heap.update p f).get? p=some { cls:=.type "list",data:=.seq its'.toArray n' }:=by
  rw [Heap.get?_update_self f ho (by rw [hf] <;> rfl),hf]
 refine I.write (x:=p) (e:=p) (by rw [h]; trivial) (.inl rfl) (fun b u hb q=>(Heap.get?_update_other _ _ (Ne.symm hb)).trans q) ⟨_,e⟩ ?_
 exact ⟨hz,its',n',r,e⟩
def xwx:V->V->V->Hp->(Hp->Prop)->Prop:=fun o i v H Q=>∃ p xs k j,o=.ref p/\i=.int k/\H p=some (.lst xs)/\ixN xs.length k=some j/\Q (upd H p (.lst (xs.set j v)))
theorem xgn:PSet X xwx:=by
 intro pins s σ H o i v ov iv u Q I ro ri rv h
 obtain ⟨p,xs,k,j,rfl,rfl,hp,hj,q⟩:=h
 cases ro
 obtain ⟨t,rfl⟩:=ri
 obtain ⟨its,n,r,ho,hz⟩:=I.lst hp
 obtain ⟨h1,h2,h3,h4⟩:=xqa hj
 have hl:=r.length
 have hn:=xkc
 have I':Inv X pins σ (upd H p (.lst (xs.set j v))) { s with heap:=s.heap.update p (Obj.mapSeq (·.setIfInBounds j u)) }:=
  I.lstUpd hp ho (xnz its n j u) (r.set rv j) (by rw [List.length_set]; exact hz) s.toks
 by_cases h0:0<=k
 ·have hk:k.toNat=j:=by
   rw [seqIndex_of h0 h4] at h1
   exact Option.some.inj h1
  exact PySem.W.ki_setAt ho h0 (by omega) (by rw [List.size_toArray,<- hl]; exact h4) (by rw [hk]; exact ⟨_,I',q⟩)
 ·have hk:(k + (its.toArray.size:Int)).toNat=j:=by
   rw [seqIndex_neg (by omega) h3] at h1
   rw [List.size_toArray,<- hl]
   exact Option.some.inj h1
  exact PySem.W.ki_setBack ho (by omega) (by rw [List.size_toArray,<- hl]; exact h3) (by omega) (by rw [hk]; exact ⟨_,I',q⟩)
theorem xjp (lo hi:Option Int) (n:Nat):(sliceBounds lo hi none n).1=((HT.sIx n 0 lo:Nat):Int)/\(sliceBounds lo hi none n).2.1=((HT.sIx n n hi:Nat):Int)/\(sliceBounds lo hi none n).2.2=1:=by
 refine ⟨?_,?_,rfl⟩
 ·cases lo with
  | none=>simp [sliceBounds,HT.sIx]
  | some i=>
   simp only [sliceBounds,HT.sIx,Option.getD_none,show (1:Int) > 0 by decide,if_true]
   by_cases h:i < 0
   ·simp only [h,if_true] <;> omega
   ·simp only [h,if_false] <;> omega
 ·cases hi with
  | none=>simp [sliceBounds,HT.sIx]
  | some i=>
   simp only [sliceBounds,HT.sIx,Option.getD_none,show (1:Int) > 0 by decide,if_true]
   by_cases h:i < 0
   ·simp only [h,if_true] <;> omega
   ·simp only [h,if_false] <;> omega
theorem xio (its:List Value) (lo hi:Option Int):slicePick its.toArray lo hi none=((its.drop (HT.sIx its.length 0 lo)).take (HT.sIx its.length its.length hi - HT.sIx its.length 0 lo)).toArray:=by
 obtain ⟨h1,h2,h3⟩:=xjp lo hi its.toArray.size
 unfold slicePick
 rw [h1,h2,h3]
 simp only [sliceRange_one,pick_run,List.size_toArray] <;> rfl
def rSlL (K:PySem.W.Frag):V->Option Int->Option Int->Hp->VK->Prop:=fun x lo hi H Q=>∃ a xs,x=.ref a/\SqL K H a xs/\∀ p,H p=none->Q (.ref p) (upd H p (.lst (cutV xs lo hi)))
theorem xg4:SlR X (rSlL X.K):=by
 intro pins s σ H x v vl vu lo hi sl Q I rx hs pl pu h
 obtain ⟨a,xs,rfl,hx,q⟩:=h
 cases rx
 obtain ⟨its,r,ht,hz⟩:=I.list hx
 have hlen:=r.length
 refine ⟨"list",_,slot_list_getitem.lookup,ht.isList.typeIs,?_⟩
 refine wpAny_getItem_list_slice ht.isList hs pl pu .none (by simp) ?_ (by rw [List.size_toArray] <;> omega)
 rw [xio,<- hlen]
 refine ⟨.ref s.heap.objs.size,_,I.laid (t':=s.toks) (o:=.lst (cutV xs lo hi)) (fun b ob q=>zPO _ q) (Nat.le_refl _) ?_,rfl,q _ (I.hok.fresh (Nat.le_refl _))⟩
 exact ⟨Nat.le_trans (xhp xs lo hi) hz,_,0,(r.drop (HT.sIx xs.length 0 lo)).take (HT.sIx xs.length xs.length hi - HT.sIx xs.length 0 lo),Heap.get?_push_size _ rfl⟩
def xgi:V->Bool
 | .non=>true
 | .bl _=>true
 | .int _=>true
 | .str _=>true
 | _=>false
def eqV:V->V->Bool
 | .non,.non=>true
 | .bl a,.bl b=>a == b
 | .bl a,.int b=>(if a then 1 else 0) == b
 | .int a,.bl b=>a == (if b then 1 else 0)
 | .int a,.int b=>a == b
 | .str a,.str b=>a == b
 | _,_=>false
theorem xv8 {A:Around} {s:Shared} {y x:V} {u v:Value} (ry:RelV y u) (rx:RelV x v) (fy:xgi y=true) (fx:xgi x=true):SeqAt.EqAt A s u v (eqV y x):=by
 cases y with
 | non=>
  cases ry
  cases x with
  | non=>cases rx; exact SeqAt.EqAt.same _
  | bl b=>cases rx; exact SeqAt.EqAt.none_bool b
  | int b=>obtain ⟨t,rfl⟩:=rx; exact SeqAt.EqAt.none_int b t
  | str b=>obtain ⟨t,rfl⟩:=rx; exact SeqAt.EqAt.none_str b t
  | _=>exact absurd (show false=true from fx) Bool.false_ne_true
 | bl a=>
  cases ry
  cases x with
  | non=>cases rx; exact SeqAt.EqAt.bool_none a
  | bl b=>cases rx; exact SeqAt.EqAt.bool_bool a b
  | int b=>obtain ⟨t,rfl⟩:=rx; exact SeqAt.EqAt.bool_int a b t
  | str b=>obtain ⟨t,rfl⟩:=rx; exact SeqAt.EqAt.bool_str a b t
  | _=>exact absurd (show false=true from fx) Bool.false_ne_true
 | int a=>
  obtain ⟨t',rfl⟩:=ry
  cases x with
  | non=>cases rx; exact SeqAt.EqAt.int_none a t'
  | bl b=>cases rx; exact SeqAt.EqAt.int_bool a t' b
  | int b=>obtain ⟨t,rfl⟩:=rx; exact SeqAt.EqAt.int_int a t' b t
  | str b=>obtain ⟨t,rfl⟩:=rx; exact SeqAt.EqAt.int_str a t' b t
  | _=>exact absurd (show false=true from fx) Bool.false_ne_true
 | str a=>
  obtain ⟨t',rfl⟩:=ry
  cases x with
  | non=>cases rx; exact SeqAt.EqAt.str_none a t'
  | bl b=>cases rx; exact SeqAt.EqAt.str_bool a t' b
  | int b=>obtain ⟨t,rfl⟩:=rx; exact SeqAt.EqAt.str_int a t' b t
  | str b=>obtain ⟨t,rfl⟩:=rx; exact SeqAt.EqAt.str_str a t' b t
  | _=>exact absurd (show false=true from fx) Bool.false_ne_true
 | _=>exact absurd (show false=true from fy) Bool.false_ne_true
def eqU (x:V) (u:Value):Bool:=match u with
 | .none=>eqV .non x
 | .bool b=>eqV (.bl b) x
 | .int i _=>eqV (.int i) x
 | .str z _=>eqV (.str z) x
 | _=>false
theorem xqj {x y:V} {u:Value} (r:RelV y u) (f:xgi y=true):eqU x u=eqV y x:=by
 cases y with
 | non=>cases r; rfl
 | bl b=>cases r; rfl
 | int i=>obtain ⟨t,rfl⟩:=r; rfl
 | str z=>obtain ⟨t,rfl⟩:=r; rfl
 | _=>exact absurd (show false=true from f) Bool.false_ne_true
theorem xhr {x:V}:∀ {xs:List V} {us:List Value},Vals xs us->xs.all xgi=true->us.any (eqU x)=xs.any fun y=>eqV y x
 | _,_,.nil,_=>rfl
 | y :: xs,u :: us,.cons r t,f=>by
  rw [List.all_cons,Bool.and_eq_true] at f
  rw [List.any_cons,List.any_cons,xqj r f.1,xhr t f.2]
theorem xes {A:Around} {s:Shared} {x:V} {v:Value} (rx:RelV x v) (fx:xgi x=true):∀ {xs:List V} {us:List Value},Vals xs us->xs.all xgi=true->∀ u∈us,SeqAt.EqAt A s u v (eqU x u)
 | _,_,.nil,_=>fun u hu=>by cases hu
 | y :: xs,u :: us,.cons r t,f=>fun u' hu=>by
  rw [List.all_cons,Bool.and_eq_true] at f
  rcases zMC hu with rfl | hu
  ·rw [xqj r f.1]; exact xv8 r rx f.1 fx
  ·exact xes rx fx t f.2 u' hu
def inV (x:V) (xs:List V):Bool:=xs.any fun y=>eqV y x
def rIn (K:PySem.W.Frag) (neg:Bool):R2:=fun x y H Q=>∃ p xs,y=.ref p/\(SqL K H p xs\/SqT K H p xs)/\xgi x=true/\xs.all xgi=true/\Q (.bl (if neg then !inV x xs else inV x xs)) H
theorem xff:OpR X (compareOp .In) (rIn X.K false):=by
 intro pins s σ H x y v u Q I rx ry h
 obtain ⟨p,xs,rfl,hq,fx,fs,q⟩:=h
 cases ry
 rcases hq with hq | hq
 ·obtain ⟨its,r,pl,hz⟩:=I.list hq
  refine SeqAt.in_listAt (eqU x) pl.isList (fun w hw=>xes rx fx r fs w (by simpa using hw)) ⟨.bl _,H,I,rfl,?_⟩
  rw [show its.toArray.any (eqU x)=its.any (eqU x) by simp,xhr r fs]
  exact q
 ·obtain ⟨its,r,pl,hz⟩:=I.tuple hq
  refine SeqAt.in_tupleAt (eqU x) pl (fun w hw=>xes rx fx r fs w (by simpa using hw)) ⟨.bl _,H,I,rfl,?_⟩
  rw [show its.toArray.any (eqU x)=its.any (eqU x) by simp,xhr r fs]
  exact q
theorem xjv:OpR X (compareOp .NotIn) (rIn X.K true):=by
 intro pins s σ H x y v u Q I rx ry h
 obtain ⟨p,xs,rfl,hq,fx,fs,q⟩:=h
 cases ry
 rcases hq with hq | hq
 ·obtain ⟨its,r,pl,hz⟩:=I.list hq
  refine SeqAt.notIn_listAt (eqU x) pl.isList (fun w hw=>xes rx fx r fs w (by simpa using hw)) ⟨.bl _,H,I,rfl,?_⟩
  rw [show its.toArray.any (eqU x)=its.any (eqU x) by simp,xhr r fs]
  exact q
 ·obtain ⟨its,r,pl,hz⟩:=I.tuple hq
  refine SeqAt.notIn_tupleAt (eqU x) pl (fun w hw=>xes rx fx r fs w (by simpa using hw)) ⟨.bl _,H,I,rfl,?_⟩
  rw [show its.toArray.any (eqU x)=its.any (eqU x) by simp,xhr r fs]
  exact q
theorem xao:xew X (.builtin "len") (fun xs H Q=>∃ p ys,xs=[.ref p]/\(SqL X.K H p ys\/SqT X.K H p ys)/\Q (.int ys.length) H):=by
 intro pins s σ H xs us Q I r h
 obtain ⟨p,ys,rfl,hq,q⟩:=h
 obtain ⟨u,rfl,rx⟩:=xfb r
 cases rx
 have hn:=xkc
 rcases hq with hq | hq
 ·obtain ⟨its,r',pl,hz⟩:=I.list hq
  have hlen:=r'.length
  exact Calls.call_len_list pl.isList (by simp only [List.size_toArray] <;> omega) ⟨.int ys.length,H,I.tok _,⟨s.toks + 1,by rw [List.size_toArray,hlen]⟩,q⟩
 ·obtain ⟨its,r',pl,hz⟩:=I.tuple hq
  have hlen:=r'.length
  exact len_tuple pl (by simp only [List.size_toArray] <;> omega) ⟨.int ys.length,H,I.tok _,⟨s.toks + 1,by rw [List.size_toArray,hlen]⟩,q⟩
theorem xks:xew X (.type "list") (fun xs H Q=>∃ p ys,xs=[.ref p]/\(SqL X.K H p ys\/SqT X.K H p ys)/\∀ l,H l=none->Q (.ref l) (upd H l (.lst ys))):=by
 intro pins s σ H xs us Q I r h
 obtain ⟨p,ys,rfl,hq,q⟩:=h
 obtain ⟨u,rfl,rx⟩:=xfb r
 cases rx
 have fin:∀ (its:List Value),Vals ys its->ys.length<=sizeLine->∀ (h':Heap) (c':Nat),(∀ b o',s.heap.get? b=some o'->h'.get? b=some o')->
   h'.get? s.heap.objs.size=some { cls:=.type "list",dict:=none,data:=.seq its.toArray c',slots:=#[] }->EP X pins σ Q (.ref s.heap.objs.size) { s with heap:=h' }:=fun its r' hz h' c' kp e=>
  ⟨.ref s.heap.objs.size,_,I.laid (t':=s.toks) kp (Nat.le_refl _) (show ObjOk X.prog X.w _ h' _ (.lst ys) from ⟨hz,its,c',r',e⟩),rfl,q _ (I.hok.fresh (Nat.le_refl _))⟩
 rcases hq with hq | hq
 ·obtain ⟨its,r',pl,hz⟩:=I.list hq
  have hlen:=r'.length
  obtain ⟨o,ho,hc,n,hd⟩:=pl.isList
  exact call_list_seq p (.inl rfl) ho hc hd (fun h' c' kp e=>fin its r' hz h' c' kp e) (by simp only [List.size_toArray] <;> omega)
 ·obtain ⟨its,r',pl,hz⟩:=I.tuple hq
  have hlen:=r'.length
  obtain ⟨o,ho,hc,n,hd⟩:=pl
  exact call_list_seq p (.inr rfl) ho hc hd (fun h' c' kp e=>fin its r' hz h' c' kp e) (by simp only [List.size_toArray] <;> omega)
theorem xa2:xew X (.type "tuple") (fun xs H Q=>∃ p ys,xs=[.ref p]/\((SqL X.K H p ys/\∀ l,H l=none->Q (.ref l) (upd H l (.tup ys)))\/(SqT X.K H p ys/\Q (.ref p) H))):=by
 intro pins s σ H xs us Q I r h
 obtain ⟨p,ys,rfl,h⟩:=h
 obtain ⟨u,rfl,rx⟩:=xfb r
 cases rx
 rcases h with ⟨hq,q⟩ | ⟨hq,q⟩
 ·obtain ⟨its,r',pl,hz⟩:=I.list hq
  have hlen:=r'.length
  refine call_tuple_list pl.isList (fun h' kp=>?_) (by simp only [List.size_toArray] <;> omega)
  have I1:Inv X pins σ H { s with heap:=h' }:=I.kept (t':=s.toks) kp
  have I2:Inv X pins σ (upd H h'.objs.size (.tup ys)) { s with heap:=h'.push { cls:=.type "tuple",data:=.seq its.toArray } }:=
   I1.laid (t':=s.toks) (fun b o e=>zPO _ e) (Nat.le_refl _) (show ObjOk X.prog X.w _ _ _ (.tup ys) from ⟨hz,its,r',_,Heap.get?_push_size _ rfl,rfl,_,rfl,rfl⟩)
  exact ⟨.ref h'.objs.size,_,I2,rfl,q _ (I1.hok.fresh (Nat.le_refl _))⟩
 ·obtain ⟨its,r',pl,hz⟩:=I.tuple hq
  exact call_tuple_same pl ⟨.ref p,H,I,rfl,q⟩
def tyV (K:PySem.W.Frag) (T:String) (x:V) (H:Hp):Prop:=match x with
 | .str _=>T="str"
 | .int _=>T="int"
 | .ref p=>(T="list"/\∃ xs,SqL K H p xs)\/(T="tuple"/\∃ o,K.lookup p=some o/\o.cls=.type "tuple"/\o.dict=none) ∨
   (T="dict"/\((∃ kvs,H p=some (.dK kvs))\/∃ kvs,H p=some (.dT kvs)))\/(T="set"/\∃ S n,H p=some (.set S n))
 | _=>False
theorem xsg {pins:List (Addr×Obj)} {σ:St} {H:Hp} {s:Shared} {T:String} {x:V} {v:Value} (I:Inv X pins σ H s) (r:RelV x v) (ty:tyV X.K T x H) :
  s.TypeIs v T/\∀ a,v=.ref a->∃ ob,s.heap.get? a=some ob/\ob.dict=none:=by
 cases x with
 | str z=>
  obtain ⟨t,rfl⟩:=r
  cases (show T="str" from ty)
  exact ⟨typeIs_str s z t,fun _ e=>nomatch e⟩
 | int i=>
  obtain ⟨t,rfl⟩:=r
  cases (show T="int" from ty)
  exact ⟨typeIs_int s i t,fun _ e=>nomatch e⟩
 | ref p=>
  cases r
  rcases ty with ⟨rfl,xs,hq⟩ | ⟨rfl,o,hk,hc,hd⟩ | ⟨rfl,hk⟩ | ⟨rfl,S,n,hk⟩
  ·obtain ⟨its,_,pl,_⟩:=I.list hq
   refine ⟨pl.isList.typeIs,fun a e=>?_⟩
   cases e
   obtain ⟨o,n,e,c,hd,_⟩:=pl
   exact ⟨o,e,hd⟩
  ·refine ⟨⟨o,I.kIn p o hk,hc⟩,fun a e=>?_⟩
   cases e
   exact ⟨o,I.kIn _ o hk,hd⟩
  ·have z:∃ o,s.heap.get? p=some o/\o.ExactDict:=by
    rcases hk with ⟨kvs,hk⟩ | ⟨kvs,hk⟩
    ·obtain ⟨_,_,_,_,o,_,_,e,ex,_⟩:=I.hok p _ hk
     exact ⟨o,e,ex⟩
    ·obtain ⟨_,_,_,_,o,_,_,e,ex,_⟩:=I.hok p _ hk
     exact ⟨o,e,ex⟩
   obtain ⟨o,e,ex⟩:=z
   refine ⟨⟨o,e,ex.1⟩,fun a e2=>?_⟩
   cases e2
   exact ⟨o,e,ex.2.1⟩
  ·obtain ⟨o,_,_,_,e,ex,_⟩:=I.hok p _ hk
   refine ⟨⟨o,e,ex.1⟩,fun a e2=>?_⟩
   cases e2
   exact ⟨o,e,ex.2.1⟩
 | _=>exact False.elim ty
def tBM0 (K:PySem.W.Frag) (T:String) (r:V->List V->Hp->VK->Prop) (to:TE):TE:=fun σ H Q=>to σ H fun x H1=>tyV K T x H1/\r x [] H1 Q
def tBM (K:PySem.W.Frag) (T:String) (r:V->List V->Hp->VK->Prop) (to:TE) (t:TA):TE:=fun σ H Q=>to σ H fun x H1=>tyV K T x H1/\t σ H1 fun xs H2=>r x xs H2 Q
variable {o e:Expr} {es:List Expr} {to:TE} {t:TA} {name:Str} {apos cpos:Pos} {T id:String} {r:V->List V->Hp->VK->Prop}
theorem xsm (pa:PlainAttrs T) (slot:Slot T name id) (hty:typeOf (.builtin id)=pure (.type "method_descriptor")) (hm:MtR X id r) (ho:PE X o to)
  (hbase:attributeBase o name X.env (eval o X.env)=eval o X.env:=by rfl) (hline:(apos.endLine == cpos.line)=true:=by rfl):PE X (.Call (.Attribute o name apos) [] [] cpos) (tBM0 X.K T r to):=by
 intro pins s σ H Q I h
 refine wpAny_Call_method0_late hbase hline (thn (ho pins s σ H _ I h) fun v s1 ⟨x,H1,I1,r1,ty,q1⟩=>?_)
 obtain ⟨h1,h2⟩:=xsg I1 r1 ty
 exact ⟨T,id,pa,slot,hty,h1,h2,Calls.callWith_builtin rfl (PySem.evalArgs_none (hm pins s1 σ H1 x [] v [] Q I1 r1 .nil q1))⟩
theorem xfe (pa:PlainAttrs T) (slot:Slot T name id) (hty:typeOf (.builtin id)=pure (.type "method_descriptor")) (hm:MtR X id r) (ho:PE X o to) (ha:PA X (e :: es) t)
  (hbase:attributeBase o name X.env (eval o X.env)=eval o X.env:=by rfl)
  (hfew:((backTo cpos (starEach (e :: es) X.env)).all (fun x=>!x.1) && (backToKw cpos (keywordEach [] X.env)).all (fun x=>x.1.isSome)
   && decide ((e :: es).length + ([]:List Keyword).length + (if ([]:List Keyword).isEmpty then 0 else 1) < 30))=true:=by rfl)
  (hline:(apos.endLine == cpos.line)=true:=by rfl) (hs:starEach (e :: es) X.env=(false,eval e X.env) :: starEach es X.env:=by rfl) (hplain:(backTo cpos (starEach es X.env)).any (·.1)=false:=by rfl) :
  PE X (.Call (.Attribute o name apos) (e :: es) [] cpos) (tBM X.K T r to t):=by
 intro pins s σ H Q I h
 refine wpAny_Call_method_late hbase hfew hline rfl (thn (ho pins s σ H _ I h) fun v s1 ⟨x,H1,I1,r1,ty,q1⟩=>?_)
 obtain ⟨h1,h2⟩:=xsg I1 r1 ty
 refine ⟨T,id,pa,slot,hty,h1,h2,?_⟩
 have hA:=ha cpos pins s1 σ H1 _ I1 q1
 rw [hs] at hA ⊢
 refine Calls.callWith_builtin (by show (false || (backTo cpos (starEach es X.env)).any (·.1))=false; rw [hplain] <;> rfl) (Calls.evalArgs_plain ?_)
 exact thn hA fun us s2 ⟨vs,H2,I2,r2,q2⟩=>hm pins s2 σ H2 x vs v us Q I2 r1 r2 q2
end
end L2
namespace L2
open PySem PySem.Spec PyProof.Rows
def MtM (X:Cx) (id:String) (r:V->List V->Hp->VK->Prop):Prop:=
 ∀ (pins:List (Addr×Obj)) (s:Shared) (σ:St) (H:Hp) (x:V) (xs:List V) (v:Value) (us:List Value) (Q:VK),Inv X pins σ H s->RelV x v->Vals xs us->r x xs H Q->
  wpAny (model X.prog X.w) X.A (call (.builtin id) (v :: us)) (EP X pins σ Q) X.xe s
theorem Vals.one:∀ {x:V} {us:List Value},Vals [x] us->∃ u,us=[u]/\RelV x u
 | _,_,.cons r .nil=>⟨_,rfl,r⟩
theorem Vals.two:∀ {x y:V} {us:List Value},Vals [x,y] us->∃ u v,us=[u,v]/\RelV x u/\RelV y v
 | _,_,_,.cons r (.cons q .nil)=>⟨_,_,rfl,r,q⟩
theorem Vals.zero:∀ {us:List Value},Vals [] us->us=[]
 | _,.nil=>rfl
theorem Vals.eraseIdx:∀ {xs:List V} {us:List Value} (i:Nat),Vals xs us->Vals (xs.eraseIdx i) (us.eraseIdx i)
 | _,_,_,.nil=>.nil
 | _,_,0,.cons _ t=>t
 | _,_,i + 1,.cons r t=>.cons r (Vals.eraseIdx i t)
theorem Vals.reverse {xs:List V} {us:List Value} (h:Vals xs us):Vals xs.reverse us.reverse:=by
 induction h with
 | nil=>exact .nil
 | cons r t ih=>rw [List.reverse_cons,List.reverse_cons]; exact Vals.append ih (.cons r .nil)
theorem xke {α:Type}:∀ (l:List α) (i:Nat),(l.eraseIdx i).length<=l.length
 | [],_=>Nat.le_refl _
 | _ :: _,0=>Nat.le_succ _
 | _ :: r,i + 1=>Nat.succ_le_succ (xke r i)
section
variable {X:Cx} {pins:List (Addr×Obj)} {σ:St} {H:Hp} {s:Shared} {l b:Addr} {xs ys zs:List V}
theorem Inv.lset {its its':List Value} {n:Nat} {f:Array Value->Array Value} {t':Nat} (I:Inv X pins σ H s) (hH:H l=some (.lst xs))
  (e:s.heap.get? l=some { cls:=.type "list",data:=.seq its.toArray n }) (hf:f its.toArray=its'.toArray) (hv:Vals ys its') (hz:ys.length<=sizeLine) :
  Inv X pins σ (upd H l (.lst ys)) { s with heap:=s.heap.update l (Obj.mapSeq f),toks:=t' }:=by
 have q:=PySem.IsL.update e f
 rw [hf] at q
 refine I.write (x:=l) (e:=l) (by rw [hH]; exact trivial) (.inl rfl) (fun b' u hb hu=>(Heap.get?_update_other s.heap (Obj.mapSeq f) (Ne.symm hb)).trans hu) ⟨_,q⟩ ?_
 exact ⟨hz,its',_,hv,q⟩
theorem Inv.lnew {its:List Value} {t':Nat} (I:Inv X pins σ H s) (hv:Vals ys its) (hz:ys.length<=sizeLine) :
  Inv X pins σ (upd H s.heap.objs.size (.lst ys)) { s with heap:=s.heap.push { cls:=.type "list",data:=.seq its.toArray },toks:=t' }:=
 I.laid (fun _ _ q=>zPO _ q) (Nat.le_refl _) ⟨hz,its,0,hv,Heap.get?_push_size _ rfl⟩
theorem Inv.fresh (I:Inv X pins σ H s):H s.heap.objs.size=none:=I.hok.fresh (Nat.le_refl _)
theorem Inv.lstM (I:Inv X pins σ H s) (hH:H l=some (.lst xs)):xs.length<=sizeLine/\∃ (its:List Value) (n:Nat),Vals xs its/\xs.length=its.length/\s.heap.get? l=some { cls:=.type "list",data:=.seq its.toArray n }:=by
 obtain ⟨z,its,n,r,e⟩:=I.hok l _ hH
 exact ⟨z,its,n,r,r.length,e⟩
theorem xrt {n:Nat} (h:n<=sizeLine):Builtin.List.listTooLong n=false:=by
 unfold Builtin.List.listTooLong
 exact zDF (by omega)
end
section
variable {X:Cx}
def xtm:V->List V->Hp->VK->Prop:=fun x vs H Q=>∃ l xs y,x=.ref l/\vs=[y]/\H l=some (.lst xs)/\xs.length < sizeLine/\Q .non (upd H l (.lst (xs++[y])))
theorem xcn:MtM X "list.append" xtm:=by
 intro pins s σ H x vs v us Q I rx rv h
 obtain ⟨l,xs,y,rfl,rfl,hH,hz,q⟩:=h
 cases rx
 obtain ⟨u,rfl,ru⟩:=rv.one
 obtain ⟨z,its,n,r,hl,e⟩:=I.lstM hH
 refine call_meets F.slot_list_append ⟨_,e,rfl⟩ F.entry_list_append (F.args_list_append_2 _ _) (PySem.list_append l its.toArray n u (by rw [List.size_toArray]; omega)) ⟨e,?_⟩
 refine ⟨.non,_,I.lset (its':=its++[u]) hH e (by simp) (r.append (.cons ru .nil)) ?_,rfl,q⟩
 rw [zLA,List.length_singleton]
 omega
def xtl:V->List V->Hp->VK->Prop:=fun x vs H Q=>∃ l b xs zs,x=.ref l/\vs=[.ref b]/\H l=some (.lst xs)/\H b=some (.lst zs)/\xs.length + zs.length<=sizeLine/\Q .non (upd H l (.lst (xs++zs)))
theorem xj9:MtM X "list.extend" xtl:=by
 intro pins s σ H x vs v us Q I rx rv h
 obtain ⟨l,b,xs,zs,rfl,rfl,hH,hB,hz,q⟩:=h
 cases rx
 obtain ⟨u,rfl,ru⟩:=rv.one
 cases ru
 obtain ⟨z,its,n,r,hl,e⟩:=I.lstM hH
 obtain ⟨z2,its2,n2,r2,hl2,e2⟩:=I.lstM hB
 have hsz:its.toArray.size + its2.toArray.size<=sizeLine:=by rw [List.size_toArray,List.size_toArray]; omega
 have hlong:¬ (!its.toArray.isEmpty && Builtin.List.listTooLong (its.toArray.size + its2.toArray.size))=true:=by
  rw [xrt hsz,Bool.and_false]
  exact Bool.false_ne_true
 refine call_meets F.slot_list_extend ⟨_,e,rfl⟩ F.entry_list_extend (F.args_list_extend_2 _ _)
  (AutoSeq1.list_extend_list_list_0 l its.toArray n b its2.toArray n2 hlong (by rw [List.size_toArray]; omega) (by omega)) ⟨e,e2,?_⟩
 refine ⟨.non,_,I.lset (its':=its++its2) hH e (by simp) (r.append r2) ?_,rfl,q⟩
 rw [zLA]
 omega
def xu7:V->List V->Hp->VK->Prop:=fun x vs H Q=>∃ l xs i k y,x=.ref l/\vs=[.int i]/\H l=some (.lst xs)/\-(2 ^ 63)<=i/\i < 2 ^ 63/\seqIndex? i xs.length=some k/\xs[k]?=some y/\Q y (upd H l (.lst (xs.eraseIdx k)))
theorem xry:MtM X "list.pop" xu7:=by
 intro pins s σ H x vs v us Q I rx rv h
 obtain ⟨l,xs,i,k,y,rfl,rfl,hH,h1,h2,hk,hy,q⟩:=h
 cases rx
 obtain ⟨u,rfl,ru⟩:=rv.one
 obtain ⟨t,rfl⟩:=ru
 obtain ⟨z,its,n,r,hl,e⟩:=I.lstM hH
 obtain ⟨w,hw,rw'⟩:=r.get hy
 refine call_meets F.slot_list_pop ⟨_,e,rfl⟩ F.entry_list_pop (F.args_list_pop_2 _ _)
  (MeetsSeq.list_pop_at l its.toArray n i t k w (fitsIndex_both h1 h2) (by rw [List.size_toArray,<- hl]; exact hk) (by rw [<- Array.getElem?_toList]; exact hw) (by rw [List.size_toArray]; omega)) ⟨e,?_⟩
 refine ⟨y,_,I.lset (its':=its.eraseIdx k) hH e ?_ (r.eraseIdx k) ?_,rw',q⟩
 ·show its.toArray.eraseIdxIfInBounds k=(its.eraseIdx k).toArray
  rw [List.eraseIdxIfInBounds_toArray]
 ·have:=xke xs k
  omega
def xre:V->List V->Hp->VK->Prop:=fun x vs H Q=>∃ l xs,x=.ref l/\vs=[]/\H l=some (.lst xs)/\Q .non (upd H l (.lst xs.reverse))
theorem xia:MtM X "list.reverse" xre:=by
 intro pins s σ H x vs v us Q I rx rv h
 obtain ⟨l,xs,rfl,rfl,hH,q⟩:=h
 cases rx
 have hus:=rv.zero
 subst hus
 obtain ⟨z,its,n,r,hl,e⟩:=I.lstM hH
 refine call_meets F.slot_list_reverse ⟨_,e,rfl⟩ F.entry_list_reverse (F.args_list_reverse_1 _) (AutoSeq1.list_reverse_list_0 l its.toArray n (by rw [List.size_toArray]; omega)) ⟨e,?_⟩
 refine ⟨.non,_,I.lset (its':=its.reverse) hH e (by simp) r.reverse ?_,rfl,q⟩
 rw [List.length_reverse]
 omega
def rCat:R2:=fun x y H Q=>∃ l b xs zs,x=.ref l/\y=.ref b/\H l=some (.lst xs)/\H b=some (.lst zs)/\xs.length + zs.length<=sizeLine/\∀ p,H p=none->Q (.ref p) (upd H p (.lst (xs++zs)))
theorem xh8:OpR X (binaryOp .Add) rCat:=by
 intro pins s σ H x y v u Q I rx ry h
 obtain ⟨l,b,xs,zs,rfl,rfl,hH,hB,hz,q⟩:=h
 cases rx
 cases ry
 obtain ⟨z,its,n,r,hl,e⟩:=I.lstM hH
 obtain ⟨z2,its2,n2,r2,hl2,e2⟩:=I.lstM hB
 refine PySem.P.add_list e e2 ?_ (by rw [List.size_toArray,List.size_toArray]; omega)
 have ea:its.toArray++its2.toArray=(its++its2).toArray:=by simp
 rw [ea]
 exact ⟨.ref _,_,I.lnew (t':=s.toks) (r.append r2) (by rw [zLA]; omega),rfl,q _ I.fresh⟩
end
end L2
namespace Att
open PySem PySem.W PySem.Calls PyProof.Rows
theorem xhh {P:Params} {h:Heap}:∀ (ns:List Int) (vs:List Value),WellAll P h vs (ns.map WData.int)->IntsAre vs ns:=by
 intro ns
 induction ns with
 | nil=>
  intro vs w
  rw [List.map_nil] at w
  cases w
  exact .nil
 | cons n ns ih=>
  intro vs w
  rw [List.map_cons] at w
  cases w with
  | cons a b=>
   cases a
   exact .cons _ _ (ih _ b)
theorem xo5 {l:OpenLaw} {n:Nat} (hn:l.most=some n) {P:Params} {h:Heap} {args:List WData} {vals:List Value}
  (hpre:l.row.toRowW.claim.pre args=true) (hwl:WellAll P h vals args) :
  ∃ a vs ns,vals=[Value.ref a]/\args=[WData.list (ns.map WData.int)]/\h.get? a=some { cls:=.type "list",data:=.seq vs.toArray }/\IntsAre vs ns/\ns.length<=n:=by
 have hsh:WShape.hasAll [] args [.list .int]=true:=(pre_splitW hpre).1
 have hc:l.pre.holds [] { args:=args }=true:=(pre_splitW hpre).2
 obtain ⟨d,r,rfl,h1,h2⟩:=hasAllW_cons hsh
 obtain rfl:=hasAllW_nil h2
 obtain ⟨xs,rfl,h3⟩:=hasW_list h1
 obtain ⟨ns,rfl⟩:=items_int h3
 have hlen:ns.length<=n:=by
  unfold OpenLaw.pre at hc
  have h4:(WTm.not (.lt (.lit (.int (n:Int))) (.len (.arg 0)))).holds [] { args:=[.list (ns.map .int)] }=true:=by
   have h4:=(holds_andW hc).1
   rw [hn] at h4
   exact h4
  have h5:=condW_of h4 (w_not (w_lt w_lit (w_len_list (w_arg rfl))))
  rw [zLM] at h5
  refine Nat.le_of_not_lt fun q=>?_
  have q':(n:Int) < ((ns.length:Nat):Int):=by omega
  first
   | (rw [zDT q'] at h5; exact absurd h5 (by decide))
   | (simp at h5; omega)
 cases hwl with
 | cons w1 w2=>
  cases w2
  cases w1 with
  | list ho hall=>exact ⟨_,_,ns,rfl,rfl,ho,xhh ns _ hall,hlen⟩
theorem xpb (l:OpenLaw) (args:List WData):l.row.toRowW.claim.post args (.bool true) args=true:=
 postW_of (r:=l.row.toRowW) (X:=(true == true))
  (show WShape.has [] (.bool true) .bool=true by first | rfl | decide | simp [WShape.has,WShape.arms,WShape.armsAll])
  (show (WTm.eq .res (.lit (.bool true))).value [] { args:=args,res:=some (.bool true),after:=args }=some (.bool (true == true)) from w_eq_bool (w_res rfl) w_lit) rfl
theorem attach_call {l:OpenLaw} {n:Nat} {q:Program} {loose:List Str} {XP:(Str->Option Value)->Heap->Prop} {YP:World->Heap->Prop} {d:DefRec}
  (hn:l.most=some n) (hdf:d.params.defaults=[])
  (call:∀ (w:World) (s₀ s₁:Shared) (mg mb:Str->Option Value) (fa:Addr) (o:Obj) (pm cd doc:Value) (a:Addr) (vs:List Value) (ns:List Int),
   Ground q loose [] XP w s₀ mg mb s₁.heap->YP w s₁.heap->
   s₁.heap.get? fa=some o->o.data=.func (docDef d.name d.params d.body d.scope pm cd doc)->s₁.heap.CodeRec cd d.name->mg d.name=some (.ref fa)->
   s₁.heap.get? a=some { cls:=.type "list",data:=.seq vs.toArray }->IntsAre vs ns->ns.length<=n->s₁.gens=#[]->
   codeAny (model l.prog w) callerA (.call (.ref fa) ⟨[.ref a],[]⟩) (fun r s'=>r=.ok (.ret (.bool true))/\OldK s₁.heap s'.heap/\s'.os=s₁.os/\AllBare s'.gens) s₁) :
  WalkO q loose XP YP l.row.toRowW d [] (fun f vs=>PySem.call f vs):=by
 intro w s₀ s₁ mg mb G Y fa o pm cd doc dV kV ho hd hcd hD hmg hg args vals as hpre hlay hrd hwl hlo
 obtain rfl:dV=.none:=Dflts.none hD hdf
 obtain rfl:kV=.none:=Dflts.noKw hD
 obtain ⟨a,vs,ns,rfl,rfl,hobj,hints,hlen⟩:=xo5 hn hpre hwl
 refine enter_call (codeAny_mono (call w s₀ s₁ mg mb fa o pm cd doc a vs ns G Y ho (fd_plain hd) hcd hmg hobj hints hlen hg) fun r s' hq=>?_)
 obtain ⟨rfl,h2,h3,h4⟩:=hq
 exact ⟨.inl ⟨.bool true,.bool true,[],rfl,fun _=>rfl,.bool true,xpb l _,fun _=>⟨List.Pairwise.nil,fun _ hm=>(nomatch hm)⟩⟩,h2,h3,h4⟩
end Att
namespace L2
open PySem PySem.Spec PyProof.Rows
theorem xi7:∀ {vs:List Value} {ns:List Int},IntsAre vs ns->Vals (ns.map V.int) vs
 | _,_,.nil=>.nil
 | _,_,.cons n t h=>.cons ⟨t,rfl⟩ (xi7 h)
def Only (H:Hp):Prop:=∀ b,H b=none\/∃ o xs,H b=some (.frz o (.lst xs))
theorem xr0 {P:Program} {w:World} {K:PySem.W.Frag} {mg mb:Str->Option Value} {CX:CXT} {k:Nat} {fa a:Addr} {fd:FuncData} {x:Str} {sp:Sp} {s₁:Shared} {vs:List Value} {ns:List Int}
  (KX:K.In s₁.heap) (hns:s₁.heap.Ns mainGlobals mg) (hb:s₁.heap.Ns builtinsNs mb) (hbb:∀ x:Str,x≠"__name__"->mb x=bootBuiltins x) (hlim:s₁.heap.NoLimit) (hg:s₁.gens=#[])
  (ha:s₁.heap.get? a=some { cls:=.type "list",data:=.seq vs.toArray }) (hi:IntsAre vs ns) (hl:ns.length<=sizeLine) (hr:Room k callerA)
  (F:∀ base:Heap,K.In base->base.Ns mainGlobals mg->FnOk P w K mg base CX k fa fd [x] sp) (hbind:∀ (s:Shared) (u:Value),BindsTo s fd ⟨[u],[]⟩ [(x,u)])
  (hsp:∀ H:Hp,Only H->SqL K H a (ns.map V.int)->sp [.ref a] H (fun v _=>v=.bl true) fun _ _ _=>False)
  (hCX:∀ H e s',CX [] H s₁ (fun _ _ _=>False) e s'->False) :
  codeAny (model P w) callerA (.call (.ref fa) ⟨[.ref a],[]⟩) (fun r s'=>r=.ok (.ret (.bool true))/\OldK s₁.heap s'.heap/\s'.os=s₁.os/\AllBare s'.gens) s₁:=by
 have rv:=xi7 hi
 have lenV:=hi.length
 have core:∀ H:Hp,Only H->SqL K H a (ns.map V.int)->HOk P w H s₁.heap->(∀ b,H b≠none->b=a)->(H a≠none->K.lookup a=none)->
   codeAny (model P w) callerA (.call (.ref fa) ⟨[.ref a],[]⟩) (fun r s'=>r=.ok (.ret (.bool true))/\OldK s₁.heap s'.heap/\s'.os=s₁.os/\AllBare s'.gens) s₁:=by
  intro H hO hS hok hA hK
  have base_of:∀ {b:Addr} {o:Obj},s₁.heap.get? b=some o->H b=none->(hidT s₁.heap H).get? b=some o:=fun e n=>xr4 e n
  have noA:∀ {b:Addr} {o:Obj} {es:Array DictEntry} {ep:Nat},s₁.heap.get? b=some o->o.data=.dict es ep->H b=none:=fun {b o es ep} e d=>by
   cases q:H b with
   | none=>rfl
   | some u=>
    have e':b=a:=hA b (by rw [q]; simp)
    subst e'
    rw [ha] at e; cases e
    have d':Data.seq vs.toArray _=Data.dict es ep:=d
    cases d'
  have nsK:∀ {b:Addr} {m:Str->Option Value},s₁.heap.Ns b m->(hidT s₁.heap H).Ns b m:=fun {b m} ⟨o,es,ep,e,d,r⟩=>⟨o,es,ep,base_of e (noA e d),d,r⟩
  have hKb:K.In (hidT s₁.heap H):=fun b o e=>base_of (KX b o e) (by
   cases q:H b with
   | none=>rfl
   | some u=>
    have e':b=a:=hA b (by rw [q]; simp)
    subst e'
    rw [hK (by rw [q]; simp)] at e; cases e)
  have hM:Mod K mg (hidT s₁.heap H):=⟨hKb,nsK hns,⟨mb,nsK hb,hbb⟩,let ⟨mc,h1,h2⟩:=hlim; ⟨mc,nsK h1,h2⟩⟩
  have e0:Env0 P w K mg (hidT s₁.heap H) callerA [] s₁ H:=⟨rfl,hM,fun b o e=>xtt e,Nat.le_of_eq (xqd _ _),trivial,fun b hb=>absurd (show b∈([]:List Addr) from hb) (by simp),hok,.of_eq hg⟩
  refine codeAny_mono ((F _ hKb (nsK hns)).run callerA [] s₁ H ⟨[.ref a],[]⟩ [.ref a] [.ref a] _ _ hr e0 (hbind s₁ (.ref a)) (.cons rfl .nil) (hsp H hO hS)) fun r s' h=>?_
  cases r with
  | error e=>exact (hCX H e s' h).elim
  | ok fl=>
   cases fl with
   | next=>exact False.elim h
   | brk=>exact False.elim h
   | cont=>exact False.elim h
   | ret u=>
    obtain ⟨v,H',os,bare,un,hok',r',q⟩:=h
    have q':v=.bl true:=q
    subst q'
    obtain rfl:u=Value.bool true:=r'
    refine ⟨rfl,OldK.of_keep fun b o e=>?_,os,bare⟩
    cases q:H b with
    | none=>exact un.keep b o e q (by intro z; exact absurd (show b∈([]:List Addr) from z) (by simp)) (by simp)
    | some u=>
     rcases hO b with z | ⟨ob,xs,z⟩
     ·rw [q] at z; cases z
     ·have z2:=un.frzs b ob _ z
      obtain ⟨e1,_⟩:=hok b _ z
      obtain ⟨e2,_⟩:=hok' b _ z2
      rw [e] at e1; cases e1
      exact e2
 cases hk:K.lookup a with
 | some o=>
  have e:=KX a o hk
  rw [ha] at e
  cases e
  refine core (fun _=>none) (fun _=>.inl rfl) (.inr ⟨_,vs.toArray,_,hk,rfl,rfl,rfl,by rw [List.size_toArray,lenV]; exact hl,by simpa using rv⟩) (fun b u z=>by have z':(none:Option HO)=some u:=z; cases z') (fun b z=>absurd rfl z) fun z=>absurd rfl z
 | none=>
  refine core (fun b=>if b=a then some (.frz { cls:=.type "list",data:=.seq vs.toArray } (.lst (ns.map V.int))) else none) (fun b=>?_) (.inl (.inr ⟨{ cls:=.type "list",data:=.seq vs.toArray },if_pos rfl⟩)) (fun b u z=>?_) (fun b z=>?_) fun _=>hk
  ·by_cases hb:b=a
   ·exact .inr ⟨_,_,if_pos hb⟩
   ·exact .inl (if_neg hb)
  ·by_cases hb:b=a
   ·have z':=(if_pos hb).symm.trans z
    cases z'
    subst hb
    exact ⟨ha,by rw [zLM]; exact hl,vs,_,rv,ha⟩
   ·have z':=(if_neg hb).symm.trans z
    cases z'
  ·by_cases hb:b=a
   ·exact hb
   ·exact absurd (if_neg hb) z
end L2
namespace L2
open PySem PySem.Spec PyProof.Rows
abbrev KOf {K:PySem.W.Frag} {h:Heap} (_:K.In h):PySem.W.Frag:=K
theorem walk_of {l:PySem.W.OpenLaw} {n k:Nat} {q:Program} {loose:List Str} {XP:(Str->Option Value)->Heap->Prop} {YP:World->Heap->Prop} {d:DefRec} {K:Params->PySem.W.Frag} {CX:World->CXT} {sp:World->Sp} {x:Str}
  (hn:l.most=some n) (hn2:n<=sizeLine) (hdf:d.params.defaults=[]) (hr:Room k callerA)
  (hY:∀ (w:World) (h:Heap),YP w h->(K w.params).In h)
  (F:∀ (w:World) (mg:Str->Option Value) (fa:Addr) (h:Heap),(K w.params).In h->h.Ns mainGlobals mg->mg d.name=some (.ref fa)->
   ∃ fd:FuncData,(∀ (s:Shared) (u:Value),BindsTo s fd ⟨[u],[]⟩ [(x,u)]) ∧
    ∀ base:Heap,(K w.params).In base->base.Ns mainGlobals mg->FnOk l.prog w (K w.params) mg base (CX w) k fa fd [x] (sp w))
  (hsp:∀ (w:World) (H:Hp) (a:Addr) (ns:List Int),ns.length<=n->Only H->SqL (K w.params) H a (ns.map V.int)->sp w [.ref a] H (fun v _=>v=.bl true) fun _ _ _=>False)
  (hCX:∀ (w:World) (H:Hp) (s:Shared) (e:Value) (s':Shared),CX w [] H s (fun _ _ _=>False) e s'->False) :
  PySem.W.WalkO q loose XP YP l.row.toRowW d [] (fun f vs=>PySem.call f vs):=by
 refine Att.attach_call hn hdf fun w s₀ s₁ mg mb fa o pm cd doc a vs ns G Y ho hd hcd hmg hobj hints hlen hg=>?_
 have KX:=hY w _ Y
 obtain ⟨fd,hb,hF⟩:=F w mg fa _ KX G.T.g hmg
 exact xr0 KX G.T.g G.T.b G.T.builtins G.T.nolimit hg hobj hints (Nat.le_trans hlen hn2) hr hF hb (fun H hO hS=>hsp w H a ns hlen hO hS) fun H e s'=>hCX w H s₁ e s'
end L2
namespace L2
open PySem PySem.Spec PyProof.Rows
def xhn (s:Stmt):Arguments:=match s with
 | .FunctionDef _ a _ _ _ _ _ _ _ _=>a
 | _=>{ posonlyargs:=[],args:=[],vararg:=none,kwonlyargs:=[],kw_defaults:=[],kwarg:=none,defaults:=[] }
def xe9 (s:Stmt):List Stmt:=match s with
 | .FunctionDef _ _ b _ _ _ _ _ _ _=>b
 | _=>[]
def xaf (s:Stmt):Scope:=match s with
 | .FunctionDef _ _ _ _ _ _ sc _ _ _=>sc
 | _=>{ kind:=.function,names:=[],isGenerator:=false,isCoroutine:=false }
abbrev CX0:CXT:=fun _ _ _ _ _ _=>False
abbrev E0:XK:=fun _ _ _=>False
theorem xwz {X:Cx}:xqw CX0 X E0:=fun _ _ _ _ _ _ _ h=>h.elim
structure Fun (K:PySem.W.Frag) (x qual:Str) (st:Stmt) (f:Addr) (fd:FuncData):Prop where
 ex:∃ (oc:Value) (od:Option Addr) (kV doc pm:Value) (an:Option Addr) (cdv ct:Value) (osl:Array (Option Value)),
  fd=PySem.W.fnOf x qual (xhn st) (xe9 st) (xaf st) .none kV doc pm an cdv ct/\K.lookup f=some ⟨oc,od,.func fd,osl⟩/\PySem.W.codeIn K cdv qual=true
 kp:PySem.W.keepIn K (.ref f)=true
section
variable {P:Program} {w:World} {K:PySem.W.Frag} {mg:Str->Option Value} {base:Heap}
theorem Fun.ok {x qual:Str} {st:Stmt} {f:Addr} {fd:FuncData} {N ps:List Str} {k:Nat} {sp:Sp} (F:Fun K x qual st f fd) (S:FnScope N ps (xaf st)) (len:∀ vs H Q E,sp vs H Q E->vs.length=ps.length)
  (hbody:∀ (cdv:Value) (A:Around) (outer:List Env) (s:Shared) (H:Hp) (vs:List V) (Q:VK) (E:XK),Room k (A.deeper (envOfC qual (xaf st) s.heap.objs.size f cdv))->sp vs H Q E->
   ∃ t,PSs (cxOf CX0 P w K mg base N qual (xaf st) f cdv A outer s H E).nox (xe9 st) t/\t { nx:=fun _ H'=>Q .non H',rt:=Q } (xg0 N vs) H):FnOk P w K mg base CX0 (k + 1) f fd ps sp:=by
 obtain ⟨oc,od,kV,doc,pm,an,cdv,ct,osl,rfl,lk,hcd⟩:=F.ex
 refine xxg lk hcd S len fun A outer s H vs Q E hr hsp=>?_
 obtain ⟨t,h,q⟩:=hbody cdv A outer s H vs Q E hr hsp
 exact ⟨t,h.nox,q⟩
theorem xv3 {x qual:Str} {st:Stmt} {f:Addr} {oc:Value} {od an:Option Addr} {osl:Array (Option Value)} {kV doc pm cdv ct:Value} (l:K.lookup f=some ⟨oc,od,.func (PySem.W.fnOf x qual (xhn st) (xe9 st) (xaf st) .none kV doc pm an cdv ct),osl⟩)
  (c:PySem.W.codeIn K cdv qual=true) (k:PySem.W.keepIn K (.ref f)=true):Fun K x qual st f (PySem.W.fnOf x qual (xhn st) (xe9 st) (xaf st) .none kV doc pm an cdv ct):=⟨⟨oc,od,kV,doc,pm,an,cdv,ct,osl,rfl,l,c⟩,k⟩
end
theorem xfn {A:Around} {k:Nat} (hr:Room k A):A.units + 1 < cLine:=Nat.lt_of_le_of_lt (Nat.add_le_add_left (by decide:1<=64) _) hr.units
section
variable {X:Cx}
theorem pv (i:Nat) {x:Str} {pos:Pos} (hN:X.N[i]?=some x:=by rfl) (hv:Vis X.env.scope x:=by first | exact Or.inl rfl | exact Or.inr (Or.inl rfl) | exact Or.inr (Or.inr rfl)) (hd:(x == ("__debug__":Str))=false:=by decide)
  (hcd:(x == ("__classdict__":Str))=false:=by decide):PE X (.Name x pos) (tVar i):=xvc hN hv hd hcd
end
theorem iteF {A B:Prop} (h:B):if false=true then A else B:=by
 rw [if_neg Bool.false_ne_true]
 exact h
theorem iteT {A B:Prop} (h:A):if true=true then A else B:=by
 rw [if_pos rfl]
 exact h
theorem ite2 {c A B:Prop} [Decidable c] (h1:c->A) (h2:¬ c->B):if c then A else B:=by
 by_cases h:c
 ·rw [if_pos h]
  exact h1 h
 ·rw [if_neg h]
  exact h2 h
def Same (H H':Hp):Prop:=∀ b o,H b=some o->H' b=some o
theorem Same.refl (H:Hp):Same H H:=fun _ _ h=>h
theorem Same.trans {H H1 H2:Hp} (a:Same H H1) (b:Same H1 H2):Same H H2:=fun c o h=>b c o (a c o h)
theorem Same.seq {K:PySem.W.Frag} {H H':Hp} {a:Addr} {xs:List V} (e:Same H H') (h:SqL K H a xs):SqL K H' a xs:=by
 rcases h with (h | ⟨o,h⟩) | h
 ·exact .inl (.inl (e _ _ h))
 ·exact .inl (.inr ⟨o,e _ _ h⟩)
 ·exact .inr h
end L2
section
namespace L2
theorem gcut {A:Prop} (h:∀ G:Prop,(A->G)->G):A:=h A id
theorem jAA {p1:Prop} {p2:Prop} {q:Prop} (h1:p1) (h2:p2) (k:q):p1/\p2/\q:=⟨h1,h2,k⟩
theorem jAAA {p1:Prop} {p2:Prop} {p3:Prop} {q:Prop} (h1:p1) (h2:p2) (h3:p3) (k:q):p1/\p2/\p3/\q:=⟨h1,h2,h3,k⟩
theorem xhy {p1:Prop} {p2:Prop} {p3:Prop} {p4:Prop} {q:Prop} (h1:p1) (h2:p2) (h3:p3) (h4:p4) (k:q):p1/\p2/\p3/\p4/\q:=⟨h1,h2,h3,h4,k⟩
theorem jAE {p1:Prop} {α1:Sort _} {q:α1->Prop} (h1:p1) (x1:α1) (k:q x1):p1/\∃ x1,q x1:=⟨h1,x1,k⟩
theorem jAEA {p1:Prop} {α1:Sort _} {p2:α1->Prop} {q:α1->Prop} (h1:p1) (x1:α1) (h2:p2 x1) (k:q x1):p1/\∃ x1,p2 x1/\q x1:=⟨h1,x1,h2,k⟩
theorem xhg {p1:Prop} {α1:Sort _} {p2:α1->Prop} {p3:α1->Prop} {q:α1->Prop} (h1:p1) (x1:α1) (h2:p2 x1) (h3:p3 x1) (k:q x1):p1/\∃ x1,p2 x1/\p3 x1/\q x1:=⟨h1,x1,h2,h3,k⟩
theorem jEA {α1:Sort _} {p1:α1->Prop} {q:α1->Prop} (x1:α1) (h1:p1 x1) (k:q x1):∃ x1,p1 x1/\q x1:=⟨x1,h1,k⟩
theorem jEAA {α1:Sort _} {p1:α1->Prop} {p2:α1->Prop} {q:α1->Prop} (x1:α1) (h1:p1 x1) (h2:p2 x1) (k:q x1):∃ x1,p1 x1/\p2 x1/\q x1:=⟨x1,h1,h2,k⟩
theorem xc1 {α1:Sort _} {p1:α1->Prop} {p2:α1->Prop} {p3:α1->Prop} {q:α1->Prop} (x1:α1) (h1:p1 x1) (h2:p2 x1) (h3:p3 x1) (k:q x1):∃ x1,p1 x1/\p2 x1/\p3 x1/\q x1:=⟨x1,h1,h2,h3,k⟩
theorem xc3 {α1:Sort _} {p1:α1->Prop} {p2:α1->Prop} {p3:α1->Prop} {p4:α1->Prop} {q:α1->Prop} (x1:α1) (h1:p1 x1) (h2:p2 x1) (h3:p3 x1) (h4:p4 x1) (k:q x1):∃ x1,p1 x1/\p2 x1/\p3 x1/\p4 x1/\q x1:=⟨x1,h1,h2,h3,h4,k⟩
theorem xdl {α1:Sort _} {p1:α1->Prop} {p2:α1->Prop} {p3:α1->Prop} {p4:α1->Prop} {p5:α1->Prop} {q:α1->Prop} (x1:α1) (h1:p1 x1) (h2:p2 x1) (h3:p3 x1) (h4:p4 x1) (h5:p5 x1) (k:q x1):∃ x1,p1 x1/\p2 x1/\p3 x1/\p4 x1/\p5 x1/\q x1:=⟨x1,h1,h2,h3,h4,h5,k⟩
theorem xd3 {α1:Sort _} {p1:α1->Prop} {p2:α1->Prop} {p3:α1->Prop} {p4:α1->Prop} {α2:Sort _} {α3:Sort _} {α4:Sort _} {p5:α1->α2->α3->α4->Prop} {p6:α1->α2->α3->α4->Prop} {q:α1->α2->α3->α4->Prop} (x1:α1) (h1:p1 x1) (h2:p2 x1) (h3:p3 x1) (h4:p4 x1) (x2:α2) (x3:α3) (x4:α4) (h5:p5 x1 x2 x3 x4) (h6:p6 x1 x2 x3 x4) (k:q x1 x2 x3 x4):∃ x1,p1 x1/\p2 x1/\p3 x1/\p4 x1/\∃ x2,∃ x3,∃ x4,p5 x1 x2 x3 x4/\p6 x1 x2 x3 x4/\q x1 x2 x3 x4:=⟨x1,h1,h2,h3,h4,x2,x3,x4,h5,h6,k⟩
theorem xdc {α1:Sort _} {p1:α1->Prop} {p2:α1->Prop} {p3:α1->Prop} {p4:α1->Prop} {α2:Sort _} {α3:Sort _} {α4:Sort _} {α5:Sort _} {p5:α1->α2->α3->α4->α5->Prop} {q:α1->α2->α3->α4->α5->Prop} (x1:α1) (h1:p1 x1) (h2:p2 x1) (h3:p3 x1) (h4:p4 x1) (x2:α2) (x3:α3) (x4:α4) (x5:α5) (h5:p5 x1 x2 x3 x4 x5) (k:q x1 x2 x3 x4 x5):∃ x1,p1 x1/\p2 x1/\p3 x1/\p4 x1/\∃ x2,∃ x3,∃ x4,∃ x5,p5 x1 x2 x3 x4 x5/\q x1 x2 x3 x4 x5:=⟨x1,h1,h2,h3,h4,x2,x3,x4,x5,h5,k⟩
theorem xd2 {α1:Sort _} {p1:α1->Prop} {p2:α1->Prop} {p3:α1->Prop} {α2:Sort _} {α3:Sort _} {p4:α1->α2->α3->Prop} {α4:Sort _} {α5:Sort _} {p5:α1->α2->α3->α4->α5->Prop} {q:α1->α2->α3->α4->α5->Prop} (x1:α1) (h1:p1 x1) (h2:p2 x1) (h3:p3 x1) (x2:α2) (x3:α3) (h4:p4 x1 x2 x3) (x4:α4) (x5:α5) (h5:p5 x1 x2 x3 x4 x5) (k:q x1 x2 x3 x4 x5):∃ x1,p1 x1/\p2 x1/\p3 x1/\∃ x2,∃ x3,p4 x1 x2 x3/\∃ x4,∃ x5,p5 x1 x2 x3 x4 x5/\q x1 x2 x3 x4 x5:=⟨x1,h1,h2,h3,x2,x3,h4,x4,x5,h5,k⟩
theorem xan {α1:Sort _} {p1:α1->Prop} {p2:α1->Prop} {α2:Sort _} {p3:α1->α2->Prop} {q:α1->α2->Prop} (x1:α1) (h1:p1 x1) (h2:p2 x1) (x2:α2) (h3:p3 x1 x2) (k:q x1 x2):∃ x1,p1 x1/\p2 x1/\∃ x2,p3 x1 x2/\q x1 x2:=⟨x1,h1,h2,x2,h3,k⟩
theorem xb4 {α1:Sort _} {p1:α1->Prop} {p2:α1->Prop} {α2:Sort _} {α3:Sort _} {p3:α1->α2->α3->Prop} {p4:α1->α2->α3->Prop} {q:α1->α2->α3->Prop} (x1:α1) (h1:p1 x1) (h2:p2 x1) (x2:α2) (x3:α3) (h3:p3 x1 x2 x3) (h4:p4 x1 x2 x3) (k:q x1 x2 x3):∃ x1,p1 x1/\p2 x1/\∃ x2,∃ x3,p3 x1 x2 x3/\p4 x1 x2 x3/\q x1 x2 x3:=⟨x1,h1,h2,x2,x3,h3,h4,k⟩
theorem xfl {α1:Sort _} {p1:α1->Prop} {p2:α1->Prop} {α2:Sort _} {α3:Sort _} {p3:α1->α2->α3->Prop} {p4:α1->α2->α3->Prop} {p5:α1->α2->α3->Prop} {q:α1->α2->α3->Prop} (x1:α1) (h1:p1 x1) (h2:p2 x1) (x2:α2) (x3:α3) (h3:p3 x1 x2 x3) (h4:p4 x1 x2 x3) (h5:p5 x1 x2 x3) (k:q x1 x2 x3):∃ x1,p1 x1/\p2 x1/\∃ x2,∃ x3,p3 x1 x2 x3/\p4 x1 x2 x3/\p5 x1 x2 x3/\q x1 x2 x3:=⟨x1,h1,h2,x2,x3,h3,h4,h5,k⟩
theorem xd1 {α1:Sort _} {p1:α1->Prop} {p2:α1->Prop} {α2:Sort _} {α3:Sort _} {p3:α1->α2->α3->Prop} {p4:α1->α2->α3->Prop} {α4:Sort _} {α5:Sort _} {p5:α1->α2->α3->α4->α5->Prop} {q:α1->α2->α3->α4->α5->Prop} (x1:α1) (h1:p1 x1) (h2:p2 x1) (x2:α2) (x3:α3) (h3:p3 x1 x2 x3) (h4:p4 x1 x2 x3) (x4:α4) (x5:α5) (h5:p5 x1 x2 x3 x4 x5) (k:q x1 x2 x3 x4 x5):∃ x1,p1 x1/\p2 x1/\∃ x2,∃ x3,p3 x1 x2 x3/\p4 x1 x2 x3/\∃ x4,∃ x5,p5 x1 x2 x3 x4 x5/\q x1 x2 x3 x4 x5:=⟨x1,h1,h2,x2,x3,h3,h4,x4,x5,h5,k⟩
theorem xa9 {α1:Sort _} {p1:α1->Prop} {α2:Sort _} {p2:α1->α2->Prop} {p3:α1->α2->Prop} {q:α1->α2->Prop} (x1:α1) (h1:p1 x1) (x2:α2) (h2:p2 x1 x2) (h3:p3 x1 x2) (k:q x1 x2):∃ x1,p1 x1/\∃ x2,p2 x1 x2/\p3 x1 x2/\q x1 x2:=⟨x1,h1,x2,h2,h3,k⟩
theorem xd0 {α1:Sort _} {p1:α1->Prop} {α2:Sort _} {p2:α1->α2->Prop} {p3:α1->α2->Prop} {α3:Sort _} {p4:α1->α2->α3->Prop} {q:α1->α2->α3->Prop} (x1:α1) (h1:p1 x1) (x2:α2) (h2:p2 x1 x2) (h3:p3 x1 x2) (x3:α3) (h4:p4 x1 x2 x3) (k:q x1 x2 x3):∃ x1,p1 x1/\∃ x2,p2 x1 x2/\p3 x1 x2/\∃ x3,p4 x1 x2 x3/\q x1 x2 x3:=⟨x1,h1,x2,h2,h3,x3,h4,k⟩
theorem xcx {α1:Sort _} {p1:α1->Prop} {α2:Sort _} {p2:α1->α2->Prop} {α3:Sort _} {p3:α1->α2->α3->Prop} {p4:α1->α2->α3->Prop} {q:α1->α2->α3->Prop} (x1:α1) (h1:p1 x1) (x2:α2) (h2:p2 x1 x2) (x3:α3) (h3:p3 x1 x2 x3) (h4:p4 x1 x2 x3) (k:q x1 x2 x3):∃ x1,p1 x1/\∃ x2,p2 x1 x2/\∃ x3,p3 x1 x2 x3/\p4 x1 x2 x3/\q x1 x2 x3:=⟨x1,h1,x2,h2,x3,h3,h4,k⟩
theorem xc6 {α1:Sort _} {p1:α1->Prop} {α2:Sort _} {p2:α1->α2->Prop} {α3:Sort _} {p3:α1->α2->α3->Prop} {α4:Sort _} {p4:α1->α2->α3->α4->Prop} {α5:Sort _} {q:α1->α2->α3->α4->α5->Prop} (x1:α1) (h1:p1 x1) (x2:α2) (h2:p2 x1 x2) (x3:α3) (h3:p3 x1 x2 x3) (x4:α4) (h4:p4 x1 x2 x3 x4) (x5:α5) (k:q x1 x2 x3 x4 x5):∃ x1,p1 x1/\∃ x2,p2 x1 x2/\∃ x3,p3 x1 x2 x3/\∃ x4,p4 x1 x2 x3 x4/\∃ x5,q x1 x2 x3 x4 x5:=⟨x1,h1,x2,h2,x3,h3,x4,h4,x5,k⟩
theorem xap {α1:Sort _} {p1:α1->Prop} {α2:Sort _} {p2:α1->α2->Prop} {α3:Sort _} {p3:α1->α2->α3->Prop} {α4:Sort _} {p4:α1->α2->α3->α4->Prop} {α5:Sort _} {p5:α1->α2->α3->α4->α5->Prop} {q:α1->α2->α3->α4->α5->Prop} (x1:α1) (h1:p1 x1) (x2:α2) (h2:p2 x1 x2) (x3:α3) (h3:p3 x1 x2 x3) (x4:α4) (h4:p4 x1 x2 x3 x4) (x5:α5) (h5:p5 x1 x2 x3 x4 x5) (k:q x1 x2 x3 x4 x5):∃ x1,p1 x1/\∃ x2,p2 x1 x2/\∃ x3,p3 x1 x2 x3/\∃ x4,p4 x1 x2 x3 x4/\∃ x5,p5 x1 x2 x3 x4 x5/\q x1 x2 x3 x4 x5:=⟨x1,h1,x2,h2,x3,h3,x4,h4,x5,h5,k⟩
theorem xc0 {α1:Sort _} {p1:α1->Prop} {α2:Sort _} {p2:α1->α2->Prop} {α3:Sort _} {p3:α1->α2->α3->Prop} {α4:Sort _} {α5:Sort _} {q:α1->α2->α3->α4->α5->Prop} (x1:α1) (h1:p1 x1) (x2:α2) (h2:p2 x1 x2) (x3:α3) (h3:p3 x1 x2 x3) (x4:α4) (x5:α5) (k:q x1 x2 x3 x4 x5):∃ x1,p1 x1/\∃ x2,p2 x1 x2/\∃ x3,p3 x1 x2 x3/\∃ x4,∃ x5,q x1 x2 x3 x4 x5:=⟨x1,h1,x2,h2,x3,h3,x4,x5,k⟩
theorem xbm {α1:Sort _} {p1:α1->Prop} {α2:Sort _} {p2:α1->α2->Prop} {α3:Sort _} {p3:α1->α2->α3->Prop} {α4:Sort _} {α5:Sort _} {p4:α1->α2->α3->α4->α5->Prop} {p5:α1->α2->α3->α4->α5->Prop} {q:α1->α2->α3->α4->α5->Prop} (x1:α1) (h1:p1 x1) (x2:α2) (h2:p2 x1 x2) (x3:α3) (h3:p3 x1 x2 x3) (x4:α4) (x5:α5) (h4:p4 x1 x2 x3 x4 x5) (h5:p5 x1 x2 x3 x4 x5) (k:q x1 x2 x3 x4 x5):∃ x1,p1 x1/\∃ x2,p2 x1 x2/\∃ x3,p3 x1 x2 x3/\∃ x4,∃ x5,p4 x1 x2 x3 x4 x5/\p5 x1 x2 x3 x4 x5/\q x1 x2 x3 x4 x5:=⟨x1,h1,x2,h2,x3,h3,x4,x5,h4,h5,k⟩
theorem xb0 {α1:Sort _} {p1:α1->Prop} {α2:Sort _} {p2:α1->α2->Prop} {α3:Sort _} {α4:Sort _} {p3:α1->α2->α3->α4->Prop} {p4:α1->α2->α3->α4->Prop} {q:α1->α2->α3->α4->Prop} (x1:α1) (h1:p1 x1) (x2:α2) (h2:p2 x1 x2) (x3:α3) (x4:α4) (h3:p3 x1 x2 x3 x4) (h4:p4 x1 x2 x3 x4) (k:q x1 x2 x3 x4):∃ x1,p1 x1/\∃ x2,p2 x1 x2/\∃ x3,∃ x4,p3 x1 x2 x3 x4/\p4 x1 x2 x3 x4/\q x1 x2 x3 x4:=⟨x1,h1,x2,h2,x3,x4,h3,h4,k⟩
theorem xbf {α1:Sort _} {p1:α1->Prop} {α2:Sort _} {p2:α1->α2->Prop} {α3:Sort _} {α4:Sort _} {p3:α1->α2->α3->α4->Prop} {p4:α1->α2->α3->α4->Prop} {α5:Sort _} {q:α1->α2->α3->α4->α5->Prop} (x1:α1) (h1:p1 x1) (x2:α2) (h2:p2 x1 x2) (x3:α3) (x4:α4) (h3:p3 x1 x2 x3 x4) (h4:p4 x1 x2 x3 x4) (x5:α5) (k:q x1 x2 x3 x4 x5):∃ x1,p1 x1/\∃ x2,p2 x1 x2/\∃ x3,∃ x4,p3 x1 x2 x3 x4/\p4 x1 x2 x3 x4/\∃ x5,q x1 x2 x3 x4 x5:=⟨x1,h1,x2,h2,x3,x4,h3,h4,x5,k⟩
theorem xbl {α1:Sort _} {p1:α1->Prop} {α2:Sort _} {p2:α1->α2->Prop} {α3:Sort _} {α4:Sort _} {p3:α1->α2->α3->α4->Prop} {p4:α1->α2->α3->α4->Prop} {α5:Sort _} {p5:α1->α2->α3->α4->α5->Prop} {q:α1->α2->α3->α4->α5->Prop} (x1:α1) (h1:p1 x1) (x2:α2) (h2:p2 x1 x2) (x3:α3) (x4:α4) (h3:p3 x1 x2 x3 x4) (h4:p4 x1 x2 x3 x4) (x5:α5) (h5:p5 x1 x2 x3 x4 x5) (k:q x1 x2 x3 x4 x5):∃ x1,p1 x1/\∃ x2,p2 x1 x2/\∃ x3,∃ x4,p3 x1 x2 x3 x4/\p4 x1 x2 x3 x4/\∃ x5,p5 x1 x2 x3 x4 x5/\q x1 x2 x3 x4 x5:=⟨x1,h1,x2,h2,x3,x4,h3,h4,x5,h5,k⟩
theorem xa6 {α1:Sort _} {p1:α1->Prop} {α2:Sort _} {p2:α1->α2->Prop} {α3:Sort _} {α4:Sort _} {α5:Sort _} {q:α1->α2->α3->α4->α5->Prop} (x1:α1) (h1:p1 x1) (x2:α2) (h2:p2 x1 x2) (x3:α3) (x4:α4) (x5:α5) (k:q x1 x2 x3 x4 x5):∃ x1,p1 x1/\∃ x2,p2 x1 x2/\∃ x3,∃ x4,∃ x5,q x1 x2 x3 x4 x5:=⟨x1,h1,x2,h2,x3,x4,x5,k⟩
theorem xbh {α1:Sort _} {p1:α1->Prop} {α2:Sort _} {p2:α1->α2->Prop} {α3:Sort _} {α4:Sort _} {α5:Sort _} {p3:α1->α2->α3->α4->α5->Prop} {p4:α1->α2->α3->α4->α5->Prop} {q:α1->α2->α3->α4->α5->Prop} (x1:α1) (h1:p1 x1) (x2:α2) (h2:p2 x1 x2) (x3:α3) (x4:α4) (x5:α5) (h3:p3 x1 x2 x3 x4 x5) (h4:p4 x1 x2 x3 x4 x5) (k:q x1 x2 x3 x4 x5):∃ x1,p1 x1/\∃ x2,p2 x1 x2/\∃ x3,∃ x4,∃ x5,p3 x1 x2 x3 x4 x5/\p4 x1 x2 x3 x4 x5/\q x1 x2 x3 x4 x5:=⟨x1,h1,x2,h2,x3,x4,x5,h3,h4,k⟩
theorem xce {α1:Sort _} {p1:α1->Prop} {α2:Sort _} {p2:α1->α2->Prop} {α3:Sort _} {α4:Sort _} {α5:Sort _} {p3:α1->α2->α3->α4->α5->Prop} {p4:α1->α2->α3->α4->α5->Prop} {p5:α1->α2->α3->α4->α5->Prop} {q:α1->α2->α3->α4->α5->Prop} (x1:α1) (h1:p1 x1) (x2:α2) (h2:p2 x1 x2) (x3:α3) (x4:α4) (x5:α5) (h3:p3 x1 x2 x3 x4 x5) (h4:p4 x1 x2 x3 x4 x5) (h5:p5 x1 x2 x3 x4 x5) (k:q x1 x2 x3 x4 x5):∃ x1,p1 x1/\∃ x2,p2 x1 x2/\∃ x3,∃ x4,∃ x5,p3 x1 x2 x3 x4 x5/\p4 x1 x2 x3 x4 x5/\p5 x1 x2 x3 x4 x5/\q x1 x2 x3 x4 x5:=⟨x1,h1,x2,h2,x3,x4,x5,h3,h4,h5,k⟩
theorem xei {α1:Sort _} {p1:α1->Prop} {α2:Sort _} {α3:Sort _} {p2:α1->α2->α3->Prop} {q:α1->α2->α3->Prop} (x1:α1) (h1:p1 x1) (x2:α2) (x3:α3) (h2:p2 x1 x2 x3) (k:q x1 x2 x3):∃ x1,p1 x1/\∃ x2,∃ x3,p2 x1 x2 x3/\q x1 x2 x3:=⟨x1,h1,x2,x3,h2,k⟩
theorem xbe {α1:Sort _} {p1:α1->Prop} {α2:Sort _} {α3:Sort _} {p2:α1->α2->α3->Prop} {p3:α1->α2->α3->Prop} {q:α1->α2->α3->Prop} (x1:α1) (h1:p1 x1) (x2:α2) (x3:α3) (h2:p2 x1 x2 x3) (h3:p3 x1 x2 x3) (k:q x1 x2 x3):∃ x1,p1 x1/\∃ x2,∃ x3,p2 x1 x2 x3/\p3 x1 x2 x3/\q x1 x2 x3:=⟨x1,h1,x2,x3,h2,h3,k⟩
theorem xbk {α1:Sort _} {p1:α1->Prop} {α2:Sort _} {α3:Sort _} {p2:α1->α2->α3->Prop} {p3:α1->α2->α3->Prop} {α4:Sort _} {p4:α1->α2->α3->α4->Prop} {q:α1->α2->α3->α4->Prop} (x1:α1) (h1:p1 x1) (x2:α2) (x3:α3) (h2:p2 x1 x2 x3) (h3:p3 x1 x2 x3) (x4:α4) (h4:p4 x1 x2 x3 x4) (k:q x1 x2 x3 x4):∃ x1,p1 x1/\∃ x2,∃ x3,p2 x1 x2 x3/\p3 x1 x2 x3/\∃ x4,p4 x1 x2 x3 x4/\q x1 x2 x3 x4:=⟨x1,h1,x2,x3,h2,h3,x4,h4,k⟩
theorem xcd {α1:Sort _} {p1:α1->Prop} {α2:Sort _} {α3:Sort _} {p2:α1->α2->α3->Prop} {p3:α1->α2->α3->Prop} {α4:Sort _} {α5:Sort _} {p4:α1->α2->α3->α4->α5->Prop} {p5:α1->α2->α3->α4->α5->Prop} {q:α1->α2->α3->α4->α5->Prop} (x1:α1) (h1:p1 x1) (x2:α2) (x3:α3) (h2:p2 x1 x2 x3) (h3:p3 x1 x2 x3) (x4:α4) (x5:α5) (h4:p4 x1 x2 x3 x4 x5) (h5:p5 x1 x2 x3 x4 x5) (k:q x1 x2 x3 x4 x5):∃ x1,p1 x1/\∃ x2,∃ x3,p2 x1 x2 x3/\p3 x1 x2 x3/\∃ x4,∃ x5,p4 x1 x2 x3 x4 x5/\p5 x1 x2 x3 x4 x5/\q x1 x2 x3 x4 x5:=⟨x1,h1,x2,x3,h2,h3,x4,x5,h4,h5,k⟩
theorem xcw {α1:Sort _} {p1:α1->Prop} {α2:Sort _} {α3:Sort _} {α4:Sort _} {p2:α1->α2->α3->α4->Prop} {p3:α1->α2->α3->α4->Prop} {q:α1->α2->α3->α4->Prop} (x1:α1) (h1:p1 x1) (x2:α2) (x3:α3) (x4:α4) (h2:p2 x1 x2 x3 x4) (h3:p3 x1 x2 x3 x4) (k:q x1 x2 x3 x4):∃ x1,p1 x1/\∃ x2,∃ x3,∃ x4,p2 x1 x2 x3 x4/\p3 x1 x2 x3 x4/\q x1 x2 x3 x4:=⟨x1,h1,x2,x3,x4,h2,h3,k⟩
theorem xfk {α1:Sort _} {p1:α1->Prop} {α2:Sort _} {α3:Sort _} {α4:Sort _} {p2:α1->α2->α3->α4->Prop} {p3:α1->α2->α3->α4->Prop} {p4:α1->α2->α3->α4->Prop} {q:α1->α2->α3->α4->Prop} (x1:α1) (h1:p1 x1) (x2:α2) (x3:α3) (x4:α4) (h2:p2 x1 x2 x3 x4) (h3:p3 x1 x2 x3 x4) (h4:p4 x1 x2 x3 x4) (k:q x1 x2 x3 x4):∃ x1,p1 x1/\∃ x2,∃ x3,∃ x4,p2 x1 x2 x3 x4/\p3 x1 x2 x3 x4/\p4 x1 x2 x3 x4/\q x1 x2 x3 x4:=⟨x1,h1,x2,x3,x4,h2,h3,h4,k⟩
theorem xb3 {α1:Sort _} {p1:α1->Prop} {α2:Sort _} {α3:Sort _} {α4:Sort _} {p2:α1->α2->α3->α4->Prop} {p3:α1->α2->α3->α4->Prop} {p4:α1->α2->α3->α4->Prop} {p5:α1->α2->α3->α4->Prop} {q:α1->α2->α3->α4->Prop} (x1:α1) (h1:p1 x1) (x2:α2) (x3:α3) (x4:α4) (h2:p2 x1 x2 x3 x4) (h3:p3 x1 x2 x3 x4) (h4:p4 x1 x2 x3 x4) (h5:p5 x1 x2 x3 x4) (k:q x1 x2 x3 x4):∃ x1,p1 x1/\∃ x2,∃ x3,∃ x4,p2 x1 x2 x3 x4/\p3 x1 x2 x3 x4/\p4 x1 x2 x3 x4/\p5 x1 x2 x3 x4/\q x1 x2 x3 x4:=⟨x1,h1,x2,x3,x4,h2,h3,h4,h5,k⟩
theorem xbo {α1:Sort _} {p1:α1->Prop} {α2:Sort _} {α3:Sort _} {α4:Sort _} {α5:Sort _} {q:α1->α2->α3->α4->α5->Prop} (x1:α1) (h1:p1 x1) (x2:α2) (x3:α3) (x4:α4) (x5:α5) (k:q x1 x2 x3 x4 x5):∃ x1,p1 x1/\∃ x2,∃ x3,∃ x4,∃ x5,q x1 x2 x3 x4 x5:=⟨x1,h1,x2,x3,x4,x5,k⟩
theorem xaa {α1:Sort _} {p1:α1->Prop} {α2:Sort _} {α3:Sort _} {α4:Sort _} {α5:Sort _} {p2:α1->α2->α3->α4->α5->Prop} {p3:α1->α2->α3->α4->α5->Prop} {p4:α1->α2->α3->α4->α5->Prop} {p5:α1->α2->α3->α4->α5->Prop} {q:α1->α2->α3->α4->α5->Prop} (x1:α1) (h1:p1 x1) (x2:α2) (x3:α3) (x4:α4) (x5:α5) (h2:p2 x1 x2 x3 x4 x5) (h3:p3 x1 x2 x3 x4 x5) (h4:p4 x1 x2 x3 x4 x5) (h5:p5 x1 x2 x3 x4 x5) (k:q x1 x2 x3 x4 x5):∃ x1,p1 x1/\∃ x2,∃ x3,∃ x4,∃ x5,p2 x1 x2 x3 x4 x5/\p3 x1 x2 x3 x4 x5/\p4 x1 x2 x3 x4 x5/\p5 x1 x2 x3 x4 x5/\q x1 x2 x3 x4 x5:=⟨x1,h1,x2,x3,x4,x5,h2,h3,h4,h5,k⟩
theorem jEE {α1:Sort _} {α2:Sort _} {q:α1->α2->Prop} (x1:α1) (x2:α2) (k:q x1 x2):∃ x1,∃ x2,q x1 x2:=⟨x1,x2,k⟩
theorem jEEA {α1:Sort _} {α2:Sort _} {p1:α1->α2->Prop} {q:α1->α2->Prop} (x1:α1) (x2:α2) (h1:p1 x1 x2) (k:q x1 x2):∃ x1,∃ x2,p1 x1 x2/\q x1 x2:=⟨x1,x2,h1,k⟩
theorem xav {α1:Sort _} {α2:Sort _} {p1:α1->α2->Prop} {p2:α1->α2->Prop} {q:α1->α2->Prop} (x1:α1) (x2:α2) (h1:p1 x1 x2) (h2:p2 x1 x2) (k:q x1 x2):∃ x1,∃ x2,p1 x1 x2/\p2 x1 x2/\q x1 x2:=⟨x1,x2,h1,h2,k⟩
theorem xcp {α1:Sort _} {α2:Sort _} {p1:α1->α2->Prop} {p2:α1->α2->Prop} {p3:α1->α2->Prop} {q:α1->α2->Prop} (x1:α1) (x2:α2) (h1:p1 x1 x2) (h2:p2 x1 x2) (h3:p3 x1 x2) (k:q x1 x2):∃ x1,∃ x2,p1 x1 x2/\p2 x1 x2/\p3 x1 x2/\q x1 x2:=⟨x1,x2,h1,h2,h3,k⟩
theorem xeh {α1:Sort _} {α2:Sort _} {p1:α1->α2->Prop} {p2:α1->α2->Prop} {p3:α1->α2->Prop} {p4:α1->α2->Prop} {q:α1->α2->Prop} (x1:α1) (x2:α2) (h1:p1 x1 x2) (h2:p2 x1 x2) (h3:p3 x1 x2) (h4:p4 x1 x2) (k:q x1 x2):∃ x1,∃ x2,p1 x1 x2/\p2 x1 x2/\p3 x1 x2/\p4 x1 x2/\q x1 x2:=⟨x1,x2,h1,h2,h3,h4,k⟩
theorem xa5 {α1:Sort _} {α2:Sort _} {p1:α1->α2->Prop} {p2:α1->α2->Prop} {p3:α1->α2->Prop} {p4:α1->α2->Prop} {p5:α1->α2->Prop} {q:α1->α2->Prop} (x1:α1) (x2:α2) (h1:p1 x1 x2) (h2:p2 x1 x2) (h3:p3 x1 x2) (h4:p4 x1 x2) (h5:p5 x1 x2) (k:q x1 x2):∃ x1,∃ x2,p1 x1 x2/\p2 x1 x2/\p3 x1 x2/\p4 x1 x2/\p5 x1 x2/\q x1 x2:=⟨x1,x2,h1,h2,h3,h4,h5,k⟩
theorem xcc {α1:Sort _} {α2:Sort _} {p1:α1->α2->Prop} {p2:α1->α2->Prop} {p3:α1->α2->Prop} {p4:α1->α2->Prop} {p5:α1->α2->Prop} {p6:α1->α2->Prop} {p7:α1->α2->Prop} {p8:α1->α2->Prop} {q:α1->α2->Prop} (x1:α1) (x2:α2) (h1:p1 x1 x2) (h2:p2 x1 x2) (h3:p3 x1 x2) (h4:p4 x1 x2) (h5:p5 x1 x2) (h6:p6 x1 x2) (h7:p7 x1 x2) (h8:p8 x1 x2) (k:q x1 x2):∃ x1,∃ x2,p1 x1 x2/\p2 x1 x2/\p3 x1 x2/\p4 x1 x2/\p5 x1 x2/\p6 x1 x2/\p7 x1 x2/\p8 x1 x2/\q x1 x2:=⟨x1,x2,h1,h2,h3,h4,h5,h6,h7,h8,k⟩
theorem xco {α1:Sort _} {α2:Sort _} {p1:α1->α2->Prop} {p2:α1->α2->Prop} {p3:α1->α2->Prop} {p4:α1->α2->Prop} {α3:Sort _} {p5:α1->α2->α3->Prop} {q:α1->α2->α3->Prop} (x1:α1) (x2:α2) (h1:p1 x1 x2) (h2:p2 x1 x2) (h3:p3 x1 x2) (h4:p4 x1 x2) (x3:α3) (h5:p5 x1 x2 x3) (k:q x1 x2 x3):∃ x1,∃ x2,p1 x1 x2/\p2 x1 x2/\p3 x1 x2/\p4 x1 x2/\∃ x3,p5 x1 x2 x3/\q x1 x2 x3:=⟨x1,x2,h1,h2,h3,h4,x3,h5,k⟩
theorem xak {α1:Sort _} {α2:Sort _} {p1:α1->α2->Prop} {p2:α1->α2->Prop} {p3:α1->α2->Prop} {α3:Sort _} {α4:Sort _} {p4:α1->α2->α3->α4->Prop} {α5:Sort _} {q:α1->α2->α3->α4->α5->Prop} (x1:α1) (x2:α2) (h1:p1 x1 x2) (h2:p2 x1 x2) (h3:p3 x1 x2) (x3:α3) (x4:α4) (h4:p4 x1 x2 x3 x4) (x5:α5) (k:q x1 x2 x3 x4 x5):∃ x1,∃ x2,p1 x1 x2/\p2 x1 x2/\p3 x1 x2/\∃ x3,∃ x4,p4 x1 x2 x3 x4/\∃ x5,q x1 x2 x3 x4 x5:=⟨x1,x2,h1,h2,h3,x3,x4,h4,x5,k⟩
theorem xad {α1:Sort _} {α2:Sort _} {p1:α1->α2->Prop} {p2:α1->α2->Prop} {α3:Sort _} {α4:Sort _} {p3:α1->α2->α3->α4->Prop} {p4:α1->α2->α3->α4->Prop} {α5:Sort _} {q:α1->α2->α3->α4->α5->Prop} (x1:α1) (x2:α2) (h1:p1 x1 x2) (h2:p2 x1 x2) (x3:α3) (x4:α4) (h3:p3 x1 x2 x3 x4) (h4:p4 x1 x2 x3 x4) (x5:α5) (k:q x1 x2 x3 x4 x5):∃ x1,∃ x2,p1 x1 x2/\p2 x1 x2/\∃ x3,∃ x4,p3 x1 x2 x3 x4/\p4 x1 x2 x3 x4/\∃ x5,q x1 x2 x3 x4 x5:=⟨x1,x2,h1,h2,x3,x4,h3,h4,x5,k⟩
theorem xeg {α1:Sort _} {α2:Sort _} {α3:Sort _} {p1:α1->α2->α3->Prop} {p2:α1->α2->α3->Prop} {q:α1->α2->α3->Prop} (x1:α1) (x2:α2) (x3:α3) (h1:p1 x1 x2 x3) (h2:p2 x1 x2 x3) (k:q x1 x2 x3):∃ x1,∃ x2,∃ x3,p1 x1 x2 x3/\p2 x1 x2 x3/\q x1 x2 x3:=⟨x1,x2,x3,h1,h2,k⟩
theorem xe8 {α1:Sort _} {α2:Sort _} {α3:Sort _} {p1:α1->α2->α3->Prop} {p2:α1->α2->α3->Prop} {p3:α1->α2->α3->Prop} {q:α1->α2->α3->Prop} (x1:α1) (x2:α2) (x3:α3) (h1:p1 x1 x2 x3) (h2:p2 x1 x2 x3) (h3:p3 x1 x2 x3) (k:q x1 x2 x3):∃ x1,∃ x2,∃ x3,p1 x1 x2 x3/\p2 x1 x2 x3/\p3 x1 x2 x3/\q x1 x2 x3:=⟨x1,x2,x3,h1,h2,h3,k⟩
theorem xbd {α1:Sort _} {α2:Sort _} {α3:Sort _} {p1:α1->α2->α3->Prop} {p2:α1->α2->α3->Prop} {p3:α1->α2->α3->Prop} {p4:α1->α2->α3->Prop} {q:α1->α2->α3->Prop} (x1:α1) (x2:α2) (x3:α3) (h1:p1 x1 x2 x3) (h2:p2 x1 x2 x3) (h3:p3 x1 x2 x3) (h4:p4 x1 x2 x3) (k:q x1 x2 x3):∃ x1,∃ x2,∃ x3,p1 x1 x2 x3/\p2 x1 x2 x3/\p3 x1 x2 x3/\p4 x1 x2 x3/\q x1 x2 x3:=⟨x1,x2,x3,h1,h2,h3,h4,k⟩
theorem xef {α1:Sort _} {α2:Sort _} {α3:Sort _} {p1:α1->α2->α3->Prop} {p2:α1->α2->α3->Prop} {p3:α1->α2->α3->Prop} {p4:α1->α2->α3->Prop} {p5:α1->α2->α3->Prop} {q:α1->α2->α3->Prop} (x1:α1) (x2:α2) (x3:α3) (h1:p1 x1 x2 x3) (h2:p2 x1 x2 x3) (h3:p3 x1 x2 x3) (h4:p4 x1 x2 x3) (h5:p5 x1 x2 x3) (k:q x1 x2 x3):∃ x1,∃ x2,∃ x3,p1 x1 x2 x3/\p2 x1 x2 x3/\p3 x1 x2 x3/\p4 x1 x2 x3/\p5 x1 x2 x3/\q x1 x2 x3:=⟨x1,x2,x3,h1,h2,h3,h4,h5,k⟩
theorem xct {α1:Sort _} {α2:Sort _} {α3:Sort _} {p1:α1->α2->α3->Prop} {p2:α1->α2->α3->Prop} {p3:α1->α2->α3->Prop} {p4:α1->α2->α3->Prop} {p5:α1->α2->α3->Prop} {p6:α1->α2->α3->Prop} {q:α1->α2->α3->Prop} (x1:α1) (x2:α2) (x3:α3) (h1:p1 x1 x2 x3) (h2:p2 x1 x2 x3) (h3:p3 x1 x2 x3) (h4:p4 x1 x2 x3) (h5:p5 x1 x2 x3) (h6:p6 x1 x2 x3) (k:q x1 x2 x3):∃ x1,∃ x2,∃ x3,p1 x1 x2 x3/\p2 x1 x2 x3/\p3 x1 x2 x3/\p4 x1 x2 x3/\p5 x1 x2 x3/\p6 x1 x2 x3/\q x1 x2 x3:=⟨x1,x2,x3,h1,h2,h3,h4,h5,h6,k⟩
theorem xdt {α1:Sort _} {α2:Sort _} {α3:Sort _} {p1:α1->α2->α3->Prop} {p2:α1->α2->α3->Prop} {p3:α1->α2->α3->Prop} {p4:α1->α2->α3->Prop} {α4:Sort _} {α5:Sort _} {q:α1->α2->α3->α4->α5->Prop} (x1:α1) (x2:α2) (x3:α3) (h1:p1 x1 x2 x3) (h2:p2 x1 x2 x3) (h3:p3 x1 x2 x3) (h4:p4 x1 x2 x3) (x4:α4) (x5:α5) (k:q x1 x2 x3 x4 x5):∃ x1,∃ x2,∃ x3,p1 x1 x2 x3/\p2 x1 x2 x3/\p3 x1 x2 x3/\p4 x1 x2 x3/\∃ x4,∃ x5,q x1 x2 x3 x4 x5:=⟨x1,x2,x3,h1,h2,h3,h4,x4,x5,k⟩
theorem xay {α1:Sort _} {α2:Sort _} {α3:Sort _} {α4:Sort _} {p1:α1->α2->α3->α4->Prop} {p2:α1->α2->α3->α4->Prop} {p3:α1->α2->α3->α4->Prop} {p4:α1->α2->α3->α4->Prop} {q:α1->α2->α3->α4->Prop} (x1:α1) (x2:α2) (x3:α3) (x4:α4) (h1:p1 x1 x2 x3 x4) (h2:p2 x1 x2 x3 x4) (h3:p3 x1 x2 x3 x4) (h4:p4 x1 x2 x3 x4) (k:q x1 x2 x3 x4):∃ x1,∃ x2,∃ x3,∃ x4,p1 x1 x2 x3 x4/\p2 x1 x2 x3 x4/\p3 x1 x2 x3 x4/\p4 x1 x2 x3 x4/\q x1 x2 x3 x4:=⟨x1,x2,x3,x4,h1,h2,h3,h4,k⟩
theorem xbb {α1:Sort _} {α2:Sort _} {α3:Sort _} {α4:Sort _} {p1:α1->α2->α3->α4->Prop} {p2:α1->α2->α3->α4->Prop} {p3:α1->α2->α3->α4->Prop} {p4:α1->α2->α3->α4->Prop} {p5:α1->α2->α3->α4->Prop} {q:α1->α2->α3->α4->Prop} (x1:α1) (x2:α2) (x3:α3) (x4:α4) (h1:p1 x1 x2 x3 x4) (h2:p2 x1 x2 x3 x4) (h3:p3 x1 x2 x3 x4) (h4:p4 x1 x2 x3 x4) (h5:p5 x1 x2 x3 x4) (k:q x1 x2 x3 x4):∃ x1,∃ x2,∃ x3,∃ x4,p1 x1 x2 x3 x4/\p2 x1 x2 x3 x4/\p3 x1 x2 x3 x4/\p4 x1 x2 x3 x4/\p5 x1 x2 x3 x4/\q x1 x2 x3 x4:=⟨x1,x2,x3,x4,h1,h2,h3,h4,h5,k⟩
theorem xcb {α1:Sort _} {α2:Sort _} {α3:Sort _} {α4:Sort _} {p1:α1->α2->α3->α4->Prop} {p2:α1->α2->α3->α4->Prop} {p3:α1->α2->α3->α4->Prop} {p4:α1->α2->α3->α4->Prop} {p5:α1->α2->α3->α4->Prop} {p6:α1->α2->α3->α4->Prop} {q:α1->α2->α3->α4->Prop} (x1:α1) (x2:α2) (x3:α3) (x4:α4) (h1:p1 x1 x2 x3 x4) (h2:p2 x1 x2 x3 x4) (h3:p3 x1 x2 x3 x4) (h4:p4 x1 x2 x3 x4) (h5:p5 x1 x2 x3 x4) (h6:p6 x1 x2 x3 x4) (k:q x1 x2 x3 x4):∃ x1,∃ x2,∃ x3,∃ x4,p1 x1 x2 x3 x4/\p2 x1 x2 x3 x4/\p3 x1 x2 x3 x4/\p4 x1 x2 x3 x4/\p5 x1 x2 x3 x4/\p6 x1 x2 x3 x4/\q x1 x2 x3 x4:=⟨x1,x2,x3,x4,h1,h2,h3,h4,h5,h6,k⟩
theorem xds {α1:Sort _} {α2:Sort _} {α3:Sort _} {α4:Sort _} {p1:α1->α2->α3->α4->Prop} {p2:α1->α2->α3->α4->Prop} {p3:α1->α2->α3->α4->Prop} {p4:α1->α2->α3->α4->Prop} {α5:Sort _} {q:α1->α2->α3->α4->α5->Prop} (x1:α1) (x2:α2) (x3:α3) (x4:α4) (h1:p1 x1 x2 x3 x4) (h2:p2 x1 x2 x3 x4) (h3:p3 x1 x2 x3 x4) (h4:p4 x1 x2 x3 x4) (x5:α5) (k:q x1 x2 x3 x4 x5):∃ x1,∃ x2,∃ x3,∃ x4,p1 x1 x2 x3 x4/\p2 x1 x2 x3 x4/\p3 x1 x2 x3 x4/\p4 x1 x2 x3 x4/\∃ x5,q x1 x2 x3 x4 x5:=⟨x1,x2,x3,x4,h1,h2,h3,h4,x5,k⟩
theorem xas {α1:Sort _} {α2:Sort _} {α3:Sort _} {α4:Sort _} {α5:Sort _} {q:α1->α2->α3->α4->α5->Prop} (x1:α1) (x2:α2) (x3:α3) (x4:α4) (x5:α5) (k:q x1 x2 x3 x4 x5):∃ x1,∃ x2,∃ x3,∃ x4,∃ x5,q x1 x2 x3 x4 x5:=⟨x1,x2,x3,x4,x5,k⟩
theorem xam {α1:Sort _} {α2:Sort _} {α3:Sort _} {α4:Sort _} {α5:Sort _} {p1:α1->α2->α3->α4->α5->Prop} {p2:α1->α2->α3->α4->α5->Prop} {p3:α1->α2->α3->α4->α5->Prop} {p4:α1->α2->α3->α4->α5->Prop} {p5:α1->α2->α3->α4->α5->Prop} {q:α1->α2->α3->α4->α5->Prop} (x1:α1) (x2:α2) (x3:α3) (x4:α4) (x5:α5) (h1:p1 x1 x2 x3 x4 x5) (h2:p2 x1 x2 x3 x4 x5) (h3:p3 x1 x2 x3 x4 x5) (h4:p4 x1 x2 x3 x4 x5) (h5:p5 x1 x2 x3 x4 x5) (k:q x1 x2 x3 x4 x5):∃ x1,∃ x2,∃ x3,∃ x4,∃ x5,p1 x1 x2 x3 x4 x5/\p2 x1 x2 x3 x4 x5/\p3 x1 x2 x3 x4 x5/\p4 x1 x2 x3 x4 x5/\p5 x1 x2 x3 x4 x5/\q x1 x2 x3 x4 x5:=⟨x1,x2,x3,x4,x5,h1,h2,h3,h4,h5,k⟩
end L2
end
section
namespace L2
open PySem PySem.Spec PyProof.Rows
def clOf (env:Env):List (Str×NameKind)->List (Str×Addr)->List (Str×Addr)
 | [],cs=>cs
 | (n,k) :: r,cs=>clOf env r (if k == .free then match env.cells.lookup n with | some a=>(n,a) :: cs | none=>cs else cs)
theorem xkq {env:Env} {x:Str} {c:Addr}:∀ {ns:List (Str×NameKind)} {cs:List (Str×Addr)},(∀ p∈cs,env.cells.lookup p.1=some p.2)->(clOf env ns cs).lookup x=some c->env.cells.lookup x=some c
 | [],cs,h,e=>by
  unfold clOf at e
  exact h (x,c) (PySem.mem_of_lookup e)
 | (n,k) :: r,cs,h,e=>by
  unfold clOf at e
  refine xkq (ns:=r) ?_ e
  intro p hp
  split at hp
  ·split at hp
   ·rename_i a ea
    rcases zMC hp with rfl | hp
    ·exact ea
    ·exact h p hp
   ·exact h p hp
  ·exact h p hp
theorem xe0 {x:Str}:∀ {cs:List (Str×Addr)},(∃ c,(x,c)∈cs)->∃ c,cs.lookup x=some c
 | [],⟨_,h⟩=>nomatch h
 | (n,a) :: r,⟨c,h⟩=>by
  rw [List.lookup_cons]
  cases e:x == n with
  | true=>exact ⟨a,rfl⟩
  | false=>
   rcases zMC h with h | h
   ·cases h
    rw [beq_self_eq_true] at e; cases e
   ·exact xe0 ⟨c,h⟩
theorem xne {env:Env} {x:Str}:∀ {ns:List (Str×NameKind)} {cs:List (Str×Addr)},((∃ c,(x,c)∈cs)\/((x,NameKind.free)∈ns/\∃ c,env.cells.lookup x=some c))->∃ c,(x,c)∈clOf env ns cs
 | [],cs,h=>by
  unfold clOf
  rcases h with h | ⟨h,_⟩
  ·exact h
  ·cases h
 | (n,k) :: r,cs,h=>by
  unfold clOf
  refine xne (ns:=r) ?_
  rcases h with ⟨c,h⟩ | ⟨h,c,hc⟩
  ·refine .inl ⟨c,?_⟩
   split
   ·split
    ·exact List.mem_cons_of_mem _ h
    ·exact h
   ·exact h
  ·rcases zMC h with h | h
   ·cases h
    refine .inl ⟨c,?_⟩
    rw [if_pos (by decide),hc]
    exact List.mem_cons_self
   ·exact .inr ⟨h,c,hc⟩
theorem xfr {sc:Scope} {env:Env} (h:∀ p∈sc.names,p.2=NameKind.free->∃ c,env.cells.lookup p.1=some c):closureFor sc env=pure (clOf env sc.names []):=by
 have go:∀ (ns:List (Str×NameKind)) (cs:List (Str×Addr)),(∀ p∈ns,p.2=NameKind.free->∃ c,env.cells.lookup p.1=some c)->
   (forIn ns cs fun (x:Str×NameKind) (r:List (Str×Addr))=>(if (x.2 == NameKind.free)=true then do
     let y <- cellOf env x.1
     pure (ForInStep.yield ((x.1,y) :: r)) else pure (ForInStep.yield r):Sem (ForInStep (List (Str×Addr)))))=(pure (clOf env ns cs):Sem (List (Str×Addr))):=by
  intro ns
  induction ns with
  | nil=>intro cs _; rfl
  | cons p r ih=>
   intro cs hp
   obtain ⟨n,k⟩:=p
   rw [List.forIn_cons]
   unfold clOf
   by_cases hk:k=NameKind.free
   ·subst hk
    obtain ⟨c,hc⟩:=hp (n,.free) List.mem_cons_self rfl
    have e1:cellOf env n=pure c:=by unfold cellOf; rw [hc]
    simp only [beq_self_eq_true,if_true,e1,hc,pure_bind]
    exact ih _ fun q hq=>hp q (List.mem_cons_of_mem _ hq)
   ·have hb:(k == NameKind.free)=false:=by simpa using hk
    simp only [hb,Bool.false_eq_true,if_false,pure_bind]
    exact ih _ fun q hq=>hp q (List.mem_cons_of_mem _ hq)
 unfold closureFor
 have:=go sc.names [] h
 simp only [bind_pure_comp,id_map'] at this ⊢
 rw [this]
 rfl
end L2
end
section
namespace L2
open PySem PySem.Spec PyProof.Rows
theorem xcv {env:Env} {x:Str} {k':NameKind}:∀ {ns:List (Str×NameKind)},
  (ns.map fun (n,k)=>if (k == NameKind.free && env.scope.kind == .function && env.kindOf n == some .cell) then (n,NameKind.cell) else (n,k)).lookup x=some k'->
  ∃ k,ns.lookup x=some k/\(k'=k\/(k=.free/\k'=.cell))
 | [],h=>by simp at h
 | (n,k) :: r,h=>by
  have h':List.lookup x ((if (k == NameKind.free && env.scope.kind == .function && env.kindOf n == some .cell)=true then (n,NameKind.cell) else (n,k)) :: (r.map fun (n,k)=>if (k == NameKind.free && env.scope.kind == .function && env.kindOf n == some .cell) then (n,NameKind.cell) else (n,k)))=some k':=h
  rw [List.lookup_cons]
  by_cases hc:(k == NameKind.free && env.scope.kind == .function && env.kindOf n == some .cell)=true
  ·rw [if_pos hc,List.lookup_cons] at h'
   cases e:x == n with
   | true=>
    rw [e] at h'
    cases h'
    refine ⟨k,rfl,.inr ⟨?_,rfl⟩⟩
    rw [Bool.and_eq_true,Bool.and_eq_true] at hc
    exact eq_of_beq hc.1.1
   | false=>
    rw [e] at h'
    exact xcv h'
  ·rw [if_neg hc,List.lookup_cons] at h'
   cases e:x == n with
   | true=>
    rw [e] at h'
    cases h'
    exact ⟨_,rfl,.inl rfl⟩
   | false=>
    rw [e] at h'
    exact xcv h'
theorem xe4 {env:Env} {x:Str} {k:NameKind}:∀ {ns:List (Str×NameKind)},ns.lookup x=some k->
  ∃ k',(ns.map fun (n,k)=>if (k == NameKind.free && env.scope.kind == .function && env.kindOf n == some .cell) then (n,NameKind.cell) else (n,k)).lookup x=some k'/\(k'=k\/(k=.free/\k'=.cell))
 | [],h=>by simp at h
 | (n,k0) :: r,h=>by
  show ∃ k',List.lookup x ((if (k0 == NameKind.free && env.scope.kind == .function && env.kindOf n == some .cell)=true then (n,NameKind.cell) else (n,k0)) :: (r.map fun (n,k)=>if (k == NameKind.free && env.scope.kind == .function && env.kindOf n == some .cell) then (n,NameKind.cell) else (n,k)))=some k'/\_
  rw [List.lookup_cons] at h
  by_cases hc:(k0 == NameKind.free && env.scope.kind == .function && env.kindOf n == some .cell)=true
  ·rw [if_pos hc,List.lookup_cons]
   cases e:x == n with
   | true=>
    rw [e] at h
    cases h
    refine ⟨_,rfl,.inr ⟨?_,rfl⟩⟩
    rw [Bool.and_eq_true,Bool.and_eq_true] at hc
    exact eq_of_beq hc.1.1
   | false=>
    rw [e] at h
    exact xe4 h
  ·rw [if_neg hc,List.lookup_cons]
   cases e:x == n with
   | true=>
    rw [e] at h
    cases h
    exact ⟨_,rfl,.inl rfl⟩
   | false=>
    rw [e] at h
    exact xe4 h
abbrev Cap:=List (Option Nat)
def capt (ix:Cap) (σ:St):St:=ix.map fun o=>(o.bind fun j=>σ[j]?).join
def xsd (N N':List Str) (sc sc':Scope) (ix:Cap):Bool:=
 (ix.length == N'.length) && (sc'.kind == .function) &&
 (sc'.names.all fun p=>p.2 != .cell && (p.2 != .local || sc'.names.lookup p.1 == some .local) && (p.2 != .free || (sc.names.lookup p.1 == some .cell || sc.names.lookup p.1 == some .free))) &&
 (List.range ix.length).all fun k=>match ix[k]? with
  | some (some j)=>match N'[k]? with
   | some x=>N[j]? == some x && sc'.names.lookup x == some .free
   | none=>false
  | _=>true
structure CapOk (N N':List Str) (sc sc':Scope) (ix:Cap):Prop where
 len:ix.length=N'.length
 kind:sc'.kind=.function
 nocell:∀ p∈sc'.names,p.2≠.cell
 loc:∀ p∈sc'.names,p.2=.local->sc'.names.lookup p.1=some .local
 fre:∀ p∈sc'.names,p.2=.free->sc.names.lookup p.1=some .cell\/sc.names.lookup p.1=some .free
 cap:∀ (k j:Nat),ix[k]?=some (some j)->∃ x,N'[k]?=some x/\N[j]?=some x/\sc'.names.lookup x=some .free
theorem xng {N N':List Str} {sc sc':Scope} {ix:Cap} (h:xsd N N' sc sc' ix=true):CapOk N N' sc sc' ix:=by
 unfold xsd at h
 simp only [Bool.and_eq_true,List.all_eq_true,beq_iff_eq] at h
 obtain ⟨⟨⟨h1,h2⟩,h3⟩,h4⟩:=h
 refine ⟨h1,h2,fun p hp=>?_,fun p hp hl=>?_,fun p hp hf=>?_,fun k j hk=>?_⟩
 ·have:=(h3 p hp).1.1
  simpa using this
 ·have:=(h3 p hp).1.2
  rw [hl] at this
  simpa using this
 ·have:=(h3 p hp).2
  rw [hf] at this
  simpa using this
 ·have hlt:k < ix.length:=(zES hk).1
  have:=h4 k (List.mem_range.mpr hlt)
  rw [hk] at this
  simp only at this
  cases e:N'[k]? with
  | none=>rw [e] at this; simp at this
  | some x=>
   rw [e] at this
   simp only [Bool.and_eq_true,beq_iff_eq] at this
   exact ⟨x,rfl,this.1,this.2⟩
abbrev Cx.comp (X:Cx) (sc:Scope) (N':List Str) (C:Addr) (s₀:Shared) (H₀:Hp) (ex:List Addr):Cx:=
 { X with N:=N',s₀:=s₀,H₀:=H₀,env:=compEnvC sc (clOf X.env sc.names []) C X.env,outer:=X.stack,stack:=X.stack,ex:=ex,fn:=fun _=>false,pn:=[],xe:=fun _ _=>False }
def Ext (σ σ':St):Prop:=σ.length=σ'.length/\∀ (i:Nat) v,σ[i]?=some (some v)->σ'[i]?=some (some v)
theorem xd5 {σ:St} {i:Nat} {v:Option V} (h:σ[i]?=some none):Ext σ (σ.set i v):=by
 refine ⟨by simp,fun j w e=>?_⟩
 by_cases hj:i=j
 ·subst hj; rw [h] at e; cases e
 ·rw [List.getElem?_set_ne hj]; exact e
def PTs (X:Cx) (ifs:List Expr) (t:TT):Prop:=
 ∀ (pins:List (Addr×Obj)) (s:Shared) (σ:St) (H:Hp) (Q:Bool->Hp->Prop),Inv X pins σ H s->t σ H Q->
  wpAny (model X.prog X.w) X.A (forIn ifs true fun c r=>if r=true then do let ok <- isTrue c X.env (eval c X.env); pure (ForInStep.yield ok) else pure (ForInStep.yield r)) (TP X pins σ Q) X.xe s
def tYes:TT:=fun _ H Q=>Q true H
theorem xbz {X:Cx}:PTs X [] tYes:=fun _ _ _ H _ I h=>wpAny_tests_nil ⟨H,I,h⟩
theorem xc9 {X:Cx} {c:Expr} {t:TT} (h:PT X c t):PTs X [c] t:=fun pins s σ H Q I hw=>wpAny_tests_one (h pins s σ H Q I hw)
def xge (J:It) (ix:Cap) (g:TG) (tt:TT) (te:TE) (σ:St) (H1:Hp) (Q:VK):Prop:=∃ W:Nat->Nat->List V->Hp->Prop,(∃ m,W 0 m [] H1)/\∀ i m ys H,W i m ys H->
 (J.stop i H/\∀ D,H D=none->Q (.ref D) (upd H D (.lst ys))) ∨
 (J.go i H/\ys.length < sizeLine/\∀ x H',J.yld i H x H'->g x (capt ix σ) H' fun σ2 H2=>Ext (capt ix σ) σ2/\tt σ2 H2 fun b H3=>
  if b=true then te σ2 H3 fun y H4=>∃ m',m' < m/\W (i + 1) m' (ys++[y]) H4 else ∃ m',m' < m/\W (i + 1) m' ys H3)
def xuu (ix:Cap) (wi:TI) (g:TG) (tt:TT) (te:TE):TE:=fun σ H Q=>wi σ H fun J H1=>xge J ix g tt te σ H1 Q
theorem HOk.track {P:Program} {w:World} {H:Hp} {h:Heap} {a:Addr} {o:HO} (x:HOk P w H h) (hn:H a=none) (new:ObjOk P w (upd H a o) h a o):HOk P w (upd H a o) h:=fun b u e=>by
 by_cases hb:b=a
 ·subst hb; rw [ups] at e; cases e; exact new
 ·rw [xba hb] at e
  exact (x b u e).stay (fun c v _ q=>q) (fun c q=>by rw [xba (neN q hn)]; exact q) fun c xs q=>by rw [xba (neN q hn)]; exact q
theorem xev {prog:Program} {w:World} {A:Around} {R:Result->Shared->Prop} {s:Shared} {elt target iter:Expr} {ifs:List Expr} {scope:Scope} {pos:Pos} {it acc:Value} {env:Env} (I:Nat->Shared->Prop)
  (turn:∀ n s,I n s->wpAny (model prog w) A (pyNext it) (fun r s₁=>match r with
   | none=>R (.ok .next) s₁
   | some v=>wpAny (model prog w) A (letOwnedTupleGo target it v) (fun _ s₁'=>wpAny (model prog w) A (assign target env v) (fun _ s₂=>
     wpAny (model prog w) A (forIn ifs true fun c r=>if r=true then do let ok <- isTrue c env (eval c env); pure (ForInStep.yield ok) else pure (ForInStep.yield r)) (fun ok s₃=>
      if ok=true then wpAny (model prog w) A (eval elt env) (fun x s₄=>
       wpAny (model prog w) A (call (.builtin "list.append") [acc,x]) (fun _ s₅=>∃ m,m < n/\I m s₅) (notedBy (model prog w) A env fun e s'=>R (.error e) s') s₄) (notedBy (model prog w) A env fun e s'=>R (.error e) s') s₃
      else ∃ m,m < n/\I m s₃) (notedBy (model prog w) A env fun e s'=>R (.error e) s') s₂) (notedBy (model prog w) A env fun e s'=>R (.error e) s') s₁') (notedBy (model prog w) A env fun e s'=>R (.error e) s') s₁) (notedBy (model prog w) A env fun e s'=>R (.error e) s') s)
  (n:Nat) (h:I n s) :
  codeAny (model prog w) A (.compLoop (.ListComp elt [⟨target,iter,ifs,0⟩] scope pos) 0 it acc env) R s:=by
 refine codeAny_loop rfl I (fun n s hI=>?_) n h
 show wpAny _ A ((compTurn (.ListComp elt [⟨target,iter,ifs,0⟩] scope pos) 0 it acc env).onRaise (fun x=>do noteFrame x env; theTreesLotGoes x)) _ _ s
 refine wpAny_noted ?_
 rw [compTurn_list]
 refine wpAny_bind (wpAny_standAt (wpAny_bind (wpAny_mono (turn n s hI) (fun r s₁ h₁=>?_) fun _ _ h'=>h')))
 cases r with
 | none=>exact wpAny_pure h₁
 | some v=>
  refine wpAny_bind (wpAny_mono h₁ (fun _ s₁' h₁'=>?_) fun _ _ h'=>h')
  refine wpAny_bind (wpAny_mono h₁' (fun _ s₂ h₂=>wpAny_bind (wpAny_mono h₂ (fun ok s₃ h₃=>?_) fun _ _ h'=>h')) fun _ _ h'=>h')
  cases ok with
  | false=>exact wpAny_pure ⟨rfl,h₃⟩
  | true=>
   exact wpAny_bind (wpAny_bind (wpAny_mono h₃ (fun x s₄ h₄=>wpAny_bind (wpAny_mono h₄ (fun _ s₅ h₅=>wpAny_pure (wpAny_pure ⟨rfl,h₅⟩)) fun _ _ h'=>h')) fun _ _ h'=>h'))
section
variable {X:Cx}
theorem xh9 {M:Model} {A:Around} {α:Type} {t:Sem α} {Q:α->Shared->Prop} {E:Value->Shared->Prop} {s:Shared} (h:wpAny M A t Q (fun _ _=>False) s):wpAny M A t Q E s:=wpAny_mono h (fun _ _ q=>q) fun _ _ z=>z.elim
theorem xie {elt tg iter:Expr} {ifs:List Expr} {sc:Scope} {pos:Pos} {N':List Str} {ix:Cap} {g:TG} {tt:TT} {te:TE} {pins:List (Addr×Obj)} {σ:St} {s:Shared} {Q:VK} {RR:Value->Addr->Result->Shared->Prop} {E:Value->Shared->Prop}
  {itv:Value} (hc:X.calm=true) (ok:CapOk X.N N' X.env.scope sc ix)
  (hg:∀ C s₀ H₀ ex,PG (X.comp sc N' C s₀ H₀ ex) tg g) (ht:∀ C s₀ H₀ ex,PTs (X.comp sc N' C s₀ H₀ ex) ifs tt) (he:∀ C s₀ H₀ ex,PE (X.comp sc N' C s₀ H₀ ex) elt te)
  (hi:PIE X pins σ tg (fun J H1=>xge J ix g tt te σ H1 Q) itv s)
  (fin:∀ (D C:Addr) (s':Shared) (H':Hp) (m:Str->Option Value),Inv X pins σ H' s'->Q (.ref D) H'->s'.heap.Ns C m->H' C=none->C≠X.env.locals->X.s₀.heap.objs.size<=C->(∀ x c,X.env.cells.lookup x=some c->c≠C)->(∀ p∈X.pn++pins,p.1≠C)->
   RR (.ref D) C (.ok .next) s') :
  wpAny (model X.prog X.w) X.A (newList []) (fun acc s₃=>wpAny (model X.prog X.w) X.A (newFunctionEnv sc X.env.globals (clOf X.env sc.names []) [] X.env.qual none .none (some X.env)) (fun cenv s₄=>
   codeAny (model X.prog X.w) X.A (.compStart (.ListComp elt [⟨tg,iter,ifs,0⟩] sc pos) 0 itv acc { cenv with scope:=relabel sc X.env }) (RR acc cenv.locals) s₄) E s₃) E s:=by
 obtain ⟨it,fp,tn,J,H2,rfl,I2,T,st2,f2,W,⟨m0,w0⟩,turn⟩:=hi
 refine wpAny_newObj_type (wpAny_newFunctionEnv ok.nocell (by intro y hy; simp at hy) (fun h₁ hns₁ hsb₁=>?_) ok.kind)
 dsimp only at hns₁ hsb₁ ⊢
 generalize hHD:s.heap.push { cls:=.type "list",dict:=none,data:=.seq ([]:List Value).toArray }=hD at hns₁ hsb₁ ⊢
 have hCs:hD.objs.size=s.heap.objs.size + 1:=by rw [<- hHD,Heap.size_push]
 have upC:s.heap.objs.size < hD.objs.size:=by rw [hCs]; exact Nat.lt_succ_self _
 have hDC:s.heap.objs.size≠hD.objs.size:=by rw [hCs]; exact Nat.ne_of_lt (Nat.lt_succ_self _)
 have below:∀ b o,s.heap.get? b=some o->b≠hD.objs.size/\b≠s.heap.objs.size:=fun b o e=>by
  have:=Heap.lt_size e
  exact ⟨Nat.ne_of_lt (by rw [hCs]; exact Nat.lt_succ_of_lt this),Nat.ne_of_lt this⟩
 have old:∀ b o,s.heap.get? b=some o->h₁.get? b=some o:=fun b o e=>hsb₁.extBut b o (below b o e).1 (zPO _ (hHD ▸ zPO _ e))
 have hacc:h₁.get? s.heap.objs.size=some { cls:=.type "list",data:=.seq ([]:List Value).toArray 0 }:=hsb₁.extBut _ _ hDC (zPO _ (hHD ▸ Heap.get?_push_size _ rfl))
 have fpo:∀ b∈fp,b < s.heap.objs.size:=fun b hb=>let ⟨o,e,_⟩:=T.obj _ _ st2 b hb; Heap.lt_size e
 have cellX:∀ x c,(clOf X.env sc.names []).lookup x=some c->X.env.cells.lookup x=some c:=fun x c e=>xkq (fun p hp=>absurd hp (by simp)) e
 have cellLt:∀ x c,X.env.cells.lookup x=some c->c < s.heap.objs.size:=fun x c e=>let ⟨v,z⟩:=I2.cell x c e; z.lt
 have hasC:∀ x,(x,NameKind.free)∈sc.names->∃ c,(clOf X.env sc.names []).lookup x=some c:=fun x hx=>by
  have h1:=I2.ok.has x (ok.fre (x,.free) hx rfl)
  exact xe0 (xne (.inr ⟨hx,h1⟩))
 have okX:(X.comp sc N' hD.objs.size s H2 fp).Ok:=by
  refine ⟨I2.ok.mod,ok.kind,I2.ok.glob,I2.ok.blt,?_,?_,?_,?_,I2.ok.hd,I2.ok.frames,.inl rfl,?_,I2.bs,Nat.le_trans I2.ok.bsz I2.sz,?_,?_,I2.stack,I2.stkFree⟩
  ·exact Nat.le_of_lt upC
  ·intro x y c h1 h2
   exact I2.ok.inj x y c (cellX x c h1) (cellX y c h2)
  ·intro x hx
   have hx':(relabel sc X.env).names.lookup x=some .cell\/(relabel sc X.env).names.lookup x=some .free:=hx
   have:∃ k,sc.names.lookup x=some k/\(k=.free\/k=.cell):=by
    rcases hx' with h | h
    ·obtain ⟨k,e,z⟩:=xcv h
     rcases z with z | ⟨z,_⟩
     ·exact ⟨k,e,.inr z.symm⟩
     ·exact ⟨k,e,.inl z⟩
    ·obtain ⟨k,e,z⟩:=xcv h
     rcases z with z | ⟨_,z⟩
     ·exact ⟨k,e,.inl z.symm⟩
     ·cases z
   obtain ⟨k,e,z⟩:=this
   rcases z with rfl | rfl
   ·exact hasC x (PySem.mem_of_lookup e)
   ·exact absurd rfl (ok.nocell _ (PySem.mem_of_lookup e))
  ·intro x c h _
   cases h
  ·intro b hb
   refine ⟨?_,fun x c e=>(f2 b hb).2.2.2.2.1 x c (cellX x c e)⟩
   exact Nat.ne_of_lt (by rw [hCs]; exact Nat.lt_succ_of_lt (fpo b hb))
  ·intro b o e hb
   rcases (f2 b hb).2.2.2.1 with z | z
   ·exact I2.ok.noex b o e z
   ·exact absurd (Nat.lt_of_lt_of_le (Heap.lt_size (I2.ok.bs b o e).1) z) (Nat.lt_irrefl _)
  ·intro b hb z
   rcases zMC (I2.stkSub b z) with z | z
   ·exact (f2 b hb).2.1 z
   ·exact (f2 b hb).2.2.1 z
 have hnD:H2 s.heap.objs.size=none:=I2.hok.fresh (Nat.le_refl _)
 have hnC:H2 hD.objs.size=none:=I2.hok.fresh (Nat.le_of_lt upC)
 have nofsD:∀ a,s.heap.objs.size<=a->a ∉ frs X.stack:=fun a ha z=>by
  rcases zMC (I2.stkSub a z) with z | z
  ·exact absurd (Nat.lt_of_lt_of_le I2.lt ha) (by rw [z]; exact Nat.lt_irrefl _)
  ·exact I2.nofs ha z
 have xg0:Inv (X.comp sc N' hD.objs.size s H2 fp) [(s.heap.objs.size,{ cls:=.type "list",data:=.seq ([]:List Value).toArray 0 })] (capt ix σ) H2 { s with heap:=h₁,toks:=s.toks + ([]:List (Str×Value)).length }:=by
  refine ⟨okX,rfl,I2.bare,Un.kept old,⟨_,hns₁,?_⟩,fun x c e=>?_,hnC,fun x c e=>I2.freeC x c (cellX x c e),fun p hp=>?_,I2.hok.kept old,?_⟩
  ·intro i x v hN hv hvis
   have hl:i < ix.length:=by rw [ok.len]; exact (zES hN).1
   have hv':(ix.map fun o=>(o.bind fun j=>σ[j]?).join)[i]?=some (some v):=hv
   rw [zGM,zGA hl] at hv'
   have hv'':((ix[i].bind fun j=>σ[j]?).join)=some v:=Option.some.inj hv'
   cases ej:ix[i] with
   | none=>rw [ej] at hv''; cases hv''
   | some j=>
    rw [ej] at hv''
    have hσ:σ[j]?=some (some v):=by
     have z:(σ[j]?).join=some v:=hv''
     cases q:σ[j]? with
     | none=>rw [q] at z; cases z
     | some o=>rw [q] at z; exact congrArg some z
    obtain ⟨x',e1,e2,e3⟩:=ok.cap i j (by rw [zGA hl,ej])
    rw [show N'[i]?=some x from hN] at e1
    cases e1
    have hk:=ok.fre (x,.free) (PySem.mem_of_lookup e3) rfl
    obtain ⟨m,hm,hl'⟩:=I2.loc
    obtain ⟨u,ru,lk⟩:=hl' j x v e2 hσ (hk.elim (fun z=>.inr (.inl z)) fun z=>.inr (.inr z))
    refine ⟨u,ru,.inr ⟨?_,?_⟩⟩
    ·show (relabel sc X.env).names.lookup x=some .cell\/(relabel sc X.env).names.lookup x=some .free
     obtain ⟨k',q1,q2⟩:=xe4 (env:=X.env) e3
     rcases q2 with q2 | ⟨_,q2⟩
     ·exact .inr (q1.trans (congrArg some q2))
     ·exact .inl (q1.trans (congrArg some q2))
    ·obtain ⟨c,hc'⟩:=hasC x (PySem.mem_of_lookup e3)
     refine ⟨c,hc',?_⟩
     rcases lk with ⟨z,_⟩ | ⟨_,c',ec,⟨o,ho,hd⟩⟩
     ·have z':X.env.scope.names.lookup x=some .local:=z
      rcases hk with hk | hk
      ·rw [z'] at hk; cases hk
      ·rw [z'] at hk; cases hk
     ·rw [cellX x c hc'] at ec
      cases ec
      exact ⟨o,old _ _ ho,hd⟩
  ·obtain ⟨v,o,ho,hd⟩:=I2.cell x c (cellX x c e)
   exact ⟨v,o,old _ _ ho,hd⟩
  ·have e:p=(s.heap.objs.size,{ cls:=.type "list",data:=.seq ([]:List Value).toArray 0 }):=by simpa using hp
   subst e
   exact ⟨hacc,hnD,hDC,nofsD _ (Nat.le_refl _),fun v z=>by cases z⟩
  ·show (ix.map _).length=N'.length
   rw [zLM]
   exact ok.len
 have st1:tn 0 h₁:=T.keep _ _ _ st2 fun b hb o e=>old b o e
 have loop:∀ s₃:Shared,s₃={ s with heap:=h₁,toks:=s.toks + ([]:List (Str×Value)).length }->
   codeAny (model X.prog X.w) X.A (.compLoop (.ListComp elt [⟨tg,iter,ifs,0⟩] sc pos) 0 (.ref it) (.ref s.heap.objs.size) (compEnvC sc (clOf X.env sc.names []) hD.objs.size X.env))
    (RR (.ref s.heap.objs.size) hD.objs.size) s₃:=by
  rintro s₃ rfl
  have fpI:∀ {H':Hp} {o:Obj},(∀ b∈fp,H' b=none)->∀ b∈fp,FpOk (X.comp sc N' hD.objs.size s H2 fp) [(s.heap.objs.size,o)] H' b:=fun {H' o} hn b hb=>by
   have hlt:=fpo b hb
   refine ⟨hn b hb,(okX.exf b hb).1,okX.exfs b hb,.inl hb,(okX.exf b hb).2,fun p hp=>?_⟩
   have e:p=(s.heap.objs.size,o):=by simpa using hp
   subst e
   exact Nat.ne_of_gt hlt
  refine xev (fun n s'=>∃ i ys its k H',Inv (X.comp sc N' hD.objs.size s H2 fp) [(s.heap.objs.size,{ cls:=.type "list",data:=.seq its.toArray k })] (capt ix σ) H' s'/\Vals ys its/\ys.length<=sizeLine/\tn i s'.heap/\(∀ b∈fp,H' b=none)/\W i n ys H')
   ?_ m0 ⟨0,[],[],0,H2,xg0,.nil,Nat.zero_le _,st1,fun b hb=>(f2 b hb).1,w0⟩
  rintro n s4 ⟨i,ys,its,k,H4,I4,r4,z4,st4,fr4,w4⟩
  rcases turn i n ys H4 w4 with ⟨stop,q⟩ | ⟨go,hz,step⟩
  ·refine xh9 (thn (T.done (X.comp sc N' hD.objs.size s H2 fp) rfl rfl rfl hc i _ s4 _ H4 (fun _ _=>False) I4 (fpI fr4) st4 stop) fun r s5 ⟨hr,I5⟩=>?_)
   subst hr
   show RR (.ref s.heap.objs.size) hD.objs.size (.ok .next) s5
   obtain ⟨pD,nD,_,_,_⟩:=I5.pin (s.heap.objs.size,{ cls:=.type "list",data:=.seq its.toArray k }) (by simp)
   obtain ⟨m5,hm5,_⟩:=I5.loc
   have okD:HOk X.prog X.w (upd H4 s.heap.objs.size (.lst ys)) s5.heap:=I5.hok.track nD ⟨z4,its,k,r4,pD⟩
   have un:Un (frs X.stack) fp H2 (upd H4 s.heap.objs.size (.lst ys)) s.heap s5.heap:=by
    have B:Un (frs X.stack) fp H2 H4 s.heap s5.heap:=I5.base
    have ne:∀ b u,H2 b=some u->b≠s.heap.objs.size:=fun b u e=>neN e hnD
    refine ⟨B.keep,B.slot,fun b o e n hb=>?_,B.there,fun b xs e=>?_,fun b o u e=>?_,fun b ps e=>?_⟩
    ·rw [xba (below b o e).2]; exact B.free b o e n hb
    ·rw [xba (ne b _ e)]; exact B.tups b xs e
    ·rw [xba (ne b _ e)]; exact B.frzs b o u e
    ·rw [xba (ne b _ e)]; exact B.tbls b ps e
   have IX:Inv X pins σ (upd H4 s.heap.objs.size (.lst ys)) s5:=I2.call' (ch:=fp) I5.os un okD I5.bare fun b hb=>⟨(f2 b hb).2.2.2.1,(f2 b hb).2.1,(f2 b hb).2.2.2.2.1,(f2 b hb).2.2.2.2.2⟩
   refine fin _ _ s5 _ m5 IX (q _ nD) hm5 ?_ (Nat.ne_of_gt (Nat.lt_trans I2.lt upC)) (Nat.le_of_lt (Nat.lt_of_le_of_lt I2.sz upC)) (fun x c e=>Nat.ne_of_lt (Nat.lt_trans (cellLt x c e) upC)) (fun p hp=>Nat.ne_of_lt (Nat.lt_trans (Heap.lt_size (I2.pin p hp).1) upC))
   rw [xba (Ne.symm hDC)]; exact I5.free
  ·refine xh9 (thn (T.item (X.comp sc N' hD.objs.size s H2 fp) rfl rfl rfl hc i _ s4 _ H4 (fun _ _=>False) I4 (fpI fr4) st4 go) fun r s5 ⟨u,hr,h5⟩=>?_)
   subst hr
   refine xh9 (thn h5 fun _ s6 ⟨x,H6,I6,r6,y6,st6,fr6⟩=>?_)
   have I6':=I6.pinned (fpI fr6) (T.obj _ _ st6)
   refine xh9 (thn (hg _ _ _ _ _ s6 _ H6 x u _ I6' r6 (step x H6 y6)) fun _ s7 ⟨σ7,H7,I7,x7,q7⟩=>?_)
   refine xh9 (thn (ht _ _ _ _ _ s7 σ7 H7 _ I7 q7) fun b s8 ⟨H8,I8,q8⟩=>?_)
   have back:∀ {s9:Shared} {H9:Hp},Inv (X.comp sc N' hD.objs.size s H2 fp) ([(s.heap.objs.size,{ cls:=.type "list",data:=.seq its.toArray k })]++xjt fp s6.heap) σ7 H9 s9->
     Inv (X.comp sc N' hD.objs.size s H2 fp) [(s.heap.objs.size,{ cls:=.type "list",data:=.seq its.toArray k })] (capt ix σ) H9 s9/\tn (i + 1) s9.heap/\(∀ b∈fp,H9 b=none):=fun {s9 H9} J9=>by
    refine ⟨(J9.unpinned).weak x7.1 x7.2,T.keep _ _ _ st6 fun b hb o e=>(J9.pin (b,o) (List.mem_append_right _ (List.mem_append_right _ (xer hb e)))).1,fun b hb=>?_⟩
    obtain ⟨o,e,d⟩:=T.obj _ _ st6 b hb
    exact (J9.pin (b,o) (List.mem_append_right _ (List.mem_append_right _ (xer hb e)))).2.1
   cases b with
   | false=>
    rw [if_neg Bool.false_ne_true] at q8 ⊢
    obtain ⟨m',hm,w8⟩:=q8
    obtain ⟨J8,st8,fr8⟩:=back I8
    exact ⟨m',hm,i + 1,ys,its,k,H8,J8,r4,z4,st8,fr8,w8⟩
   | true=>
    rw [if_pos rfl] at q8 ⊢
    refine xh9 (thn (he _ _ _ _ _ s8 σ7 H8 _ I8 q8) fun y s9 ⟨v9,H9,I9,r9,q9⟩=>?_)
    obtain ⟨m',hm,w9⟩:=q9
    obtain ⟨J9,st9,fr9⟩:=back I9
    obtain ⟨pD,nD,neC,nf,_⟩:=J9.pin (s.heap.objs.size,{ cls:=.type "list",data:=.seq its.toArray k }) (by simp)
    have hlen:=r4.length
    refine call_meets F.slot_list_append ⟨_,pD,rfl⟩ F.entry_list_append (F.args_list_append_2 _ _) (PySem.list_append s.heap.objs.size its.toArray k y (by rw [List.size_toArray]; omega)) ⟨pD,?_⟩
    have q:=PySem.IsL.update pD (·.push y)
    have ep:its.toArray.push y=(its++[y]).toArray:=by simp
    dsimp only at q
    rw [ep] at q
    obtain ⟨k',q⟩:∃ k',(s9.heap.update s.heap.objs.size (Obj.mapSeq (·.push y))).get? s.heap.objs.size=some { cls:=.type "list",data:=.seq (its++[y]).toArray k' }:=⟨_,q⟩
    have J0:Inv (X.comp sc N' hD.objs.size s H2 fp) [] (capt ix σ) H9 s9:=J9.pins_of fun p hp=>absurd hp (by simp)
    have J1:Inv (X.comp sc N' hD.objs.size s H2 fp) [] (capt ix σ) H9 { s9 with heap:=s9.heap.update s.heap.objs.size (Obj.mapSeq (·.push y)) }:=
     J0.turned (it:=s.heap.objs.size) (t':=s9.toks) (fun b o hb e=>(Heap.get?_update_other _ _ (Ne.symm hb)).trans e) nD neC (.inr (Nat.le_refl _)) (fun x c e=>Nat.ne_of_lt (cellLt x c (cellX x c e))) fun p hp=>absurd hp (by simp)
    refine ⟨m',hm,i + 1,ys++[v9],its++[y],k',H9,J1.pins_of fun p hp=>?_,r4.append (.cons r9 .nil),?_,T.keep _ _ _ st9 fun b hb o e=>(Heap.get?_update_other _ _ ?_).trans e,fr9,w9⟩
    ·have e:p=_:=zMO hp
     subst e
     exact ⟨q,nD,neC,nf,fun v z=>by cases z⟩
    ·rw [zLA,List.length_singleton]; omega
    ·exact Nat.ne_of_gt (fpo b hb)
 exact codeAny_compStart_list (loop _ rfl) (T.self _ 0 _ _ _ st1 (loop _ rfl))
theorem Inv.letGo {pins:List (Addr×Obj)} {σ:St} {H:Hp} {s:Shared} {C:Addr} {h':Heap} (I:Inv X pins σ H s) (hs:Heap.SameBut C s.heap h') (h0:H C=none) (h1:C≠X.env.locals) (h2:X.s₀.heap.objs.size<=C) (h3:∀ x c,X.env.cells.lookup x=some c->c≠C)
  (h4:∀ p∈X.pn++pins,p.1≠C):Inv X pins σ H { s with heap:=h' }:=I.turned (t':=s.toks) (fun b o hb e=>(hs.2 b hb).trans e) h0 h1 (.inr h2) h3 h4
theorem xbu {elt tg iter:Expr} {ifs:List Expr} {sc:Scope} {pos:Pos} (N':List Str) (ix:Cap) {wi:TI} {g:TG} {tt:TT} {te:TE} (hc:X.calm=true) (hok:xsd X.N N' X.env.scope sc ix=true)
  (hi:PI X tg iter wi) (hg:∀ C s₀ H₀ ex,PG (X.comp sc N' C s₀ H₀ ex) tg g) (ht:∀ C s₀ H₀ ex,PTs (X.comp sc N' C s₀ H₀ ex) ifs tt) (he:∀ C s₀ H₀ ex,PE (X.comp sc N' C s₀ H₀ ex) elt te)
  (hs:∀ x,foldedSetIterable iter X.env x=pure x:=by intro _; rfl):PE X (.ListComp elt [⟨tg,iter,ifs,0⟩] sc pos) (xuu ix wi g tt te):=by
 intro pins s σ H Q I h
 have ok:=xng hok
 rw [eval_ListComp]
 refine wpAny_comprehension_free (use:=none) rfl hs (xfr fun p hp hk=>I.ok.has p.1 (ok.fre p hp hk)) ok.kind ok.loc (thn (hi pins s σ H _ I h) fun v s1 h1=>thn h1 fun itv s2 h2=>?_)
 refine xie (RR:=fun acc C=>compPost (model X.prog X.w) X.A X.xe none (EP X pins σ Q) acc C) hc ok hg ht he h2 ?_
 intro D C s' H' m I' q hm h0 h1 h2 h3 h4
 exact ⟨m,hm,fun h' hsb=>⟨.ref D,H',I'.letGo hsb h0 h1 h2 h3 h4,rfl,q⟩⟩
theorem xb1 {elt tg iter:Expr} {ifs:List Expr} {sc:Scope} {pos spos py:Pos} {i:Nat} {y:Str} (N':List Str) (ix:Cap) {wi:TI} {g:TG} {tt:TT} {te:TE} (hc:X.calm=true) (hok:xsd X.N N' X.env.scope sc ix=true)
  (hN:X.N.Nodup) (hy:X.N[i]?=some y) (hx:Loc X.env.scope y)
  (hi:PI X tg iter wi) (hg:∀ C s₀ H₀ ex,PG (X.comp sc N' C s₀ H₀ ex) tg g) (ht:∀ C s₀ H₀ ex,PTs (X.comp sc N' C s₀ H₀ ex) ifs tt) (he:∀ C s₀ H₀ ex,PE (X.comp sc N' C s₀ H₀ ex) elt te)
  (hs:∀ x,foldedSetIterable iter X.env x=pure x:=by intro _; rfl) (hsw:swapsWith (.ListComp elt [⟨tg,iter,ifs,0⟩] sc pos) (some (.Name y py)) spos.line X.env=pure true:=by rfl)
  (hf:X.fn y=true\/X.env.scope.names.lookup y=some .local:=by first | exact .inl rfl | exact .inr rfl | assumption) :
  PS X (.Assign [.Name y py] (.ListComp elt [⟨tg,iter,ifs,0⟩] sc pos) spos) (tAsg (xuu ix wi g tt te) (xkn i)):=by
 intro pins s σ H D I h
 have ok:=xng hok
 rw [exec_Assign_Name_used _ _ _ _ hsw]
 refine wpAny_bind (wpAny_standAt (wpAny_bind ?_))
 show wpAny _ X.A (do let _ <- comprehension (.ListComp elt [⟨tg,iter,ifs,0⟩] sc pos) sc X.env _ (newList []) false (eval iter X.env) (some (assign (.Name y py) X.env))) _ _ s
 refine wpAny_bind (wpAny_mono (wpAny_comprehension_free (use:=some (assign (.Name y py) X.env)) (Q:=fun _ s'=>SP X pins D .next s') rfl hs (xfr fun p hp hk=>I.ok.has p.1 (ok.fre p hp hk)) ok.kind ok.loc
  (thn (hi pins s σ H _ I h) fun v s1 h1=>thn h1 fun itv s2 h2=>?_)) (fun _ s' hq=>wpAny_pure (wpAny_pure hq)) fun _ _ e=>e)
 refine xie (Q:=fun x H1=>xkn i x σ H1 D.nx) (RR:=fun acc C=>compPost (model X.prog X.w) X.A X.xe (some (assign (.Name y py) X.env)) (fun _ s'=>SP X pins D .next s') acc C) hc ok hg ht he h2 ?_
 intro Dl C s' H' m I' q hm h0 h1 h2 h3 h4
 refine wpAny_assign_Name (xjh I' hN hy hx (v:=.ref Dl) rfl (fun s3 I3 sb=>?_) hf)
 obtain ⟨a,hsb,ha⟩:=sb
 have hne:C≠a:=by
  rcases ha with e | e
  ·rw [e]; exact h1
  ·exact Ne.symm (h3 y a e)
 exact ⟨m,hm.sameBut hsb hne,fun h' hs'=>⟨_,H',I3.letGo hs' h0 h1 h2 h3 h4,q⟩⟩
end
section
variable {ix:Cap} {tt:TT} {te:TE} {g:TG} {σ:St} {H:Hp} {Q:VK}
def Nxt (Pv:Nat->List V->Hp->Prop) (n i:Nat) (ys:List V):VK:=fun y H2=>∃ m',m' < n - i/\m'=n - (i + 1)/\i + 1<=n/\(ys++[y]).length=i + 1/\Pv (i + 1) (ys++[y]) H2
theorem nxt {Pv:Nat->List V->Hp->Prop} {n i:Nat} {ys:List V} {y:V} {H2:Hp} (hi:i < n) (hl:ys.length=i) (h:Pv (i + 1) (ys++[y]) H2):Nxt Pv n i ys y H2:=
 ⟨n - (i + 1),by omega,rfl,hi,by rw [zLA,List.length_singleton,hl],h⟩
theorem xf5 {lo:Int} {n j:Nat} (Pv:Nat->List V->Hp->Prop) (hj:(capt ix σ)[j]?=some none) (h0:Pv 0 [] H) (hn:n < sizeLine)
  (hs:∀ i ys H,i < n->ys.length=i->Pv i ys H->te ((capt ix σ).set j (some (.int (lo + i)))) H (Nxt Pv n i ys))
  (hd:∀ ys H,ys.length=n->Pv n ys H->∀ D,H D=none->Q (.ref D) (upd H D (.lst ys))):xge (Itr lo n) ix (xkn j) tYes te σ H Q:=by
 refine ⟨fun i m ys H=>m=n - i/\i<=n/\ys.length=i/\Pv i ys H,⟨n,by simp,Nat.zero_le _,rfl,h0⟩,?_⟩
 rintro i m ys H ⟨rfl,hi,hl,p⟩
 by_cases hlt:i < n
 ·refine .inr ⟨hlt,by omega,fun x H' y=>?_⟩
  obtain ⟨e,y⟩:=y
  subst e y
  refine ⟨xd5 hj,?_⟩
  unfold tYes
  dsimp only
  rw [if_pos rfl]
  exact hs i ys _ hlt hl p
 ·have e:i=n:=by omega
  subst e
  exact .inl ⟨Nat.le_refl _,hd ys H hl p⟩
theorem xhq {K:PySem.W.Frag} {a:Addr} {xs:List V} {j:Nat} (Pv:Nat->List V->Hp->Prop) (hj:(capt ix σ)[j]?=some none) (h0:Pv 0 [] H) (hn:xs.length < sizeLine) (hl':∀ i ys H,i<=xs.length->Pv i ys H->SqL K H a xs)
  (hs:∀ i x ys H,xs[i]?=some x->ys.length=i->Pv i ys H->te ((capt ix σ).set j (some x)) H (Nxt Pv xs.length i ys))
  (hd:∀ ys H,ys.length=xs.length->Pv xs.length ys H->∀ D,H D=none->Q (.ref D) (upd H D (.lst ys))):xge (Itl K a) ix (xkn j) tYes te σ H Q:=by
 refine ⟨fun i m ys H=>m=xs.length - i/\i<=xs.length/\ys.length=i/\Pv i ys H,⟨xs.length,by simp,Nat.zero_le _,rfl,h0⟩,?_⟩
 rintro i m ys H ⟨rfl,hi,hl,p⟩
 have q:=hl' i ys H hi p
 by_cases hlt:i < xs.length
 ·refine .inr ⟨⟨xs,xs[i],q,by simp [hlt]⟩,by omega,fun v H' y=>?_⟩
  obtain ⟨e,y⟩:=y
  subst e
  refine ⟨xd5 hj,?_⟩
  unfold tYes
  dsimp only
  rw [if_pos rfl]
  exact hs i v ys _ (y xs q) hl p
 ·have e:i=xs.length:=by omega
  subst e
  exact .inl ⟨⟨xs,q,Nat.le_refl _⟩,hd ys H hl p⟩
theorem xgs {K:PySem.W.Frag} {a:Addr} {xs:List V} {j:Nat} (Pv:Nat->List V->Hp->Prop) (hj:(capt ix σ)[j]?=some none) (h0:Pv 0 [] H) (hn:xs.length < sizeLine) (hl':∀ i ys H,i<=xs.length->Pv i ys H->SqT K H a xs)
  (hs:∀ i x ys H,xs[i]?=some x->ys.length=i->Pv i ys H->te ((capt ix σ).set j (some x)) H (Nxt Pv xs.length i ys))
  (hd:∀ ys H,ys.length=xs.length->Pv xs.length ys H->∀ D,H D=none->Q (.ref D) (upd H D (.lst ys))):xge (Itt K a) ix (xkn j) tYes te σ H Q:=by
 refine ⟨fun i m ys H=>m=xs.length - i/\i<=xs.length/\ys.length=i/\Pv i ys H,⟨xs.length,by simp,Nat.zero_le _,rfl,h0⟩,?_⟩
 rintro i m ys H ⟨rfl,hi,hl,p⟩
 have q:=hl' i ys H hi p
 by_cases hlt:i < xs.length
 ·refine .inr ⟨⟨xs,xs[i],q,by simp [hlt]⟩,by omega,fun v H' y=>?_⟩
  obtain ⟨e,y⟩:=y
  subst e
  refine ⟨xd5 hj,?_⟩
  unfold tYes
  dsimp only
  rw [if_pos rfl]
  exact hs i v ys _ (y xs q) hl p
 ·have e:i=xs.length:=by omega
  subst e
  exact .inl ⟨⟨xs,q,Nat.le_refl _⟩,hd ys H hl p⟩
end
end L2
end
section
namespace L2
open PySem PySem.Spec PyProof.Rows
section
variable {X:Cx}
def xxn (i j:Int):Prop:=0 < j/\j < 2 ^ 64
theorem xb9:OpR X (binaryOp .FloorDiv) (rI xxn fun i j=>.int (i / j)):=opI fun i j _ _ _ _ _ hc q=>by
 have h1:(0:Int) < j:=hc.1
 have h2:j < 2 ^ 64:=hc.2
 refine floordiv_int (by omega) (by rw [Int.fdiv_eq_ediv_of_nonneg i (by omega)]; exact q) (.inl (PyProof.noPylong_of_log2 ?_))
 have h3:j.natAbs < 2 ^ 64:=by omega
 have h0:j.natAbs≠0:=by omega
 have h4:j.natAbs.log2 < 64:=(Nat.log2_lt h0).mpr h3
 omega
theorem xno {ys:List Str}:∀ {us:List Value},Vals (ys.map V.str) us->StrsAre us ys:=by
 induction ys with
 | nil=>intro us r; rw [List.map_nil] at r; cases r; exact .nil
 | cons n ns ih=>
  intro us r
  rw [List.map_cons] at r
  cases r with
  | cons r1 r2=>
   obtain ⟨t,e⟩:=r1
   subst e
   exact .cons n t (ih r2)
def xwy (K:PySem.W.Frag):V->List V->Hp->VK->Prop:=fun x vs H Q=>∃ (sep:Str) (p:Addr) (ys:List Str),x=.str sep/\vs=[.ref p]/\SqL K H p (ys.map V.str)/\(ys.map (·.length)).sum + ys.length * sep.length<=16777216/\Q (.str (Txt.join sep ys)) H
theorem xt1:MtR X "str.join" (xwy X.K):=by
 intro pins s σ H x vs v us Q I rx rv h
 obtain ⟨sep,p,ys,rfl,rfl,hq,hz,q⟩:=h
 obtain ⟨t,rfl⟩:=rx
 obtain ⟨u,rfl,ru⟩:=rv.one
 cases ru
 obtain ⟨its,r,pl,_⟩:=I.list hq
 exact join_list pl.isList (by simpa using xno r) hz fun t' k=>⟨.str _,H,I.tok k,⟨t',rfl⟩,q⟩
def rSlS:V->Option Int->Option Int->Hp->VK->Prop:=fun x lo hi H Q=>∃ z:Str,x=.str z/\z.length<=sizeLine/\Q (.str (Txt.slice z lo hi)) H
theorem xsk:SlR X rSlS:=by
 intro pins s σ H x v vl vu lo hi sl Q I rx hs pl pu h
 obtain ⟨z,rfl,hz,q⟩:=h
 obtain ⟨t,rfl⟩:=rx
 refine ⟨"str",_,F.slot_str_getitem.lookup,typeIs_str _ _ _,?_⟩
 have hq:∀ (o:Str),o=Txt.slice z lo hi->o.length<=sizeLine/\∀ t' k,EP X pins σ Q (.str o t') { s with toks:=k }:=fun o e=>by
  subst e
  exact ⟨Nat.le_trans (Txt.slice_le z _ _) hz,fun t' k=>⟨.str _,H,I.tok k,⟨t',rfl⟩,q⟩⟩
 obtain ⟨os,hos,hcs,hds⟩:=hs
 cases pl with
 | none=>
  cases pu with
  | none=>exact wpAny_getItem_str_slice (l:=none) (u:=none) (st:=none) ⟨os,hos,hcs,hds⟩ rfl (post_val_or_str (hq _ rfl))
  | int j uj=>exact wpAny_getItem_str_slice (l:=none) (u:=some (j,uj)) (st:=none) ⟨os,hos,hcs,hds⟩ rfl (post_val_or_str (hq _ rfl))
 | int i ui=>
  cases pu with
  | none=>exact wpAny_getItem_str_slice (l:=some (i,ui)) (u:=none) (st:=none) ⟨os,hos,hcs,hds⟩ rfl (post_val_or_str (hq _ rfl))
  | int j uj=>exact wpAny_getItem_str_slice (l:=some (i,ui)) (u:=some (j,uj)) (st:=none) ⟨os,hos,hcs,hds⟩ rfl (post_val_or_str (hq _ rfl))
end
def SameBut (a:Addr) (H H':Hp):Prop:=∀ b o,H b=some o->b≠a->H' b=some o
theorem SameBut.refl (a:Addr) (H:Hp):SameBut a H H:=fun _ _ h _=>h
theorem SameBut.trans {a:Addr} {H H1 H2:Hp} (h:SameBut a H H1) (k:SameBut a H1 H2):SameBut a H H2:=fun b o e n=>k b o (h b o e n) n
theorem SameBut.upd (a:Addr) (H:Hp) (o:HO):SameBut a H (upd H a o):=fun b u e n=>by rw [xba n]; exact e
theorem Same.but {a:Addr} {H H':Hp} (h:Same H H'):SameBut a H H':=fun b o e _=>h b o e
theorem Same.new {H:Hp} {p:Addr} (h:H p=none) (o:HO):Same H (upd H p o):=fun b u q=>by rw [xba (neN q h)]; exact q
theorem xdh {H H':Hp} {p:Addr} (h:Same H H') (n:H' p=none):H p=none:=by
 cases e:H p with
 | none=>rfl
 | some o=>rw [h p o e] at n; cases n
end L2
end
section
namespace L2
open PySem PySem.Spec PyProof.Rows
structure DefTx (K:PySem.W.Frag) (mg:Str->Option Value) (x:Str) (st:Stmt) (ps:List Str):Prop where
 ex:∃ (f:Addr) (fd:FuncData),Fun K x x st f fd/\mg x=some (.ref f)/\∀ us:List Value,us.length=ps.length->bindArgs fd ⟨us,[]⟩=pure (ps.zip us)
structure DefIs (P:Program) (w:World) (K:PySem.W.Frag) (mg:Str->Option Value) (base:Heap) (n:Nat) (x:Str) (ps:List Str) (sp:Sp):Prop where
 ex:∃ (f:Addr) (fd:FuncData),FnOk P w K mg base CX0 n f fd ps sp/\Binds K fd ps []/\PySem.W.keepIn K (.ref f)=true/\mg x=some (.ref f)/\∃ oc od osl,K.lookup f=some ⟨oc,od,.func fd,osl⟩
theorem xqf {K:PySem.W.Frag} {x:Str} {st:Stmt} {f:Addr} {fd:FuncData} (F:Fun K x x st f fd):∃ oc od osl,K.lookup f=some ⟨oc,od,.func fd,osl⟩:=by
 obtain ⟨oc,od,kV,doc,pm,an,cdv,ct,osl,_,l,_⟩:=F.ex
 exact ⟨oc,od,osl,l⟩
section
variable {P:Program} {w:World} {K:PySem.W.Frag} {mg:Str->Option Value} {base:Heap} {n m:Nat} {x:Str} {ps N:List Str} {sp:Sp} {st:Stmt}
theorem DefIs.mono (D:DefIs P w K mg base n x ps sp) (h:n<=m):DefIs P w K mg base m x ps sp:=by
 obtain ⟨f,fd,F,r⟩:=D.ex
 exact ⟨f,fd,F.mono h,r⟩
theorem DefIs.imp {sp':Sp} (D:DefIs P w K mg base n x ps sp) (h:∀ vs H Q E,sp' vs H Q E->sp vs H Q E):DefIs P w K mg base n x ps sp':=by
 obtain ⟨f,fd,F,r⟩:=D.ex
 exact ⟨f,fd,F.imp h,r⟩
theorem DefIs.of (T:DefTx K mg x st ps) (S:FnScope N ps (xaf st)) (len:∀ vs H Q E,sp vs H Q E->vs.length=ps.length)
  (hbody:∀ (f:Addr) (cdv:Value) (A:Around) (outer:List Env) (s:Shared) (H:Hp) (vs:List V) (Q:VK) (E:XK),Room n (A.deeper (envOfC x (xaf st) s.heap.objs.size f cdv))->sp vs H Q E->
   ∃ t,PSs (cxOf CX0 P w K mg base N x (xaf st) f cdv A outer s H E).nox (xe9 st) t/\t { nx:=fun _ H'=>Q .non H',rt:=Q } (xg0 N vs) H):DefIs P w K mg base (n + 1) x ps sp:=by
 obtain ⟨f,fd,F,m,b⟩:=T.ex
 exact ⟨f,fd,F.ok S len (fun cdv A outer s H vs Q E hr h=>hbody f cdv A outer s H vs Q E hr h),Binds.all b,F.kp,m,xqf F⟩
theorem DefIs.none (T:DefTx K mg x st ps) (no:∀ vs H Q E,¬ sp vs H Q E):DefIs P w K mg base n x ps sp:=by
 obtain ⟨f,fd,F,m,b⟩:=T.ex
 exact ⟨f,fd,⟨fun vs H Q E h=>absurd h (no vs H Q E),fun A outer s H args us vs Q E _ _ _ _ h=>absurd h (no vs H Q E)⟩,Binds.all b,F.kp,m,xqf F⟩
end
section
variable {X:Cx} {n:Nat} {x:Str} {ps:List Str} {sp:Sp} {e:Expr} {es:List Expr} {p pos:Pos} {t:TA}
theorem pd (D:DefIs X.prog X.w X.K X.mg X.base n x ps sp) (hr:Room n X.A) (ha:PA X (e :: es) t) (hg:Gl X x:=by rfl) (hdb:(x == ("__debug__":Str))=false:=by decide)
  (he:starEach (e :: es) X.env=(false,eval e X.env) :: starEach es X.env:=by rfl) (hpl:(backTo pos (starEach es X.env)).any (·.1)=false:=by rfl):PE X (.Call (.Name x p) (e :: es) [] pos) (xuv sp [] E0 t):=by
 obtain ⟨f,fd,F,b,k,m,_⟩:=D.ex
 exact xtq F hr hg m k b .nil xwz ha hdb he hpl
theorem xlk {i:Int} (hm:∃ t,X.mg x=some (.int i t)) (hg:Gl X x:=by rfl) (hd:(x == ("__debug__":Str))=false:=by decide):PE X (.Name x pos) (tC (.int i)):=by
 obtain ⟨t,h⟩:=hm
 exact xto hg h ⟨t,rfl⟩ hd
end
def Fed (a:Addr) (H H':Hp):Prop:=SameBut a H H'/\∃ p q:Int,H' a=some (.lst [.int p,.int q])
theorem Fed.trans {a:Addr} {H H1 H2:Hp} (h:Fed a H H1) (k:Fed a H1 H2):Fed a H H2:=⟨h.1.trans k.1,k.2⟩
theorem Fed.of {a:Addr} {H:Hp} {p q:Int}:Fed a H (upd H a (.lst [.int p,.int q])):=⟨SameBut.upd a H _,p,q,ups⟩
theorem Fed.refl {a:Addr} {H:Hp} {p q:Int} (h:H a=some (.lst [.int p,.int q])):Fed a H H:=⟨SameBut.refl a H,p,q,h⟩
theorem Fed.new {a D:Addr} {H H':Hp} (h:Fed a H H') (n:H' D=none) (o:HO):Fed a H (upd H' D o):=by
 obtain ⟨s,p,q,e⟩:=h
 exact ⟨s.trans (Same.new n o).but,p,q,Same.new n o _ _ e⟩
theorem Fed.same {a:Addr} {H H' H'':Hp} (h:Fed a H H') (s:Same H' H''):Fed a H H'':=by
 obtain ⟨k,p,q,e⟩:=h
 exact ⟨k.trans s.but,p,q,s _ _ e⟩
theorem Fed.back {a:Addr} {H H0 H':Hp} (n:H a=none) (s:Same H H0) (h:Fed a H0 H'):Same H H':=fun b o e=>h.1 b o (s b o e) (neN e n)
end L2
namespace L2
open PySem PySem.Spec PyProof.Rows
theorem deftx_mk {K:PySem.W.Frag} {h:Heap} {mg:Str->Option Value} (X:K.In h) (G:h.Ns mainGlobals mg) {x:Str} {st:Stmt} {ps:List Str} {f:Addr} {oc:Value} {od an:Option Addr} {osl:Array (Option Value)} {kV doc pm cdv ct:Value}
  (a:PySem.W.nsIn K mainGlobals x=some (some (.ref f))) (l:K.lookup f=some ⟨oc,od,.func (PySem.W.fnOf x x (xhn st) (xe9 st) (xaf st) .none kV doc pm an cdv ct),osl⟩)
  (c:PySem.W.codeIn K cdv x=true) (k:PySem.W.keepIn K (.ref f)=true)
  (b:∀ (kV doc pm:Value) (an:Option Addr) (cdv ct:Value) (us:List Value),us.length=ps.length->bindArgs (PySem.W.fnOf x x (xhn st) (xe9 st) (xaf st) .none kV doc pm an cdv ct) ⟨us,[]⟩=pure (ps.zip us)):DefTx K mg x st ps:=by
 have F:=xv3 (st:=st) l c k
 exact ⟨f,_,F,PySem.W.mg_of X G a,b kV doc pm an cdv ct⟩
theorem law_top {P:Program} {w:World} {K:PySem.W.Frag} {mg:Str->Option Value} {n:Nat} {x y:Str} {st:Stmt} {sp:Sp} {fa:Addr} (T:DefTx K mg x st [y]) (hmg:mg x=some (.ref fa)) (D:∀ base,DefIs P w K mg base n x [y] sp) :
  ∃ fd:FuncData,(∀ (s:Shared) (u:Value),BindsTo s fd ⟨[u],[]⟩ [(y,u)])/\∀ base:Heap,K.In base->base.Ns mainGlobals mg->FnOk P w K mg base CX0 n fa fd [y] sp:=by
 obtain ⟨f,fd,F,m,b⟩:=T.ex
 rw [hmg] at m
 cases m
 refine ⟨fd,fun s u=>.of_eq (b [u] rfl),fun base _ _=>?_⟩
 obtain ⟨f',fd',G,_,_,m',oc,od,osl,l⟩:=(D base).ex
 rw [hmg] at m'
 cases m'
 obtain ⟨oc2,od2,osl2,l2⟩:=xqf F
 rw [l] at l2
 cases l2
 exact G
theorem gint_mk {K:PySem.W.Frag} {h:Heap} {mg:Str->Option Value} (X:K.In h) (G:h.Ns mainGlobals mg) {x:Str} {i:Int} {t:Tok} (a:PySem.W.nsIn K mainGlobals x=some (some (.int i t))):∃ t,mg x=some (.int i t):=⟨t,PySem.W.mg_of X G a⟩
end L2
end
section
namespace Zt
open PySem
section
variable {prog:Program} {w:World} {A:Around} {E:Value->Shared->Prop} {s:Shared}
theorem xfg {it l:Addr} {i:Nat} {items} {x:Value} {Q:Value->Shared->Prop} (hit:s.heap.IsTupleIter it l i)
  (hl:s.heap.IsTuple l items) (hx:items[i]?=some x)
  (hQ:∀ h',h'.IsTupleIter it l (i + 1)->Heap.SameBut it s.heap h'->Q x { s with heap:=h' }) :
  wpAny (model prog w) A (Builtin.SmallTypes.nextOf (.ref it)) Q E s:=by
 obtain ⟨o,ho,hc,hd⟩:=id hit
 obtain ⟨ol,hol,_,nl,hdl⟩:=hl
 unfold Builtin.SmallTypes.nextOf
 refine wpAny_bind (wpAny_callSpecial?_slot (name:=Str.ofString "__next__") hit.typeIs F.slot_tuple_iterator_next
  (wpAny_call_entry F.slot_tuple_iterator_next hit.typeIs F.entry_tuple_iterator_next ?_ (F.args_tuple_iterator_next_1 _)))
 show wpAny _ _ (field (.ref it) 0 >>= _) _ _ s
 refine wpAny_bind (wpAny_field ho hd (x:=.ref l) rfl ?_)
 show wpAny _ _ (if (Value.ref l == Value.none)=true then _ else _) _ _ s
 rw [if_neg (show ¬ ((Value.ref l == Value.none)=true) from Bool.false_ne_true)]
 show wpAny _ _ (field (.ref it) 1 >>= _) _ _ s
 refine wpAny_bind (wpAny_field ho hd (x:=.int i 0) rfl ?_)
 show wpAny _ _ (seqItems? (.ref l) >>= _) _ _ s
 refine wpAny_bind (wpAny_seqItems hol hdl ?_)
 simp only [Int.toNat_natCast,hx]
 refine wpAny_bind (wpAny_setField ho hd (by simp) (wpAny_pure ⟨x,rfl,wpAny_pure (hQ _ ?_ (Heap.SameBut.update ..))⟩))
 exact ⟨_,Heap.get?_update_self _ ho (Obj.isFreed_of_fields (Obj.data_mapFields hd _)),(Obj.cls_mapFields ..).trans hc,by
  rw [Obj.data_mapFields hd]; simp [rawInt]⟩
theorem xrw {it l:Addr} {i:Nat} {items} {Q:Value->Shared->Prop} (hh:A.handled=none)
  (hit:s.heap.IsTupleIter it l i) (hl:s.heap.IsTuple l items) (hx:items[i]?=none)
  (hE:∀ h' e,Heap.ExtBut it s.heap h'->(∃ o,h'.get? e=some o/\o.cls=.type "StopIteration")->E (.ref e) { s with heap:=h' }) :
  wpAny (model prog w) A (Builtin.SmallTypes.nextOf (.ref it)) Q E s:=by
 obtain ⟨o,ho,hc,hd⟩:=id hit
 obtain ⟨ol,hol,_,nl,hdl⟩:=hl
 unfold Builtin.SmallTypes.nextOf
 refine wpAny_bind (wpAny_callSpecial?_slot (name:=Str.ofString "__next__") hit.typeIs F.slot_tuple_iterator_next
  (wpAny_call_entry F.slot_tuple_iterator_next hit.typeIs F.entry_tuple_iterator_next ?_ (F.args_tuple_iterator_next_1 _)))
 show wpAny _ _ (field (.ref it) 0 >>= _) _ _ s
 refine wpAny_bind (wpAny_field ho hd (x:=.ref l) rfl ?_)
 show wpAny _ _ (if (Value.ref l == Value.none)=true then _ else _) _ _ s
 rw [if_neg (show ¬ ((Value.ref l == Value.none)=true) from Bool.false_ne_true)]
 show wpAny _ _ (field (.ref it) 1 >>= _) _ _ s
 refine wpAny_bind (wpAny_field ho hd (x:=.int i 0) rfl ?_)
 show wpAny _ _ (seqItems? (.ref l) >>= _) _ _ s
 refine wpAny_bind (wpAny_seqItems hol hdl ?_)
 simp only [Int.toNat_natCast,hx]
 refine wpAny_bind (wpAny_rule (wpAny_bind (wpAny_setField ho hd (by simp) ?_)))
 show wpAny _ _ (newExc (.type "StopIteration") [] >>= _) _ _ _
 refine wpAny_bind ?_
 simp only [newExc,newTuple]
 refine wpAny_bind (wpAny_newObj_type ?_ (by size_fits))
 refine wpAny_bind (m:=firstArgMember _ _) (wpAny_of_eq (a:=Value.none) (by first | rfl | (simp only [firstArgMember]; rfl)) ?_)
 refine wpAny_newObj_type ?_ (by size_fits)
 simp only [raiseNew]
 refine wpAny_bind (wpAny_handled ?_)
 first | rw [show A.in1.handled=none from hh] | rw [hh]
 refine wpAny_bind (wpAny_pure (wpAny_throw ?_))
 exact hE _ _ (((Heap.SameBut.update ..).extBut.push _).push _) ⟨_,Heap.get?_push_size _ rfl,rfl⟩
abbrev xgd (h:Heap) (z TI TO:Addr) (f0 f1:Value):Prop:=
 h.get? z=some { cls:=.type "zip",dict:=none,data:=.fields #[f0,f1,.bool false,.ref TI,.ref TO],slots:=#[] }
def Free (h:Heap) (z TI TO:Addr):Prop:=xgd h z TI TO .none (.bool false)\/∃ (T:Addr) (b:Bool) (o:Obj),xgd h z TI TO (rawInt T) (.bool b)/\h.get? T=some o/\T≠z
structure Zs (h:Heap) (z TI TO i1 i2 l1 l2:Addr) (xs ys:Array Value) (k:Nat):Prop where
 zip:Free h z TI TO
 ti:IsPair h TI (.ref i1) (.ref i2)
 to:∃ a b,IsPair h TO a b
 it1:h.IsTupleIter i1 l1 k
 it2:h.IsTupleIter i2 l2 k
 t1:h.IsTuple l1 xs
 t2:h.IsTuple l2 ys
structure Nx (prog:Program) (w:World) (it l:Addr) (xs:Array Value) (P:Heap->Nat->Prop):Prop where
 item:∀ {A:Around} {E:Value->Shared->Prop} {s:Shared} {Q:Value->Shared->Prop} {i:Nat} {x:Value},P s.heap i->xs[i]?=some x->(∀ h',P h' (i + 1)->Heap.SameBut it s.heap h'->Q x { s with heap:=h' })->wpAny (model prog w) A (Builtin.SmallTypes.nextOf (.ref it)) Q E s
 last:∀ {A:Around} {E:Value->Shared->Prop} {s:Shared} {Q:Value->Shared->Prop} {i:Nat},A.handled=none->P s.heap i->xs[i]?=none->(∀ h' e,Heap.ExtBut it s.heap h'->(∃ o,h'.get? e=some o/\o.cls=.type "StopIteration")->E (.ref e) { s with heap:=h' })->wpAny (model prog w) A (Builtin.SmallTypes.nextOf (.ref it)) Q E s
 kept:∀ {h h':Heap} {i:Nat},P h i->(∀ o,h.get? it=some o->h'.get? it=some o)->(∀ o,h.get? l=some o->h'.get? l=some o)->P h' i
 there:∀ {h:Heap} {i:Nat},P h i->∃ o,h.get? it=some o
theorem Nx.ext {it l a:Addr} {xs:Array Value} {P:Heap->Nat->Prop} (N:Nx prog w it l xs P) {h h':Heap} {i:Nat} (p:P h i) (e:Heap.ExtBut a h h') (ha:it≠a) (hl:l≠a):P h' i:=N.kept p (fun o q=>e _ _ ha q) fun o q=>e _ _ hl q
structure Zg (P1:Heap->Nat->Prop) (h:Heap) (z TI TO i1 i2 l2:Addr) (ys:Array Value) (k:Nat):Prop where
 zip:Free h z TI TO
 ti:IsPair h TI (.ref i1) (.ref i2)
 to:∃ a b,IsPair h TO a b
 p1:P1 h k
 it2:h.IsTupleIter i2 l2 k
 t2:h.IsTuple l2 ys
theorem xsy {P1:Heap->Nat->Prop} {z TI TO i1 i2 l1 l2:Addr} {k1 k2:Nat} {xs ys:Array Value} {x y a b:Value} {Q:Value->Shared->Prop} (D:ZipApart z TI TO i1 i2 l1 l2)
  (hz:IsZip s.heap z TI TO .none) (hTI:IsPair s.heap TI (.ref i1) (.ref i2)) (hTO:IsPair s.heap TO a b)
  (N1:Nx prog w i1 l1 xs P1) (h1:P1 s.heap k1) (h2:s.heap.IsTupleIter i2 l2 k2) (hl2:s.heap.IsTuple l2 ys) (hx:xs[k1]?=some x) (hy:ys[k2]?=some y)
  (hQ:∀ h',IsZip h' z TI TO (rawInt s.heap.objs.size)->IsPair h' TO x y->P1 h' (k1 + 1)->h'.IsTupleIter i2 l2 (k2 + 1)->IsPair h' s.heap.objs.size x y->h'.objs.size=s.heap.objs.size + 1->
   (∀ c o,c≠z->c≠TO->c≠i1->c≠i2->s.heap.get? c=some o->h'.get? c=some o)->Q (.ref s.heap.objs.size) { s with heap:=h' }) :
  wpAny (model prog w) A (Builtin.«zip.__next__» ⟨[.ref z],[]⟩) (fun fin s'=>∃ v,fin=.done (.ret v)/\Q v s') E s:=by
 show wpAny _ _ (field (.ref z) 2 >>= _) _ _ _
 refine wpAny_bind (wpAny_field hz rfl (x:=.bool false) rfl ?_)
 show wpAny _ _ (field (.ref z) 3 >>= _) _ _ _
 refine wpAny_bind (wpAny_field hz rfl (x:=.ref TI) rfl ?_)
 refine wpAny_bind (wpAny_seqItems hTI rfl ?_)
 show wpAny _ _ (Builtin.SmallTypes.ownedTupleIsFree (.ref z) >>= _) _ _ _
 refine wpAny_bind ?_
 unfold Builtin.SmallTypes.ownedTupleIsFree
 refine wpAny_bind (wpAny_field hz rfl (x:=.none) rfl (wpAny_pure ?_))
 simp only [if_true]
 refine wpAny_bind (wpAny_rule ?_)
 refine wpAny_bind (wpAny_field hz rfl (x:=.ref TO) rfl ?_)
 refine wpAny_bind (wpAny_setField_rec hz (by simp) fun h₁ hz₁ hs₁=>?_)
 replace hz₁:IsZip h₁ z TI TO .ellipsis:=hz₁
 refine wpAny_bind ?_
 simp only [List.zipIdx_cons,List.zipIdx_nil,List.forIn_cons,List.forIn_nil]
 refine wpAny_bind (wpAny_bind (wpAny_onRaise ?_))
 show wpAny _ _ (Builtin.SmallTypes.nextOf (.ref i1) >>= _) _ _ _
 refine wpAny_bind (N1.item (N1.ext h1 hs₁.extBut D.i1z D.l1z) hx fun h₂ h1₂ hs₂=>wpAny_pure ?_)
 have hTO₂:IsPair h₂ TO a b:=hs₂.extBut _ _ D.TOi1 (hs₁.extBut _ _ D.TOz hTO)
 refine wpAny_bind (wpAny_seqItems hTO₂ rfl ?_)
 refine wpAny_bind (wpAny_updateSeq_pair hTO₂ fun h₃ hTO₃ hs₃=>?_)
 replace hTO₃:IsPair h₃ TO x b:=hTO₃
 refine wpAny_bind (wpAny_letGo (wpAny_pure ?_))
 refine wpAny_bind (wpAny_bind (wpAny_onRaise ?_))
 show wpAny _ _ (Builtin.SmallTypes.nextOf (.ref i2) >>= _) _ _ _
 refine wpAny_bind (xfg (((h2.extBut hs₁.extBut D.i2z).extBut hs₂.extBut D.i12.symm).extBut hs₃.extBut D.TOi2.symm)
  (((hl2.extBut hs₁.extBut D.l2z).extBut hs₂.extBut D.l2i1).extBut hs₃.extBut D.l2TO) hy fun h₄ h2₄ hs₄=>wpAny_pure ?_)
 have hTO₄:IsPair h₄ TO x b:=hs₄.extBut _ _ D.TOi2 hTO₃
 refine wpAny_bind (wpAny_seqItems hTO₄ rfl ?_)
 refine wpAny_bind (wpAny_updateSeq_pair hTO₄ fun h₅ hTO₅ hs₅=>?_)
 replace hTO₅:IsPair h₅ TO x y:=hTO₅
 refine wpAny_bind (wpAny_letGo (wpAny_pure (wpAny_pure ?_)))
 refine wpAny_bind (wpAny_seqItems hTO₅ rfl ?_)
 refine wpAny_bind (wpAny_newTuple ?_)
 have hsz:h₅.objs.size=s.heap.objs.size:=by rw [hs₅.1,hs₄.1,hs₃.1,hs₂.1,hs₁.1]
 have hz₅:IsZip h₅ z TI TO .ellipsis:=hs₅.extBut _ _ D.TOz.symm (hs₄.extBut _ _ D.i2z.symm (hs₃.extBut _ _ D.TOz.symm (hs₂.extBut _ _ D.i1z.symm hz₁)))
 have hk₅:∀ c o,c≠z->c≠TO->c≠i1->c≠i2->s.heap.get? c=some o->h₅.get? c=some o:=fun c o c1 c2 c3 c4 e=>
  hs₅.extBut _ _ c2 (hs₄.extBut _ _ c4 (hs₃.extBut _ _ c2 (hs₂.extBut _ _ c3 (hs₁.extBut _ _ c1 e))))
 have h1₅:P1 h₅ (k1 + 1):=N1.ext (N1.ext (N1.ext h1₂ hs₃.extBut D.TOi1.symm D.l1TO) hs₄.extBut D.i12 D.l1i2) hs₅.extBut D.TOi1.symm D.l1TO
 have h2₅:h₅.IsTupleIter i2 l2 (k2 + 1):=h2₄.extBut hs₅.extBut D.TOi2.symm
 have hzlt:z < h₅.objs.size:=Heap.lt_size hz₅
 show wpAny _ _ (Builtin.SmallTypes.ownedTupleHandOut (.ref z) (.ref h₅.objs.size) >>= _) _ _ _
 refine wpAny_bind ?_
 unfold Builtin.SmallTypes.ownedTupleHandOut
 have hz₆:IsZip (h₅.push { cls:=.type "tuple",data:=.seq #[x,y] }) z TI TO .ellipsis:=zPO _ hz₅
 refine wpAny_bind (wpAny_setField_rec hz₆ (by simp) fun h₇ hz₇ hs₇=>?_)
 replace hz₇:IsZip h₇ z TI TO (rawInt h₅.objs.size):=hz₇
 refine wpAny_setField_rec hz₇ (by simp) fun h₈ hz₈ hs₈=>?_
 replace hz₈:IsZip h₈ z TI TO (rawInt h₅.objs.size):=hz₈
 have up:∀ c o,c≠z->h₅.get? c=some o->h₈.get? c=some o:=fun c o c1 e=>hs₈.extBut _ _ c1 (hs₇.extBut _ _ c1 (zPO _ e))
 have hT₈:IsPair h₈ h₅.objs.size x y:=hs₈.extBut _ _ (Nat.ne_of_gt hzlt) (hs₇.extBut _ _ (Nat.ne_of_gt hzlt) (Heap.get?_push_size _ rfl))
 have hz8:h₈.objs.size=h₅.objs.size + 1:=by rw [hs₈.1,hs₇.1,Heap.size_push]
 rw [hsz] at hz₈ hT₈ hz8
 refine wpAny_pure ⟨_,rfl,?_⟩
 show Q (.ref h₅.objs.size) _
 rw [hsz]
 exact hQ h₈ hz₈ (up _ _ D.TOz hTO₅) (N1.kept h1₅ (fun o e=>up _ o D.i1z e) fun o e=>up _ o D.l1z e) (h2₅.at fun o e=>up _ o D.i2z e) hT₈ hz8 fun c o c1 c2 c3 c4 e=>up c o c1 (hk₅ c o c1 c2 c3 c4 e)
theorem xwa {a:Addr} {o:Obj} {Q:Option Obj->Shared->Prop} (ho:s.heap.get? a=some o) (h:Q (some o) s):wpAny (model prog w) A (loadIfAlive a) Q E s:=by
 intro Γ p hΓ
 unfold loadIfAlive
 first
  | (rw [Sem.wp_loadIfAlive,ho]; exact h)
  | (simp only [Sem.wp_loadIfAlive,ho]; exact h)
theorem xv2 {P1:Heap->Nat->Prop} {z TI TO i1 i2 l1 l2 T:Addr} {k1 k2:Nat} {xs ys:Array Value} {x y:Value} {bb:Bool} {oT:Obj} {Q:Value->Shared->Prop} (D:ZipApart z TI TO i1 i2 l1 l2)
  (hz:xgd s.heap z TI TO (rawInt T) (.bool bb)) (hT:s.heap.get? T=some oT) (hTI:IsPair s.heap TI (.ref i1) (.ref i2))
  (N1:Nx prog w i1 l1 xs P1) (h1:P1 s.heap k1) (h2:s.heap.IsTupleIter i2 l2 k2) (hl2:s.heap.IsTuple l2 ys) (hx:xs[k1]?=some x) (hy:ys[k2]?=some y)
  (hQ:∀ h',xgd h' z TI TO (rawInt T) (.bool true)->P1 h' (k1 + 1)->h'.IsTupleIter i2 l2 (k2 + 1)->IsPair h' s.heap.objs.size x y->h'.objs.size=s.heap.objs.size + 1->
   (∀ c o,c≠z->c≠i1->c≠i2->s.heap.get? c=some o->h'.get? c=some o)->Q (.ref s.heap.objs.size) { s with heap:=h' }) :
  wpAny (model prog w) A (Builtin.«zip.__next__» ⟨[.ref z],[]⟩) (fun fin s'=>∃ v,fin=.done (.ret v)/\Q v s') E s:=by
 show wpAny _ _ (field (.ref z) 2 >>= _) _ _ _
 refine wpAny_bind (wpAny_field hz rfl (x:=.bool false) rfl ?_)
 show wpAny _ _ (field (.ref z) 3 >>= _) _ _ _
 refine wpAny_bind (wpAny_field hz rfl (x:=.ref TI) rfl ?_)
 refine wpAny_bind (wpAny_seqItems hTI rfl ?_)
 show wpAny _ _ (Builtin.SmallTypes.ownedTupleIsFree (.ref z) >>= _) _ _ _
 refine wpAny_bind ?_
 unfold Builtin.SmallTypes.ownedTupleIsFree
 refine wpAny_bind (wpAny_field hz rfl (x:=rawInt T) rfl ?_)
 show wpAny _ _ (loadIfAlive ((T:Int).toNat) >>= _) _ _ _
 rw [Int.toNat_natCast]
 refine wpAny_bind (xwa hT ?_)
 simp only [Option.isNone_some,Bool.false_eq_true,if_false]
 refine wpAny_bind (wpAny_field hz rfl (x:=.bool bb) rfl ?_)
 cases bb with
 | true=>
  have gz:xgd s.heap z TI TO (rawInt T) (.bool true):=hz
  have g1:=h1
  have g2:=h2
  have gl2:=hl2
  have gsz:s.heap.objs.size=s.heap.objs.size:=rfl
  have gk:∀ c o,c≠z->s.heap.get? c=some o->s.heap.get? c=some o:=fun _ _ _ e=>e
  simp only [bne_self_eq_false,Bool.false_eq_true,if_false]
  refine wpAny_pure ?_
  simp only [Bool.false_eq_true,if_false,List.forIn_toArray,List.forIn_cons,List.forIn_nil]
  refine wpAny_bind (wpAny_bind (wpAny_bind (wpAny_holding ?_)))
  show wpAny _ _ (Builtin.SmallTypes.nextOf (.ref i1) >>= _) _ _ _
  refine wpAny_bind (N1.item g1 hx fun h₂ h1₂ hs₂=>wpAny_pure (wpAny_pure ?_))
  refine wpAny_bind (wpAny_bind (wpAny_holding ?_))
  show wpAny _ _ (Builtin.SmallTypes.nextOf (.ref i2) >>= _) _ _ _
  refine wpAny_bind (xfg (g2.extBut hs₂.extBut D.i12.symm) (gl2.extBut hs₂.extBut D.l2i1) hy fun h₃ h2₃ hs₃=>wpAny_pure (wpAny_pure ?_))
  refine wpAny_pure ?_
  refine wpAny_bind (wpAny_newTuple ?_ (by walk_at "s"))
  have hsz:h₃.objs.size=s.heap.objs.size:=(hs₃.1.trans hs₂.1).trans gsz
  have hz₃:xgd h₃ z TI TO (rawInt T) (.bool true):=hs₃.extBut _ _ D.i2z.symm (hs₂.extBut _ _ D.i1z.symm gz)
  have h1₃:P1 h₃ (k1 + 1):=N1.ext h1₂ hs₃.extBut D.i12 D.l1i2
  refine wpAny_pure ⟨_,rfl,?_⟩
  show Q (.ref h₃.objs.size) _
  have hP:IsPair (h₃.push { cls:=.type "tuple",data:=.seq #[x,y] }) h₃.objs.size x y:=Heap.get?_push_size _ rfl
  have hz8:(h₃.push { cls:=.type "tuple",data:=.seq #[x,y] }).objs.size=h₃.objs.size + 1:=Heap.size_push ..
  rw [hsz] at hP hz8 ⊢
  exact hQ _ (zPO _ hz₃) (N1.kept h1₃ (fun o e=>zPO _ e) fun o e=>zPO _ e) (h2₃.at fun o e=>zPO _ e) hP hz8 fun c o c1 c2 c3 e=>
   zPO _ (hs₃.extBut _ _ c3 (hs₂.extBut _ _ c2 (gk c o c1 e)))
 | false=>
  rw [if_pos (by rfl)]
  refine wpAny_bind (wpAny_setField_rec hz (by simp) fun h₁ hz₁ hs₁=>?_)
  have gz:xgd h₁ z TI TO (rawInt T) (.bool true):=hz₁
  have g1:=N1.ext h1 hs₁.extBut D.i1z D.l1z
  have g2:=h2.extBut hs₁.extBut D.i2z
  have gl2:=hl2.extBut hs₁.extBut D.l2z
  have gsz:h₁.objs.size=s.heap.objs.size:=hs₁.1
  have gk:∀ c o,c≠z->s.heap.get? c=some o->h₁.get? c=some o:=fun c o n e=>hs₁.extBut _ _ n e
  refine wpAny_pure ?_
  simp only [Bool.false_eq_true,if_false,List.forIn_toArray,List.forIn_cons,List.forIn_nil]
  refine wpAny_bind (wpAny_bind (wpAny_bind (wpAny_holding ?_)))
  show wpAny _ _ (Builtin.SmallTypes.nextOf (.ref i1) >>= _) _ _ _
  refine wpAny_bind (N1.item g1 hx fun h₂ h1₂ hs₂=>wpAny_pure (wpAny_pure ?_))
  refine wpAny_bind (wpAny_bind (wpAny_holding ?_))
  show wpAny _ _ (Builtin.SmallTypes.nextOf (.ref i2) >>= _) _ _ _
  refine wpAny_bind (xfg (g2.extBut hs₂.extBut D.i12.symm) (gl2.extBut hs₂.extBut D.l2i1) hy fun h₃ h2₃ hs₃=>wpAny_pure (wpAny_pure ?_))
  refine wpAny_pure ?_
  refine wpAny_bind (wpAny_newTuple ?_ (by walk_at "s"))
  have hsz:h₃.objs.size=s.heap.objs.size:=(hs₃.1.trans hs₂.1).trans gsz
  have hz₃:xgd h₃ z TI TO (rawInt T) (.bool true):=hs₃.extBut _ _ D.i2z.symm (hs₂.extBut _ _ D.i1z.symm gz)
  have h1₃:P1 h₃ (k1 + 1):=N1.ext h1₂ hs₃.extBut D.i12 D.l1i2
  refine wpAny_pure ⟨_,rfl,?_⟩
  show Q (.ref h₃.objs.size) _
  have hP:IsPair (h₃.push { cls:=.type "tuple",data:=.seq #[x,y] }) h₃.objs.size x y:=Heap.get?_push_size _ rfl
  have hz8:(h₃.push { cls:=.type "tuple",data:=.seq #[x,y] }).objs.size=h₃.objs.size + 1:=Heap.size_push ..
  rw [hsz] at hP hz8 ⊢
  exact hQ _ (zPO _ hz₃) (N1.kept h1₃ (fun o e=>zPO _ e) fun o e=>zPO _ e) (h2₃.at fun o e=>zPO _ e) hP hz8 fun c o c1 c2 c3 e=>
   zPO _ (hs₃.extBut _ _ c3 (hs₂.extBut _ _ c2 (gk c o c1 e)))
theorem xxe {P1:Heap->Nat->Prop} {z TI TO i1 i2 l1 l2:Addr} {k:Nat} {xs ys:Array Value} {Q:Fin->Shared->Prop} (hh:A.handled=none) (D:ZipApart z TI TO i1 i2 l1 l2) (N1:Nx prog w i1 l1 xs P1) (S:Zg P1 s.heap z TI TO i1 i2 l2 ys k) (hx:xs[k]?=none)
  (hE:∀ h' e,(∀ c o,c≠z->c≠i1->s.heap.get? c=some o->h'.get? c=some o)->(∃ o,h'.get? e=some o/\o.cls=.type "StopIteration")->E (.ref e) { s with heap:=h' }) :
  wpAny (model prog w) A (Builtin.«zip.__next__» ⟨[.ref z],[]⟩) Q E s:=by
 obtain ⟨hz,hTI,⟨a,b,hTO⟩,h1,h2,hl2⟩:=S
 rcases hz with hz | ⟨T,bb,oT,hz,hT,hTz⟩
 ·show wpAny _ _ (field (.ref z) 2 >>= _) _ _ _
  refine wpAny_bind (wpAny_field hz rfl (x:=.bool false) rfl ?_)
  show wpAny _ _ (field (.ref z) 3 >>= _) _ _ _
  refine wpAny_bind (wpAny_field hz rfl (x:=.ref TI) rfl ?_)
  refine wpAny_bind (wpAny_seqItems hTI rfl ?_)
  show wpAny _ _ (Builtin.SmallTypes.ownedTupleIsFree (.ref z) >>= _) _ _ _
  refine wpAny_bind ?_
  unfold Builtin.SmallTypes.ownedTupleIsFree
  refine wpAny_bind (wpAny_field hz rfl (x:=.none) rfl (wpAny_pure ?_))
  simp only [if_true]
  refine wpAny_bind (wpAny_rule ?_)
  refine wpAny_bind (wpAny_field hz rfl (x:=.ref TO) rfl ?_)
  refine wpAny_bind (wpAny_setField_rec hz (by simp) fun h₁ hz₁ hs₁=>?_)
  replace hz₁:IsZip h₁ z TI TO .ellipsis:=hz₁
  refine wpAny_bind ?_
  simp only [List.zipIdx_cons,List.zipIdx_nil,List.forIn_cons,List.forIn_nil]
  refine wpAny_bind (wpAny_bind (wpAny_onRaise ?_))
  show wpAny _ _ (Builtin.SmallTypes.nextOf (.ref i1) >>= _) _ _ _
  refine wpAny_bind (N1.last hh (N1.ext h1 hs₁.extBut D.i1z D.l1z) hx fun h₂ e hs₂ he=>?_)
  obtain ⟨oe,hoe,hce⟩:=he
  have hz₂:IsZip h₂ z TI TO .ellipsis:=hs₂ _ _ D.i1z.symm hz₁
  have hez:e≠z:=fun x=>by subst x; rw [hz₂] at hoe; cases hoe; simp at hce
  refine wpAny_setField_rec hz₂ (by simp) fun h₃ _ hs₃=>hE h₃ e (fun c o c1 c3 x=>hs₃.extBut _ _ c1 (hs₂ _ _ c3 (hs₁.extBut _ _ c1 x))) ⟨oe,hs₃.extBut _ _ hez hoe,hce⟩
 ·show wpAny _ _ (field (.ref z) 2 >>= _) _ _ _
  refine wpAny_bind (wpAny_field hz rfl (x:=.bool false) rfl ?_)
  show wpAny _ _ (field (.ref z) 3 >>= _) _ _ _
  refine wpAny_bind (wpAny_field hz rfl (x:=.ref TI) rfl ?_)
  refine wpAny_bind (wpAny_seqItems hTI rfl ?_)
  show wpAny _ _ (Builtin.SmallTypes.ownedTupleIsFree (.ref z) >>= _) _ _ _
  refine wpAny_bind ?_
  unfold Builtin.SmallTypes.ownedTupleIsFree
  refine wpAny_bind (wpAny_field hz rfl (x:=rawInt T) rfl ?_)
  show wpAny _ _ (loadIfAlive ((T:Int).toNat) >>= _) _ _ _
  rw [Int.toNat_natCast]
  refine wpAny_bind (xwa hT ?_)
  simp only [Option.isNone_some,Bool.false_eq_true,if_false]
  refine wpAny_bind (wpAny_field hz rfl (x:=.bool bb) rfl ?_)
  cases bb with
  | true=>
   simp only [bne_self_eq_false,Bool.false_eq_true,if_false]
   refine wpAny_pure ?_
   simp only [Bool.false_eq_true,if_false,List.forIn_toArray,List.forIn_cons,List.forIn_nil]
   refine wpAny_bind (wpAny_bind (wpAny_bind (wpAny_holding ?_)))
   show wpAny _ _ (Builtin.SmallTypes.nextOf (.ref i1) >>= _) _ _ _
   exact wpAny_bind (N1.last hh h1 hx fun h₂ e hs₂ he=>hE h₂ e (fun c o c1 c3 x=>hs₂ _ _ c3 x) he)
  | false=>
   rw [if_pos (by rfl)]
   refine wpAny_bind (wpAny_setField_rec hz (by simp) fun h₁ hz₁ hs₁=>?_)
   refine wpAny_pure ?_
   simp only [Bool.false_eq_true,if_false,List.forIn_toArray,List.forIn_cons,List.forIn_nil]
   refine wpAny_bind (wpAny_bind (wpAny_bind (wpAny_holding ?_)))
   show wpAny _ _ (Builtin.SmallTypes.nextOf (.ref i1) >>= _) _ _ _
   exact wpAny_bind (N1.last hh (N1.ext h1 hs₁.extBut D.i1z D.l1z) hx fun h₂ e hs₂ he=>hE h₂ e (fun c o c1 c3 x=>hs₂ _ _ c3 (hs₁.extBut _ _ c1 x)) he)
theorem xxd {P1:Heap->Nat->Prop} {z TI TO i1 i2 l1 l2:Addr} {k:Nat} {xs ys:Array Value} {x y:Value} {Q:Option Value->Shared->Prop} (D:ZipApart z TI TO i1 i2 l1 l2) (hlt:l1 < s.heap.objs.size/\l2 < s.heap.objs.size) (N1:Nx prog w i1 l1 xs P1) (S:Zg P1 s.heap z TI TO i1 i2 l2 ys k)
  (hl1T:l1≠TO/\l2≠TO) (hx:xs[k]?=some x) (hy:ys[k]?=some y)
  (hQ:∀ h',Zg P1 h' z TI TO i1 i2 l2 ys (k + 1)->IsPair h' s.heap.objs.size x y->h'.objs.size=s.heap.objs.size + 1->
   (∀ c o,c≠z->c≠TO->c≠i1->c≠i2->s.heap.get? c=some o->h'.get? c=some o)->Q (some (.ref s.heap.objs.size)) { s with heap:=h' }) :
  wpAny (model prog w) A (pyNext (.ref z)) Q E s:=by
 have ⟨hz,hTI,⟨a,b,hTO⟩,h1,h2,hl2⟩:=S
 have hT:s.TypeIs (.ref z) "zip":=by
  rcases hz with hz | ⟨T,bb,oT,hz,_⟩ <;> exact ⟨_,hz,rfl⟩
 have zlt:z < s.heap.objs.size:=by
  rcases hz with hz | ⟨T,bb,oT,hz,_⟩ <;> exact Heap.lt_size hz
 unfold pyNext
 rcases hz with hz | ⟨T,bb,oT,hz,hTo,hTz⟩
 ·refine wpAny_bind (wpAny_attempt (wpAny_callSpecial?_slot (name:=Str.ofString "__next__") hT F.slot_zip_next
   (wpAny_call_entry F.slot_zip_next hT F.entry_zip_next
    (xsy D hz hTI hTO N1 h1 h2 hl2 hx hy fun h' a1 a2 a3 a4 a5 a6 a7=>wpAny_pure (hQ h' ?_ a5 a6 a7)) (F.args_zip_next_1 _))))
  refine ⟨.inr ⟨_,_,_,a1,a5,Nat.ne_of_gt zlt⟩,a7 _ _ D.TIz D.TITO D.TIi1 D.TIi2 hTI,⟨_,_,a2⟩,a3,a4,hl2.at fun o e=>a7 _ o D.l2z hl1T.2 D.l2i1 D.l2i2 e⟩
 ·refine wpAny_bind (wpAny_attempt (wpAny_callSpecial?_slot (name:=Str.ofString "__next__") hT F.slot_zip_next
   (wpAny_call_entry F.slot_zip_next hT F.entry_zip_next
    (xv2 D hz hTo hTI N1 h1 h2 hl2 hx hy fun h' a1 a3 a4 a5 a6 a7=>wpAny_pure (hQ h' ?_ a5 a6 fun c o c1 _ c3 c4 e=>a7 c o c1 c3 c4 e)) (F.args_zip_next_1 _))))
  have hTi:∃ o,h'.get? T=some o:=by
   by_cases e1:T=i1
   ·subst e1; exact N1.there a3
   ·by_cases e2:T=i2
    ·subst e2; obtain ⟨o,e,_⟩:=a4; exact ⟨o,e⟩
    ·exact ⟨_,a7 _ _ hTz e1 e2 hTo⟩
  obtain ⟨oT',hTo'⟩:=hTi
  refine ⟨.inr ⟨_,_,_,a1,hTo',hTz⟩,a7 _ _ D.TIz D.TIi1 D.TIi2 hTI,⟨_,_,a7 _ _ D.TOz D.TOi1 D.TOi2 hTO⟩,a3,a4,hl2.at fun o e=>a7 _ o D.l2z D.l2i1 D.l2i2 e⟩
theorem gEnd {P1:Heap->Nat->Prop} {z TI TO i1 i2 l1 l2:Addr} {k:Nat} {xs ys:Array Value} {Q:Option Value->Shared->Prop} (hh:A.handled=none) (D:ZipApart z TI TO i1 i2 l1 l2) (N1:Nx prog w i1 l1 xs P1) (S:Zg P1 s.heap z TI TO i1 i2 l2 ys k) (hx:xs[k]?=none)
  (hQ:∀ h',(∀ c o,c≠z->c≠i1->s.heap.get? c=some o->h'.get? c=some o)->Q none { s with heap:=h' }):wpAny (model prog w) A (pyNext (.ref z)) Q E s:=by
 have hT:s.TypeIs (.ref z) "zip":=by
  rcases S.zip with hz | ⟨T,bb,oT,hz,_⟩ <;> exact ⟨_,hz,rfl⟩
 unfold pyNext
 refine wpAny_bind (wpAny_attempt (wpAny_callSpecial?_slot (name:=Str.ofString "__next__") hT F.slot_zip_next
  (wpAny_call_entry F.slot_zip_next hT F.entry_zip_next (xxe hh D N1 S hx fun h' e hk he=>?_) (F.args_zip_next_1 _))))
 obtain ⟨o,ho,hc⟩:=he
 refine wpAny_bind (wpAny_isInstance (T:="StopIteration") (b:=true) ⟨o,ho,hc⟩ isSubtype_stop ?_)
 exact wpAny_pure (hQ _ hk)
theorem nxT {it l:Addr} {xs:Array Value} (hne:l≠it):Nx prog w it l xs fun h k=>h.IsTupleIter it l k/\h.IsTuple l xs where
 item:=fun p hx hQ=>xfg p.1 p.2 hx fun h' a s=>hQ h' ⟨a,p.2.extBut s.extBut hne⟩ s
 last:=fun hh p hx hE=>xrw hh p.1 p.2 hx hE
 kept:=fun p a b=>⟨p.1.at a,p.2.at b⟩
 there:=fun p=>by obtain ⟨o,e,_⟩:=p.1; exact ⟨o,e⟩
theorem item_first {z TI TO i1 i2 l1 l2:Addr} {k1 k2:Nat} {xs ys:Array Value} {x y a b:Value} {Q:Value->Shared->Prop} (D:ZipApart z TI TO i1 i2 l1 l2)
  (hz:IsZip s.heap z TI TO .none) (hTI:IsPair s.heap TI (.ref i1) (.ref i2)) (hTO:IsPair s.heap TO a b)
  (h1:s.heap.IsTupleIter i1 l1 k1) (h2:s.heap.IsTupleIter i2 l2 k2) (hl1:s.heap.IsTuple l1 xs) (hl2:s.heap.IsTuple l2 ys) (hx:xs[k1]?=some x) (hy:ys[k2]?=some y)
  (hQ:∀ h',IsZip h' z TI TO (rawInt s.heap.objs.size)->IsPair h' TO x y->h'.IsTupleIter i1 l1 (k1 + 1)->h'.IsTupleIter i2 l2 (k2 + 1)->IsPair h' s.heap.objs.size x y->h'.objs.size=s.heap.objs.size + 1->
   (∀ c o,c≠z->c≠TO->c≠i1->c≠i2->s.heap.get? c=some o->h'.get? c=some o)->Q (.ref s.heap.objs.size) { s with heap:=h' }) :
  wpAny (model prog w) A (Builtin.«zip.__next__» ⟨[.ref z],[]⟩) (fun fin s'=>∃ v,fin=.done (.ret v)/\Q v s') E s:=xsy D hz hTI hTO (nxT D.l1i1) ⟨h1,hl1⟩ h2 hl2 hx hy fun h' b1 b2 b3 b4 b5 b6 b7=>hQ h' b1 b2 b3.1 b4 b5 b6 b7
theorem pyNext_end {z TI TO i1 i2 l1 l2:Addr} {k:Nat} {xs ys:Array Value} {Q:Option Value->Shared->Prop} (hh:A.handled=none) (D:ZipApart z TI TO i1 i2 l1 l2) (S:Zs s.heap z TI TO i1 i2 l1 l2 xs ys k) (hx:xs[k]?=none)
  (hQ:∀ h',(∀ c o,c≠z->c≠i1->s.heap.get? c=some o->h'.get? c=some o)->Q none { s with heap:=h' }):wpAny (model prog w) A (pyNext (.ref z)) Q E s:=gEnd hh D (nxT D.l1i1) ⟨S.zip,S.ti,S.to,⟨S.it1,S.t1⟩,S.it2,S.t2⟩ hx hQ
end
abbrev zH1 (h:Heap) (l1:Addr):Heap:=h.push { cls:=.type "tuple_iterator",data:=.fields #[.ref l1,.int 0 0] }
abbrev zH2 (h:Heap) (l1 l2:Addr):Heap:=(zH1 h l1).push { cls:=.type "tuple_iterator",data:=.fields #[.ref l2,.int 0 0] }
abbrev zH3 (h:Heap) (l1 l2:Addr):Heap:=(zH2 h l1 l2).push { cls:=.type "tuple",data:=.seq #[.ref h.objs.size,.ref (zH1 h l1).objs.size] }
abbrev zH4 (h:Heap) (l1 l2:Addr):Heap:=(zH3 h l1 l2).push { cls:=.type "tuple",data:=.seq #[.none,.none] }
abbrev zH5 (h:Heap) (l1 l2:Addr):Heap:=(zH4 h l1 l2).push { cls:=.type "zip",data:=.fields #[.none,.bool false,.bool false,.ref (zH2 h l1 l2).objs.size,.ref (zH3 h l1 l2).objs.size] }
theorem meets_new (l1 l2:Addr) (xs ys:Array Value) :
  Meets (Builtin.«zip.__new__» ⟨[.type "zip",.ref l1,.ref l2],[]⟩) (fun _ R s=>s.heap.IsTuple l1 xs/\s.heap.IsTuple l2 ys ∧
   R (.ok (.ret (.ref (zH4 s.heap l1 l2).objs.size))) { s with heap:=zH5 s.heap l1 l2 }):=
 .of_wp fun prog w A R s h=>by
  obtain ⟨hp,g,d,tk,os⟩:=s; obtain ⟨hl1,hl2,h⟩:=h
  have hsub:=sub_zip
  have hL1:Heap.IsTuple (Shared.heap ⟨hp,g,d,tk,os⟩) l1 xs:=hl1
  have hL2:Heap.IsTuple (Shared.heap ⟨hp.push { cls:=.type "tuple_iterator",data:=.fields #[.ref l1,.int 0 0] },g,d,tk,os⟩) l2 ys:=Heap.IsTuple.push hl2 _
  wp_walk using wpAny_pyIter_tuple hL1,wpAny_pyIter_tuple hL2
  exact ⟨_,rfl,h⟩
end Zt
end
section
namespace L2
open PySem PySem.Spec PyProof.Rows
abbrev TJ:=St->Hp->Str->VK->Prop
def PJ (X:Cx) (es:List Expr) (t:TJ):Prop:=
 ∀ (pins:List (Addr×Obj)) (s:Shared) (σ:St) (H:Hp) (out:Str) (Q:VK),Inv X pins σ H s->t σ H out Q->wpAny (model X.prog X.w) X.A (joinParts out (evalEach es X.env)) (EP X pins σ Q) X.xe s
end L2
end
section
namespace L2
open PySem PySem.Spec PyProof.Rows
section
variable {es:List Expr} {env:Env}
theorem zso {c k p}:starEach (.Constant c k p :: es) env=(false,eval (.Constant c k p) env) :: starEach es env:=rfl
theorem zsn {x p}:starEach (.Name x p :: es) env=(false,eval (.Name x p) env) :: starEach es env:=rfl
theorem zsc {a b c d}:starEach (.Call a b c d :: es) env=(false,eval (.Call a b c d) env) :: starEach es env:=rfl
theorem xa8 {a b c d}:starEach (.BinOp a b c d :: es) env=(false,eval (.BinOp a b c d) env) :: starEach es env:=rfl
theorem zss {a b c}:starEach (.Subscript a b c :: es) env=(false,eval (.Subscript a b c) env) :: starEach es env:=rfl
theorem sT {a b c}:starEach (.Tuple a b c :: es) env=(false,eval (.Tuple a b c) env) :: starEach es env:=rfl
theorem xil {a b c d}:starEach (.Compare a b c d :: es) env=(false,eval (.Compare a b c d) env) :: starEach es env:=rfl
theorem xot {a b c}:starEach (.BoolOp a b c :: es) env=(false,eval (.BoolOp a b c) env) :: starEach es env:=rfl
theorem xby {a b c d}:starEach (.ListComp a b c d :: es) env=(false,eval (.ListComp a b c d) env) :: starEach es env:=rfl
end
end L2
end
section
namespace M
open PySem
inductive D where
 | int (i:Int)
 | str (x:Str)
 | tup (ds:List D)
inductive All2 {α β:Type} (R:α->β->Prop):List α->List β->Prop where
 | nil:All2 R [] []
 | cons {a b as bs} (h:R a b) (t:All2 R as bs):All2 R (a :: as) (b :: bs)
theorem All2.length {α β:Type} {R:α->β->Prop} {as:List α} {bs:List β} (h:All2 R as bs):as.length=bs.length:=by
 induction h with
 | nil=>rfl
 | cons _ _ ih=>simp [ih]
theorem All2.imp {α β:Type} {R S:α->β->Prop} {as:List α} {bs:List β} (h:All2 R as bs) (f:∀ a b,R a b->S a b):All2 S as bs:=by
 induction h with
 | nil=>exact .nil
 | cons h _ ih=>exact .cons (f _ _ h) ih
theorem All2.get {α β:Type} {R:α->β->Prop} {as:List α} {bs:List β} (h:All2 R as bs):∀ {i:Nat} {a:α},as[i]?=some a->∃ b,bs[i]?=some b/\R a b:=by
 induction h with
 | nil=>intro i a e; simp at e
 | cons h _ ih=>
  intro i a e
  cases i with
  | zero=>simp at e; subst e; exact ⟨_,by simp,h⟩
  | succ i=>simpa using ih (i:=i) (a:=a) (by simpa using e)
def S (s:String):Str:=Str.ofString s
def xfm (c:Nat):Bool:=97<=c && c<=122
def xrx (x:List Nat):Bool:=1<=x.length && x.length<=6 && x.all xfm && x != [110,117,109] && x != [105,116]
def Name (x:Str):Prop:=xrx x.cps.toList=true
end M
end
section
namespace M
open PySem
def L (x:Str):List Nat:=x.cps.toList
def ofL (l:List Nat):Str:=⟨l.toArray⟩
theorem xd9 (l:List Nat):L (ofL l)=l:=rfl
theorem xvl (x:Str):ofL (L x)=x:=by
 cases x
 rfl
theorem xqx {x y:Str} (h:L x=L y):x=y:=by
 rw [<- xvl x,<- xvl y,h]
theorem xeu (x y:Str):L (x++y)=L x++L y:=by
 show (x.cps++y.cps).toList=_
 simp [L]
theorem xft (x:Str):(L x).length=x.length:=by
 simp [L,Str.length]
end M
end
section
namespace M
open PySem L2
mutual
def RelD (H:Hp):V->D->Prop
 | v,.int i=>v=.int i
 | v,.str x=>v=.str x
 | v,.tup ds=>∃ a vs,v=.ref a/\H a=some (.tup vs)/\RelDs H vs ds
def RelDs (H:Hp):List V->List D->Prop
 | vs,[]=>vs=[]
 | vs,d :: ds=>∃ v r,vs=v :: r/\RelD H v d/\RelDs H r ds
end
mutual
theorem RelD.same {H H':Hp} (s:Same H H'):∀ {v:V} (d:D),RelD H v d->RelD H' v d
 | v,.int i,h=>h
 | v,.str x,h=>h
 | v,.tup ds,⟨a,vs,e,ha,h⟩=>⟨a,vs,e,s _ _ ha,RelDs.same s ds h⟩
theorem RelDs.same {H H':Hp} (s:Same H H'):∀ {vs:List V} (ds:List D),RelDs H vs ds->RelDs H' vs ds
 | vs,[],h=>h
 | vs,d :: ds,⟨v,r,e,h1,h2⟩=>⟨v,r,e,RelD.same s d h1,RelDs.same s ds h2⟩
end
theorem RelDs.length {H:Hp}:∀ {vs:List V} {ds:List D},RelDs H vs ds->vs.length=ds.length
 | vs,[],h=>by rw [show vs=[] from h]; rfl
 | vs,d :: ds,⟨v,r,e,_,h2⟩=>by rw [e,List.length_cons,List.length_cons,RelDs.length h2]
theorem RelDs.append {H:Hp}:∀ {vs us:List V} {ds es:List D},RelDs H vs ds->RelDs H us es->RelDs H (vs++us) (ds++es)
 | vs,us,[],es,h,k=>by rw [show vs=[] from h]; exact k
 | vs,us,d :: ds,es,⟨v,r,e,h1,h2⟩,k=>by subst e; exact ⟨v,r++us,rfl,h1,RelDs.append h2 k⟩
theorem RelDs.get {H:Hp}:∀ {vs:List V} {ds:List D} {i:Nat} {v:V},RelDs H vs ds->vs[i]?=some v->∃ d,ds[i]?=some d/\RelD H v d
 | vs,[],i,v,h,e=>by rw [show vs=[] from h] at e; simp at e
 | vs,d :: ds,0,v,⟨u,r,e0,h1,_⟩,e=>by
  subst e0
  simp at e
  subst e
  exact ⟨d,rfl,h1⟩
 | vs,d :: ds,i + 1,v,⟨u,r,e0,_,h2⟩,e=>by
  subst e0
  obtain ⟨x,hx,hr⟩:=RelDs.get (i:=i) (v:=v) h2 (by simpa using e)
  exact ⟨x,by simpa using hx,hr⟩
end M
namespace M
open PySem L2
theorem iteKF {c A B:Prop} [Decidable c] (h:decide c=false) (b:B):if decide c=true then A else B:=by
 rw [h]
 exact b
theorem iteKT {c A B:Prop} [Decidable c] (h:decide c=true) (a:A):if decide c=true then A else B:=by
 rw [h]
 exact a
theorem xn2 {c:Bool} {A B:Prop} (h:c=false) (b:B):if c=true then A else B:=by
 rw [h]
 exact b
end M
end
section
namespace M
open PySem L2
mutual
theorem RelD.tups {H H':Hp} (s:∀ b vs,H b=some (.tup vs)->H' b=some (.tup vs)):∀ {v:V} (d:D),RelD H v d->RelD H' v d
 | v,.int i,h=>h
 | v,.str x,h=>h
 | v,.tup ds,⟨a,vs,e,ha,h⟩=>⟨a,vs,e,s _ _ ha,RelDs.tups s ds h⟩
theorem RelDs.tups {H H':Hp} (s:∀ b vs,H b=some (.tup vs)->H' b=some (.tup vs)):∀ {vs:List V} (ds:List D),RelDs H vs ds->RelDs H' vs ds
 | vs,[],h=>h
 | vs,d :: ds,⟨v,r,e,h1,h2⟩=>⟨v,r,e,RelD.tups s d h1,RelDs.tups s ds h2⟩
end
theorem xah {a:Addr} {H H':Hp} (hf:∃ p q:Int,H a=some (.lst [.int p,.int q])) (f:Fed a H H'):∀ b vs,H b=some (.tup vs)->H' b=some (.tup vs):=fun b vs e=>f.1 b _ e fun z=>by
 obtain ⟨p,q,h⟩:=hf
 rw [z,h] at e
 cases e
def xdg (c:Nat):Str:=⟨#[c]⟩
theorem xkh:∀ cs:List Nat,Txt.join (S "") (cs.map xdg)=ofL cs:=by
 have h:∀ cs:List Nat,L (Str.join (S "") (cs.map xdg))=cs:=by
  intro cs
  induction cs with
  | nil=>rfl
  | cons c r ih=>
   cases r with
   | nil=>rfl
   | cons d r=>
    show L (xdg c++S ""++Str.join (S "") ((d :: r).map xdg))=_
    rw [xeu,xeu,ih]
    have e:L (S "")=[]:=by walk_at "k"
    rw [e]
    rfl
 intro cs
 apply xqx
 show L (Builtin.Str.glued (S "") (cs.map xdg))=cs
 rw [StrLaws.glued_eq_join,h]
theorem xld (cs:List Nat):((cs.map xdg).map (·.length)).sum=cs.length:=by
 induction cs with
 | nil=>rfl
 | cons c r ih=>
  show (xdg c).length + ((r.map xdg).map (·.length)).sum=r.length + 1
  rw [ih,show (xdg c).length=1 from rfl]
  omega
theorem xni {α:Type} {cs:List α} {r:Int} (h0:0<=r) (h:r < (cs.length:Int)):∃ c∈cs,atI cs r=some c:=by
 have hk:r.toNat < cs.length:=by omega
 have ek:r=((r.toNat:Nat):Int):=by omega
 refine ⟨cs[r.toNat],List.getElem_mem hk,?_⟩
 have q:atI cs ((r.toNat:Nat):Int)=some cs[r.toNat]:=xaz (zGA hk)
 rw [<- ek] at q
 exact q
end M
end
section
namespace L2
open PySem PySem.Spec PyProof.Rows
section
variable {κ:Type} [DecidableEq κ]
def valV (kvs:List (κ×V)) (k:κ):Option V:=(kvs.find? fun kv=>decide (kv.1=k)).map (·.2)
def putK (kvs:List (κ×V)) (k:κ) (v:V):List (κ×V):=
 if (kvs.any fun kv=>decide (kv.1=k))=true then kvs.map (fun kv=>if kv.1=k then (kv.1,v) else kv) else kvs++[(k,v)]
theorem xch {p:κ×V} {r:List (κ×V)} {k:κ} (e:p.1=k):valV (p :: r) k=some p.2:=by simp [valV,List.find?_cons,e]
theorem xci {p:κ×V} {r:List (κ×V)} {k:κ} (e:¬ p.1=k):valV (p :: r) k=valV r k:=by simp [valV,List.find?_cons,e]
theorem xgk (k:κ):∀ kvs:List (κ×V),(kvs.any fun kv=>decide (kv.1=k))=(valV kvs k).isSome
 | []=>rfl
 | p :: r=>by
  rw [List.any_cons]
  by_cases e:p.1=k
  ·simp only [xch e,zDT e,Bool.true_or,Option.isSome_some]
  ·rw [xci e,zDF e,Bool.false_or]; exact xgk k r
theorem xmi (k j:κ) (y:V):∀ kvs:List (κ×V),valV (kvs.map fun kv=>if kv.1=k then (kv.1,y) else kv) j=(valV kvs j).map fun x=>if j=k then y else x
 | []=>rfl
 | p :: r=>by
  have ih:=xmi k j y r
  rw [List.map_cons]
  by_cases h:p.1=k
  ·rw [if_pos h]
   by_cases e:p.1=j
   ·rw [xch (p:=(p.1,y)) e,xch e,Option.map_some,if_pos (e.symm.trans h)]
   ·rw [xci (p:=(p.1,y)) e,xci e,ih]
  ·rw [if_neg h]
   by_cases e:p.1=j
   ·rw [xch (p:=p) e,xch e,Option.map_some,if_neg (fun z=>h (e.trans z))]
   ·rw [xci (p:=p) e,xci e,ih]
theorem xi8 (k j:κ) (y:V):∀ kvs:List (κ×V),valV kvs k=none->valV (kvs++[(k,y)]) j=if j=k then some y else valV kvs j
 | [],_=>by
  by_cases e:k=j
  ·rw [if_pos e.symm]; exact xch (p:=(k,y)) e
  ·rw [if_neg (fun z=>e z.symm)]; exact xci (p:=(k,y)) e
 | p :: r,hn=>by
  rw [List.cons_append]
  have hk:¬ p.1=k:=fun z=>by rw [xch z] at hn; cases hn
  rw [xci hk] at hn
  have ih:=xi8 k j y r hn
  by_cases e:p.1=j
  ·rw [xch e,xch e,if_neg (fun z=>hk (e.trans z))]
  ·rw [xci e,xci e,ih]
theorem xfc (kvs:List (κ×V)) (k j:κ) (y:V):valV (putK kvs k y) j=if j=k then some y else valV kvs j:=by
 unfold putK
 by_cases a:(kvs.any fun kv=>decide (kv.1=k))=true
 ·rw [if_pos a,xmi]
  rw [xgk] at a
  by_cases e:j=k
  ·obtain ⟨x,hx⟩:=Option.isSome_iff_exists.mp a
   rw [if_pos e,e,hx,Option.map_some,if_pos rfl]
  ·rw [if_neg e]
   cases valV kvs j with
   | none=>rfl
   | some x=>rw [Option.map_some,if_neg e]
 ·rw [if_neg a]
  refine xi8 k j y kvs ?_
  rw [xgk] at a
  cases q:valV kvs k with
  | none=>rfl
  | some x=>rw [q] at a; exact (a rfl).elim
theorem xdy (kvs:List (κ×V)) (k:κ) (v:V):(putK kvs k v).length<=kvs.length + 1:=by
 unfold putK
 split
 ·rw [zLM]; omega
 ·rw [zLA,List.length_cons,List.length_nil]; omega
theorem RelO.isSome_eq {o:Option V} {u:Option Value} (r:RelO o u):o.isSome=u.isSome:=by
 cases o with
 | none=>cases u with
  | none=>rfl
  | some _=>exact (show False from r).elim
 | some _=>cases u with
  | none=>exact (show False from r).elim
  | some _=>rfl
theorem KV.val {kvs:List (κ×V)} {vs:List (κ×Value)} (r:KV kvs vs) (k:κ):RelO (valV kvs k) (valueAt vs k):=by
 unfold KV at r
 induction r with
 | nil=>exact True.intro
 | @cons p q ps qs h t ih=>
  obtain ⟨h1,h2⟩:=h
  by_cases e:p.1=k
  ·have e':q.1=k:=h1.symm.trans e
   have b:valueAt (q :: qs) k=some q.2:=by simp [valueAt,List.find?_cons,e']
   rw [xch e,b]; exact h2
  ·have e':¬ q.1=k:=fun z=>e (h1.trans z)
   have b:valueAt (q :: qs) k=valueAt qs k:=by simp [valueAt,List.find?_cons,e']
   rw [xci e,b]; exact ih
theorem KV.any {kvs:List (κ×V)} {vs:List (κ×Value)} (r:KV kvs vs) (k:κ):(kvs.any fun kv=>decide (kv.1=k))=vs.any fun kv=>decide (kv.1=k):=by
 unfold KV at r
 induction r with
 | nil=>rfl
 | cons h t ih=>rw [List.any_cons,List.any_cons,ih,h.1]
theorem KV.repl {kvs:List (κ×V)} {vs:List (κ×Value)} (r:KV kvs vs) (k:κ) {y:V} {u:Value} (ry:RelV y u) :
  KV (kvs.map fun kv=>if kv.1=k then (kv.1,y) else kv) (vs.map fun kv=>if kv.1=k then (kv.1,u) else kv):=by
 unfold KV at r ⊢
 induction r with
 | nil=>exact .nil
 | @cons p q ps qs h t ih=>
  rw [List.map_cons,List.map_cons]
  refine .cons ?_ ih
  obtain ⟨h1,h2⟩:=h
  by_cases e:p.1=k
  ·rw [if_pos e,if_pos (h1.symm.trans e)]; exact ⟨h1,ry⟩
  ·rw [if_neg e,if_neg (fun z=>e (h1.trans z))]; exact ⟨h1,h2⟩
theorem KV.put {kvs:List (κ×V)} {vs:List (κ×Value)} (r:KV kvs vs) (k:κ) {y:V} {u:Value} (ry:RelV y u):KV (putK kvs k y) (stored vs k u):=by
 unfold putK stored
 rw [r.any k]
 by_cases e:(vs.any fun kv=>decide (kv.1=k))=true
 ·rw [if_pos e,if_pos e]; exact r.repl k ry
 ·rw [if_neg e,if_neg e]; exact Paired.snoc r ⟨rfl,ry⟩
theorem KV.length {kvs:List (κ×V)} {vs:List (κ×Value)} (r:KV kvs vs):kvs.length=vs.length:=Paired.length r
end
theorem xkg {P:Program} {w:World} {k:Key} {u:Value} (r:RelV (kV k) u):(xbs P w).is k u=true:=by
 cases k with
 | inl i=>obtain ⟨t,e⟩:=(show ∃ t,u=Value.int i t from r); subst e; exact xlu P w i t
 | inr x=>obtain ⟨t,e⟩:=(show ∃ t,u=Value.str x t from r); subst e; exact xlt P w x t
theorem xki {P:Program} {w:World}:∀ {ks:List Key} {us:List Value},Vals (ks.map kV) us->ItemsAre (xbs P w) ks us
 | [],_,r=>by rw [List.map_nil] at r; cases r; exact .nil
 | k :: ks,_,r=>by
  rw [List.map_cons] at r
  cases r with
  | cons h t=>exact .cons (xkg h) (xki t)
abbrev KT (H:Hp):List (List Key×V)->List (List Key×Addr×Value)->Prop:=Paired fun p q=>p.1=q.1/\H q.2.1=some (.tup (p.1.map kV))/\RelV p.2 q.2.2
theorem KT.val {H:Hp} {kvs:List (List Key×V)} {xs:List (List Key×Addr×Value)} (r:KT H kvs xs) (k:List Key):RelO (valV kvs k) ((atKey xs k).map (·.2)):=by
 induction r with
 | nil=>exact True.intro
 | @cons p q ps qs h t ih=>
  obtain ⟨h1,_,h2⟩:=h
  by_cases e:p.1=k
  ·have e':q.1=k:=h1.symm.trans e
   have b:atKey (q :: qs) k=some q.2:=by simp [atKey,List.find?_cons,e']
   rw [xch e,b]; exact h2
  ·have e':¬ q.1=k:=fun z=>e (h1.trans z)
   have b:atKey (q :: qs) k=atKey qs k:=by simp [atKey,List.find?_cons,e']
   rw [xci e,b]; exact ih
theorem KT.repl {H:Hp} {kvs:List (List Key×V)} {xs:List (List Key×Addr×Value)} (r:KT H kvs xs) (k:List Key) {y:V} {u:Value} (ry:RelV y u) :
  KT H (kvs.map fun kv=>if kv.1=k then (kv.1,y) else kv) (xs.map (putAt k u)):=by
 induction r with
 | nil=>exact .nil
 | @cons p q ps qs h t ih=>
  rw [List.map_cons,List.map_cons]
  refine .cons ?_ ih
  obtain ⟨h1,h2,h3⟩:=h
  unfold putAt
  by_cases e:p.1=k
  ·rw [if_pos e,if_pos (h1.symm.trans e)]; exact ⟨h1,h2,ry⟩
  ·rw [if_neg e,if_neg (fun z=>e (h1.trans z))]; exact ⟨h1,h2,h3⟩
theorem KT.put {H:Hp} {kvs:List (List Key×V)} {xs:List (List Key×Addr×Value)} (r:KT H kvs xs) (k:List Key) {b:Addr} {y:V} {u:Value} (hb:H b=some (.tup (k.map kV))) (ry:RelV y u) :
  KT H (putK kvs k y) (storedH xs k b u):=by
 have e:(kvs.any fun kv=>decide (kv.1=k))=(atKey xs k).isSome:=by
  rw [xgk,(r.val k).isSome_eq,Option.isSome_map]
 unfold putK storedH
 rw [e]
 by_cases q:(atKey xs k).isSome=true
 ·rw [if_pos q,if_pos q]; exact r.repl k ry
 ·rw [if_neg q,if_neg q]; exact Paired.snoc r ⟨rfl,hb,ry⟩
theorem KT.keeps {H H':Hp} {kvs:List (List Key×V)} {xs:List (List Key×Addr×Value)} (r:KT H kvs xs) (ht:∀ b ys,H b=some (.tup ys)->H' b=some (.tup ys)):KT H' kvs xs:=
 Paired.mapP r fun _ _ z=>⟨z.1,ht _ _ z.2.1,z.2.2⟩
section
variable {P:Program} {w:World} {H:Hp} {h:Heap} {a:Addr}
theorem xu5 {u:HO} (ok:HOk P w H h) (e:Rd H a u):ObjOk P w H h a u:=e.ok ok
theorem xl3 {kvs:List (Key×V)} (ok:HOk P w H h) (e:Rd H a (.dK kvs)):kvs.length<=sizeLine/\(a == sysModules)=false/\∃ vs,KV kvs vs/\h.DictOf (xbs P w) a vs:=
 show ObjOk P w H h a (.dK kvs) from xu5 ok e
theorem xuf {kvs:List (Key×V)} (ok:HOk P w H h) (e:H a=some (.dK kvs)):kvs.length<=sizeLine/\(a == sysModules)=false/\∃ vs,KV kvs vs/\h.DictOf (xbs P w) a vs:=xl3 ok (.inl e)
theorem xkf {ks:List Key} (ok:HOk P w H h) (e:H a=some (.tup (ks.map kV))):(tupleKind (xbs P w)).is h ks a:=by
 obtain ⟨_,its,r,o,h1,h2,n,h3,_⟩:=(show ObjOk P w H h a (.tup (ks.map kV)) from ok a _ e)
 exact ⟨o,its.toArray,n,h1,h2,h3,by simpa using xki r⟩
theorem xqk {kvs:List (List Key×V)} (ok:HOk P w H h) (e:Rd H a (.dT kvs)):kvs.length<=sizeLine/\(a == sysModules)=false ∧
  ∃ xs,KT H kvs xs/\h.DictOfH (tupleKind (xbs P w)) a xs:=by
 obtain ⟨z,y,xs,r,o,es,ep,h1,h2,h3,h4,h5⟩:=(show ObjOk P w H h a (.dT kvs) from xu5 ok e)
 refine ⟨z,y,xs,r,o,es,ep,h1,h2,h3,h4,fun x hx=>?_,h5⟩
 have all:∀ {l:List (List Key×V)} {m:List (List Key×Addr×Value)},KT H l m->∀ x∈m,(tupleKind (xbs P w)).is h x.1 x.2.1:=by
  intro l m q
  induction q with
  | nil=>intro x hx; exact nomatch hx
  | @cons p q ps qs hq t ih=>
   intro x hx
   rcases zMC hx with e | hx
   ·subst e
    exact xkf ok (by rw [<- hq.1]; exact hq.2.1)
   ·exact ih x hx
 exact all r x hx
theorem xxh {kvs:List (List Key×V)} (ok:HOk P w H h) (e:H a=some (.dT kvs)):kvs.length<=sizeLine/\(a == sysModules)=false ∧
  ∃ xs,KT H kvs xs/\h.DictOfH (tupleKind (xbs P w)) a xs:=xqk ok (.inl e)
end
def DGet (H:Hp) (a:Addr) (y:V) (r:Option V):Prop:=
 (∃ kvs k,Rd H a (.dK kvs)/\y=kV k/\r=valV kvs k)\/∃ kvs k b,Rd H a (.dT kvs)/\y=.ref b/\H b=some (.tup (k.map kV))/\r=valV kvs k
def DPut (H:Hp) (a:Addr) (y v:V) (H':Hp):Prop:=
 (∃ kvs k,H a=some (.dK kvs)/\y=kV k/\kvs.length < sizeLine/\H'=upd H a (.dK (putK kvs k v))) ∨
 ∃ kvs k b,H a=some (.dT kvs)/\y=.ref b/\H b=some (.tup (k.map kV))/\kvs.length < sizeLine/\H'=upd H a (.dT (putK kvs k v))
theorem DGet.k {H:Hp} {a:Addr} {kvs:List (Key×V)} {k:Key} (e:H a=some (.dK kvs)):DGet H a (kV k) (valV kvs k):=.inl ⟨kvs,k,.inl e,rfl,rfl⟩
theorem DPut.k {H:Hp} {a:Addr} {kvs:List (Key×V)} {k:Key} {v:V} (e:H a=some (.dK kvs)) (hl:kvs.length < sizeLine):DPut H a (kV k) v (upd H a (.dK (putK kvs k v))):=.inl ⟨kvs,k,e,rfl,hl,rfl⟩
section
variable {X:Cx} {pins:List (Addr×Obj)} {σ:St} {H:Hp} {s:Shared} {a:Addr} {y v:V} {u r:Value} {o:Option V} {A:Around} {E:Value->Shared->Prop}
theorem Inv.big (I:Inv X pins σ H s):sysModules < s.heap.objs.size:=by
 have h:mainGlobals < s.heap.objs.size:=(I.mod.glob.keeps I.bk).lt
 exact Nat.lt_trans (by decide) h
theorem xqp {Q:Value->Shared->Prop} (hu:A.units + 1 < cLine) (I:Inv X pins σ H s) (g:DGet H a y (some v)) (ry:RelV y u) (h:∀ w' s',Inv X pins σ H s'->RelV v w'->Q w' s') :
  wpAny (model X.prog X.w) A (getItem (.ref a) u) Q E s:=by
 rcases g with ⟨kvs,k,e,ey,l⟩ | ⟨kvs,k,b,e,ey,eb,l⟩
 ·subst ey
  obtain ⟨z,hd,vs,rel,dd⟩:=xl3 I.hok e
  obtain ⟨w',hw,rw'⟩:=RelO.some_of (v:=v) (o:=valueAt vs k) (by rw [l]; exact rel.val k)
  exact wpAny_getItem_of (xkg ry) dd.mapOf hw (h w' _ (I.tok _) rw')
 ·subst ey
  cases (show u=Value.ref b from ry)
  obtain ⟨z,hd,xs,rel,dd⟩:=xqk I.hok e
  obtain ⟨w',hw,rw'⟩:=RelO.some_of (v:=v) (o:=(atKey xs k).map (·.2)) (by rw [l]; exact rel.val k)
  obtain ⟨p,hp,hp2⟩:=zMS hw
  refine wpAny_getItem_heap (tupleKind_room_in1 hu) (xkf I.hok eb) dd hp ?_
  rw [hp2]
  exact h w' _ (I.tok _) rw'
theorem d_in {Q:Value->Shared->Prop} (hu:A.units + 1 < cLine) (I:Inv X pins σ H s) (g:DGet H a y o) (ry:RelV y u) (h:∀ s',Inv X pins σ H s'->Q (.bool o.isSome) s') :
  wpAny (model X.prog X.w) A (compareOp .In u (.ref a)) Q E s:=by
 rcases g with ⟨kvs,k,e,ey,l⟩ | ⟨kvs,k,b,e,ey,eb,l⟩
 ·subst ey
  obtain ⟨z,hd,vs,rel,dd⟩:=xl3 I.hok e
  refine wpAny_in_of (xkg ry) hd dd.mapOf ?_
  rw [<- (rel.val k).isSome_eq,<- l]
  exact h _ (I.tok _)
 ·subst ey
  cases (show u=Value.ref b from ry)
  obtain ⟨z,hd,xs,rel,dd⟩:=xqk I.hok e
  refine wpAny_in_heap (tupleKind_room_in1 hu) (xkf I.hok eb) hd dd ?_
  have q:=(rel.val k).isSome_eq
  rw [Option.isSome_map] at q
  rw [<- q,<- l]
  exact h _ (I.tok _)
theorem xug {Q:Value->Shared->Prop} (hu:A.units + 1 < cLine) (I:Inv X pins σ H s) (g:DGet H a y o) (ry:RelV y u) (h:∀ s',Inv X pins σ H s'->Q (.bool (!o.isSome)) s') :
  wpAny (model X.prog X.w) A (compareOp .NotIn u (.ref a)) Q E s:=by
 rcases g with ⟨kvs,k,e,ey,l⟩ | ⟨kvs,k,b,e,ey,eb,l⟩
 ·subst ey
  obtain ⟨z,hd,vs,rel,dd⟩:=xl3 I.hok e
  refine wpAny_notIn_of (xkg ry) hd dd.mapOf ?_
  rw [<- (rel.val k).isSome_eq,<- l]
  exact h _ (I.tok _)
 ·subst ey
  cases (show u=Value.ref b from ry)
  obtain ⟨z,hd,xs,rel,dd⟩:=xqk I.hok e
  refine wpAny_notIn_heap (tupleKind_room_in1 hu) (xkf I.hok eb) hd dd ?_
  have q:=(rel.val k).isSome_eq
  rw [Option.isSome_map] at q
  rw [<- q,<- l]
  exact h _ (I.tok _)
theorem xl7 {h':Heap} {t':Nat} {ob:HO} (I:Inv X pins σ H s) (mu:Mut (H a)) (hs:Heap.SameBut a s.heap h') (he:∃ q,h'.get? a=some q) (new:ObjOk X.prog X.w (upd H a ob) h' a ob) :
  Inv X pins σ (upd H a ob) { s with heap:=h',toks:=t' }:=
 I.write (x:=a) (e:=a) mu (.inl rfl) (fun b q hb z=>(hs.2 b hb).trans z) he new
theorem xid {P:Program} {w:World} {H':Hp} {h':Heap} {kvs:List (Key×V)} {vs:List (Key×Value)} (z:kvs.length<=sizeLine) (hd:(a == sysModules)=false) (rel:KV kvs vs) (dd:h'.DictOf (xbs P w) a vs) :
  ObjOk P w H' h' a (.dK kvs):=⟨z,hd,vs,rel,dd⟩
theorem xqo {H':Hp} {Q:Unit->Shared->Prop} (hu:A.units + 1 < cLine) (I:Inv X pins σ H s) (g:DPut H a y v H') (ry:RelV y u) (rv:RelV v r) (h:∀ s',Inv X pins σ H' s'->Q () s') :
  wpAny (model X.prog X.w) A (setItem (.ref a) u r) Q E s:=by
 rcases g with ⟨kvs,k,e,ey,l,eH⟩ | ⟨kvs,k,b,e,ey,eb,l,eH⟩
 ·subst ey eH
  obtain ⟨z,hd,vs,rel,dd⟩:=xuf I.hok e
  have hz:vs.length<=sizeLine:=by rw [<- rel.length]; exact z
  have hl:(putK kvs k v).length<=sizeLine:=by have:=xdy kvs k v; omega
  refine wpAny_setItem_pairs (hsz:=hz) (xkg ry) dd fun h' dd' hs=>h _ ?_
  have he:∃ q,h'.get? a=some q:=let ⟨q,_,_,hq,_⟩:=dd'; ⟨q,hq⟩
  exact xl7 I (by rw [e]; exact True.intro) hs he (xid hl hd (rel.put k rv) dd')
 ·subst ey eH
  cases (show u=Value.ref b from ry)
  obtain ⟨z,hd,xs,rel,dd⟩:=xxh I.hok e
  have hz:xs.length<=sizeLine:=by rw [<- Paired.length rel]; exact z
  have hl:(putK kvs k v).length<=sizeLine:=by have:=xdy kvs k v; omega
  refine wpAny_setItem_heap (hsz:=hz) (tupleKind_room_in1 hu) (xkf I.hok eb) dd fun h' dd' hs=>h _ ?_
  obtain ⟨q,es,ep,hq,h2,h3,h4,_,h5⟩:=dd'
  refine xl7 I (by rw [e]; exact True.intro) hs ⟨q,hq⟩ ⟨hl,hd,_,(rel.put k eb rv).keeps fun c ys ec=>?_,q,es,ep,hq,h2,h3,h4,h5⟩
  rw [xba (xw3 ec e (fun z=>nomatch z))]
  exact ec
end
section
variable {X:Cx} {pins:List (Addr×Obj)} {σ:St} {H:Hp} {s:Shared} {a:Addr} {kvs:List (Key×V)} {k:Key} {u:Value} {A:Around} {E:Value->Shared->Prop}
theorem xxi {Q:Value->Shared->Prop} (I:Inv X pins σ H s) (e:Rd H a (.dK kvs)) (h:∀ t s',Inv X pins σ H s'->Q (.int kvs.length t) s'):wpAny (model X.prog X.w) A (call (.builtin "len") [.ref a]) Q E s:=by
 obtain ⟨z,hd,vs,rel,dd⟩:=xl3 I.hok e
 refine call_len_dict hd dd (by rw [<- rel.length]; rw [sizeLine_eq] at z; omega) ?_
 rw [<- rel.length]
 exact h _ _ (I.tok _)
end
def NoSl (i:Expr):Prop:=∀ ov iv,subscripted i false ov iv=operate [ov,iv] (getItem ov iv)
theorem xte {prog:Program} {w:World} {A:Around} {E:Value->Shared->Prop} {s:Shared} {env:Env} {value slice:Expr} {pos:Pos} {T id:String} {Q:Value->Shared->Prop}
  (hl:typeLookup (.type T) "__getitem__"=pure (some (.builtin id))) (hs:NoSl slice)
  (h:wpAny (model prog w) A (eval value env) (fun o s₁=>wpAny (model prog w) A (eval slice env) (fun i s₂=>s₂.TypeIs o T/\wpAny (model prog w) A (getItem o i) Q E s₂) E s₁) E s) :
  wpAny (model prog w) A (eval (.Subscript value slice pos) env) Q E s:=by
 refine Subscript_ (wpAny_mono h (fun o s₁ h₁=>wpAny_mono h₁ (fun i s₂ h₂=>?_) fun _ _ x=>x) fun _ _ x=>x)
 obtain ⟨hT,h₂⟩:=h₂
 unfold subscriptTail
 refine wpAny_bind ?_
 rw [getitemInPython_of_ne hT.not_modules]
 refine wpAny_bind (wpAny_specialOf hT hl ?_)
 have fin:wpAny (model prog w) A (subscripted slice false o i) (fun r s₃=>wpAny (model prog w) A (letTemporaryGo value o r >>= fun _=>pure r) Q E s₃) E s₂:=by
  rw [hs o i]
  exact wpAny_operating (wpAny_mono h₂ (fun r s₃ h₃=>wpAny_bind (wpAny_letTemporaryGo (wpAny_pure h₃))) fun _ _ x=>x)
 first
  | exact wpAny_pure (wpAny_bind fin)
  | exact wpAny_bind (wpAny_pure (wpAny_bind fin))
  | exact wpAny_bind fin
theorem xl4 {X:Cx} {pins:List (Addr×Obj)} {σ:St} {H:Hp} {s:Shared} {a:Addr} {y:V} {o:Option V} (I:Inv X pins σ H s) (g:DGet H a y o):s.TypeIs (.ref a) "dict":=by
 rcases g with ⟨kvs,k,e,_,_⟩ | ⟨kvs,k,b,e,_,_,_⟩
 ·obtain ⟨_,_,vs,_,dd⟩:=xl3 I.hok e
  exact dd.typeIs
 ·obtain ⟨_,_,xs,_,dd⟩:=xqk I.hok e
  exact dd.typeIs
def xwp (td ty:TE):TE:=fun σ H Q=>td σ H fun x H1=>ty σ H1 fun y H2=>∃ a v,x=.ref a/\DGet H2 a y (some v)/\Q v H2
def tDIn (ty td:TE):TE:=fun σ H Q=>ty σ H fun y H1=>td σ H1 fun x H2=>∃ a o,x=.ref a/\DGet H2 a y o/\Q (.bl o.isSome) H2
def xtd (ty td:TE):TE:=fun σ H Q=>ty σ H fun y H1=>td σ H1 fun x H2=>∃ a o,x=.ref a/\DGet H2 a y o/\Q (.bl (!o.isSome)) H2
def xww (td ty tv:TE):TS:=fun D σ H=>tv σ H fun v H1=>td σ H1 fun x H2=>ty σ H2 fun y H3=>∃ a H4,x=.ref a/\DPut H3 a y v H4/\D.nx σ H4
section
variable {X:Cx} {o i e value:Expr} {pos pos' tpos:Pos} {td ty tv:TE}
theorem xcl (hu:X.A.units + 1 < cLine) (ho:PE X o td) (hi:PE X i ty) (hs:NoSl i):PE X (.Subscript o i pos) (xwp td ty):=by
 intro pins s σ H Q I h
 refine xte PySem.F.slot_dict_getitem.lookup hs (thn (ho pins s σ H _ I h) fun u s1 ⟨x,H1,I1,rx,q1⟩=>thn (hi pins s1 σ H1 _ I1 q1) fun iv s2 ⟨y,H2,I2,ry,a,v,ex,g,q2⟩=>?_)
 subst ex
 obtain rfl:u=Value.ref a:=rx
 exact ⟨xl4 I2 g,xqp hu I2 g ry fun w' s3 I3 rw'=>⟨v,H2,I3,rw',q2⟩⟩
theorem xvf (hu:X.A.units + 1 < cLine) (hi:PE X i ty) (ho:PE X o td):PC X .In i o (tDIn ty td):=by
 intro pins s σ H Q I h
 refine thn (hi pins s σ H _ I h) fun iv s1 ⟨y,H1,I1,ry,q1⟩=>thn (ho pins s1 σ H1 _ I1 q1) fun u s2 ⟨x,H2,I2,rx,a,ov,ex,g,q2⟩=>?_
 subst ex
 obtain rfl:u=Value.ref a:=rx
 exact d_in hu I2 g ry fun s3 I3=>⟨.bl ov.isSome,H2,I3,rfl,q2⟩
theorem xg6 (hu:X.A.units + 1 < cLine) (hi:PE X i ty) (ho:PE X o td):PC X .NotIn i o (xtd ty td):=by
 intro pins s σ H Q I h
 refine thn (hi pins s σ H _ I h) fun iv s1 ⟨y,H1,I1,ry,q1⟩=>thn (ho pins s1 σ H1 _ I1 q1) fun u s2 ⟨x,H2,I2,rx,a,ov,ex,g,q2⟩=>?_
 subst ex
 obtain rfl:u=Value.ref a:=rx
 exact xug hu I2 g ry fun s3 I3=>⟨.bl (!ov.isSome),H2,I3,rfl,q2⟩
theorem xlj (hu:X.A.units + 1 < cLine) (ho:PE X o td) (hi:PE X i ty) (hv:PE X value tv) (hs:swapsWith value (some (.Subscript o i pos')) pos.line X.env=pure false) :
  PS X (.Assign [.Subscript o i pos'] value pos) (xww td ty tv):=by
 intro pins s σ H D I h
 refine wpAny_Assign_Subscript (thn (hv pins s σ H _ I h) fun r s1 ⟨v,H1,I1,rv,q1⟩=>thn (ho pins s1 σ H1 _ I1 q1) fun u s2 ⟨x,H2,I2,rx,q2⟩=>thn (hi pins s2 σ H2 _ I2 q2) fun iv s3 ⟨y,H3,I3,ry,a,H4,ex,g,q3⟩=>?_) hs
 subst ex
 obtain rfl:u=Value.ref a:=rx
 exact xqo hu I3 g ry rv fun s4 I4=>⟨σ,H4,I4,q3⟩
end
theorem xnc {P:Program} {w:World} {H:Hp} (h:Heap) (hb:sysModules < h.objs.size):ObjOk P w H (h.push { cls:=.type "dict",data:=.dict #[] }) h.objs.size (.dK []):=
 ⟨Nat.zero_le _,beq_eq_false_iff_ne.mpr (Ne.symm (Nat.ne_of_lt hb)),[],.nil,Heap.DictOf.new h⟩
def xut:TE:=fun _ H Q=>∀ p,H p=none->Q (.ref p) (upd H p (.dK []))
section
variable {X:Cx} {pos:Pos}
theorem xrj:PE X (.Dict [] [] pos) xut:=fun pins s σ H Q I h=>
 wpAny_Dict_empty ⟨.ref s.heap.objs.size,_,I.laid (a:=s.heap.objs.size) (o:=.dK []) (t':=s.toks) (fun _ _ q=>zPO _ q) (Nat.le_refl _) (xnc s.heap I.big),rfl,h _ (I.hok.fresh (Nat.le_refl _))⟩
end
def xoo:List (TE×TE)->St->Hp->(List (V×V)->Hp->Prop)->Prop
 | [],_,H,Q=>Q [] H
 | (tk,tv) :: r,σ,H,Q=>tk σ H fun x H1=>tv σ H1 fun y H2=>xoo r σ H2 fun ps H3=>Q ((x,y) :: ps) H3
abbrev VV:List (V×V)->List (Value×Value)->Prop:=Paired fun p q=>RelV p.1 q.1/\RelV p.2 q.2
def PPs (X:Cx) (pos:Pos) (keys:List (Option Expr)) (values:List Expr) (trs:List (TE×TE)):Prop:=
 ∀ (pins:List (Addr×Obj)) (s:Shared) (σ:St) (H:Hp) (Q:List (V×V)->Hp->Prop),Inv X pins σ H s->xoo trs σ H Q->
  wpAny (model X.prog X.w) X.A (evalPairs (pairTrees keys values X.env pos)) (fun vs s'=>∃ ps H',Inv X pins σ H' s'/\VV ps vs/\Q ps H') X.xe s
theorem xtn {X:Cx} {pos:Pos}:PPs X pos [] [] []:=fun pins s σ H Q I h=>pairTrees_nil_walk ⟨[],H,I,.nil,h⟩
theorem xrg {X:Cx} {pos:Pos} {k v:Expr} {ks:List (Option Expr)} {vs:List Expr} {tk tv:TE} {trs:List (TE×TE)} (hk:PE X k tk) (hv:PE X v tv) (hr:PPs X pos ks vs trs) :
  PPs X pos (some k :: ks) (v :: vs) ((tk,tv) :: trs):=fun pins s σ H Q I h=>
 pairTrees_cons_walk (thn (hk pins s σ H _ I h) fun u s1 ⟨x,H1,I1,rx,q1⟩=>thn (hv pins s1 σ H1 _ I1 q1) fun w2 s2 ⟨y,H2,I2,ry,q2⟩=>
  thn (hr pins s2 σ H2 _ I2 q2) fun ws s3 ⟨ps,H3,I3,rel,q3⟩=>⟨(x,y) :: ps,H3,I3,.cons ⟨rx,ry⟩ rel,q3⟩)
def xaw (kvs more:List (Key×V)):List (Key×V):=more.foldl (fun acc kv=>putK acc kv.1 kv.2) kvs
theorem KV.merge:∀ {more:List (Key×V)} {rs:List (Key×Value)} {kvs:List (Key×V)} {vs:List (Key×Value)},KV more rs->KV kvs vs->KV (xaw kvs more) (merged vs rs):=by
 intro more rs kvs vs r
 unfold KV at r
 induction r generalizing kvs vs with
 | nil=>intro q; exact q
 | @cons p q ps qs h t ih=>
  intro r0
  have e:KV (putK kvs p.1 p.2) (stored vs q.1 q.2):=by
   have:=r0.put p.1 h.2
   rw [<- h.1]; exact this
  exact ih e
theorem xb2:∀ (more kvs:List (Key×V)),(xaw kvs more).length<=kvs.length + more.length
 | [],kvs=>by show kvs.length<=kvs.length + 0; omega
 | p :: r,kvs=>by
  have h1:=xb2 r (putK kvs p.1 p.2)
  have h2:=xdy kvs p.1 p.2
  show (xaw (putK kvs p.1 p.2) r).length<=_
  rw [List.length_cons]; omega
theorem xif {P:Program} {w:World}:∀ {kvs:List (Key×V)} {ws:List (Value×Value)},VV (kvs.map fun kv=>(kV kv.1,kv.2)) ws->∃ rs,Carries (xbs P w) ws rs/\KV kvs rs
 | [],_,r=>by rw [List.map_nil] at r; cases r; exact ⟨[],True.intro,.nil⟩
 | p :: kvs,_,r=>by
  rw [List.map_cons] at r
  cases r with
  | @cons a b as bs h t=>
   obtain ⟨rs,c,q⟩:=xif (P:=P) (w:=w) t
   obtain ⟨b1,b2⟩:=b
   exact ⟨(p.1,b2) :: rs,⟨xkg h.1,rfl,c⟩,.cons ⟨rfl,h.2⟩ q⟩
def xwo (trs:List (TE×TE)):TE:=fun σ H Q=>∀ p,H p=none->xoo trs σ (upd H p (.dK [])) fun ps H2=>H2 p=some (.dK [])/\∃ kvs:List (Key×V),ps=kvs.map (fun kv=>(kV kv.1,kv.2))/\kvs.length<=15/\Q (.ref p) (upd H2 p (.dK (xaw [] kvs)))
theorem xtp {X:Cx} {pos:Pos} {keys:List (Option Expr)} {values:List Expr} {trs:List (TE×TE)} (h:PPs X pos keys values trs) (hall:keys.all (·.isSome)=true) (hl:keys.length=values.length) (h0:keys≠[])
  (h15:keys.length<=15):PE X (.Dict keys values pos) (xwo trs):=by
 intro pins s σ H Q I q
 have hn:=I.hok.fresh (Nat.le_refl s.heap.objs.size)
 have I1:=I.laid (a:=s.heap.objs.size) (o:=.dK []) (h':=s.heap.push { cls:=.type "dict",data:=.dict #[] }) (t':=s.toks) (fun _ _ q=>zPO _ q) (Nat.le_refl _) (xnc s.heap I.big)
 refine wpAny_Dict_walk (knd:=xbs X.prog X.w) hall hl h0 h15 (thn (h pins _ σ _ _ I1 (q _ hn)) fun ws s2 ⟨ps,H2,I2,rel,e,kvs,ep,lk,q2⟩=>?_)
 subst ep
 obtain ⟨rs,c,rk⟩:=xif (P:=X.prog) (w:=X.w) rel
 obtain ⟨z,hd,vs0,r0,dd⟩:=xuf I2.hok e
 cases r0
 refine ⟨rs,c,dd,fun h' dd' hs=>⟨.ref s.heap.objs.size,_,?_,rfl,q2⟩⟩
 have hz:(xaw [] kvs).length<=sizeLine:=by
  have h1:=xb2 kvs []
  rw [List.length_nil] at h1
  rw [sizeLine_eq]; omega
 have he:∃ q,h'.get? s.heap.objs.size=some q:=let ⟨q,_,_,hq,_⟩:=dd'; ⟨q,hq⟩
 exact xl7 I2 (by rw [e]; exact True.intro) hs he (xid hz hd (rk.merge .nil) dd')
section
variable {X:Cx} {pins:List (Addr×Obj)} {σ:St} {H:Hp} {s:Shared} {a:Addr} {kvs:List (Key×V)} {A:Around} {E:Value->Shared->Prop}
theorem xsa {Q:Value->Shared->Prop} (I:Inv X pins σ H s) (e:Rd H a (.dK kvs)) (h:∀ p s',H p=none->Inv X pins σ (upd H p (.dK kvs)) s'->Q (.ref p) s'):wpAny (model X.prog X.w) A (call (.type "dict") [.ref a]) Q E s:=by
 obtain ⟨z,hd,vs,rel,dd⟩:=xl3 I.hok e
 refine kt_call_dict hd dd (by rw [<- rel.length]; exact z) fun h' dd' hs=>?_
 refine h _ _ (I.hok.fresh (Nat.le_refl _)) (I.laid (a:=s.heap.objs.size) (o:=.dK kvs) (t':=s.toks) (fun b q hq=>?_) (Nat.le_refl _) (xid z (beq_eq_false_iff_ne.mpr (Ne.symm (Nat.ne_of_lt I.big))) rel dd'))
 exact (hs.2 b (Nat.ne_of_lt (Heap.lt_size hq))).trans (zPO _ hq)
end
end L2
namespace L2
open PySem PySem.Spec PyProof.Rows
section
variable {X:Cx}
theorem xkt:xew X (.builtin "len") (fun xs H Q=>∃ a kvs,xs=[V.ref a]/\H a=some (.dK kvs)/\Q (.int kvs.length) H):=by
 intro pins s σ H xs us Q I r h
 obtain ⟨a,kvs,rfl,ha,q⟩:=h
 obtain ⟨u,rfl,ru⟩:=xfb r
 cases ru
 exact xxi I (.inl ha) fun t s' I'=>⟨.int kvs.length,H,I',⟨t,rfl⟩,q⟩
end
section
variable {κ:Type} [DecidableEq κ]
theorem xlq:∀ {l:List κ} {k:κ},l.Nodup->¬ k∈l->(l++[k]).Nodup
 | [],k,_,_=>by simp
 | a :: r,k,h,hk=>by
  obtain ⟨h1,h2⟩:=List.nodup_cons.mp h
  show (a :: (r++[k])).Nodup
  refine List.nodup_cons.mpr ⟨fun m=>?_,xlq h2 fun m=>hk (List.mem_cons.mpr (Or.inr m))⟩
  rcases zMA m with q | q
  ·exact h1 q
  ·exact hk (List.mem_cons.mpr (Or.inl (zMO q).symm))
end
end L2
end
section
namespace L2
open PySem PySem.Spec PyProof.Rows
section
variable {es:List Expr} {env:Env}
theorem xos {a b c}:starEach (.Dict a b c :: es) env=(false,eval (.Dict a b c) env) :: starEach es env:=rfl
end
section
variable {X:Cx}
theorem xig:xew X (.type "dict") (fun xs H Q=>∃ a kvs,xs=[V.ref a]/\H a=some (.dK kvs)/\∀ p,H p=none->Q (.ref p) (upd H p (.dK kvs))):=by
 intro pins s σ H xs us Q I r h
 obtain ⟨a,kvs,rfl,ha,q⟩:=h
 obtain ⟨u,rfl,ru⟩:=xfb r
 cases ru
 exact xsa I (.inl ha) fun p s' hp I'=>⟨.ref p,_,I',rfl,q p hp⟩
end
section
variable {ix:Cap} {tt:TT} {te:TE} {g:TG} {σ:St} {H:Hp} {Q:VK}
def NxtG (Pv:Nat->List V->Hp->Prop) (n i:Nat) (ys:List V):VK:=fun y H2=>∃ m',m' < n - i/\m'=n - (i + 1)/\i + 1<=n/\(ys++[y]).length<=i + 1/\Pv (i + 1) (ys++[y]) H2
def NxtN (Pv:Nat->List V->Hp->Prop) (n i:Nat) (ys:List V):Hp->Prop:=fun H2=>∃ m',m' < n - i/\m'=n - (i + 1)/\i + 1<=n/\ys.length<=i + 1/\Pv (i + 1) ys H2
theorem nxtG {Pv:Nat->List V->Hp->Prop} {n i:Nat} {ys:List V} {y:V} {H2:Hp} (hi:i < n) (hl:ys.length<=i) (h:Pv (i + 1) (ys++[y]) H2):NxtG Pv n i ys y H2:=
 ⟨n - (i + 1),by omega,rfl,hi,by rw [zLA,List.length_singleton]; omega,h⟩
theorem nxtN {Pv:Nat->List V->Hp->Prop} {n i:Nat} {ys:List V} {H2:Hp} (hi:i < n) (hl:ys.length<=i) (h:Pv (i + 1) ys H2):NxtN Pv n i ys H2:=
 ⟨n - (i + 1),by omega,rfl,hi,by omega,h⟩
theorem xbn {K:PySem.W.Frag} {a:Addr} {xs:List V} (Pv:Nat->List V->Hp->Prop) (h0:Pv 0 [] H) (hn:xs.length < sizeLine) (hl':∀ i ys H,i<=xs.length->Pv i ys H->SqT K H a xs)
  (hs:∀ i x ys H,xs[i]?=some x->i < xs.length->ys.length<=i->Pv i ys H->g x (capt ix σ) H fun σ2 H2=>Ext (capt ix σ) σ2/\tt σ2 H2 fun b H3=>if b=true then te σ2 H3 (NxtG Pv xs.length i ys) else NxtN Pv xs.length i ys H3)
  (hd:∀ ys H,ys.length<=xs.length->Pv xs.length ys H->∀ D,H D=none->Q (.ref D) (upd H D (.lst ys))):xge (Itt K a) ix g tt te σ H Q:=by
 refine ⟨fun i m ys H=>m=xs.length - i/\i<=xs.length/\ys.length<=i/\Pv i ys H,⟨xs.length,by simp,Nat.zero_le _,Nat.le_refl _,h0⟩,?_⟩
 rintro i m ys H ⟨rfl,hi,hl,p⟩
 have q:=hl' i ys H hi p
 by_cases hlt:i < xs.length
 ·refine .inr ⟨⟨xs,xs[i],q,by simp [hlt]⟩,by omega,fun v H' y=>?_⟩
  obtain ⟨e,y⟩:=y
  subst e
  exact hs i v ys _ (y xs q) hlt hl p
 ·have e:i=xs.length:=by omega
  subst e
  exact .inl ⟨⟨xs,q,Nat.le_refl _⟩,hd ys H hl p⟩
theorem xdu {K:PySem.W.Frag} {a:Addr} {xs:List V} (Pv:Nat->List V->Hp->Prop) (h0:Pv 0 [] H) (hn:xs.length < sizeLine) (hl':∀ i ys H,i<=xs.length->Pv i ys H->SqL K H a xs)
  (hs:∀ i x ys H,xs[i]?=some x->i < xs.length->ys.length<=i->Pv i ys H->g x (capt ix σ) H fun σ2 H2=>Ext (capt ix σ) σ2/\tt σ2 H2 fun b H3=>if b=true then te σ2 H3 (NxtG Pv xs.length i ys) else NxtN Pv xs.length i ys H3)
  (hd:∀ ys H,ys.length<=xs.length->Pv xs.length ys H->∀ D,H D=none->Q (.ref D) (upd H D (.lst ys))):xge (Itl K a) ix g tt te σ H Q:=by
 refine ⟨fun i m ys H=>m=xs.length - i/\i<=xs.length/\ys.length<=i/\Pv i ys H,⟨xs.length,by simp,Nat.zero_le _,Nat.le_refl _,h0⟩,?_⟩
 rintro i m ys H ⟨rfl,hi,hl,p⟩
 have q:=hl' i ys H hi p
 by_cases hlt:i < xs.length
 ·refine .inr ⟨⟨xs,xs[i],q,by simp [hlt]⟩,by omega,fun v H' y=>?_⟩
  obtain ⟨e,y⟩:=y
  subst e
  exact hs i v ys _ (y xs q) hlt hl p
 ·have e:i=xs.length:=by omega
  subst e
  exact .inl ⟨⟨xs,q,Nat.le_refl _⟩,hd ys H hl p⟩
theorem ext2 {σ:St} {i j:Nat} {v w:Option V} (h:σ[i]?=some none) (k:σ[j]?=some none):Ext σ ((σ.set i v).set j w):=by
 refine ⟨by simp,fun n w' e=>?_⟩
 have h1:i≠n:=fun z=>by subst z; rw [h] at e; cases e
 have h2:j≠n:=fun z=>by subst z; rw [k] at e; cases e
 rw [List.getElem?_set_ne h2,List.getElem?_set_ne h1]
 exact e
end
section
variable {X:Cx}
def xu8:V->List V->Hp->VK->Prop:=fun x vs H Q=>∃ l,∃ ys:List Str,∃ z j,x=.ref l/\vs=[.str z]/\H l=some (.lst (ys.map V.str))/\ys.findIdx? (fun y=>decide (y=z))=some j/\Q (.int (j:Nat)) H
theorem xrz:MtM X "list.index" xu8:=by
 intro pins s σ H x vs v us Q I rx rv h
 obtain ⟨l,ys,z,j,rfl,rfl,hH,hj,q⟩:=h
 cases rx
 obtain ⟨u,rfl,ru⟩:=rv.one
 obtain ⟨z0,its,n,r,hl,e⟩:=I.lstM hH
 have fs:(ys.map V.str).all xgi=true:=by
  rw [List.all_eq_true]
  intro y hy
  obtain ⟨y',_,rfl⟩:=zMP hy
  rfl
 obtain ⟨h1,h2,h3⟩:=List.findIdx?_eq_some_iff_getElem.mp hj
 rw [zLM] at hl z0
 have at':∀ i (hi:i < ys.length) (hi2:i < its.toArray.size),eqU (.str z) its.toArray[i]=decide (ys[i]=z):=fun i hi hi2=>by
  obtain ⟨u',e',r'⟩:=r.get (i:=i) (x:=.str ys[i]) (by rw [zGM,zGA hi]; rfl)
  have g:its.toArray[i]=u':=by
   have:its[i]?=some its[i]:=zGA (by omega)
   rw [e'] at this
   simpa using (Option.some.inj this).symm
  rw [g,xqj r' rfl]
  show (ys[i] == z)=_
  rw [Bool.eq_iff_iff]
  simp
 refine call_meets F.slot_list_index ⟨_,e,rfl⟩ F.entry_list_index (F.args_list_index_2 _ _) (SeqAt.list_indexAt l its.toArray n none #[] u (eqU (.str z)) j (by simp; omega) ?_ ?_ ?_) ⟨e,fun y hy=>xes ru rfl r fs y (by simpa using hy),⟨.int j,H,I.tok _,⟨_,rfl⟩,q⟩⟩
 ·rw [sizeLine_eq] at z0
  omega
 ·rw [at' j h1 (by simp; omega)]
  exact h2
 ·intro m hm hlt
  rw [at' m (by omega) hm]
  have:=h3 m hlt
  simpa using this
end
end L2
namespace L2
open PySem PySem.Spec PyProof.Rows
theorem xjg:∀ {ns:List Int},(∀ n∈ns,0<=n/\n<=1000000)->0<=ns.sum/\ns.sum<=1000000 * (ns.length:Int)
 | [],_=>by simp
 | n :: ns,h=>by
  have h1:=h n (by simp)
  have h2:=xjg (ns:=ns) fun m hm=>h m (List.mem_cons_of_mem _ hm)
  rw [List.sum_cons,List.length_cons]
  push_cast
  omega
section
variable {X:Cx}
theorem xkr (hc:X.calm=true):xew X (.builtin "sum") (fun xs H Q=>∃ p,∃ ns:List Int,xs=[.ref p]/\SqL X.K H p (ns.map V.int)/\(∀ n∈ns,0<=n/\n<=1000000)/\ns.length<=1000/\Q (.int ns.sum) H):=by
 intro pins s σ H xs us Q I r h
 obtain ⟨p,ns,rfl,hq,hb,hlen,q⟩:=h
 obtain ⟨u,rfl,ru⟩:=xfb r
 cases ru
 obtain ⟨its,rv,pl,hz⟩:=I.list hq
 have hi:=xf0 rv
 obtain ⟨xs,e⟩:=hi.allInts.items
 have hns:ns=xs.toList.map (·.1):=by rw [<- hi.numsOf,<- nums_intItems,<- e]
 have hl:=pl.isList
 rw [e] at hl
 have hsz:xs.size=ns.length:=by rw [hns,zLM,Array.length_toList]
 refine sum_intList (I.ok.hd hc) hl (fun j hj=>?_) fun h' tk t' k=>⟨.int ns.sum,H,I.kept k,?_,q⟩
 ·have hm:numAt xs j∈ns:=by
   rw [hns,numAt_eq]
   exact getD_mem (by rw [zLM,Array.length_toList]; exact hj)
  have h1:=hb _ hm
  have h2:=xjg (ns:=ns.take (j + 1)) fun n hn=>hb n (List.mem_of_mem_take hn)
  have h3:(ns.take (j + 1)).length<=1000:=Nat.le_trans (List.length_take_le _ _) (by omega)
  rw [preSum_eq,<- hns]
  unfold InLong
  omega
 ·refine ⟨t',?_⟩
  rw [preSum_eq,<- hns,zTL (by omega)]
theorem xqt (hc:X.calm=true):xew X (.builtin "max") (fun xs H Q=>∃ p,∃ ns:List Int,xs=[.ref p]/\SqL X.K H p (ns.map V.int)/\ns≠[]/\∀ m,m∈ns->(∀ n∈ns,n<=m)->Q (.int m) H):=by
 intro pins s σ H xs us Q I r h
 obtain ⟨p,ns,rfl,hq,hne,q⟩:=h
 obtain ⟨u,rfl,ru⟩:=xfb r
 cases ru
 obtain ⟨its,rv,pl,hz⟩:=I.list hq
 have hi:=xf0 rv
 obtain ⟨xs,e⟩:=hi.allInts.items
 have hns:ns=xs.toList.map (·.1):=by rw [<- hi.numsOf,<- nums_intItems,<- e]
 have hl:=pl.isList
 rw [e] at hl
 have hsz:xs.size=ns.length:=by rw [hns,zLM,Array.length_toList]
 have hp:0 < ns.length:=List.length_pos_iff.mpr hne
 refine max_intList (I.ok.hd hc) hl (by omega) fun v h' tk hv k=>?_
 obtain ⟨t,rfl⟩:=intItems_at hv
 obtain ⟨h1,h2⟩:=argBest_gt (numAt xs) (xs.size - 1)
 refine ⟨.int _,H,I.kept k,⟨t,rfl⟩,q _ ?_ fun a ha=>?_⟩
 ·rw [hns,numAt_eq]
  exact getD_mem (by rw [zLM,Array.length_toList]; omega)
 ·rw [hns] at ha
  obtain ⟨j,hj,rfl⟩:=mem_getD ha
  rw [zLM,Array.length_toList] at hj
  rw [<- numAt_eq]
  exact h2 j (by omega)
end
end L2
namespace L2
open PySem PySem.Spec PyProof.Rows
section
variable {X:Cx} {K:PySem.W.Frag}
theorem xcu (h:X.K=K):IxR X (rIxT K):=by subst h; exact xai
theorem xr1 (h:X.K=K):IxR X (rIxL K):=by subst h; exact iL
theorem xcs {es:List Expr} {k:Nat} {t:TGs} {n:Nat} {pos:Pos} (hK:X.K=K) (hc:X.calm=true) (h:PGs X es t)
  (hn:(assignEach es X.env).length=n:=by rfl) (hst:(assignEach es X.env).findIdx? (·.1)=none:=by rfl):PG X (.Tuple es k pos) (gTup K n t):=by subst hK; exact xbr hc h hn hst
end
end L2
end
section
namespace Zt
open PySem PySem.Spec PyProof.Rows
section
variable {prog:Program} {w:World} {A:Around} {E:Value->Shared->Prop} {s:Shared}
theorem call_zipN {l1 l2:Addr} {xs ys:Array Value} {Q:Value->Shared->Prop} (hl1:s.heap.IsTuple l1 xs) (hl2:s.heap.IsTuple l2 ys)
  (h:∀ h',IsZip h' (s.heap.objs.size + 4) (s.heap.objs.size + 2) (s.heap.objs.size + 3) .none->IsPair h' (s.heap.objs.size + 2) (.ref s.heap.objs.size) (.ref (s.heap.objs.size + 1))->(∃ a b,IsPair h' (s.heap.objs.size + 3) a b)->
   h'.IsTupleIter s.heap.objs.size l1 0->h'.IsTupleIter (s.heap.objs.size + 1) l2 0->(∀ c o,s.heap.get? c=some o->h'.get? c=some o)->Q (.ref (s.heap.objs.size + 4)) { s with heap:=h' }) :
  wpAny (model prog w) A (call (.type "zip") [.ref l1,.ref l2]) Q E s:=by
 refine callType_new F.called_zip (by decide) (F.typeCall_zip_2 _ _) (F.newCall_zip_2 _ _) (fun obj=>F.args_object_init_3 obj _ _) F.entry_zip_new
  (meets_new l1 l2 xs ys) ⟨hl1,hl2,?_⟩
 have z1:(zH1 s.heap l1).objs.size=s.heap.objs.size + 1:=Heap.size_push ..
 have z2:(zH2 s.heap l1 l2).objs.size=s.heap.objs.size + 2:=by rw [Heap.size_push,z1]
 have z3:(zH3 s.heap l1 l2).objs.size=s.heap.objs.size + 3:=by rw [Heap.size_push,z2]
 have z4:(zH4 s.heap l1 l2).objs.size=s.heap.objs.size + 4:=by rw [Heap.size_push,z3]
 have g5:(zH5 s.heap l1 l2).get? (zH4 s.heap l1 l2).objs.size=some _:=Heap.get?_push_size _ rfl
 have g4:(zH5 s.heap l1 l2).get? (zH3 s.heap l1 l2).objs.size=some _:=zPO _ (Heap.get?_push_size _ rfl)
 have g3:(zH5 s.heap l1 l2).get? (zH2 s.heap l1 l2).objs.size=some _:=zPO _ (zPO _ (Heap.get?_push_size _ rfl))
 have g2:(zH5 s.heap l1 l2).get? (zH1 s.heap l1).objs.size=some _:=zPO _ (zPO _ (zPO _ (Heap.get?_push_size _ rfl)))
 have g1:(zH5 s.heap l1 l2).get? s.heap.objs.size=some _:=zPO _ (zPO _ (zPO _ (zPO _ (Heap.get?_push_size _ rfl))))
 have kp:∀ c o,s.heap.get? c=some o->(zH5 s.heap l1 l2).get? c=some o:=fun c o e=>zPO _ (zPO _ (zPO _ (zPO _ (zPO _ e))))
 show _/\_
 rw [z2,z3,z4] at g5
 rw [z1,z2] at g3
 rw [z3] at g4
 rw [z1] at g2
 rw [z4]
 exact ⟨⟨_,g5,rfl⟩,h _ g5 g3 ⟨_,_,g4⟩ ⟨_,g1,rfl,rfl⟩ ⟨_,g2,rfl,rfl⟩ kp⟩
end
end Zt
namespace L2
open PySem PySem.Spec PyProof.Rows
section
variable {X:Cx} {pins:List (Addr×Obj)} {σ:St} {H:Hp} {s:Shared} {h':Heap}
theorem Inv.turnedM {t':Nat} {fp:List Addr} (I:Inv X pins σ H s) (k:∀ b o,b ∉ fp->s.heap.get? b=some o->h'.get? b=some o) (hf:∀ b∈fp,FpOk X pins H b):Inv X pins σ H { s with heap:=h',toks:=t' }:=by
 have nit:∀ b u,H b=some u->b ∉ fp:=fun b u e z=>by rw [(hf b z).1] at e; cases e
 refine I.step (g':=s.gens) (d':=s.drawn) (ch:=fp) (fun b hb=>?_) (fun b o _ _ hc e _=>k b o hc e) (fun b o _ _ hc e _=>⟨o.slots,k b o hc e⟩) (fun _ _ _ _ n=>n)
  (fun b o hc e=>⟨o,k b o hc e⟩) (fun _ _ e=>e) (fun _ _ _ e=>e) (fun b ps e=>⟨#[],by rw [e]; simp⟩) (fun m hm=>?_) (fun b u e=>?_) I.bare
 ·obtain ⟨f0,f1,f2,f3,f4,f5⟩:=hf b hb
  exact ⟨f3,f1,f4,f5⟩
 ·obtain ⟨o,es,ep,ho,r⟩:=hm
  exact ⟨o,es,ep,k _ o (fun z=>(hf _ z).2.1 rfl) ho,r⟩
 ·refine (I.hok b u e).stay (fun c v hc q=>k c v ?_ q) (fun _ q=>q) fun _ _ q=>q
  rcases hc with z | z
  ·rw [z]; exact nit b u e
  ·exact nit c _ z
end
theorem xlz {h:Heap} {o u:Obj} {b:Addr} (e:(h.push o).get? b=some u) (q:b≠h.objs.size):h.get? b=some u:=by
 rwa [Heap.get?_push_ne h b o q] at e
section
variable {X:Cx}
def Itz (K:PySem.W.Frag) (a b:Addr):It:=
  ⟨fun i H=>∃ xs ys x y,SqT K H a xs/\SqT K H b ys/\xs[i]?=some x/\ys[i]?=some y,fun i H x H'=>∃ p u v,x=.ref p/\H p=none/\H'=upd H p (.tup [u,v])/\(∀ xs,SqT K H a xs->xs[i]?=some u)/\∀ ys,SqT K H b ys->ys[i]?=some v,
   fun i H=>∃ xs ys,SqT K H a xs/\SqT K H b ys/\xs.length<=i⟩
theorem xq0 {P:Program} {w:World} {K:PySem.W.Frag} {elts:List Expr} {x1} {pos:Pos} {a b z TI TO i1 i2:Addr} (D:ZipApart z TI TO i1 i2 a b) :
  Turn P w K (.Tuple elts x1 pos) (Itz K a b) [z,TI,TO,i1,i2] z (fun i h=>IsZip h z TI TO .none/\IsPair h TI (.ref i1) (.ref i2)/\(∃ u v,IsPair h TO u v)/\h.IsTupleIter i1 a i/\h.IsTupleIter i2 b i) where
 mem:=by simp
 obj:=fun i h st c hc=>by
  obtain ⟨s1,s2,⟨u,v,s3⟩,s4,s5⟩:=st
  simp only [List.mem_cons,List.not_mem_nil,or_false] at hc
  rcases hc with rfl | rfl | rfl | rfl | rfl
  ·exact ⟨_,s1,fun v z=>by cases z⟩
  ·exact ⟨_,s2,fun v z=>by cases z⟩
  ·exact ⟨_,s3,fun v z=>by cases z⟩
  ·obtain ⟨o,e,c,d⟩:=s4
   exact ⟨o,e,fun v z=>by rw [d] at z; cases z⟩
  ·obtain ⟨o,e,c,d⟩:=s5
   exact ⟨o,e,fun v z=>by rw [d] at z; cases z⟩
 keep:=fun i h h' st k=>by
  obtain ⟨s1,s2,⟨u,v,s3⟩,s4,s5⟩:=st
  exact ⟨k z (by simp) _ s1,k TI (by simp) _ s2,⟨u,v,k TO (by simp) _ s3⟩,s4.at fun o q=>k i1 (by simp) o q,s5.at fun o q=>k i2 (by simp) o q⟩
 item:=by
  intro X hP hw hK hc i pins s σ H E I hf st hg
  subst hP hw hK
  obtain ⟨xs,ys,x,y,hq,hq',hx,hy⟩:=hg
  obtain ⟨its,rv,p,hz⟩:=I.tuple hq
  obtain ⟨its',rv',p',hz'⟩:=I.tuple hq'
  obtain ⟨u,hu,ru⟩:=rv.get hx
  obtain ⟨u',hu',ru'⟩:=rv'.get hy
  obtain ⟨s1,s2,⟨_,_,s3⟩,s4,s5⟩:=st
  have hT:s.TypeIs (.ref z) "zip":=⟨_,s1,rfl⟩
  unfold pyNext
  refine wpAny_bind (wpAny_attempt (wpAny_callSpecial?_slot (name:=Str.ofString "__next__") hT F.slot_zip_next
   (wpAny_call_entry F.slot_zip_next hT F.entry_zip_next
    (Zt.item_first D s1 s2 s3 s4 s5 p p' (x:=u) (y:=u') (by simpa using hu) (by simpa using hu') fun h1 a1 a2 a3 a4 a5 a6 a7=>wpAny_pure ⟨_,rfl,wpAny_letOwnedTupleGo_zip a1 fun h2 b1 b2=>?_⟩) (F.args_zip_next_1 _))))
  have hp0:H s.heap.objs.size=none:=I.hok.fresh (Nat.le_refl _)
  have g1:(s.heap.push { cls:=.type "tuple",data:=.seq #[u,u'] }).get? s.heap.objs.size=some { cls:=.type "tuple",data:=.seq #[u,u'] }:=Heap.get?_push_size _ rfl
  have I1:Inv X pins σ (upd H s.heap.objs.size (.tup [x,y])) { s with heap:=s.heap.push { cls:=.type "tuple",data:=.seq #[u,u'] },toks:=s.toks }:=
   I.laid (fun b o q=>zPO _ q) (Nat.le_refl _) ⟨by show 2<=sizeLine; decide,[u,u'],.cons ru (.cons ru' .nil),⟨_,g1,rfl,_,rfl,rfl⟩⟩
  have lt:∀ c∈[z,TI,TO,i1,i2],c≠s.heap.objs.size:=fun c hc=>by
   simp only [List.mem_cons,List.not_mem_nil,or_false] at hc
   rcases hc with rfl | rfl | rfl | rfl | rfl
   ·exact Nat.ne_of_lt (Heap.lt_size s1)
   ·exact Nat.ne_of_lt (Heap.lt_size s2)
   ·exact Nat.ne_of_lt (Heap.lt_size s3)
   ·obtain ⟨o,q,_⟩:=s4
    exact Nat.ne_of_lt (Heap.lt_size q)
   ·obtain ⟨o,q,_⟩:=s5
    exact Nat.ne_of_lt (Heap.lt_size q)
  have hf1:∀ c∈[z,TI,TO,i1,i2],FpOk X pins (upd H s.heap.objs.size (.tup [x,y])) c:=fun c hc=>by
   refine ⟨?_,(hf c hc).2⟩
   rw [xba (lt c hc)]
   exact (hf c hc).1
  have I2:Inv X pins σ (upd H s.heap.objs.size (.tup [x,y])) { s with heap:=h2,toks:=s.toks }:=
   I1.turnedM (t':=s.toks) (fun c o hb q=>by
    have nb:c≠z/\c≠TI/\c≠TO/\c≠i1/\c≠i2:=by simpa using hb
    have q1:h1.get? c=some o:=by
     by_cases e:c=s.heap.objs.size
     ·subst e
      have q':(s.heap.push { cls:=.type "tuple",data:=.seq #[u,u'] }).get? s.heap.objs.size=some o:=q
      rw [g1] at q'
      cases q'
      exact a5
     ·exact a7 c o nb.1 nb.2.2.1 nb.2.2.2.1 nb.2.2.2.2 (xlz q e)
    exact (b2.2 c nb.1).trans q1) hf1
  refine ⟨.ref s.heap.objs.size,_,I2,rfl,⟨_,x,y,rfl,hp0,rfl,fun zs hy'=>by rw [I.tuple_inj hy' hq]; exact hx,fun zs hy'=>by rw [I.tuple_inj hy' hq']; exact hy⟩,⟨b1,?_,⟨_,_,(b2.2 _ D.TOz).trans a2⟩,a3.at fun o q=>(b2.2 _ D.i1z).trans q,a4.at fun o q=>(b2.2 _ D.i2z).trans q⟩,fun c hc=>(hf1 c hc).1⟩
  exact (b2.2 _ D.TIz).trans (a7 _ _ D.TIz D.TITO D.TIi1 D.TIi2 s2)
 done:=by
  intro X hP hw hK hc i pins s σ H E I hf st hg
  subst hP hw hK
  obtain ⟨xs,ys,hq,hq',hx⟩:=hg
  obtain ⟨its,rv,p,hz⟩:=I.tuple hq
  obtain ⟨its',rv',p',hz'⟩:=I.tuple hq'
  obtain ⟨s1,s2,s3,s4,s5⟩:=st
  have hl:=rv.length
  exact Zt.pyNext_end (I.ok.hd hc) D ⟨.inl s1,s2,s3,s4,s5,p,p'⟩ (by simp; omega) fun h' kk=>⟨rfl,I.turnedM (t':=s.toks) (fun c o hb q=>by
   have nb:c≠z/\c≠TI/\c≠TO/\c≠i1/\c≠i2:=by simpa using hb
   exact kk c o nb.1 nb.2.2.2.1 q) hf⟩
 self:=fun _ _ _ _ _ st h=>wpAny_pyIter_zip st.1 h
def iZip (K:PySem.W.Frag) (ta:TA):TI:=fun σ H R=>ta σ H fun vs H1=>∃ a b,vs=[.ref a,.ref b]/\(∃ xs,SqT K H1 a xs)/\(∃ ys,SqT K H1 b ys)/\R (Itz K a b) H1
theorem xsl {a b:Expr} {ta:TA} {p pos:Pos} {elts:List Expr} {x1} {tp:Pos} (hg:Gl X "zip") (hm:X.mg "zip"=none) (ha:PA X [a,b] ta) (hs:starEach [a,b] X.env=[(false,eval a X.env),(false,eval b X.env)]:=by rfl) (hs2:starEach [b] X.env=[(false,eval b X.env)]:=by rfl) :
  PI X (.Tuple elts x1 tp) (.Call (.Name "zip" p) [a,b] [] pos) (iZip X.K ta):=by
 intro pins s σ H R I h
 refine Call_ (xfj I hg hm PyProof.Rows.boot_zip (PyProof.Rows.callWith_type1 (thn (ha pos pins s σ H _ I h) fun us s1 ⟨vs,H1,I1,r1,q1⟩=>?_) (by rw [hs,hs2]) (by rw [hs2]; rfl)))
 obtain ⟨l1,l2,e,⟨xs,hx⟩,⟨ys,hy⟩,q⟩:=q1
 subst e
 obtain ⟨u1,u2,rfl,e1,e2⟩:=r1.two
 cases e1
 cases e2
 obtain ⟨its,rx,tx,hzx⟩:=I1.tuple hx
 obtain ⟨jts,ry,ty,hzy⟩:=I1.tuple hy
 have a1:l1 < s1.heap.objs.size:=by obtain ⟨_,e,_⟩:=tx; exact Heap.lt_size e
 have a2:l2 < s1.heap.objs.size:=by obtain ⟨_,e,_⟩:=ty; exact Heap.lt_size e
 have D:=PyProof.Rows.zipApart_new a1 a2
 refine Zt.call_zipN tx ty fun h1 z1 z2 z3 z4 z5 kp=>wpAny_pyIter_zip z1 ?_
 refine ⟨s1.heap.objs.size + 4,[s1.heap.objs.size + 4,s1.heap.objs.size + 2,s1.heap.objs.size + 3,s1.heap.objs.size,s1.heap.objs.size + 1],_,_,H1,rfl,I1.kept (t':=s1.toks) kp,xq0 D,⟨z1,z2,z3,z4,z5⟩,fun c hc=>?_,q⟩
 have hc':s1.heap.objs.size<=c:=by
  simp only [List.mem_cons,List.not_mem_nil,or_false] at hc
  rcases hc with z | z | z | z | z <;> subst z <;> first | exact Nat.le_add_right _ _ | exact Nat.le_refl _
 exact I1.fpOk hc' (I1.hok.fresh hc')
theorem xuc {K:PySem.W.Frag} {a b:Addr} {xs ys:List V} {g:TG} {tb:TS} {D:Ends} {σ:St} {H:Hp} (hxy:xs.length=ys.length) (Pv:Nat->St->Hp->Prop) (h0:Pv 0 σ H) (hl:∀ i σ H,i<=xs.length->Pv i σ H->SqT K H a xs/\SqT K H b ys)
  (hs:∀ i x y σ H p,xs[i]?=some x->ys[i]?=some y->Pv i σ H->H p=none->g (.ref p) σ (upd H p (.tup [x,y])) fun σ2 H2=>tb { D with nx:=Pv (i + 1),ct:=Pv (i + 1),bk:=D.nx } σ2 H2) (hd:∀ σ H,Pv xs.length σ H->D.nx σ H) :
  ∃ W:Nat->Nat->St->Hp->Prop,(∃ m,W 0 m σ H)/\∀ i m σ H,W i m σ H->
   ((Itz K a b).stop i H/\D.nx σ H)\/((Itz K a b).go i H/\∃ N:St->Hp->Prop,(∀ σ' H',N σ' H'->∃ m',m' < m/\W (i + 1) m' σ' H')/\∀ x H',(Itz K a b).yld i H x H'->g x σ H' fun σ2 H2=>tb { D with nx:=N,ct:=N,bk:=D.nx } σ2 H2):=by
 refine ⟨fun i m σ H=>m=xs.length - i/\i<=xs.length/\Pv i σ H,⟨xs.length,by simp,Nat.zero_le _,h0⟩,?_⟩
 rintro i m σ H ⟨rfl,hi,p⟩
 have q:=hl i σ H hi p
 by_cases hlt:i < xs.length
 ·refine .inr ⟨⟨xs,ys,xs[i],ys[i]'(by omega),q.1,q.2,by simp [hlt],by simp [<- hxy,hlt]⟩,Pv (i + 1),fun σ' H' p'=>⟨xs.length - (i + 1),by omega,rfl,hlt,p'⟩,fun x H' y=>?_⟩
  obtain ⟨pp,u,v,rfl,hp,rfl,hu,hv⟩:=y
  exact hs i u v σ H pp (hu xs q.1) (hv ys q.2) p hp
 ·have e:i=xs.length:=by omega
  subst e
  exact .inl ⟨⟨xs,ys,q.1,q.2,Nat.le_refl _⟩,hd σ H p⟩
end
section
variable {ix:Cap} {tt:TT} {te:TE} {g:TG} {σ:St} {H:Hp} {Q:VK}
theorem xsb {K:PySem.W.Frag} {a b:Addr} {xs zs:List V} (hxz:xs.length=zs.length) (Pv:Nat->List V->Hp->Prop) (h0:Pv 0 [] H) (hn:xs.length < sizeLine) (hl':∀ i ys H,i<=xs.length->Pv i ys H->SqT K H a xs/\SqT K H b zs)
  (hs:∀ i x z ys H p,xs[i]?=some x->zs[i]?=some z->i < xs.length->ys.length<=i->Pv i ys H->H p=none->g (.ref p) (capt ix σ) (upd H p (.tup [x,z])) fun σ2 H2=>Ext (capt ix σ) σ2/\tt σ2 H2 fun b H3=>if b=true then te σ2 H3 (NxtG Pv xs.length i ys) else NxtN Pv xs.length i ys H3)
  (hd:∀ ys H,ys.length<=xs.length->Pv xs.length ys H->∀ D,H D=none->Q (.ref D) (upd H D (.lst ys))):xge (Itz K a b) ix g tt te σ H Q:=by
 refine ⟨fun i m ys H=>m=xs.length - i/\i<=xs.length/\ys.length<=i/\Pv i ys H,⟨xs.length,by simp,Nat.zero_le _,Nat.le_refl _,h0⟩,?_⟩
 rintro i m ys H ⟨rfl,hi,hl,p⟩
 have q:=hl' i ys H hi p
 by_cases hlt:i < xs.length
 ·refine .inr ⟨⟨xs,zs,xs[i],zs[i]'(by omega),q.1,q.2,by simp [hlt],by simp [<- hxz,hlt]⟩,by omega,fun v H' y=>?_⟩
  obtain ⟨pp,u,v,rfl,hp,rfl,hu,hv⟩:=y
  exact hs i u v ys _ pp (hu xs q.1) (hv zs q.2) hlt hl p hp
 ·have e:i=xs.length:=by omega
  subst e
  exact .inl ⟨⟨xs,zs,q.1,q.2,Nat.le_refl _⟩,hd ys H hl p⟩
end
end L2
end
section
namespace M
open PySem L2
structure Kn where
 name:Str
 rc:Bool
 parts:List (Str×Str)
def Kn.sort (k:Kn):Str:=if k.rc=true then S "rec" else S "alt"
def xek (p:Str×Str):D:=.tup [.str p.1,.str p.2]
def xdd (ps:List (Str×Str)):D:=.tup (ps.map xek)
def Kn.d (k:Kn):D:=.tup [.str k.name,.str k.sort,xdd k.parts]
def xb8 (ks:List Kn):D:=.tup (ks.map Kn.d)
def kAt (ks:List Kn) (x:Str):Option Kn:=ks.find? fun k=>decide (k.name=x)
def xwu:Option Kn->V
 | some k=>.str k.sort
 | none=>.non
def xmu:Option Kn->D
 | some k=>xdd k.parts
 | none=>.tup []
def KsAt (H:Hp) (v:V) (ks:List Kn):Prop:=RelD H v (xb8 ks)/\ks.length<=100/\∀ k∈ks,k.parts.length<=100
theorem KsAt.same {H H':Hp} {v:V} {ks:List Kn} (h:KsAt H v ks) (s:Same H H'):KsAt H' v ks:=⟨h.1.same s _,h.2⟩
abbrev En:=Str->Option D
def En.put (e:En) (x:Str) (d:D):En:=fun y=>if y=x then some d else e y
def EnAt (H:Hp) (p:Addr) (m:Nat) (e:En):Prop:=
 ∃ kvs,H p=some (.dK kvs)/\kvs.length<=m/\∀ x,(e x=none->valV kvs (Sum.inr x)=none)/\∀ d,e x=some d->∃ v,valV kvs (Sum.inr x)=some v/\RelD H v d
theorem EnAt.same {H H':Hp} {p:Addr} {m:Nat} {e:En} (h:EnAt H p m e) (s:Same H H'):EnAt H' p m e:=by
 obtain ⟨kvs,h1,h2,h3⟩:=h
 refine ⟨kvs,s _ _ h1,h2,fun x=>⟨(h3 x).1,fun d hd=>?_⟩⟩
 obtain ⟨v,hv,r⟩:=(h3 x).2 d hd
 exact ⟨v,hv,r.same s _⟩
theorem EnAt.mono {H:Hp} {p:Addr} {m m':Nat} {e:En} (h:EnAt H p m e) (l:m<=m'):EnAt H p m' e:=by
 obtain ⟨kvs,h1,h2,h3⟩:=h
 exact ⟨kvs,h1,by omega,h3⟩
theorem EnAt.put {H H':Hp} {p q:Addr} {m:Nat} {e:En} {kvs:List (Key×V)} (hp:H p=some (.dK kvs)) (hl:kvs.length<=m) (h:∀ x,(e x=none->valV kvs (Sum.inr x)=none)/\∀ d,e x=some d->∃ v,valV kvs (Sum.inr x)=some v/\RelD H v d)
  (s:Same H H') {x:Str} {v:V} {d:D} (hv:RelD H' v d) (hq:H' q=some (.dK (putK kvs (Sum.inr x) v))):EnAt H' q (m + 1) (e.put x d):=by
 refine ⟨_,hq,by have:=xdy kvs (Sum.inr x) v; omega,fun y=>?_⟩
 rw [xfc]
 unfold En.put
 by_cases hy:y=x
 ·subst hy
  rw [if_pos rfl,if_pos rfl]
  refine ⟨fun z=>(by cases z),fun d' e'=>?_⟩
  cases e'
  exact ⟨v,rfl,hv⟩
 ·have hy':¬ (Sum.inr y:Key)=Sum.inr x:=fun z=>hy (Sum.inr.inj z)
  rw [if_neg hy,if_neg hy']
  refine ⟨(h y).1,fun d' e'=>?_⟩
  obtain ⟨u,hu,r⟩:=(h y).2 d' e'
  exact ⟨u,hu,r.same s _⟩
def opV (s:Str) (x y:Int):Int:=
 if s=S "+" then (x + y) % 4294967296 else if s=S "-" then (x - y) % 4294967296 else if s=S "*" then x * y % 4294967296 else if s=S "<" then (if x < y then 1 else 0) else (if x=y then 1 else 0)
def Nm (x:Int):Prop:=0<=x/\x < 4294967296
theorem xvj (s:Str) (x y:Int):Nm (opV s x y):=by
 have h:∀ z:Int,Nm (z % 4294967296):=fun z=>⟨Int.emod_nonneg _ (by decide),Int.emod_lt_of_pos _ (by decide)⟩
 unfold opV
 split
 ·exact h _
 split
 ·exact h _
 split
 ·exact h _
 split
 ·split <;> exact ⟨by decide,by decide⟩
 ·split <;> exact ⟨by decide,by decide⟩
abbrev tNum (n:Int):D:=.tup [.str (S "num"),.int n]
abbrev tBox (x:Str):D:=.tup [.str (S "box"),.str x]
abbrev tOpD (s:Str) (a b:D):D:=.tup [.str (S "op"),.str s,a,b]
abbrev tRec (k:Str) (es:List D):D:=.tup [.str (S "rec"),.str k,.tup es]
abbrev tGet (a:D) (f:Str):D:=.tup [.str (S "get"),a,.str f]
abbrev tTag (k t:Str) (a:D):D:=.tup [.str (S "tag"),.str k,.str t,a]
abbrev dArm (r:Str×Str×D):D:=.tup [.str r.1,.str r.2.1,r.2.2]
abbrev xik (a:D) (rs:List (Str×Str×D)):D:=.tup [.str (S "case"),a,.tup (rs.map dArm)]
abbrev tIfD (a b c:D):D:=.tup [.str (S "if"),a,b,c]
def xel (env:En) (d v:D):Prop:=(∃ n,d=tNum n/\v=.int n)\/∃ x,env x=some v/\d=tBox x
def NodeEv (ks:List Kn) (R:En->D->D->Prop) (env:En) (d v:D):Prop:=
 (∃ s a b x y,R env a (.int x)/\R env b (.int y)/\Nm x/\Nm y/\d=tOpD s a b/\v=.int (opV s x y)) ∨
 (∃ k es vs,es.length<=1000/\All2 (R env) es vs/\d=tRec k es/\v=.tup [.str k,.tup vs]) ∨
 (∃ a k vs f kn i,R env a (.tup [.str k,.tup vs])/\kAt ks k=some kn/\(kn.parts.map (·.1)).findIdx? (fun z=>decide (z=f))=some i/\vs[i]?=some v/\d=tGet a f) ∨
 (∃ k t a x,R env a x/\d=tTag k t a/\v=.tup [.str k,.str t,x]) ∨
 (∃ a rs k t x y e,rs.length<=1000/\R env a (.tup [.str k,.str t,x])/\rs.find? (fun r=>decide (r.1=t))=some (t,y,e)/\R (env.put y x) e v/\d=xik a rs) ∨
 (∃ a b c x,R env a (.int x)/\R env (if x=0 then c else b) v/\d=tIfD a b c)
def Ev (ks:List Kn):Nat->En->D->D->Prop
 | 0=>xel
 | n + 1=>fun env d v=>xel env d v\/NodeEv ks (Ev ks n) env d v
def xnk (env:En) (d:D) (k:Str):Prop:=(∃ n,Nm n/\d=tNum n/\k=S "num")\/∃ x,env x=some (.str k)/\d=tBox x
def xh6 (kn:Kn) (f:Str):Option Str:=(kn.parts.find? fun p=>decide (p.1=f)).map (·.2)
abbrev RKn:=En->D->Str->Prop
def OpKd (R:RKn):RKn:=fun env d k=>∃ s a b,R env a (S "num")/\R env b (S "num")/\d=tOpD s a b/\k=S "num"
def xxl (ks:List Kn) (R:RKn):RKn:=fun env d k=>∃ es kn,kAt ks k=some kn/\kn.rc=true/\All2 (fun e (p:Str×Str)=>R env e p.2) es kn.parts/\d=tRec k es
def xxm (ks:List Kn) (R:RKn):RKn:=fun env d k=>∃ a k1 f kn,R env a k1/\kAt ks k1=some kn/\kn.rc=true/\xh6 kn f=some k/\d=tGet a f
def xxk (ks:List Kn) (R:RKn):RKn:=fun env d k=>∃ t a kn k1,kAt ks k=some kn/\kn.rc=false/\xh6 kn t=some k1/\R env a k1/\d=tTag k t a
def xwb (cs:Prop) (ks:List Kn) (R:RKn):RKn:=fun env d k=>cs/\∃ a,∃ rs:List (Str×Str×D),∃ k1 kn,R env a k1/\kAt ks k1=some kn/\kn.rc=false/\rs≠[]/\rs.length=kn.parts.length/\(rs.map (·.1)).Nodup ∧
  (∀ r∈rs,env r.2.1=none/\∃ k2,xh6 kn r.1=some k2/\R (env.put r.2.1 (.str k2)) r.2.2 k)/\d=xik a rs
def IfKd (R:RKn):RKn:=fun env d k=>∃ a b c,R env a (S "num")/\R env b k/\R env c k/\d=tIfD a b c
def NodeKd (cs:Prop) (ks:List Kn) (R:RKn):RKn:=fun env d k=>OpKd R env d k\/xxl ks R env d k\/xxm ks R env d k\/xxk ks R env d k\/xwb cs ks R env d k\/IfKd R env d k
def Kd (cs:Prop) (ks:List Kn):Nat->En->D->Str->Prop
 | 0=>xnk
 | n + 1=>fun env d k=>xnk env d k\/NodeKd cs ks (Kd cs ks n) env d k
theorem xc2 {α:Type} {p:α->Bool} {xs:List α} {i:Nat} {a:α} (h:(xs.take i).find? p=none) (ha:xs[i]?=some a):(p a=true->xs.find? p=some a)/\(p a=false->(xs.take (i + 1)).find? p=none):=by
 have hi:i < xs.length:=(zES ha).1
 have e:xs[i]=a:=(zES ha).2
 refine ⟨fun hp=>?_,fun hp=>?_⟩
 ·have e2:xs=xs.take i++a :: xs.drop (i + 1):=by
   rw [<- e,<- List.drop_eq_getElem_cons hi,List.take_append_drop]
  rw [e2,List.find?_append,h]
  simp [hp]
 ·rw [zTA,ha,List.find?_append,h]
  simp [hp]
theorem Same.new2 {H:Hp} {p:Addr} (h:H p=none) (o o':HO):Same H (upd (upd H p o) p o'):=fun b u q=>by
 have hb:=neN q h
 rw [xba hb,xba hb]
 exact q
end M
end
section
namespace M
open PySem L2
mutual
def D.deep:D->Nat
 | .int _=>0
 | .str _=>0
 | .tup ds=>xho ds + 1
def xho:List D->Nat
 | []=>0
 | d :: ds=>max d.deep (xho ds)
end
theorem xfq:∀ {ds:List D} {d:D},d∈ds->d.deep<=xho ds
 | e :: ds,d,h=>by
  show d.deep<=max e.deep (xho ds)
  rcases zMC h with rfl | h
  ·omega
  ·have:=xfq h
   omega
theorem xnd {n:Nat}:∀ {ds:List D},(∀ d∈ds,d.deep<=n)->xho ds<=n
 | [],_=>Nat.zero_le _
 | e :: ds,h=>by
  show max e.deep (xho ds)<=n
  have h1:=h e (by simp)
  have h2:=xnd (ds:=ds) fun d hd=>h d (List.mem_cons_of_mem _ hd)
  omega
section
variable {X:Cx} {pins:List (Addr×Obj)} {σ:St} {H:Hp} {s:Shared}
theorem xm5 {vs:List V} {its:List Value} (r:Vals vs its) {j:Nat} (h1:j < its.toArray.size):∃ x,vs[j]?=some x/\RelV x its.toArray[j]:=by
 have hl:=r.length
 have h:j < its.length:=by simpa using h1
 obtain ⟨u,e,q⟩:=r.get (i:=j) (x:=vs[j]'(by omega)) (zGA _)
 have g:its.toArray[j]=u:=by
  have:its[j]?=some its[j]:=zGA h
  rw [e] at this
  simpa using (Option.some.inj this).symm
 exact ⟨vs[j]'(by omega),zGA _,by rw [g]; exact q⟩
theorem xv7 (I:Inv X pins σ H s):∀ (n:Nat) (d:D) {x y:V} {u v:Value} {A:Around},d.deep<=n->RelD H x d->RelD H y d->RelV x u->RelV y v->A.units + n < cLine->SeqAt.EqAt A s u v true
 | n,.int i,x,y,u,v,A,_,hx,hy,ru,rv,_=>by
  cases hx
  cases hy
  obtain ⟨t,rfl⟩:=ru
  obtain ⟨t',rfl⟩:=rv
  have:=SeqAt.EqAt.int_int (A:=A) (s:=s) i t i t'
  rw [beq_self_eq_true] at this
  exact this
 | n,.str z,x,y,u,v,A,_,hx,hy,ru,rv,_=>by
  cases hx
  cases hy
  obtain ⟨t,rfl⟩:=ru
  obtain ⟨t',rfl⟩:=rv
  have:=SeqAt.EqAt.str_str (A:=A) (s:=s) z t z t'
  rw [beq_self_eq_true] at this
  exact this
 | 0,.tup ds,x,y,u,v,A,h,_,_,_,_,_=>absurd h (Nat.not_succ_le_zero _)
 | n + 1,.tup ds,x,y,u,v,A,h,hx,hy,ru,rv,hA=>by
  obtain ⟨a,vs,rfl,ha,rvs⟩:=hx
  obtain ⟨b,ws,rfl,hb,rws⟩:=hy
  obtain rfl:u=.ref a:=ru
  obtain rfl:v=.ref b:=rv
  by_cases hab:a=b
  ·subst hab
   exact SeqAt.EqAt.same _
  ·obtain ⟨its,r1,p1,_⟩:=I.tuple (SqT.of (K:=X.K) ha)
   obtain ⟨its2,r2,p2,_⟩:=I.tuple (SqT.of (K:=X.K) hb)
   have l1:=r1.length
   have l2:=r2.length
   have l3:=rvs.length
   have l4:=rws.length
   have:=SeqAt.EqAt.of_refs hab (SeqAt.RcAt.tuples (A:=A) (e:=fun _=>true) p1 p2 (by omega) fun j h1 h2=>?_)
   ·have e:((List.range (min its.toArray.size its2.toArray.size)).all (fun _=>true) && its.toArray.size == its2.toArray.size)=true:=by
     rw [show its.toArray.size=its2.toArray.size by simp only [List.size_toArray]; omega]
     simp
    rw [e] at this
    exact this
   ·obtain ⟨x1,e1,q1⟩:=xm5 r1 h1
    obtain ⟨x2,e2,q2⟩:=xm5 r2 h2
    obtain ⟨d1,f1,g1⟩:=rvs.get e1
    obtain ⟨d2,f2,g2⟩:=rws.get e2
    rw [f1] at f2
    cases f2
    refine xv7 I n d1 ?_ g1 g2 q1 q2 (by show A.units + 1 + n < cLine; omega)
    have:=xfq (zMG f1)
    have h':xho ds + 1<=n + 1:=h
    omega
def rNeD:R2:=fun x y H Q=>∃ d:D,RelD H x d/\RelD H y d/\d.deep<=190/\Q (.bl false) H
theorem xso (hu:X.A.units + 200 < cLine):OpR X (compareOp .NotEq) rNeD:=by
 intro pins s σ H x y v u Q I rx ry h
 obtain ⟨d,hx,hy,hd,q⟩:=h
 cases d with
 | int i=>
  cases hx
  cases hy
  exact xjw pins s σ H _ _ _ _ Q I rx ry ⟨rfl,by rw [zDT rfl]; exact q⟩
 | str z=>
  cases hx
  cases hy
  exact xjw pins s σ H _ _ _ _ Q I rx ry ⟨rfl,by rw [zDT rfl]; exact q⟩
 | tup ds=>
  obtain ⟨a,vs,rfl,ha,rvs⟩:=hx
  obtain ⟨b,ws,rfl,hb,rws⟩:=hy
  obtain rfl:v=.ref a:=rx
  obtain rfl:u=.ref b:=ry
  obtain ⟨its,r1,p1,_⟩:=I.tuple (SqT.of (K:=X.K) ha)
  obtain ⟨its2,r2,p2,_⟩:=I.tuple (SqT.of (K:=X.K) hb)
  have l1:=r1.length
  have l2:=r2.length
  have l3:=rvs.length
  have l4:=rws.length
  refine PySem.EqBoolInt.of_rcne (SeqAt.RcNeAt.tuples (e:=fun _=>true) p1 p2 (by omega) fun j h1 h2=>?_) ⟨.bl false,H,I,?_,q⟩
  ·obtain ⟨x1,e1,q1⟩:=xm5 r1 h1
   obtain ⟨x2,e2,q2⟩:=xm5 r2 h2
   obtain ⟨d1,f1,g1⟩:=rvs.get e1
   obtain ⟨d2,f2,g2⟩:=rws.get e2
   rw [f1] at f2
   cases f2
   refine xv7 I 190 d1 ?_ g1 g2 q1 q2 (by show X.A.units + 1 + 190 < cLine; omega)
   have:=xfq (zMG f1)
   have h':xho ds + 1<=190:=hd
   omega
  ·have e:((List.range (min its.toArray.size its2.toArray.size)).all (fun _=>true) && its.toArray.size == its2.toArray.size)=true:=by
    rw [show its.toArray.size=its2.toArray.size by simp only [List.size_toArray]; omega]
    simp
   rw [e]
   rfl
end
end M
end
section
namespace M
open PySem L2
def five:List Nat:=[113,120,122,118,119]
def nmA (cs:List Nat) (a:Nat) (b:Int) (k:Nat):List Nat:=cs.take a++(97 + ((b + 5 * (k:Int)) % 26).toNat) :: cs.drop a
def nmB (cs:List Nat) (a:Nat) (b:Int) (k:Nat):List Nat:=nmA cs a b (k - k % 2)++List.replicate (k % 2) 113
def xmc (nms:List Str):Prop:=nms.length=26/\nms.Nodup/\∀ z∈nms,Name z
theorem xhd (cs:List Nat) (a:Nat) (b:Int) (k:Nat):(nmA cs a b k).length=cs.length + 1:=by
 unfold nmA
 rw [zLA,List.length_cons,List.length_take,List.length_drop]
 omega
theorem xhc (cs:List Nat) (a:Nat) (b:Int) (k:Nat):(nmB cs a b k).length=cs.length + 1 + k % 2:=by
 unfold nmB
 rw [zLA,xhd,List.length_replicate]
theorem xpr {cs:List Nat} {a:Nat} {b:Int} {k j:Nat} (hk:k < 26) (hj:j < 26) (h:nmA cs a b k=nmA cs a b j):k=j:=by
 unfold nmA at h
 have h2:=List.append_cancel_left h
 have h3:=(List.cons.inj h2).1
 omega
theorem xty {cs:List Nat} {a:Nat} {b:Int} {k j:Nat} (hk:k < 26) (hj:j < 26) (h:nmB cs a b k=nmB cs a b j):k=j:=by
 have hl:=congrArg List.length h
 rw [xhc,xhc] at hl
 have hm:k % 2=j % 2:=by omega
 unfold nmB at h
 rw [hm] at h
 have h2:=List.append_cancel_right h
 have h3:=xpr (by omega) (by omega) h2
 omega
theorem xj6 {f:Nat->Str} (h:∀ k j,k < 26->j < 26->f k=f j->k=j):((List.range 26).map f).Nodup:=by
 refine List.pairwise_map.mpr (List.Pairwise.imp_of_mem (fun hi hj hlt e=>?_) (List.pairwise_lt_range (n:=26)))
 have:=h _ _ (List.mem_range.mp hi) (List.mem_range.mp hj) e
 omega
theorem xhl:∀ c∈five,xfm c=true:=by decide
theorem xkd (i:Int):xfm (97 + (i % 26).toNat)=true:=by
 unfold xfm
 have h1:0<=i % 26:=Int.emod_nonneg _ (by decide)
 have h2:i % 26 < 26:=Int.emod_lt_of_pos _ (by decide)
 rw [Bool.and_eq_true,decide_eq_true_eq,decide_eq_true_eq]
 omega
theorem xpx {l:List Nat} (h1:1<=l.length) (h6:l.length<=6) (hl:∀ c∈l,xfm c=true) (h5:l.length=1\/∃ c∈l,c∈five):Name (ofL l):=by
 show xrx l=true
 unfold xrx
 have ne:∀ z:List Nat,z.length≠1->(∀ c∈z,c ∉ five)->(l != z)=true:=fun z hz hc=>by
  rw [bne_iff_ne]
  intro e
  subst e
  rcases h5 with h5 | ⟨c,hm,h5⟩
  ·exact hz h5
  ·exact hc c hm h5
 rw [ne [110,117,109] (by decide) (by decide),ne [105,116] (by decide) (by decide),zDT h1,zDT h6,List.all_eq_true.mpr hl]
 rfl
theorem mem_nmA {cs:List Nat} {a:Nat} {b:Int} {k c:Nat}:c∈nmA cs a b k ↔ c∈cs\/c=97 + ((b + 5 * (k:Int)) % 26).toNat:=by
 unfold nmA
 rw [List.mem_append,List.mem_cons]
 have e:c∈cs ↔ c∈cs.take a\/c∈cs.drop a:=by
  rw [<- List.mem_append,List.take_append_drop]
 rw [e]
 constructor
 ·rintro (h | h | h)
  ·exact .inl (.inl h)
  ·exact .inr h
  ·exact .inl (.inr h)
 ·rintro ((h | h) | h)
  ·exact .inl h
  ·exact .inr (.inr h)
  ·exact .inr (.inl h)
theorem xrv {cs:List Nat} {a:Nat} {b:Int} {k:Nat} (hc:cs.length<=4) (h5:∀ c∈cs,c∈five):Name (ofL (nmA cs a b k)):=by
 refine xpx (by rw [xhd]; omega) (by rw [xhd]; omega) (fun c hm=>?_) ?_
 ·rcases mem_nmA.mp hm with h | h
  ·exact xhl c (h5 c h)
  ·rw [h]; exact xkd _
 ·cases cs with
  | nil=>exact .inl (by rw [xhd]; rfl)
  | cons c r=>exact .inr ⟨c,mem_nmA.mpr (.inl (by simp)),h5 c (by simp)⟩
theorem xru {cs:List Nat} {a:Nat} {b:Int} {k:Nat} (hc:cs.length<=4) (h5:∀ c∈cs,c∈five):Name (ofL (nmB cs a b k)):=by
 refine xpx (by rw [xhc]; omega) (by rw [xhc]; omega) (fun c hm=>?_) ?_
 ·unfold nmB at hm
  rcases zMA hm with hm | hm
  ·rcases mem_nmA.mp hm with h | h
   ·exact xhl c (h5 c h)
   ·rw [h]; exact xkd _
  ·rw [(List.mem_replicate.mp hm).2]; decide
 ·by_cases hk:k % 2=0
  ·cases cs with
   | nil=>exact .inl (by rw [xhc,hk]; rfl)
   | cons c r=>exact .inr ⟨c,by unfold nmB; exact List.mem_append_left _ (mem_nmA.mpr (.inl (by simp))),h5 c (by simp)⟩
  ·refine .inr ⟨113,?_,by decide⟩
   unfold nmB
   exact List.mem_append_right _ (List.mem_replicate.mpr ⟨by omega,rfl⟩)
theorem nmsA {cs:List Nat} {a:Nat} {b:Int} (hc:cs.length<=4) (h5:∀ c∈cs,c∈five):xmc ((List.range 26).map fun k=>ofL (nmA cs a b k)):=by
 refine ⟨by simp,xj6 fun k j hk hj e=>xpr hk hj (congrArg L e),fun z hz=>?_⟩
 obtain ⟨k,_,rfl⟩:=zMP hz
 exact xrv hc h5
theorem nmsB {cs:List Nat} {a:Nat} {b:Int} (hc:cs.length<=4) (h5:∀ c∈cs,c∈five):xmc ((List.range 26).map fun k=>ofL (nmB cs a b k)):=by
 refine ⟨by simp,xj6 fun k j hk hj e=>xty hk hj (congrArg L e),fun z hz=>?_⟩
 obtain ⟨k,_,rfl⟩:=zMP hz
 exact xru hc h5
theorem xra (x:Str) {j:Int} (h0:0<=j) (h1:j<=x.length):Txt.slice x none (some j)=ofL ((L x).take j.toNat):=by
 have e:Txt.slice x none (some j)=StrLaws.sliceText x none (some j):=rfl
 rw [e,StrLaws.sliceText_to ⟨h0,by rw [show x.cps.toList.length=x.length by simp [Str.length]]; exact h1⟩]
 show ofL ((((L x).drop 0).take (j - 0).toNat))=_
 rw [List.drop_zero,Int.sub_zero]
theorem xnp (x:Str) {j:Int} (h0:0<=j) (h1:j<=x.length):Txt.slice x (some j) none=ofL ((L x).drop j.toNat):=by
 have e:Txt.slice x (some j) none=StrLaws.sliceText x (some j) none:=rfl
 rw [e,StrLaws.sliceText_from ⟨h0,by rw [show x.cps.toList.length=x.length by simp [Str.length]]; exact h1⟩]
 apply xqx
 show ((L x).drop j.toNat).take _=(L x).drop j.toNat
 refine zTL ?_
 rw [List.length_drop]
 show (L x).length - j.toNat<=(((L x).length:Int) - j).toNat
 omega
theorem xp3 {i:Int} (h0:0<=i) (h:i < 26):atI (S "abcdefghijklmnopqrstuvwxyz").cps.toList i=some (97 + i.toNat):=by
 have all:∀ k,k < 26->(S "abcdefghijklmnopqrstuvwxyz").cps.toList[k]?=some (97 + k):=by walk_at "k"
 have ek:i=((i.toNat:Nat):Int):=by omega
 have q:=xaz (all i.toNat (by omega))
 rw [<- ek] at q
 exact q
theorem xud {i:Int} (h0:0<=i) (h:i < 5):∃ c∈five,atI (S "qxzvw").cps.toList i=some c:=by
 have e:(S "qxzvw").cps.toList=five:=by walk_at "k"
 rw [e]
 exact xni h0 h
theorem xpw (cs:List Nat) (a ch:Nat):ofL (cs.take a)++(⟨#[ch]⟩:Str)++ofL (cs.drop a)=ofL (cs.take a++ch :: cs.drop a):=by
 apply xqx
 rw [xeu,xeu,xd9,xd9,xd9]
 show cs.take a++[ch]++cs.drop a=_
 simp
end M
namespace L2
open PySem PySem.Spec PyProof.Rows
theorem xtr {X:Cx}:OpR X (binaryOp .Mult) (fun x y H Q=>∃ i n,x=.str i/\y=.int n/\(n=0\/n=1)/\Q (.str (if n=1 then i else Str.empty)) H):=by
 intro pins s σ H x y v u Q I rx ry h
 obtain ⟨i,n,rfl,rfl,hn,q⟩:=h
 obtain ⟨t,rfl⟩:=rx
 obtain ⟨t',rfl⟩:=ry
 refine SB.mul ?_ fun t' k=>⟨.str _,H,I.tok k,⟨t',rfl⟩,?_⟩
 ·rcases hn with rfl | rfl
  ·exact ⟨by decide,fun h=>absurd (by decide) h,fun h=>absurd (by decide) h⟩
  ·exact ⟨by decide,fun _ h=>by simp at h,fun _ h=>by simp at h⟩
 ·have e:Txt.mul i n=if n=1 then i else Str.empty:=by
   rcases hn with rfl | rfl
   ·rfl
   ·unfold Txt.mul
    rw [if_neg (by decide),if_pos (by simp),if_pos rfl]
  rw [e]
  exact q
end L2
end
section
namespace M
open PySem L2
structure KWf (ks:List Kn):Prop where
 nd:(ks.map Kn.name).Nodup
 nm:∀ k∈ks,Name k.name
 ref:∀ (i:Nat) (k:Kn),ks[i]?=some k->∀ p∈k.parts,p.2=S "num"\/∃ j,∃ k':Kn,j < i/\ks[j]?=some k'/\k'.name=p.2
 alt:∀ k∈ks,k.rc=false->k.parts≠[]
 few:ks.length<=6
 pts:∀ k∈ks,k.parts.length<=5
 pnd:∀ k:Kn,k∈ks->(k.parts.map (fun p:Str×Str=>p.1)).Nodup
 pnm:∀ k:Kn,k∈ks->∀ p∈k.parts,Name p.1
theorem xe7 {x:Str} (h:Name x):x≠S "num":=fun e=>by
 rw [e] at h
 exact absurd (show xrx (S "num").cps.toList=true from h) (by walk_at "k")
theorem KWf.nil:KWf []:=⟨List.nodup_nil,(fun _ h=>nomatch h),(fun i k h=>by simp at h),(fun _ h=>nomatch h),Nat.zero_le _,(fun _ h=>nomatch h),(fun _ h=>nomatch h),(fun _ h=>nomatch h)⟩
theorem xb5 {α:Type} {f:α->Str}:∀ {xs:List α} {i:Nat} {a:α},(xs.map f).Nodup->xs[i]?=some a->xs.find? (fun z=>decide (f z=f a))=some a
 | x :: xs,0,a,nd,h=>by
  simp at h
  subst h
  rw [List.find?_cons,zDT rfl]
 | x :: xs,i + 1,a,nd,h=>by
  have h':xs[i]?=some a:=by simpa using h
  rw [List.map_cons,List.nodup_cons] at nd
  have hne:f x≠f a:=fun e=>nd.1 (by rw [e]; exact List.mem_map_of_mem (zMG h'))
  rw [List.find?_cons,zDF hne]
  exact xb5 nd.2 h'
theorem KWf.at {ks:List Kn} (w:KWf ks) {i:Nat} {k:Kn} (h:ks[i]?=some k):kAt ks k.name=some k:=xb5 (f:=Kn.name) w.nd h
theorem KWf.no {ks:List Kn} {x:Str} (h:∀ k∈ks,k.name≠x):kAt ks x=none:=by
 unfold kAt
 rw [List.find?_eq_none]
 intro k hk
 simpa using h k hk
theorem KWf.num {ks:List Kn} (w:KWf ks):kAt ks (S "num")=none:=KWf.no fun k hk=>xe7 (w.nm k hk)
def KIn (ks:List Kn) (n:Nat) (x:Str):Prop:=x=S "num"\/∃ j k,j < n/\ks[j]?=some k/\k.name=x
theorem KIn.mono {ks:List Kn} {n m:Nat} {x:Str} (h:KIn ks n x) (l:n<=m):KIn ks m x:=by
 rcases h with h | ⟨j,k,hj,h⟩
 ·exact .inl h
 ·exact .inr ⟨j,k,by omega,h⟩
theorem KIn.ap {ks more:List Kn} {n:Nat} {x:Str} (h:KIn ks n x):KIn (ks++more) n x:=by
 rcases h with h | ⟨j,k,hj,h1,h2⟩
 ·exact .inl h
 ·exact .inr ⟨j,k,hj,by rw [List.getElem?_append_left (zES h1).1]; exact h1,h2⟩
theorem KIn.of {ks:List Kn} {x:Str} (h:x=S "num"\/∃ k∈ks,k.name=x):KIn ks ks.length x:=by
 rcases h with h | ⟨k,hk,h⟩
 ·exact .inl h
 ·obtain ⟨j,hj,e⟩:=zMI hk
  exact .inr ⟨j,k,hj,by rw [<- e]; exact zGA hj,h⟩
theorem KWf.snoc {ks:List Kn} (w:KWf ks) {k:Kn} (h1:k.name ∉ ks.map Kn.name) (h2:Name k.name) (h3:∀ p∈k.parts,KIn ks ks.length p.2) (h4:k.rc=false->k.parts≠[]) (h5:ks.length < 6) (h6:k.parts.length<=5)
  (h7:(k.parts.map (·.1)).Nodup) (h8:∀ p∈k.parts,Name p.1):KWf (ks++[k]):=by
 have mem:∀ {q:Kn->Prop},(∀ z∈ks,q z)->q k->∀ z∈ks++[k],q z:=fun a b z hz=>by
  rcases zMA hz with hz | hz
  ·exact a z hz
  ·rw [zMO hz]; exact b
 refine ⟨?_,mem w.nm h2,?_,mem w.alt h4,by rw [zLA,List.length_singleton]; omega,mem w.pts h6,mem w.pnd h7,mem w.pnm h8⟩
 ·rw [zAP]
  exact xlq w.nd h1
 ·intro i z hz p hp
  by_cases hi:i < ks.length
  ·rw [List.getElem?_append_left hi] at hz
   exact KIn.ap (w.ref i z hz p hp)
  ·rw [List.getElem?_append_right (by omega)] at hz
   have hi0:i - ks.length=0:=by
    have:=(zES hz).1
    simp at this
    omega
   rw [hi0] at hz
   simp at hz
   subst hz
   exact (h3 p hp).ap.mono (by omega)
def maxD:List Int->Int
 | []=>0
 | n :: ns=>max n (maxD ns)
theorem xpz:∀ {ns:List Int} {n:Int},n∈ns->n<=maxD ns
 | m :: ns,n,h=>by
  show n<=max m (maxD ns)
  rcases zMC h with rfl | h
  ·omega
  ·have:=xpz h
   omega
theorem xiw:∀ {ns:List Int},ns≠[]->(∀ n∈ns,0<=n)->maxD ns∈ns
 | [n],_,h=>by
  have h0:=h n (by simp)
  show max n 0∈[n]
  rw [Int.max_eq_left h0]
  simp
 | n :: m :: ns,_,h=>by
  have ih:=xiw (ns:=m :: ns) (by simp) fun x hx=>h x (List.mem_cons_of_mem _ hx)
  show max n (maxD (m :: ns))∈n :: m :: ns
  rcases Int.le_total n (maxD (m :: ns)) with e | e
  ·rw [Int.max_eq_right e]; exact List.mem_cons_of_mem _ ih
  ·rw [Int.max_eq_left e]; simp
theorem xt2 {ns:List Int} {m:Int} (hn:ns≠[]) (h0:∀ n∈ns,0<=n) (hm:m∈ns) (h:∀ n∈ns,n<=m):m=maxD ns:=by
 have h1:=xpz hm
 have h2:=h _ (xiw hn h0)
 omega
def szF:Nat->List Kn->Str->Int
 | 0,_,_=>1
 | n + 1,ks,x=>match kAt ks x with
  | none=>1
  | some k=>1 + (if k.rc=true then (k.parts.map fun p=>szF n ks p.2).sum else maxD (k.parts.map fun p=>szF n ks p.2))
theorem xgz {ks:List Kn} (hp:∀ k∈ks,k.parts.length<=5):∀ (n:Nat) (x:Str),1<=szF n ks x/\szF n ks x<=6 ^ n
 | 0,x=>by simp [szF]
 | n + 1,x=>by
  unfold szF
  have p1:(1:Int)<=6 ^ n:=Int.pow_pos (by decide)
  have e6:(6:Int) ^ (n + 1)=6 * 6 ^ n:=by rw [Int.pow_succ,Int.mul_comm]
  cases hk:kAt ks x with
  | none=>simp only; omega
  | some k=>
   simp only
   have hk5:=hp k (zMF hk)
   have all:∀ m∈k.parts.map (fun p=>szF n ks p.2),1<=m/\m<=6 ^ n:=fun m hm=>by
    obtain ⟨p,_,rfl⟩:=zMP hm
    exact xgz hp n p.2
   have hl:(k.parts.map (fun p=>szF n ks p.2)).length<=5:=by rw [zLM]; exact hk5
   generalize k.parts.map (fun p=>szF n ks p.2)=ns at all hl ⊢
   have hs:∀ (l:List Int),(∀ m∈l,1<=m/\m<=(6:Int) ^ n)->0<=l.sum/\l.sum<=l.length * 6 ^ n:=by
    intro l
    induction l with
    | nil=>intro _; simp
    | cons a r ih=>
     intro h
     have h1:=h a (by simp)
     have h2:=ih fun m hm=>h m (List.mem_cons_of_mem _ hm)
     rw [List.sum_cons,List.length_cons]
     push_cast
     rw [Int.add_mul]
     omega
   have hm:0<=maxD ns/\maxD ns<=6 ^ n:=by
    by_cases he:ns=[]
    ·subst he; simp [maxD]; omega
    ·have:=all _ (xiw he fun m hm=>by have:=all m hm; omega)
     omega
   have h1:=hs ns all
   have h2:(ns.length:Int) * 6 ^ n<=5 * 6 ^ n:=Int.mul_le_mul_of_nonneg_right (by omega) (by omega)
   split <;> omega
def KsSeq (H:Hp) (v:V) (ks:List Kn):Prop:=∃ a vs,v=.ref a/\(H a=some (.lst vs)\/H a=some (.tup vs))/\RelDs H vs (ks.map Kn.d)
theorem KsSeq.same {H H':Hp} {v:V} {ks:List Kn} (h:KsSeq H v ks) (s:Same H H'):KsSeq H' v ks:=by
 obtain ⟨a,vs,e,h1,h2⟩:=h
 exact ⟨a,vs,e,h1.imp (s _ _) (s _ _),h2.same s _⟩
theorem KWf.ksAt {ks:List Kn} (w:KWf ks) {H:Hp} {v:V} (h:RelD H v (xb8 ks)):KsAt H v ks:=⟨h,by have:=w.few; omega,fun k hk=>by have:=w.pts k hk; omega⟩
theorem KsAt.seq {H:Hp} {v:V} {ks:List Kn} (h:KsAt H v ks):KsSeq H v ks:=by
 obtain ⟨a,vs,e,h1,h2⟩:=h.1
 exact ⟨a,vs,e,.inr h1,h2⟩
def xed:Option Kn->Str
 | some k=>k.sort
 | none=>S "num"
end M
namespace L2
open PySem PySem.Spec PyProof.Rows
theorem xvb {X:Cx} {tg it:Expr} {w1 w2:TI} (h1:PI X tg it w1) (h2:PI X tg it w2):PI X tg it (fun σ H R=>w1 σ H R\/w2 σ H R):=fun pins s σ H R I h=>by
 rcases h with h | h
 ·exact h1 pins s σ H R I h
 ·exact h2 pins s σ H R I h
end L2
namespace L2
theorem xf7 {σ:St} {H:Hp} {A B:Hp->Prop} (h:A H):tYes σ H (fun b H3=>if b=true then A H3 else B H3):=by
 unfold tYes
 show if true=true then A H else B H
 rw [if_pos rfl]
 exact h
end L2
namespace M
open PySem L2
theorem Fed.put {f p:Addr} {H H':Hp} (h:Fed f H H') (hp:H p=none) (hf:p≠f) (o:HO):Fed f H (upd H' p o):=by
 obtain ⟨s,x,y,e⟩:=h
 refine ⟨fun b u hb nb=>?_,x,y,?_⟩
 ·rw [xba (neN hb hp)]
  exact s b u hb nb
 ·rw [xba (Ne.symm hf)]
  exact e
theorem xbc {H:Hp} {p:Addr} {us:List V} (h:H p=some (.lst us)) (o:HO):∀ b vs,H b=some (.tup vs)->upd H p o b=some (.tup vs):=fun b vs hb=>by
 rw [xba fun e=>by rw [e,h] at hb; cases hb]
 exact hb
theorem xiv {ks:List Kn} {r:Int} (h0:0<=r) (h:r < 1 + (ks.length:Int)):∃ x,atI ([V.str (S "num")]++(ks.map Kn.name).map V.str) r=some (.str x)/\KIn ks ks.length x:=by
 have e:[V.str (S "num")]++(ks.map Kn.name).map V.str=(S "num" :: ks.map Kn.name).map V.str:=rfl
 obtain ⟨z,hz,hv⟩:=xni (cs:=(S "num" :: ks.map Kn.name).map V.str) h0 (by rw [zLM,List.length_cons,zLM]; push_cast; omega)
 obtain ⟨y,hy,rfl⟩:=zMP hz
 refine ⟨y,by rw [e]; exact hv,?_⟩
 rcases zMC hy with rfl | hy
 ·exact .inl rfl
 ·obtain ⟨k,hk,rfl⟩:=zMP hy
  exact KIn.of (.inr ⟨k,hk,rfl⟩)
theorem xmk {ys:List Str} {i:Nat} (h:i < ys.length):atI (ys.map V.str) (0 + (i:Int))=some (.str ys[i]):=by
 rw [Int.zero_add]
 exact xaz (by rw [zGM,zGA h]; rfl)
end M
namespace M
open PySem L2
theorem xs2 {nms:List Str} (h:nms.length=26):cutV (nms.map V.str) (some 8) (some 12)=((nms.drop 8).take 4).map V.str:=by
 unfold cutV HT.sIx
 rw [zLM,h,List.map_take,List.map_drop]
 rfl
theorem xvg {nms:List Str} (h:xmc nms) (i:Nat):(((nms.drop 8).take 4).take i).Nodup/\∀ z∈((nms.drop 8).take 4).take i,Name z:=by
 have hs:(((nms.drop 8).take 4).take i).Sublist nms:=((List.take_sublist _ _).trans (List.take_sublist _ _)).trans (List.drop_sublist _ _)
 exact ⟨h.2.1.sublist hs,fun z hz=>h.2.2 z (hs.subset hz)⟩
theorem xpq {nms:List Str} (h:nms.Nodup) {i:Nat} (hi:i < nms.length):nms[i] ∉ nms.take i:=fun hm=>by
 obtain ⟨j,hj,e⟩:=zMI hm
 rw [List.length_take] at hj
 rw [List.getElem_take] at e
 have:=(List.getElem_inj h).mp e
 omega
def xsf (nms:List Str) (ks:List Kn):Prop:=KWf ks/\ks.length<=4/\ks.map Kn.name=nms.take ks.length/\∀ k∈ks,k.parts.length<=4/\k.parts.map (·.1)=((nms.drop 8).take 4).take k.parts.length
end M
end
section
namespace St
open PySem PySem.Spec PyProof.Rows
def met (val:Nat->Str) (i:Nat):List Str:=((List.range i).map val).foldl step_dedup []
theorem xfi (val:Nat->Str) (i:Nat):met val (i + 1)=step_dedup (met val i) (val i):=by
 unfold met
 rw [List.range_succ,zAP,List.foldl_append]
 rfl
theorem met_len (val:Nat->Str):∀ i,(met val i).length<=i
 | 0=>Nat.le_refl _
 | i + 1=>by
  have ih:=met_len val i
  rw [xfi]
  unfold step_dedup
  split
  ·omega
  ·rw [zLA,List.length_singleton]
   omega
theorem xs1 (l:List Str) (v k:Str):(step_dedup l v).any (· == k)=(l.any (· == k) || decide (k=v)):=by
 unfold step_dedup
 split
 ·rename_i h
  by_cases e:k=v
  ·subst e
   rw [h,Bool.true_or]
  ·rw [zDF e,Bool.or_false]
 ·rw [List.any_append]
  congr 1
  rw [Bool.eq_iff_iff]
  simp
  exact eq_comm
theorem xv9 (l:List Str) (v:Str):(step_dedup l v).length=if l.any (· == v) then l.length else l.length + 1:=by
 unfold step_dedup
 split <;> simp
theorem xor:∀ {vs:List Value} {ns:List Str},StrsAre vs ns->∀ (i:Nat) (v:Value),vs[i]?=some v->∃ t,v=.str (ns.getD i Str.empty) t
 | _,_,.nil,i,v,h=>by simp at h
 | _,_,.cons n t r,0,v,h=>by
  simp at h
  exact ⟨t,h.symm⟩
 | _,_,.cons n t r,i + 1,v,h=>by
  obtain ⟨t',e⟩:=xor r i v (by simpa using h)
  exact ⟨t',by simpa using e⟩
end St
end
section
namespace St
open PySem PySem.Spec PyProof.Rows
theorem xe1:entryFor table "set.__iter__"=some Builtin.«frozenset.__iter__»:=
 entryFor_alias (id':="frozenset.__iter__") (by kernel_rfl) rfl (by walk_at "k") (by kernel_rfl)
theorem slot_si_next:Slot "set_iterator" "__next__" "set_iterator.__next__":=
 .of (owner:="set_iterator") (n:="__next__") (by rw [typeLookup_type,builtinLookup_eq_fast]; kernel_rfl) (by walk_at "k") (by walk_at "k") (by walk_at "k")
  (by first | exact .inl (by walk_at "k") | exact .inr (by walk_at "k")) (by rw [isSubtype_type]; kernel_rfl)
theorem xc5:entryFor table "set_iterator.__next__"=some Builtin.«set_iterator.__next__»:=entryFor_of_tree (by kernel_rfl)
theorem xdi (a:Value):argsOk "set_iterator.__next__" ⟨[a],[]⟩:=by unfold argsOk; kernel_rfl
theorem xf9:Slot "set_iterator" "__iter__" "set_iterator.__iter__":=
 .of (owner:="set_iterator") (n:="__iter__") (by rw [typeLookup_type,builtinLookup_eq_fast]; kernel_rfl) (by walk_at "k") (by walk_at "k") (by walk_at "k")
  (by first | exact .inl (by walk_at "k") | exact .inr (by walk_at "k")) (by rw [isSubtype_type]; kernel_rfl)
theorem xi2:entryFor table "set_iterator.__iter__"=some Builtin.«dict_keyiterator.__iter__»:=
 entryFor_alias (id':="dict_keyiterator.__iter__") (by kernel_rfl) (by first | rfl | decide +kernel | (unfold String.splitOn; simp +decide [String.splitOnAux])) (by walk_at "k") (by kernel_rfl)
theorem xkz (a:Value):argsOk "set_iterator.__iter__" ⟨[a],[]⟩:=by unfold argsOk; kernel_rfl
section
variable {prog:Program} {w:World} {A:Around} {E:Value->Shared->Prop} {s:Shared} {a:Addr} {ep:Nat} {t:SetTable}
theorem xxc {Q:Bool->Shared->Prop} (hT:s.TypeIs (.ref a) "set") (h:Q false s):wpAny (model prog w) A (Builtin.List.listLengthHint (.ref a)) Q E s:=by
 unfold Builtin.List.listLengthHint
 refine wpAny_bind (wpAny_specialOf hT F.slot_set_len.lookup ?_)
 generalize hid:("set.__len__":String)=id0
 wp_delta
 rw [show splitId id0=some ("set","__len__") from by subst hid; decide +kernel]
 subst hid
 refine wpAny_bind (wpAny_isInstance (T:="set") (b:=true) hT (by rw [isSubtype_type]; kernel_rfl) ?_)
 refine wpAny_ite_split (fun hab=>absurd hab (by decide)) (fun _=>?_)
 refine wpAny_ite_split (fun _=>?_) (fun hab=>absurd (by walk_at "k") hab)
 refine wpAny_bind (wpAny_typeOf hT ?_)
 exact wpAny_pure h
end
end St
end
section
namespace M
open PySem L2
theorem xsx {A:Around} {k:Nat} (hr:Room k A):A.units + 200 < cLine:=by
 have:=hr.un
 omega
def nuT:Nat->List Kn->Str->D
 | 0,_,_=>tNum 0
 | n + 1,ks,x=>match kAt ks x with
  | none=>tNum 0
  | some k=>if k.rc=true then tRec x (k.parts.map fun p=>nuT n ks p.2) else match k.parts with
   | []=>tNum 0
   | p :: _=>tTag x p.1 (nuT n ks p.2)
def nuV:Nat->List Kn->Str->D
 | 0,_,_=>.int 0
 | n + 1,ks,x=>match kAt ks x with
  | none=>.int 0
  | some k=>if k.rc=true then .tup [.str x,.tup (k.parts.map fun p=>nuV n ks p.2)] else match k.parts with
   | []=>.int 0
   | p :: _=>.tup [.str x,.str p.1,nuV n ks p.2]
theorem KIn.look {ks:List Kn} (wf:KWf ks) {m:Nat} {x:Str} (h:KIn ks m x):(x=S "num"/\kAt ks x=none)\/∃ j k,m=j + 1/\kAt ks x=some k/\k.name=x/\k∈ks/\∀ p∈k.parts,KIn ks j p.2:=by
 rcases h with rfl | ⟨j,k,hj,hk,rfl⟩
 ·exact .inl ⟨rfl,wf.num⟩
 ·refine .inr ⟨m - 1,k,by omega,wf.at hk,rfl,zMG hk,fun p hp=>?_⟩
  rcases wf.ref j k hk p hp with z | ⟨i,k2,hi,z⟩
  ·exact .inl z
  ·exact .inr ⟨i,k2,by omega,z⟩
def NuAt (ks:List Kn) (m:Nat) (x:Str):Prop:=
  (x=S "num"/\kAt ks x=none/\nuT (m + 1) ks x=tNum 0/\nuV (m + 1) ks x=.int 0) ∨
  ∃ j k,m=j + 1/\kAt ks x=some k/\k.name=x/\k∈ks/\(∀ p∈k.parts,KIn ks j p.2)/\x≠S "num" ∧
    ((k.rc=true/\nuT (m + 1) ks x=tRec x (k.parts.map fun p=>nuT m ks p.2)/\nuV (m + 1) ks x=.tup [.str x,.tup (k.parts.map fun p=>nuV m ks p.2)]) ∨
     (k.rc=false/\∃ p r,k.parts=p :: r/\nuT (m + 1) ks x=tTag x p.1 (nuT m ks p.2)/\nuV (m + 1) ks x=.tup [.str x,.str p.1,nuV m ks p.2]))
theorem KIn.nu {ks:List Kn} (wf:KWf ks) {m:Nat} {x:Str} (h:KIn ks m x):NuAt ks m x:=by
 rcases h.look wf with ⟨rfl,e⟩ | ⟨j,k,rfl,e,hn,hm,hp⟩
 ·refine .inl ⟨rfl,e,?_,?_⟩
  ·unfold nuT; rw [e]
  ·unfold nuV; rw [e]
 ·refine .inr ⟨j,k,rfl,e,hn,hm,hp,by rw [<- hn]; exact xe7 (wf.nm k hm),?_⟩
  cases hc:k.rc with
  | true=>
   refine .inl ⟨rfl,?_,?_⟩
   ·conv=>lhs; unfold nuT
    rw [e]
    show (if k.rc=true then _ else _)=_
    rw [if_pos hc]
   ·conv=>lhs; unfold nuV
    rw [e]
    show (if k.rc=true then _ else _)=_
    rw [if_pos hc]
  | false=>
   obtain ⟨p,r,er⟩:∃ p r,k.parts=p :: r:=by
    cases hq:k.parts with
    | nil=>exact absurd hq (wf.alt k hm hc)
    | cons p r=>exact ⟨p,r,rfl⟩
   refine .inr ⟨rfl,p,r,er,?_,?_⟩
   ·conv=>lhs; unfold nuT
    rw [e]
    show (if k.rc=true then _ else _)=_
    rw [if_neg (by rw [hc]; decide),er]
   ·conv=>lhs; unfold nuV
    rw [e]
    show (if k.rc=true then _ else _)=_
    rw [if_neg (by rw [hc]; decide),er]
theorem xi4 {α β γ:Type} {R:β->γ->Prop} {f:α->β} {g:α->γ}:∀ {xs:List α},(∀ x∈xs,R (f x) (g x))->All2 R (xs.map f) (xs.map g)
 | [],_=>.nil
 | x :: xs,h=>.cons (h x (by simp)) (xi4 fun y hy=>h y (List.mem_cons_of_mem _ hy))
end M
end
section
namespace M
open PySem L2
theorem xje {ks:List Kn} {k:Kn} {x:Str} (h:kAt ks x=some k) (n:Nat):szF (n + 1) ks x=1 + (if k.rc=true then (k.parts.map fun p=>szF n ks p.2).sum else maxD (k.parts.map fun p=>szF n ks p.2)):=by
 conv=>lhs; unfold szF
 rw [h]
theorem xe3 {ks:List Kn} {x:Str} (h:kAt ks x=none):∀ n,szF n ks x=1
  | 0=>rfl
  | n + 1 => by conv => lhs; unfold szF
                rw [h]
theorem xq5 {ks:List Kn} (w:KWf ks) (j:Nat):∀ (x:Str),KIn ks j x->∀ n,j + 1<=n->szF n ks x=szF (j + 1) ks x:=by
 induction j with
 | zero=>
  intro x h n hn
  rcases h.look w with ⟨rfl,e⟩ | ⟨i,k,e0,_⟩
  ·rw [xe3 e,xe3 e]
  ·cases e0
 | succ j ih=>
  intro x h n hn
  rcases h.look w with ⟨rfl,e⟩ | ⟨i,k,e0,e,_,_,hp⟩
  ·rw [xe3 e,xe3 e]
  ·cases e0
   obtain ⟨m,rfl⟩:∃ m,n=m + 1:=⟨n - 1,by omega⟩
   have this:(k.parts.map fun p=>szF m ks p.2)=k.parts.map fun p=>szF (j + 1) ks p.2:=List.map_congr_left fun p hp'=>ih p.2 (hp p hp') m (by omega)
   rw [xje e,xje e,this]
def sz (ks:List Kn) (x:Str):Int:=szF 7 ks x
theorem xuw {ks:List Kn} (w:KWf ks):sz ks (S "num")=1:=xe3 w.num _
theorem xws {ks:List Kn} (w:KWf ks) (x:Str):1<=sz ks x:=(xgz w.pts 7 x).1
def inSz (k:Kn) (f:Str->Int):Int:=if k.rc=true then (k.parts.map fun p=>f p.2).sum else maxD (k.parts.map fun p=>f p.2)
theorem xib {k:Kn} {f g:Str->Int} (h:∀ p∈k.parts,f p.2=g p.2):inSz k f=inSz k g:=by
 unfold inSz
 rw [List.map_congr_left (g:=fun p=>g p.2) h]
theorem xwt {ks:List Kn} (w:KWf ks) {i:Nat} {k:Kn} (h:ks[i]?=some k):sz ks k.name=1 + inSz k (sz ks):=by
 have hf:=w.few
 have hi:i < ks.length:=(zES h).1
 show szF 7 ks k.name=_
 rw [xje (w.at h)]
 show 1 + inSz k (szF 6 ks)=_
 rw [xib (g:=sz ks)]
 intro p hp
 have hin:KIn ks 5 p.2:=KIn.mono (n:=i) (w.ref i k h p hp) (by omega)
 exact (xq5 w 5 p.2 hin 7 (by omega)).symm
theorem xvv {ks more:List Kn} {x:Str} {k:Kn} (h:kAt ks x=some k):kAt (ks++more) x=some k:=by
 unfold kAt at h ⊢
 rw [List.find?_append,h]
 rfl
theorem xsh {ks more:List Kn} (w:KWf ks) (w2:KWf (ks++more)):∀ (n:Nat) (x:Str),KIn ks ks.length x->szF n (ks++more) x=szF n ks x
 | 0,_,_=>rfl
 | n + 1,x,h=>by
  rcases h.look w with ⟨rfl,e⟩ | ⟨i,k,e0,e,_,_,hp⟩
  ·rw [xe3 e,xe3 w2.num]
  ·rw [xje e,xje (xvv e),List.map_congr_left (g:=fun p=>szF n ks p.2) fun p hp'=>xsh w w2 n p.2 ((hp p hp').mono (by omega))]
theorem xux {ks more:List Kn} (w:KWf ks) (w2:KWf (ks++more)) {x:Str} (h:KIn ks ks.length x):sz (ks++more) x=sz ks x:=xsh w w2 7 x h
def Fit (ks:List Kn):Prop:=∀ k∈ks,sz ks k.name<=30
theorem Fit.nil:Fit []:=fun _ h=>nomatch h
theorem Fit.snoc {ks:List Kn} {k:Kn} (w:KWf ks) (w2:KWf (ks++[k])) (f:Fit ks) (hp:∀ p∈k.parts,KIn ks ks.length p.2) (hb:inSz k (sz ks)<=29):Fit (ks++[k]):=by
 intro z hz
 rcases zMA hz with hz | hz
 ·rw [xux w w2 (KIn.of (.inr ⟨z,hz,rfl⟩))]
  exact f z hz
 ·rw [zMO hz,xwt w2 (i:=ks.length) (by simp),xib (g:=sz ks) fun p hp'=>xux w w2 (hp p hp')]
  omega
end M
end
section
set_option maxHeartbeats 1000000
end
section
set_option maxHeartbeats 1000000
end
section
set_option maxHeartbeats 1000000
end
section
set_option maxHeartbeats 1000000
end
section
set_option maxHeartbeats 1000000
end
section
namespace L2
open PySem PySem.Spec PyProof.Rows
theorem xw8 {P:Program} {w:World} {k:Key} {v:Value} (h:(xbs P w).is k v=true):RelV (kV k) v:=by
 cases k with
 | inl i=>
  have h':Value.isInt i v=true:=h
  unfold Value.isInt at h'
  split at h' <;> simp_all [RelV,kV]
 | inr x=>
  have h':Value.isStrOf x v=true:=h
  unfold Value.isStrOf at h'
  split at h' <;> simp_all [RelV,kV]
theorem xob:∀ {xs:List V} {us:List Value},xs.length=us.length->(∀ (i:Nat) x u,xs[i]?=some x->us[i]?=some u->RelV x u)->Vals xs us
 | [],[],_,_=>.nil
 | [],_ :: _,h,_=>by simp at h
 | _ :: _,[],h,_=>by simp at h
 | x :: xs,u :: us,h,k=>.cons (k 0 x u rfl rfl) (xob (by simpa using h) fun i y w hy hw=>k (i + 1) y w (by simpa using hy) (by simpa using hw))
theorem KV.get {κ:Type} {kvs:List (κ×V)} {vs:List (κ×Value)} (r:KV kvs vs) {i:Nat} {p:κ×V} {q:κ×Value} (hp:kvs[i]?=some p) (hq:vs[i]?=some q):p.1=q.1:=by
 unfold KV at r
 induction r generalizing i with
 | nil=>simp at hp
 | cons h t ih=>
  cases i with
  | zero=>
   simp at hp hq
   subst hp hq
   exact h.1
  | succ i=>exact ih (by simpa using hp) (by simpa using hq)
section
variable {X:Cx}
theorem xn4 (hc:X.calm=true):xew X (.type "list") (fun xs H Q=>∃ a,∃ kvs:List (Key×V),xs=[V.ref a]/\H a=some (.dK kvs)/\∀ l,H l=none->Q (.ref l) (upd H l (.lst (kvs.map fun kv=>kV kv.1)))):=by
 intro pins s σ H xs us Q I r h
 obtain ⟨a,kvs,rfl,ha,q⟩:=h
 obtain ⟨u,rfl,ru⟩:=xfb r
 cases ru
 obtain ⟨z,hd,vs,rel,dd⟩:=xuf I.hok ha
 obtain ⟨ep,hat⟩:=dd.dictAt
 have hl:=rel.length
 refine PySem.W.kdl_call (PySem.W.kdl_dict hd) (I.ok.hd hc) hat (by rw [<- hl]; exact z) fun h' tk acc' c' hk hD hacc=>?_
 refine ⟨.ref s.heap.objs.size,_,I.laid hk (Nat.le_refl _) (o:=.lst (kvs.map fun kv=>kV kv.1)) ⟨by rw [zLM]; exact z,acc'.toList,c',?_,by simpa using hD⟩,rfl,q _ (I.hok.fresh (Nat.le_refl _))⟩
 refine xob (by have:=hacc.1; rw [zLM]; simp only [Array.length_toList]; omega) fun i x u hx hu=>?_
 rw [zGM] at hx
 obtain ⟨p,hp,rfl⟩:=zMS hx
 obtain ⟨k,y,hky,hk'⟩:=hacc.2 i u (by rw [<- Array.getElem?_toList]; exact hu)
 have e:p.1=k:=KV.get rel hp hky
 rw [e]
 exact xw8 hk'
end
end L2
end
section
namespace L2
open PySem PySem.Spec PyProof.Rows
theorem xml:∀ {ns:List Str} {us:List Value},Vals (ns.map V.str) us->StrsAre us ns
 | [],_,h=>by cases h; exact .nil
 | x :: r,_,h=>by
  cases h with
  | cons a b=>
   obtain ⟨t,rfl⟩:=a
   constructor; exact xml b
end L2
end
section
namespace PySem
open Sem (wp)
section
variable {prog:Program} {w:World} {A:Around} {E:Value->Shared->Prop} {s:Shared}
theorem xfo {a:Addr} {xs:Array Value} {k:Nat} {sl:Array (Option Value)} {name:Str} {Q:Option Value->Shared->Prop}
  (hx:s.heap.get? a=some { cls:=.type "list",dict:=none,data:=.seq xs k,slots:=sl }) (hmiss:typeLookup (.type "list") name=pure none) (hname:(["__module__","__name__","__qualname__","__doc__","__annotations__"]:List Str).contains name=false) (hA:A.handled=none)
  (h:∀ h' tk,(∀ b o,s.heap.get? b=some o->h'.get? b=some o)->Q none { s with heap:=h',toks:=tk }) (hsz:name.length + 100<=sizeLine) :
  wpAny (model prog w) A (getAttr? (.ref a) name) Q E s:=by
 obtain ⟨hp,g,d,tk,os⟩:=s
 have hT:∀ tk',(⟨hp,g,d,tk',os⟩:Shared).TypeIs (.ref a) "list":=fun _=>⟨_,hx,rfl⟩
 have f1:=sub_AttributeError
 have f3:=F.slot_list_getattribute.lookup
 have f4:=F.slot_list_getattribute.bind (.ref a)
 have f5:=am_list_getattr_none
 unfold getAttr? getAttrBy? getAttrBy
 repeat (any_goals (first | assumption | exact hT _ | ((with_reducible show wpAny _ _ (call (Value.builtin "list.__getattribute__") _ _) _ _ _); refine call_meets F.slot_list_getattribute (hT _) am_entry_list_getattribute (F.args_list_getattribute_2 _ _) (meets_getattribute_miss_list a xs k sl name _ hmiss hname hsz) ⟨hx,hA,fun h' tk' e hx'=>?_⟩) | wp_step))
 obtain ⟨t',u',he⟩:=hx'.there
 show wpAny _ _ (getattributeRaised _ _ _ _ _ _ _) _ _ _
 unfold getattributeRaised
 repeat (any_goals (first | assumption | wp_step))
 all_goals first | exact h _ _ hx'.keeps | skip
end
end PySem
namespace L2
open PySem PySem.Spec PyProof.Rows
theorem xa3:plainId "dict.update.loop"=true:=by walk_at "k"
theorem xbx:entryFor table "dict.update.loop"=some Builtin.«dict.update.loop»:=entryFor_of_fast (by kernel_rfl)
section
variable {prog:Program} {w:World} {A:Around} {K:Type} [DecidableEq K] {knd:KeyKind prog w K}
def PairsAt (knd:KeyKind prog w K) (h:Heap):List Value->List (K×Value)->Prop
 | [],[]=>True
 | it :: its,p :: ps=>(∃ a key,it=.ref a/\h.IsTuple a #[key,p.2]/\knd.is p.1 key=true)/\PairsAt knd h its ps
 | _,_=>False
theorem PairsAt.keep {h h':Heap}:∀ {its:List Value} {ps:List (K×Value)},PairsAt knd h its ps->(∀ a xs,h.IsTuple a xs->h'.IsTuple a xs)->PairsAt knd h' its ps
 | [],[],_,_=>trivial
 | it :: its,p :: ps,⟨⟨a,key,e,ha,hk⟩,r⟩,k=>⟨⟨a,key,e,k _ _ ha,hk⟩,PairsAt.keep r k⟩
 | [],_ :: _,h,_=>h.elim
 | _ :: _,[],h,_=>h.elim
theorem xgy {h:Heap} {a d:Addr} {xs:Array Value} {kvs:List (K×Value)} (ht:h.IsTuple a xs) (hd:h.DictOf knd d kvs):a≠d:=fun e=>by
 subst e
 obtain ⟨o,ho,hc,_⟩:=ht
 obtain ⟨t,_,_,ht2,hx2,_⟩:=hd
 have hc2:=hx2.1
 have:o=t:=Option.some.inj (ho.symm.trans ht2)
 subst this
 rw [hc] at hc2
 exact absurd (Value.type.inj hc2) (by decide)
theorem xgx {h:Heap} {a I l:Addr} {i:Nat} {xs:Array Value} (ht:h.IsTuple a xs) (hd:h.IsListIter I l i):a≠I:=fun e=>by
 subst e
 obtain ⟨o,ho,hc,_⟩:=ht
 obtain ⟨t,ht2,hc2,_⟩:=hd
 have:o=t:=Option.some.inj (ho.symm.trans ht2)
 subst this
 rw [hc] at hc2
 exact absurd (Value.type.inj hc2) (by decide)
theorem xqz {R:Result->Shared->Prop} {I l d:Addr} {its:List Value} {ps:List (K×Value)} (hh:A.in1.handled=none) (hne:l≠I) (hdl:l≠d) (hdI:I≠d) :
    ∀ (k i:Nat) (s:Shared) (cur:List (K×Value)),its.length - i=k->i<=its.length->s.heap.IsListIter I l i->s.heap.IsList l its.toArray->s.heap.DictOf knd d cur->PairsAt knd s.heap (its.drop i) (ps.drop i)->cur.length + (its.length - i)<=sizeLine->
    (∀ h' tk,h'.DictOf knd d (merged cur (ps.drop i))->(∀ b o,b≠d->b≠I->s.heap.get? b=some o->h'.get? b=some o)->R (.ok (.ret .none)) { s with heap:=h',toks:=tk })->
    codeAny (model prog w) A (.builtin "dict.update.loop" ⟨[.ref d,.ref I,rawInt i,.none],[]⟩) R s:=by
  intro k
  induction k with
  | zero=>
    intro i s cur hk hi hit hl hd hp hsz hR
    have hin:i=its.length:=by omega
    have W:=Walks.list (prog:=prog) (w:=w) (A:=A.in1) hh I l hne its.toArray
    refine codeAny_builtin xbx ?_
    rw [Around.under_plainId xa3 _]
    show wpAny _ A.in1 (pyNext (.ref I) >>= _) _ _ s
    refine wpAny_bind (W.done s _ _ (by have e : its.toArray.size = i := by simp [hin]
                                        rw [e]; exact ⟨hit,hl⟩) fun h' tk hk'=>?_)
    show wpAny _ _ (Builtin.Dict.addKeywords d [] >>= _) _ _ _
    refine wpAny_bind (wpAny_pure (wpAny_pure ?_))
    have hps:ps.drop i=[]:=by
      rw [hin,List.drop_length] at hp
      rw [hin]
      cases hq:ps.drop its.length with
      | nil=>rfl
      | cons p r=>rw [hq] at hp; exact hp.elim
    refine hR h' tk ?_ fun b o hb hbI e=>hk' b o (by simpa using hbI) e
    rw [hps]
    exact hd.at fun o e=>hk' d o (by simpa using (Ne.symm hdI)) e
  | succ k ih=>
    intro i s cur hk hi hit hl hd hp hsz hR
    have hlt:i < its.length:=by omega
    have W:=Walks.list (prog:=prog) (w:=w) (A:=A.in1) hh I l hne its.toArray
    have hdi:its.drop i=its[i] :: its.drop (i + 1):=List.drop_eq_getElem_cons hlt
    rw [hdi] at hp
    obtain ⟨p,r,hpe⟩:∃ p r,ps.drop i=p :: r:=by
      cases hq:ps.drop i with
      | nil=>rw [hq] at hp; exact hp.elim
      | cons p r=>exact ⟨p,r,rfl⟩
    have hpr:ps.drop (i + 1)=r:=by rw [<- List.tail_drop,hpe]; rfl
    rw [hpe] at hp
    obtain ⟨⟨a,key,ea,hta,hkey⟩,hrest⟩:=hp
    refine codeAny_builtin xbx ?_
    rw [Around.under_plainId xa3 _]
    show wpAny _ A.in1 (pyNext (.ref I) >>= _) _ _ s
    refine wpAny_bind (W.item i s _ _ (by simpa using hlt) ⟨hit,hl⟩ fun v h' tk hP hst' hk'=>?_)
    have hv:v=.ref a:=by
      have:its[i]?=some v:=by simpa using hP
      rw [zGA hlt,ea] at this
      exact (Option.some.inj this).symm
    subst hv
    have hta':h'.IsTuple a #[key,p.2]:=hta.at fun o e=>hk' a o (by simpa using xgx hta hit) e
    have hd':h'.DictOf knd d cur:=hd.at fun o e=>hk' d o (by simpa using (Ne.symm hdI)) e
    obtain ⟨oa,hoa,hca,na,hda⟩:=id hta'
    refine wpAny_bind (wpAny_holding (wpAny_bind (wpAny_tryCatch ?_)))
    unfold Builtin.Dict.pairItems
    refine wpAny_bind (wpAny_typeOf ⟨oa,hoa,hca⟩ ?_)
    rw [if_pos (by decide)]
    refine wpAny_bind (wpAny_seqItems hoa hda (wpAny_pure ?_))
    show wpAny _ _ (holding [key,p.2] (dictSet d key p.2)) _ _ _
    refine wpAny_holding (wpAny_dictSet_pairs hkey hd' (fun h2 hd2 hs2=>?_) (by omega))
    have st2:h2.IsListIter I l (i + 1)/\h2.IsList l its.toArray:=⟨hst'.1.at fun o e=>(hs2.2 I hdI).trans e,hst'.2.at fun o e=>(hs2.2 l hdl).trans e⟩
    refine wpAny_pure ⟨plainId_quiet xa3 _,ih (i + 1) _ _ (by omega) hlt st2.1 st2.2 hd2 ?_ ?_ fun h3 tk3 hd3 hk3=>?_⟩
    · rw [hpr]
      exact hrest.keep fun b xs hb=>by
        have h1:h'.IsTuple b xs:=hb.at fun o e=>hk' b o (by simpa using xgx hb hit) e
        exact h1.at fun o e=>(hs2.2 b (xgy h1 hd')).trans e
    · have:=stored_length_le cur p.1 p.2
      omega
    · refine hR h3 tk3 ?_ fun b o hb hbI e=>hk3 b o hb hbI ((hs2.2 b hb).trans (hk' b o (by simpa using hbI) e))
      rw [hpe]
      rw [hpr] at hd3
      exact hd3
end
end L2
namespace L2
open PySem PySem.Spec PyProof.Rows
theorem xkb:typeLookup (.type "list") "keys"=pure none:=am_miss_of_fast (by kernel_rfl)
section
variable {prog:Program} {w:World} {A:Around} {E:Value->Shared->Prop} {s:Shared} {K:Type} [DecidableEq K] {knd:KeyKind prog w K}
theorem xkp {l:Addr} {its:List Value} {n:Nat} {ps:List (K×Value)} {Q:Value->Shared->Prop} (hh:A.handled=none) (hl:s.heap.get? l=some { cls:=.type "list",data:=.seq its.toArray n }) (hp:PairsAt knd s.heap its ps) (hsz:its.length<=sizeLine)
  (h:∀ h' tk,h'.DictOf knd s.heap.objs.size (merged [] ps)->(∀ b o,s.heap.get? b=some o->h'.get? b=some o)->Q (.ref s.heap.objs.size) { s with heap:=h',toks:=tk }) :
  wpAny (model prog w) A (call (.type "dict") [.ref l]) Q E s:=by
 refine callType_codes (Q₁:=fun obj s₁=>obj=.ref s.heap.objs.size/\s₁={ s with heap:=s.heap.push { cls:=.type "dict",data:=.dict #[] } }) F.kt_called_dict (F.kt_typeCall_dict_1 _) F.entry_dict_init (kt_code_dict_new _ ⟨rfl,rfl⟩) ?_
 rintro obj s₁ ⟨rfl,rfl⟩
 have hnew:(s.heap.push { cls:=.type "dict",data:=.dict #[] }).DictOf knd s.heap.objs.size []:=Heap.DictOf.new s.heap
 have ext0:∀ b o,s.heap.get? b=some o->(s.heap.push { cls:=.type "dict",data:=.dict #[] }).get? b=some o:=fun b o e=>zPO _ e
 have hl0:=ext0 _ _ hl
 have hT:(⟨s.heap.push { cls:=.type "dict",data:=.dict #[] },s.gens,s.drawn,s.toks,s.os⟩:Shared).TypeIs (.ref l) "list":=⟨_,hl0,rfl⟩
 have hdl:l≠s.heap.objs.size:=fun e=>absurd (Heap.lt_size hl) (by rw [e]; exact Nat.lt_irrefl _)
 refine ⟨hnew.typeIs,F.args_dict_init_2 _ _,?_⟩
 unfold Builtin.«dict.__init__»
 refine wpAny_bind ?_
 unfold Builtin.Dict.selfAndRest
 refine wpAny_bind (wpAny_notOrdered_dict hnew.typeIs ?_)
 show wpAny _ _ (pure (s.heap.objs.size,[Value.ref l])) _ _ _
 refine wpAny_pure ?_
 show wpAny _ _ (Builtin.Dict.updateFrom "dict.__init__" s.heap.objs.size (.ref l) [] .none) _ _ _
 unfold Builtin.Dict.updateFrom
 refine wpAny_bind (wpAny_typeOf hT ?_)
 rw [if_pos (by decide)]
 refine wpAny_bind (xfo (sl:=#[]) hl0 xkb (by walk_at "k") hh (fun h1 tk1 k1=>?_) (by walk_at "k"))
 rw [if_pos (show (none:Option Value).isNone=true from rfl)]
 refine wpAny_bind (wpAny_rule ?_)
 have hl1:=k1 _ _ hl0
 have hL1:h1.IsList l its.toArray:=⟨_,hl1,rfl,_,rfl⟩
 refine wpAny_bind (wpAny_pyIter_list hL1 (wpAny_pure ⟨plainId_quiet xa3 _,?_⟩))
 have hsz1:s.heap.objs.size < h1.objs.size:=Heap.lt_size (k1 _ _ (Heap.get?_push_size _ rfl))
 have hlI:l < h1.objs.size:=Heap.lt_size hl1
 have ext2:∀ b o,h1.get? b=some o->(h1.push { cls:=.type "list_iterator",data:=.fields #[.ref l,.int 0 0] }).get? b=some o:=fun b o e=>zPO _ e
 refine xqz (knd:=knd) (A:=A.in1) (ps:=ps) (l:=l) (d:=s.heap.objs.size) (its:=its) hh (Nat.ne_of_lt hlI) hdl (Nat.ne_of_gt hsz1) its.length 0 _ [] (Nat.sub_zero _) (Nat.zero_le _) ⟨_,Heap.get?_push_size _ rfl,rfl,rfl⟩ (hL1.push _) (hnew.at fun o e=>ext2 _ _ (k1 _ _ e)) (hp.keep fun a xs ha=>ha.at fun o e=>ext2 _ _ (k1 _ _ (ext0 _ _ e))) (by simpa using hsz) fun h3 tk3 hd3 hk3=>?_
 refine ⟨rfl,h h3 tk3 hd3 fun b o e=>hk3 b o ?_ ?_ (ext2 _ _ (k1 _ _ (ext0 _ _ e)))⟩
 ·exact fun z=>absurd (Heap.lt_size e) (by rw [z]; exact Nat.lt_irrefl _)
 ·exact fun z=>absurd (Heap.lt_size e) (by rw [z]; exact Nat.not_lt_of_gt hsz1)
end
end L2
namespace L2
open PySem PySem.Spec PyProof.Rows
def PairsV (H:Hp):List V->List (Key×V)->Prop
 | [],[]=>True
 | y :: ys,kv :: kvs=>(∃ b,y=.ref b/\H b=some (.tup [kV kv.1,kv.2]))/\PairsV H ys kvs
 | _,_=>False
theorem PairsV.length {H:Hp}:∀ {ys:List V} {kvs:List (Key×V)},PairsV H ys kvs->ys.length=kvs.length
 | [],[],_=>rfl
 | y :: ys,kv :: kvs,⟨_,r⟩=>by rw [List.length_cons,List.length_cons,PairsV.length r]
 | [],_ :: _,h=>h.elim
 | _ :: _,[],h=>h.elim
section
variable {X:Cx}
theorem xis {pins:List (Addr×Obj)} {σ:St} {H:Hp} {s:Shared} (I:Inv X pins σ H s):∀ {ys:List V} {its:List Value} {kvs:List (Key×V)},Vals ys its->PairsV H ys kvs->∃ ps,KV kvs ps/\PairsAt (xbs X.prog X.w) s.heap its ps
 | [],_,[],r,_=>by cases r; exact ⟨[],.nil,trivial⟩
 | y :: ys,_,kv :: kvs,r,⟨⟨b,eb,hb⟩,rest⟩=>by
  subst eb
  cases r with
  | cons h t=>
   obtain ⟨ps,hk,hp⟩:=xis I t rest
   obtain ⟨its2,r2,p2,_⟩:=I.tuple (SqT.of (K:=X.K) hb)
   obtain ⟨u1,u2,rfl,e1,e2⟩:=r2.two
   exact ⟨(kv.1,u2) :: ps,.cons ⟨rfl,e2⟩ hk,⟨b,u1,h,p2,xkg e1⟩,hp⟩
 | [],_,_ :: _,_,h=>h.elim
 | _ :: _,_,[],_,h=>h.elim
theorem xf6 (hc:X.calm=true):xew X (.type "dict") (fun xs H Q=>∃ a ys,∃ kvs:List (Key×V),xs=[.ref a]/\H a=some (.lst ys)/\PairsV H ys kvs/\∀ p,H p=none->Q (.ref p) (upd H p (.dK (xaw [] kvs)))):=by
 intro pins s σ H xs us Q I r h
 obtain ⟨a,ys,kvs,rfl,ha,hp,q⟩:=h
 obtain ⟨u,rfl,ru⟩:=xfb r
 obtain rfl:u=.ref a:=ru
 obtain ⟨hz,its,n,rv,hl⟩:=(show ObjOk X.prog X.w H s.heap a (.lst ys) from I.hok a _ ha)
 obtain ⟨ps,hk,hpa⟩:=xis I rv hp
 have hyl:=hp.length
 refine xkp (knd:=xbs X.prog X.w) (I.ok.hd hc) hl hpa (by rw [<- rv.length]; exact hz) fun h' tk dd' k'=>?_
 have hz':(xaw [] kvs).length<=sizeLine:=by
  have:=xb2 kvs []
  rw [List.length_nil] at this
  omega
 exact ⟨.ref s.heap.objs.size,_,I.laid (a:=s.heap.objs.size) (o:=.dK (xaw [] kvs)) (t':=tk) k' (Nat.le_refl _) (xid hz' (beq_eq_false_iff_ne.mpr (Ne.symm (Nat.ne_of_lt I.big))) (hk.merge .nil) dd'),rfl,q _ (I.hok.fresh (Nat.le_refl _))⟩
end
end L2
end
section
namespace M
open PySem L2
inductive Vk (ks:List Kn):Str->D->Prop
 | num (i:Int) (h:Nm i):Vk ks (S "num") (.int i)
 | rc {x:Str} {k:Kn} {ws:List D} (hk:kAt ks x=some k) (hr:k.rc=true) (hl:ws.length=k.parts.length) (h:∀ (i:Nat) (w:D) (p:Str×Str),ws[i]?=some w->k.parts[i]?=some p->Vk ks p.2 w):Vk ks x (.tup [.str x,.tup ws])
 | al {x:Str} {k:Kn} {p:Str×Str} {w:D} (hk:kAt ks x=some k) (hr:k.rc=false) (hp:p∈k.parts) (h:Vk ks p.2 w):Vk ks x (.tup [.str x,.str p.1,w])
theorem xh1 {ks:List Kn} (wf:KWf ks) {x:Str} {v:D} (hx:x=S "num") (h:Vk ks x v):∃ i,Nm i/\v=.int i:=by
 cases h with
 | num i hi=>exact ⟨i,hi,rfl⟩
 | rc hk=>rw [hx,wf.num] at hk; cases hk
 | al hk=>rw [hx,wf.num] at hk; cases hk
theorem xmh {ks:List Kn} (wf:KWf ks) {x:Str} {k:Kn} {v:D} (hx:kAt ks x=some k) (hr:k.rc=true) (h:Vk ks x v):∃ ws,ws.length=k.parts.length/\(∀ (i:Nat) w p,ws[i]?=some w->k.parts[i]?=some p->Vk ks p.2 w)/\v=.tup [.str x,.tup ws]:=by
 cases h with
 | num i hi=>rw [wf.num] at hx; cases hx
 | rc hk hr' hl h=>
  rw [hx] at hk
  cases hk
  exact ⟨_,hl,h,rfl⟩
 | al hk hr'=>
  rw [hx] at hk
  cases hk
  rw [hr] at hr'
  cases hr'
theorem xoa {ks:List Kn} (wf:KWf ks) {x:Str} {k:Kn} {v:D} (hx:kAt ks x=some k) (hr:k.rc=false) (h:Vk ks x v):∃ p∈k.parts,∃ w,Vk ks p.2 w/\v=.tup [.str x,.str p.1,w]:=by
 cases h with
 | num i hi=>rw [wf.num] at hx; cases hx
 | rc hk hr'=>
  rw [hx] at hk
  cases hk
  rw [hr] at hr'
  cases hr'
 | @al _ _ p w hk hr' hp h=>
  rw [hx] at hk
  cases hk
  exact ⟨p,hp,w,h,rfl⟩
theorem xk6 {ks:List Kn} (wf:KWf ks):∀ (m:Nat) (x:Str) (v:D),KIn ks m x->Vk ks x v->v.deep<=2 * m
 | 0,x,v,hin,h=>by
  rcases hin.look wf with ⟨e,_⟩ | ⟨j,k,e,_⟩
  ·obtain ⟨i,_,rfl⟩:=xh1 wf e h
   exact Nat.zero_le _
  ·cases e
 | m + 1,x,v,hin,h=>by
  rcases hin.look wf with ⟨e,_⟩ | ⟨j,k,e,hkx,hn,hm,hp⟩
  ·obtain ⟨i,_,rfl⟩:=xh1 wf e h
   exact Nat.zero_le _
  ·cases e
   cases hc:k.rc with
   | true=>
    obtain ⟨ws,hl,hw,rfl⟩:=xmh wf hkx hc h
    have:xho ws<=2 * m:=xnd fun d hd=>by
     obtain ⟨i,hi,e⟩:=zMI hd
     have hi2:i < k.parts.length:=by omega
     exact xk6 wf m _ d (hp _ (List.getElem_mem hi2)) (hw i d k.parts[i] (by rw [<- e]; exact zGA hi) (zGA hi2))
    show max 0 (max (xho ws + 1) 0) + 1<=2 * (m + 1)
    omega
   | false=>
    obtain ⟨p,hpp,w,hw,rfl⟩:=xoa wf hkx hc h
    have:=xk6 wf m _ w (hp p hpp) hw
    show max 0 (max 0 (max w.deep 0)) + 1<=2 * (m + 1)
    omega
def FitB (ks:List Kn) (bs:List (Str×Str)) (env:En):Prop:=∀ p∈bs,∃ v,env p.1=some v/\Vk ks p.2 v
theorem FitB.put {ks:List Kn} {bs:List (Str×Str)} {env:En} {y k:Str} {v:D} (h:FitB ks bs env) (hy:∀ p∈bs,p.1≠y) (hv:Vk ks k v):FitB ks (bs++[(y,k)]) (env.put y v):=fun p hp=>by
 unfold En.put
 rcases zMA hp with hp | hp
 ·obtain ⟨v',h1,h2⟩:=h p hp
  exact ⟨v',by rw [if_neg (hy p hp)]; exact h1,h2⟩
 ·rw [zMO hp]
  exact ⟨v,by rw [if_pos rfl],hv⟩
def Sg (s:Str):Prop:=s=S "+"\/s=S "-"\/s=S "*"\/s=S "<"\/s=S "="
def SgD (d:D):Prop:=∀ s a b,d=tOpD s a b->Sg s
def Evs (ks:List Kn):Nat->En->D->D->Prop
 | 0=>xel
 | n + 1=>fun env d v=>xel env d v\/(NodeEv ks (Evs ks n) env d v/\SgD d)
theorem All2.imp3 {α β:Type} {R R':α->β->Prop} (k:∀ a b,R a b->R' a b):∀ {as:List α} {bs:List β},All2 R as bs->All2 R' as bs
 | _,_,.nil=>.nil
 | _,_,.cons h t=>.cons (k _ _ h) (All2.imp3 k t)
theorem NodeEv.mono {ks:List Kn} {R R':En->D->D->Prop} (k:∀ env d v,R env d v->R' env d v) {env:En} {d v:D} (h:NodeEv ks R env d v):NodeEv ks R' env d v:=by
 rcases h with ⟨s,a,b,x,y,h1,h2,r⟩ | ⟨kk,es,vs,hl,h1,r⟩ | ⟨a,kk,vs,f,kn,i,h1,r⟩ | ⟨kk,t,a,x,h1,r⟩ | ⟨a,rs,kk,t,x,y,e,hl,h1,hf,h2,r⟩ | ⟨a,b,c,x,h1,h2,r⟩
 ·exact .inl ⟨s,a,b,x,y,k _ _ _ h1,k _ _ _ h2,r⟩
 ·exact .inr (.inl ⟨kk,es,vs,hl,h1.imp3 (k env),r⟩)
 ·exact .inr (.inr (.inl ⟨a,kk,vs,f,kn,i,k _ _ _ h1,r⟩))
 ·exact .inr (.inr (.inr (.inl ⟨kk,t,a,x,k _ _ _ h1,r⟩)))
 ·exact .inr (.inr (.inr (.inr (.inl ⟨a,rs,kk,t,x,y,e,hl,k _ _ _ h1,hf,k _ _ _ h2,r⟩))))
 ·exact .inr (.inr (.inr (.inr (.inr ⟨a,b,c,x,k _ _ _ h1,k _ _ _ h2,r⟩))))
theorem xqh {ks:List Kn}:∀ (n:Nat) (env:En) (d v:D),Evs ks n env d v->Ev ks n env d v
 | 0,_,_,_,h=>h
 | n + 1,env,d,v,h=>by
  rcases h with h | ⟨h,_⟩
  ·exact .inl h
  ·exact .inr (h.mono (xqh n))
theorem xny {h:Str} {r:List D} (hne:h≠S "op"):SgD (.tup (.str h :: r)):=fun s a b e=>by
 have e1:=D.tup.inj e
 have e2:=(List.cons.inj e1).1
 exact absurd (D.str.inj e2) hne
theorem xwv {s:Str} {a b:D} (h:Sg s):SgD (tOpD s a b):=fun s' a' b' e=>by
 have e1:=D.tup.inj e
 have e2:=(List.cons.inj (List.cons.inj e1).2).1
 rw [<- D.str.inj e2]
 exact h
def TmOk (ks:List Kn) (n:Nat) (bs:List (Str×Str)) (d:D) (x:Str):Prop:=∀ env,FitB ks bs env->∃ v,Evs ks n env d v/\Vk ks x v
theorem xqi {ks:List Kn} {n:Nat} {env:En} {d v:D} (h:xel env d v):Evs ks n env d v:=by
 cases n with
 | zero=>exact h
 | succ n=>exact .inl h
theorem xun {ks:List Kn} {n:Nat} {bs:List (Str×Str)} {i:Int} (h:Nm i):TmOk ks n bs (tNum i) (S "num"):=fun env _=>⟨.int i,xqi (.inl ⟨i,rfl,rfl⟩),.num i h⟩
theorem xup {ks:List Kn} {n:Nat} {bs:List (Str×Str)} {y x:Str} (h:(y,x)∈bs):TmOk ks n bs (tBox y) x:=fun env hf=>by
 obtain ⟨v,h1,h2⟩:=hf _ h
 exact ⟨v,xqi (.inr ⟨y,h1,rfl⟩),h2⟩
theorem xwg {ks:List Kn} (wf:KWf ks) {n:Nat} {bs:List (Str×Str)} {s:Str} {a b:D} (hs:Sg s) (ha:TmOk ks n bs a (S "num")) (hb:TmOk ks n bs b (S "num")):TmOk ks (n + 1) bs (tOpD s a b) (S "num"):=fun env hf=>by
 obtain ⟨u,e1,k1⟩:=ha env hf
 obtain ⟨v,e2,k2⟩:=hb env hf
 obtain ⟨i,hi,rfl⟩:=xh1 wf rfl k1
 obtain ⟨j,hj,rfl⟩:=xh1 wf rfl k2
 exact ⟨_,.inr ⟨.inl ⟨s,a,b,i,j,e1,e2,hi,hj,rfl,rfl⟩,xwv hs⟩,.num _ (xvj s i j)⟩
theorem xoi {ks:List Kn} {n:Nat} {bs:List (Str×Str)} {env:En} (hf:FitB ks bs env):∀ {es:List D} {ps:List (Str×Str)},All2 (fun e (p:Str×Str)=>TmOk ks n bs e p.2) es ps->∃ vs,All2 (Evs ks n env) es vs/\vs.length=ps.length/\∀ (i:Nat) w p,vs[i]?=some w->ps[i]?=some p->Vk ks p.2 w
 | _,_,.nil=>⟨[],.nil,rfl,fun i w p h=>by simp at h⟩
 | _,_,.cons h t=>by
  obtain ⟨v,h1,h2⟩:=h env hf
  obtain ⟨vs,k1,k2,k3⟩:=xoi hf t
  refine ⟨v :: vs,.cons h1 k1,by rw [List.length_cons,List.length_cons,k2],fun i w p hw hp=>?_⟩
  cases i with
  | zero=>
   simp at hw hp
   subst hw hp
   exact h2
  | succ i=>exact k3 i w p (by simpa using hw) (by simpa using hp)
theorem xum {ks:List Kn} {n:Nat} {bs:List (Str×Str)} {x:Str} {k:Kn} {es:List D} (hk:kAt ks x=some k) (hr:k.rc=true) (hl:k.parts.length<=1000) (h:All2 (fun e (p:Str×Str)=>TmOk ks n bs e p.2) es k.parts):TmOk ks (n + 1) bs (tRec x es) x:=fun env hf=>by
 obtain ⟨vs,h1,h2,h3⟩:=xoi hf h
 exact ⟨_,.inr ⟨.inr (.inl ⟨x,es,vs,by rw [h.length]; exact hl,h1,rfl,rfl⟩),xny (by walk_at "k")⟩,.rc hk hr h2 h3⟩
theorem xkj {f:Str}:∀ {l:List Str} {i:Nat},l.Nodup->l[i]?=some f->l.findIdx? (fun z=>decide (z=f))=some i
 | [],i,_,h=>by simp at h
 | y :: l,0,_,h=>by
  simp at h
  subst h
  simp [List.findIdx?_cons]
 | y :: l,i + 1,nd,h=>by
  have hm:f∈l:=zMG (by simpa using h)
  have hne:¬ y=f:=fun e=>by subst e; exact (List.nodup_cons.mp nd).1 hm
  rw [List.findIdx?_cons,zDF hne]
  have:=xkj (l:=l) (i:=i) (List.nodup_cons.mp nd).2 (by simpa using h)
  simp [this]
theorem xuo {ks:List Kn} (wf:KWf ks) {n:Nat} {bs:List (Str×Str)} {y:Str} {k:Kn} {a:D} {p:Str×Str} (hk:kAt ks y=some k) (hr:k.rc=true) (hp:p∈k.parts) (h:TmOk ks n bs a y):TmOk ks (n + 1) bs (tGet a p.1) p.2:=fun env hf=>by
 obtain ⟨v,h1,h2⟩:=h env hf
 obtain ⟨ws,hl,hw,rfl⟩:=xmh wf hk hr h2
 obtain ⟨i,hi,e⟩:=zMI hp
 have hi2:i < ws.length:=by omega
 have hm:=zMF hk
 have ei:k.parts[i]?=some p:=by rw [<- e]; exact zGA hi
 exact ⟨ws[i],.inr ⟨.inr (.inr (.inl ⟨a,y,ws,p.1,k,i,h1,hk,xkj (wf.pnd k hm) (by rw [zGM,ei]; rfl),zGA hi2,rfl⟩)),xny (by walk_at "k")⟩,hw i _ p (zGA hi2) ei⟩
theorem xul {ks:List Kn} {n:Nat} {bs:List (Str×Str)} {x:Str} {k:Kn} {a:D} {p:Str×Str} (hk:kAt ks x=some k) (hr:k.rc=false) (hp:p∈k.parts) (h:TmOk ks n bs a p.2):TmOk ks (n + 1) bs (tTag x p.1 a) x:=fun env hf=>by
 obtain ⟨v,h1,h2⟩:=h env hf
 exact ⟨_,.inr ⟨.inr (.inr (.inr (.inl ⟨x,p.1,a,v,h1,rfl,rfl⟩))),xny (by walk_at "k")⟩,.al hk hr hp h2⟩
theorem xs8 {ks:List Kn} (wf:KWf ks) {n:Nat} {bs:List (Str×Str)} {x y:Str} {k:Kn} {a:D} {rs:List (Str×Str×D)} (hk:kAt ks y=some k) (hr:k.rc=false) (ha:TmOk ks n bs a y) (hl:rs.length<=1000) (nd:(rs.map (·.1)).Nodup)
  (h:∀ p∈k.parts,∃ z e,(p.1,z,e)∈rs/\(∀ q∈bs,q.1≠z)/\TmOk ks n (bs++[(z,p.2)]) e x):TmOk ks (n + 1) bs (xik a rs) x:=fun env hf=>by
 obtain ⟨v,h1,h2⟩:=ha env hf
 obtain ⟨p,hp,w,hw,rfl⟩:=xoa wf hk hr h2
 obtain ⟨z,e,hm,hz,he⟩:=h p hp
 obtain ⟨v',h3,h4⟩:=he _ (hf.put hz hw)
 obtain ⟨i,hi,ei⟩:=zMI hm
 have:=xb5 (f:=fun r:Str×Str×D=>r.1) (xs:=rs) (i:=i) (a:=(p.1,z,e)) nd (by rw [<- ei]; exact zGA hi)
 exact ⟨v',.inr ⟨.inr (.inr (.inr (.inr (.inl ⟨a,rs,y,p.1,w,z,e,hl,h1,this,h3,rfl⟩)))),xny (by walk_at "k")⟩,h4⟩
theorem xwh {ks:List Kn} (wf:KWf ks) {n:Nat} {bs:List (Str×Str)} {x:Str} {a b c:D} (ha:TmOk ks n bs a (S "num")) (hb:TmOk ks n bs b x) (hc:TmOk ks n bs c x):TmOk ks (n + 1) bs (tIfD a b c) x:=fun env hf=>by
 obtain ⟨u,e1,k1⟩:=ha env hf
 obtain ⟨i,hi,rfl⟩:=xh1 wf rfl k1
 by_cases h0:i=0
 ·obtain ⟨v,e2,k2⟩:=hc env hf
  exact ⟨v,.inr ⟨.inr (.inr (.inr (.inr (.inr ⟨a,b,c,i,e1,by rw [if_pos h0]; exact e2,rfl⟩)))),xny (by walk_at "k")⟩,k2⟩
 ·obtain ⟨v,e2,k2⟩:=hb env hf
  exact ⟨v,.inr ⟨.inr (.inr (.inr (.inr (.inr ⟨a,b,c,i,e1,by rw [if_neg h0]; exact e2,rfl⟩)))),xny (by walk_at "k")⟩,k2⟩
def smS (f:Str->Int) (k:Kn):Int:=if k.rc=true then (k.parts.map fun p=>f p.2).sum else match k.parts with | []=>0 | p :: _=>f p.2
def hiS (f:Str->Int) (k:Kn):Int:=if k.rc=true then maxD (k.parts.map fun p=>f p.2) else match k.parts with | []=>0 | p :: _=>f p.2
theorem xjn {f g:Str->Int} {k:Kn} (h:∀ p∈k.parts,f p.2=g p.2):smS f k=smS g k:=by
 unfold smS
 rw [List.map_congr_left h]
 cases hq:k.parts with
 | nil=>rfl
 | cons p r=>
  show (if k.rc=true then _ else f p.2)=(if k.rc=true then _ else g p.2)
  rw [h p (by rw [hq]; simp)]
theorem xkl {f g:Str->Int} {k:Kn} (h:∀ p∈k.parts,f p.2=g p.2):hiS f k=hiS g k:=by
 unfold hiS
 rw [List.map_congr_left h]
 cases hq:k.parts with
 | nil=>rfl
 | cons p r=>
  show (if k.rc=true then _ else f p.2)=(if k.rc=true then _ else g p.2)
  rw [h p (by rw [hq]; simp)]
def smF:Nat->List Kn->Str->Int
 | 0,_,_=>1
 | n + 1,ks,x=>match kAt ks x with
  | none=>1
  | some k=>1 + smS (smF n ks) k
def hiF:Nat->List Kn->Str->Int
 | 0,_,_=>1
 | n + 1,ks,x=>match kAt ks x with
  | none=>1
  | some k=>1 + hiS (hiF n ks) k
theorem xen {n:Nat} {ks:List Kn} {x:Str} (h:kAt ks x=none):smF (n + 1) ks x=1:=by unfold smF; rw [h]
theorem xgm {n:Nat} {ks:List Kn} {x:Str} {k:Kn} (h:kAt ks x=some k):smF (n + 1) ks x=1 + smS (smF n ks) k:=by
 show (match kAt ks x with | none=>1 | some k=>1 + smS (smF n ks) k)=_
 rw [h]
theorem xet {n:Nat} {ks:List Kn} {x:Str} (h:kAt ks x=none):hiF (n + 1) ks x=1:=by unfold hiF; rw [h]
theorem xgr {n:Nat} {ks:List Kn} {x:Str} {k:Kn} (h:kAt ks x=some k):hiF (n + 1) ks x=1 + hiS (hiF n ks) k:=by
 show (match kAt ks x with | none=>1 | some k=>1 + hiS (hiF n ks) k)=_
 rw [h]
theorem xu2 {ks:List Kn} (wf:KWf ks):∀ (m:Nat) (x:Str),KIn ks m x->smF (m + 2) ks x=smF (m + 1) ks x/\hiF (m + 2) ks x=hiF (m + 1) ks x:=by
 intro m
 induction m with
 | zero=>
  intro x h
  rcases h.look wf with ⟨_,e⟩ | ⟨j,k,e0,_⟩
  ·exact ⟨(xen e).trans (xen e).symm,(xet e).trans (xet e).symm⟩
  ·cases e0
 | succ m ih=>
  intro x h
  rcases h.look wf with ⟨_,e⟩ | ⟨j,k,e0,hk,hn,hm,hp⟩
  ·exact ⟨(xen e).trans (xen e).symm,(xet e).trans (xet e).symm⟩
  ·cases e0
   rw [xgm hk,xgm hk,xgr hk,xgr hk,xjn fun p hp'=>(ih p.2 (hp p hp')).1,xkl fun p hp'=>(ih p.2 (hp p hp')).2]
   exact ⟨rfl,rfl⟩
def smK (ks:List Kn) (x:Str):Int:=smF 7 ks x
def hiK (ks:List Kn) (x:Str):Int:=hiF 7 ks x
theorem xu0 {ks:List Kn} (wf:KWf ks) {m:Nat} {x:Str} (h:KIn ks m x) (hm:m<=6):smF (m + 1) ks x=smK ks x/\hiF (m + 1) ks x=hiK ks x:=by
 have:∀ k,smF (m + k + 1) ks x=smF (m + 1) ks x/\hiF (m + k + 1) ks x=hiF (m + 1) ks x:=fun k=>by
  induction k with
  | zero=>exact ⟨rfl,rfl⟩
  | succ k ih=>
   have u:=xu2 wf (m + k) x (h.mono (by omega))
   exact ⟨u.1.trans ih.1,u.2.trans ih.2⟩
 have u:=this (6 - m)
 rw [show m + (6 - m) + 1=7 by omega] at u
 exact ⟨u.1.symm,u.2.symm⟩
theorem xg3 {ks:List Kn} (wf:KWf ks):smK ks (S "num")=1/\hiK ks (S "num")=1:=⟨xen wf.num,xet wf.num⟩
theorem xtj {ks:List Kn} (wf:KWf ks) {x:Str} {k:Kn} (hk:kAt ks x=some k):smK ks x=1 + smS (smK ks) k/\hiK ks x=1 + hiS (hiK ks) k:=by
 have hm:=zMF hk
 have hx:k.name=x:=by
  have:=List.find?_some hk
  exact of_decide_eq_true this
 have hin:KIn ks 6 x:=(KIn.of (.inr ⟨k,hm,hx⟩)).mono wf.few
 rcases hin.look wf with ⟨_,e⟩ | ⟨j,k',e0,hk',hn,hm',hp⟩
 ·rw [e] at hk; cases hk
 ·cases e0
  rw [hk] at hk'
  cases hk'
  exact ⟨(xgm (n:=6) hk).trans (congrArg (fun z=>1 + z) (xjn fun p hp'=>(xu0 wf (hp p hp') (by omega)).1)),(xgr (n:=6) hk).trans (congrArg (fun z=>1 + z) (xkl fun p hp'=>(xu0 wf (hp p hp') (by omega)).2))⟩
theorem xjo {ks:List Kn} (hp:∀ k∈ks,k.parts.length<=5):∀ (n:Nat) (x:Str),(1<=smF n ks x/\smF n ks x<=6 ^ n)/\(1<=hiF n ks x/\hiF n ks x<=n + 1)
 | 0,x=>⟨⟨Int.le_refl _,Int.le_refl _⟩,⟨Int.le_refl _,Int.le_refl _⟩⟩
 | n + 1,x=>by
  have p1:(1:Int)<=6 ^ n:=Int.pow_pos (by decide)
  have e6:(6:Int) ^ (n + 1)=6 * 6 ^ n:=by rw [Int.pow_succ,Int.mul_comm]
  cases hk:kAt ks x with
  | none=>
   rw [xen hk,xet hk]
   exact ⟨⟨Int.le_refl _,by rw [e6]; omega⟩,Int.le_refl _,by push_cast; omega⟩
  | some k=>
   rw [xgm hk,xgr hk]
   have hk5:=hp k (zMF hk)
   have ih:=fun y=>xjo hp n y
   have hs:∀ (l:List (Str×Str)),0<=(l.map fun p=>smF n ks p.2).sum/\(l.map fun p=>smF n ks p.2).sum<=l.length * 6 ^ n:=by
    intro l
    induction l with
    | nil=>simp
    | cons a r ih'=>
     have h1:=(ih a.2).1
     rw [List.map_cons,List.sum_cons,List.length_cons]
     push_cast
     rw [Int.add_mul]
     omega
   have hm:∀ (l:List (Str×Str)),0<=maxD (l.map fun p=>hiF n ks p.2)/\maxD (l.map fun p=>hiF n ks p.2)<=n + 1:=by
    intro l
    induction l with
    | nil=>show 0<=(0:Int)/\(0:Int)<=n + 1; omega
    | cons a r ih'=>
     have h1:=(ih a.2).2
     have e:maxD ((a :: r).map fun p=>hiF n ks p.2)=max (hiF n ks a.2) (maxD (r.map fun p=>hiF n ks p.2)):=rfl
     rw [e]
     omega
   have h1:=hs k.parts
   have h2:(k.parts.length:Int) * 6 ^ n<=5 * 6 ^ n:=Int.mul_le_mul_of_nonneg_right (by omega) (by omega)
   have h3:=hm k.parts
   unfold smS hiS
   push_cast
   cases k.rc with
   | true=>
    rw [if_pos rfl,if_pos rfl]
    refine ⟨⟨?_,?_⟩,?_,?_⟩ <;> omega
   | false=>
    rw [if_neg (by decide),if_neg (by decide)]
    cases k.parts with
    | nil=>
     refine ⟨⟨?_,?_⟩,?_,?_⟩ <;> dsimp only <;> omega
    | cons p r=>
     have h4:=ih p.2
     refine ⟨⟨?_,?_⟩,?_,?_⟩ <;> dsimp only <;> omega
theorem xfd {ks:List Kn} (wf:KWf ks) (x:Str):1<=smK ks x/\smK ks x<=279936/\1<=hiK ks x/\hiK ks x<=8:=by
 have:=xjo wf.pts 7 x
 have e:(6:Int) ^ 7=279936:=by decide
 unfold smK hiK
 omega
end M
end
section
namespace M
open PySem L2
def byN (j:Nat):Str:=ofL [98,121,97 + j]
theorem xuh {i j:Nat} (h:byN i=byN j):i=j:=by
 have:=congrArg L h
 unfold byN at this
 rw [xd9,xd9] at this
 simp at this
 exact this
def NoBy (x:Str):Prop:=∀ j:Nat,x≠byN j
theorem xw4 {l:List Nat} (h:l[0]?≠some 98\/l[1]?≠some 121):NoBy (ofL l):=fun j e=>by
 have:=congrArg L e
 unfold byN at this
 rw [xd9,xd9] at this
 subst this
 simp at h
theorem xl1 {c:Nat} (h:c∈five):c≠98/\c≠121:=by
 revert h
 unfold five
 simp
 omega
theorem xsr {cs:List Nat} (h5:∀ c∈cs,c∈five) (a:Nat) (b:Int) (k:Nat) (t:List Nat) (ht:∀ c∈t,c∈five):NoBy (ofL (nmA cs a b k++t)):=by
 apply xw4
 unfold nmA
 cases hcs:cs.take a with
 | nil=>
  right
  rw [List.nil_append,List.cons_append,List.getElem?_cons_succ]
  intro e
  have hm:=zMG e
  rcases zMA hm with hm | hm
  ·exact (xl1 (h5 _ (List.mem_of_mem_drop hm))).2 rfl
  ·exact (xl1 (ht _ hm)).2 rfl
 | cons c r=>
  left
  intro e
  simp at e
  have:c∈cs.take a:=by rw [hcs]; simp
  exact (xl1 (h5 c (List.mem_of_mem_take this))).1 e
theorem xtx {cs:List Nat} {a:Nat} {b:Int} (h5:∀ c∈cs,c∈five):∀ z∈((List.range 26).map fun k=>ofL (nmA cs a b k)),NoBy z:=fun z hz=>by
 obtain ⟨k,_,rfl⟩:=zMP hz
 have:=xsr h5 a b k [] (fun _ h=>nomatch h)
 rw [List.append_nil] at this
 exact this
theorem xtv {cs:List Nat} {a:Nat} {b:Int} (h5:∀ c∈cs,c∈five):∀ z∈((List.range 26).map fun k=>ofL (nmB cs a b k)),NoBy z:=fun z hz=>by
 obtain ⟨k,_,rfl⟩:=zMP hz
 unfold nmB
 exact xsr h5 a b _ _ fun c hc=>by rw [List.eq_of_mem_replicate hc]; decide
theorem xr8 {i:Nat} (h:i < 8):atI (S "abcdefgh").cps.toList (i:Int)=some (97 + i):=by
 have all:∀ k,k < 8->(S "abcdefgh").cps.toList[k]?=some (97 + k):=by walk_at "k"
 exact xaz (all i h)
theorem xse (i:Nat):S "by"++(⟨#[97 + i]⟩:Str)=byN i:=by
 apply xqx
 rw [xeu,show L (S "by")=[98,121] by walk_at "k"]
 rfl
def BxAt (H:Hp) (f:Addr) (bv:V) (bs:List (Str×Str)):Prop:=∃ bl us,bv=.ref bl/\H bl=some (.lst us)/\RelDs H us (bs.map xek)/\bl≠f
def xxo (bs:List (Str×Str)) (m:Nat):Prop:=∀ b∈bs,∀ j,j < m->b.1≠byN j
def PNB (ks:List Kn):Prop:=∀ k∈ks,∀ p∈k.parts,NoBy p.1
structure TIn (H:Hp) (f:Addr) (kv bv:V) (ks:List Kn) (bs:List (Str×Str)) (m:Nat):Prop where
 fd:∃ p q:Int,H f=some (.lst [.int p,.int q])
 kd:RelD H kv (xb8 ks)
 wf:KWf ks
 nb:PNB ks
 bx:BxAt H f bv bs
 nd:(bs.map (·.1)).Nodup
 bl:bs.length + m<=30
 fr:xxo bs m
 kn:∀ b∈bs,KIn ks 6 b.2
theorem TIn.same {H H':Hp} {f:Addr} {kv bv:V} {ks:List Kn} {bs:List (Str×Str)} {m:Nat} (h:TIn H f kv bv ks bs m) (s:Same H H'):TIn H' f kv bv ks bs m:=by
 obtain ⟨p,q,hf⟩:=h.fd
 obtain ⟨bl,us,e,hb,hu,n⟩:=h.bx
 exact ⟨⟨p,q,s _ _ hf⟩,h.kd.same s _,h.wf,h.nb,⟨bl,us,e,s _ _ hb,hu.same s _,n⟩,h.nd,h.bl,h.fr,h.kn⟩
theorem TIn.fed {H H':Hp} {f:Addr} {kv bv:V} {ks:List Kn} {bs:List (Str×Str)} {m:Nat} (h:TIn H f kv bv ks bs m) (s:Fed f H H'):TIn H' f kv bv ks bs m:=by
 obtain ⟨bl,us,e,hb,hu,n⟩:=h.bx
 exact ⟨s.2,h.kd.tups (xah h.fd s) _,h.wf,h.nb,⟨bl,us,e,s.1 _ _ hb n,hu.tups (xah h.fd s) _,n⟩,h.nd,h.bl,h.fr,h.kn⟩
theorem TIn.down {H:Hp} {f:Addr} {kv bv:V} {ks:List Kn} {bs:List (Str×Str)} {m m':Nat} (h:TIn H f kv bv ks bs m) (l:m'<=m):TIn H f kv bv ks bs m':=
 ⟨h.fd,h.kd,h.wf,h.nb,h.bx,h.nd,by have:=h.bl; omega,fun b hb j hj=>h.fr b hb j (by omega),h.kn⟩
end M
end
section
namespace M
open PySem L2
def ArmN (ks:List Kn) (z:Str):Prop:=(∃ j,z=byN j)\/∃ k∈ks,∃ p∈k.parts,p.1=z
def FitK (ks:List Kn) (bs:List (Str×Str)) (env:En):Prop:=(∀ p∈bs,env p.1=some (.str p.2))/\∀ z,ArmN ks z->(∀ q∈bs,q.1≠z)->env z=none
theorem FitK.put {ks:List Kn} {bs:List (Str×Str)} {env:En} {y k:Str} (h:FitK ks bs env) (hy:∀ p∈bs,p.1≠y):FitK ks (bs++[(y,k)]) (env.put y (.str k)):=by
 refine ⟨fun p hp=>?_,fun z hz hq=>?_⟩
 ·unfold En.put
  rcases zMA hp with hp | hp
  ·rw [if_neg (hy p hp)]; exact h.1 p hp
  ·rw [zMO hp,if_pos rfl]
 ·unfold En.put
  have hzy:y≠z:=hq (y,k) (by simp)
  rw [if_neg (Ne.symm hzy)]
  exact h.2 z hz fun q hq'=>hq q (by simp [hq'])
def TmK (ks:List Kn) (n:Nat) (bs:List (Str×Str)) (d:D) (x:Str):Prop:=∀ env,FitK ks bs env->Kd True ks n env d x
def TmB (ks:List Kn) (n:Nat) (bs:List (Str×Str)) (d:D) (x:Str):Prop:=TmOk ks n bs d x/\TmK ks n bs d x
theorem xp8 {ks:List Kn} {n:Nat} {env:En} {d:D} {x:Str} (h:xnk env d x):Kd True ks n env d x:=by
 cases n with
 | zero=>exact h
 | succ n=>exact .inl h
theorem xom {ks:List Kn} {n:Nat} {bs:List (Str×Str)} {i:Int} (h:Nm i):TmB ks n bs (tNum i) (S "num"):=⟨xun h,fun env _=>xp8 (.inl ⟨i,h,rfl,rfl⟩)⟩
theorem xjc {ks:List Kn} {n:Nat} {bs:List (Str×Str)} {y x:Str} (h:(y,x)∈bs):TmB ks n bs (tBox y) x:=⟨xup h,fun env hf=>xp8 (.inr ⟨y,hf.1 _ h,rfl⟩)⟩
theorem xwi {ks:List Kn} (wf:KWf ks) {n:Nat} {bs:List (Str×Str)} {s:Str} {a b:D} (hs:Sg s) (ha:TmB ks n bs a (S "num")) (hb:TmB ks n bs b (S "num")):TmB ks (n + 1) bs (tOpD s a b) (S "num"):=
 ⟨xwg wf hs ha.1 hb.1,fun env hf=>.inr (.inl ⟨s,a,b,ha.2 env hf,hb.2 env hf,rfl,rfl⟩)⟩
theorem xol {ks:List Kn} {n:Nat} {bs:List (Str×Str)} {x:Str} {k:Kn} {es:List D} (hk:kAt ks x=some k) (hr:k.rc=true) (hl:k.parts.length<=1000) (h:All2 (fun e (p:Str×Str)=>TmB ks n bs e p.2) es k.parts):TmB ks (n + 1) bs (tRec x es) x:=
 ⟨xum hk hr hl (h.imp fun _ _ h=>h.1),fun env hf=>.inr (.inr (.inl ⟨es,k,hk,hr,h.imp fun _ _ h=>h.2 env hf,rfl⟩))⟩
theorem xir {k:Kn} {p:Str×Str} (nd:(k.parts.map (·.1)).Nodup) (hp:p∈k.parts):xh6 k p.1=some p.2:=by
 unfold xh6
 obtain ⟨i,hi,e⟩:=zMI hp
 have:=xb5 (f:=fun r:Str×Str=>r.1) (xs:=k.parts) (i:=i) (a:=p) nd (by rw [<- e]; exact zGA hi)
 rw [this]
 rfl
theorem xur {ks:List Kn} (wf:KWf ks) {n:Nat} {bs:List (Str×Str)} {y:Str} {k:Kn} {a:D} {p:Str×Str} (hk:kAt ks y=some k) (hr:k.rc=true) (hp:p∈k.parts) (h:TmB ks n bs a y):TmB ks (n + 1) bs (tGet a p.1) p.2:=
 ⟨xuo wf hk hr hp h.1,fun env hf=>.inr (.inr (.inr (.inl ⟨a,y,p.1,k,h.2 env hf,hk,hr,xir (wf.pnd k (zMF hk)) hp,rfl⟩)))⟩
theorem xok {ks:List Kn} (wf:KWf ks) {n:Nat} {bs:List (Str×Str)} {x:Str} {k:Kn} {a:D} {p:Str×Str} (hk:kAt ks x=some k) (hr:k.rc=false) (hp:p∈k.parts) (h:TmB ks n bs a p.2):TmB ks (n + 1) bs (tTag x p.1 a) x:=
 ⟨xul hk hr hp h.1,fun env hf=>.inr (.inr (.inr (.inr (.inl ⟨p.1,a,k,p.2,hk,hr,xir (wf.pnd k (zMF hk)) hp,h.2 env hf,rfl⟩))))⟩
theorem xj7 {α β:Type} {f:α->β}:∀ {l:List α},(l.map f).Nodup->∀ {a b:α},a∈l->b∈l->f a=f b->a=b
 | [],_,a,_,ha,_,_=>nomatch ha
 | c :: l,nd,a,b,ha,hb,e=>by
  rw [List.map_cons,List.nodup_cons] at nd
  rcases zMC ha with h1 | h1 <;> rcases zMC hb with h2 | h2
  ·rw [h1,h2]
  ·rw [h1] at e
   exact absurd (by rw [e]; exact List.mem_map_of_mem h2) nd.1
  ·rw [h2] at e
   exact absurd (by rw [<- e]; exact List.mem_map_of_mem h1) nd.1
  ·exact xj7 nd.2 h1 h2 e
theorem xtb {ks:List Kn} (wf:KWf ks) {n:Nat} {bs:List (Str×Str)} {x y:Str} {k:Kn} {a:D} {rs:List (Str×Str×D)} (hk:kAt ks y=some k) (hr:k.rc=false) (ha:TmB ks n bs a y) (hl:rs.length<=1000) (nd:(rs.map (·.1)).Nodup)
  (hlen:rs.length=k.parts.length) (hsub:∀ r∈rs,∃ p∈k.parts,p.1=r.1)
  (h:∀ p∈k.parts,∃ z e,(p.1,z,e)∈rs/\(∀ q∈bs,q.1≠z)/\ArmN ks z/\TmB ks n (bs++[(z,p.2)]) e x):TmB ks (n + 1) bs (xik a rs) x:=by
 have hm:=zMF hk
 refine ⟨xs8 wf hk hr ha.1 hl nd fun p hp=>?_,fun env hf=>.inr (.inr (.inr (.inr (.inr (.inl ⟨True.intro,a,rs,y,k,ha.2 env hf,hk,hr,?_,hlen,nd,fun r hrr=>?_,rfl⟩)))))⟩
 ·obtain ⟨z,e,g1,g2,g3,g4⟩:=h p hp
  exact ⟨z,e,g1,g2,g4.1⟩
 ·intro e
  have h0:k.parts=[]:=List.eq_nil_of_length_eq_zero (by rw [<- hlen,e]; rfl)
  exact wf.alt k hm hr h0
 ·obtain ⟨p,hp,e⟩:=hsub r hrr
  obtain ⟨z,e',g1,g2,g3,g4⟩:=h p hp
  have er:r=(p.1,z,e'):=xj7 nd hrr g1 e.symm
  subst er
  exact ⟨hf.2 z g3 g2,p.2,xir (wf.pnd k hm) hp,g4.2 _ (hf.put g2)⟩
theorem xwj {ks:List Kn} (wf:KWf ks) {n:Nat} {bs:List (Str×Str)} {x:Str} {a b c:D} (ha:TmB ks n bs a (S "num")) (hb:TmB ks n bs b x) (hc:TmB ks n bs c x):TmB ks (n + 1) bs (tIfD a b c) x:=
 ⟨xwh wf ha.1 hb.1 hc.1,fun env hf=>.inr (.inr (.inr (.inr (.inr (.inr ⟨a,b,c,ha.2 env hf,hb.2 env hf,hc.2 env hf,rfl⟩)))))⟩
theorem NodeKd.mono {cs:Prop} {ks:List Kn} {R R':RKn} (k:∀ env d x,R env d x->R' env d x) {env:En} {d:D} {x:Str} (h:NodeKd cs ks R env d x):NodeKd cs ks R' env d x:=by
 rcases h with ⟨s,a,b,h1,h2,r⟩ | ⟨es,kn,h1,h2,h3,r⟩ | ⟨a,k1,f,kn,h1,r⟩ | ⟨t,a,kn,k1,h1,h2,h3,h4,r⟩ | ⟨hc,a,rs,k1,kn,h1,h2,h3,h4,h5,h6,h7,r⟩ | ⟨a,b,c,h1,h2,h3,r⟩
 ·exact .inl ⟨s,a,b,k _ _ _ h1,k _ _ _ h2,r⟩
 ·exact .inr (.inl ⟨es,kn,h1,h2,h3.imp fun _ _ h=>k _ _ _ h,r⟩)
 ·exact .inr (.inr (.inl ⟨a,k1,f,kn,k _ _ _ h1,r⟩))
 ·exact .inr (.inr (.inr (.inl ⟨t,a,kn,k1,h1,h2,h3,k _ _ _ h4,r⟩)))
 ·refine .inr (.inr (.inr (.inr (.inl ⟨hc,a,rs,k1,kn,k _ _ _ h1,h2,h3,h4,h5,h6,fun r hr=>?_,r⟩))))
  obtain ⟨g1,k2,g2,g3⟩:=h7 r hr
  exact ⟨g1,k2,g2,k _ _ _ g3⟩
 ·exact .inr (.inr (.inr (.inr (.inr ⟨a,b,c,k _ _ _ h1,k _ _ _ h2,k _ _ _ h3,r⟩))))
theorem xvt {cs:Prop} {ks:List Kn}:∀ (n:Nat) (env:En) (d:D) (x:Str),Kd cs ks n env d x->Kd cs ks (n + 1) env d x
 | 0,_,_,_,h=>.inl h
 | n + 1,env,d,x,h=>by
  rcases h with h | h
  ·exact .inl h
  ·exact .inr (h.mono (xvt n))
theorem xvu {cs:Prop} {ks:List Kn} {n m:Nat} (l:n<=m) {env:En} {d:D} {x:Str} (h:Kd cs ks n env d x):Kd cs ks m env d x:=by
 obtain ⟨k,rfl⟩:∃ k,m=n + k:=⟨m - n,by omega⟩
 clear l
 induction k with
 | zero=>exact h
 | succ k ih=>exact xvt _ _ _ _ ih
def NoMo (x:Str):Prop:=x≠S "more"
theorem xw1 {l:List Nat} (h:l[0]?≠some 109\/l[1]?≠some 111):NoMo (ofL l):=fun e=>by
 have:=congrArg L e
 rw [xd9,show L (S "more")=[109,111,114,101] by walk_at "k"] at this
 subst this
 simp at h
theorem xl0 {c:Nat} (h:c∈five):c≠109/\c≠111:=by
 revert h
 unfold five
 simp
 omega
theorem xsq {cs:List Nat} (h5:∀ c∈cs,c∈five) (a:Nat) (b:Int) (k:Nat) (t:List Nat) (ht:∀ c∈t,c∈five):NoMo (ofL (nmA cs a b k++t)):=by
 apply xw1
 unfold nmA
 cases hcs:cs.take a with
 | nil=>
  right
  rw [List.nil_append,List.cons_append,List.getElem?_cons_succ]
  intro e
  have hm:=zMG e
  rcases zMA hm with hm | hm
  ·exact (xl0 (h5 _ (List.mem_of_mem_drop hm))).2 rfl
  ·exact (xl0 (ht _ hm)).2 rfl
 | cons c r=>
  left
  intro e
  simp at e
  have:c∈cs.take a:=by rw [hcs]; simp
  exact (xl0 (h5 c (List.mem_of_mem_take this))).1 e
theorem xtw {cs:List Nat} {a:Nat} {b:Int} (h5:∀ c∈cs,c∈five):∀ z∈((List.range 26).map fun k=>ofL (nmA cs a b k)),NoMo z:=fun z hz=>by
 obtain ⟨k,_,rfl⟩:=zMP hz
 have:=xsq h5 a b k [] (fun _ h=>nomatch h)
 rw [List.append_nil] at this
 exact this
theorem xtu {cs:List Nat} {a:Nat} {b:Int} (h5:∀ c∈cs,c∈five):∀ z∈((List.range 26).map fun k=>ofL (nmB cs a b k)),NoMo z:=fun z hz=>by
 obtain ⟨k,_,rfl⟩:=zMP hz
 unfold nmB
 exact xsq h5 a b _ _ fun c hc=>by rw [List.eq_of_mem_replicate hc]; decide
end M
end
section
namespace PySem
open Sem (wp)
section
variable {prog:Program} {w:World} {A:Around} {E:Value->Shared->Prop} {s:Shared}
theorem xf3 {a:Addr} {xs:Array Value} {k:Nat} {sl:Array (Option Value)} {name:Str} {Q:Option Value->Shared->Prop}
  (hx:s.heap.get? a=some { cls:=.type "tuple",dict:=none,data:=.seq xs k,slots:=sl }) (hmiss:typeLookup (.type "tuple") name=pure none) (hname:(["__module__","__name__","__qualname__","__doc__","__annotations__"]:List Str).contains name=false) (hA:A.handled=none)
  (h:∀ h' tk,(∀ b o,s.heap.get? b=some o->h'.get? b=some o)->Q none { s with heap:=h',toks:=tk }) (hsz:name.length + 100<=sizeLine) :
  wpAny (model prog w) A (getAttr? (.ref a) name) Q E s:=by
 obtain ⟨hp,g,d,tk,os⟩:=s
 have hT:∀ tk',(⟨hp,g,d,tk',os⟩:Shared).TypeIs (.ref a) "tuple":=fun _=>⟨_,hx,rfl⟩
 have f1:=sub_AttributeError
 have f3:=F.slot_tuple_getattribute.lookup
 have f4:=F.slot_tuple_getattribute.bind (.ref a)
 have f5:=am_tuple_getattr_none
 unfold getAttr? getAttrBy? getAttrBy
 repeat (any_goals (first | assumption | exact hT _ | ((with_reducible show wpAny _ _ (call (Value.builtin "tuple.__getattribute__") _ _) _ _ _); refine call_meets F.slot_tuple_getattribute (hT _) am_entry_tuple_getattribute (F.args_tuple_getattribute_2 _ _) (meets_getattribute_miss_tuple a xs k sl name _ hmiss hname hsz) ⟨hx,hA,fun h' tk' e hx'=>?_⟩) | wp_step))
 obtain ⟨t',u',he⟩:=hx'.there
 show wpAny _ _ (getattributeRaised _ _ _ _ _ _ _) _ _ _
 unfold getattributeRaised
 repeat (any_goals (first | assumption | wp_step))
 all_goals first | exact h _ _ hx'.keeps | skip
end
end PySem
namespace L2
open PySem PySem.Spec PyProof.Rows
section
variable {prog:Program} {w:World} {A:Around} {K:Type} [DecidableEq K] {knd:KeyKind prog w K}
theorem xf8 {h:Heap} {a I l:Addr} {i:Nat} {xs:Array Value} (ht:h.IsTuple a xs) (hd:h.IsTupleIter I l i):a≠I:=fun e=>by
 subst e
 obtain ⟨o,ho,hc,_⟩:=ht
 obtain ⟨t,ht2,hc2,_⟩:=hd
 have:o=t:=Option.some.inj (ho.symm.trans ht2)
 subst this
 rw [hc] at hc2
 exact absurd (Value.type.inj hc2) (by decide)
theorem xof {R:Result->Shared->Prop} {I l d:Addr} {its:List Value} {ps:List (K×Value)} (hh:A.in1.handled=none) (hne:l≠I) (hdl:l≠d) (hdI:I≠d) :
    ∀ (k i:Nat) (s:Shared) (cur:List (K×Value)),its.length - i=k->i<=its.length->s.heap.IsTupleIter I l i->s.heap.IsTuple l its.toArray->s.heap.DictOf knd d cur->PairsAt knd s.heap (its.drop i) (ps.drop i)->cur.length + (its.length - i)<=sizeLine->
    (∀ h' tk,h'.DictOf knd d (merged cur (ps.drop i))->(∀ b o,b≠d->b≠I->s.heap.get? b=some o->h'.get? b=some o)->R (.ok (.ret .none)) { s with heap:=h',toks:=tk })->
    codeAny (model prog w) A (.builtin "dict.update.loop" ⟨[.ref d,.ref I,rawInt i,.none],[]⟩) R s:=by
  intro k
  induction k with
  | zero=>
    intro i s cur hk hi hit hl hd hp hsz hR
    have hin:i=its.length:=by omega
    have W:=Walks.tuple (prog:=prog) (w:=w) (A:=A.in1) hh I l hne its.toArray
    refine codeAny_builtin xbx ?_
    rw [Around.under_plainId xa3 _]
    show wpAny _ A.in1 (pyNext (.ref I) >>= _) _ _ s
    refine wpAny_bind (W.done s _ _ (by have e : its.toArray.size = i := by simp [hin]
                                        rw [e]; exact ⟨hit,hl⟩) fun h' tk hk'=>?_)
    show wpAny _ _ (Builtin.Dict.addKeywords d [] >>= _) _ _ _
    refine wpAny_bind (wpAny_pure (wpAny_pure ?_))
    have hps:ps.drop i=[]:=by
      rw [hin,List.drop_length] at hp
      rw [hin]
      cases hq:ps.drop its.length with
      | nil=>rfl
      | cons p r=>rw [hq] at hp; exact hp.elim
    refine hR h' tk ?_ fun b o hb hbI e=>hk' b o (by simpa using hbI) e
    rw [hps]
    exact hd.at fun o e=>hk' d o (by simpa using (Ne.symm hdI)) e
  | succ k ih=>
    intro i s cur hk hi hit hl hd hp hsz hR
    have hlt:i < its.length:=by omega
    have W:=Walks.tuple (prog:=prog) (w:=w) (A:=A.in1) hh I l hne its.toArray
    have hdi:its.drop i=its[i] :: its.drop (i + 1):=List.drop_eq_getElem_cons hlt
    rw [hdi] at hp
    obtain ⟨p,r,hpe⟩:∃ p r,ps.drop i=p :: r:=by
      cases hq:ps.drop i with
      | nil=>rw [hq] at hp; exact hp.elim
      | cons p r=>exact ⟨p,r,rfl⟩
    have hpr:ps.drop (i + 1)=r:=by rw [<- List.tail_drop,hpe]; rfl
    rw [hpe] at hp
    obtain ⟨⟨a,key,ea,hta,hkey⟩,hrest⟩:=hp
    refine codeAny_builtin xbx ?_
    rw [Around.under_plainId xa3 _]
    show wpAny _ A.in1 (pyNext (.ref I) >>= _) _ _ s
    refine wpAny_bind (W.item i s _ _ (by simpa using hlt) ⟨hit,hl⟩ fun v h' tk hP hst' hk'=>?_)
    have hv:v=.ref a:=by
      have:its[i]?=some v:=by simpa using hP
      rw [zGA hlt,ea] at this
      exact (Option.some.inj this).symm
    subst hv
    have hta':h'.IsTuple a #[key,p.2]:=hta.at fun o e=>hk' a o (by simpa using xf8 hta hit) e
    have hd':h'.DictOf knd d cur:=hd.at fun o e=>hk' d o (by simpa using (Ne.symm hdI)) e
    obtain ⟨oa,hoa,hca,na,hda⟩:=id hta'
    refine wpAny_bind (wpAny_holding (wpAny_bind (wpAny_tryCatch ?_)))
    unfold Builtin.Dict.pairItems
    refine wpAny_bind (wpAny_typeOf ⟨oa,hoa,hca⟩ ?_)
    rw [if_pos (by decide)]
    refine wpAny_bind (wpAny_seqItems hoa hda (wpAny_pure ?_))
    show wpAny _ _ (holding [key,p.2] (dictSet d key p.2)) _ _ _
    refine wpAny_holding (wpAny_dictSet_pairs hkey hd' (fun h2 hd2 hs2=>?_) (by omega))
    have st2:h2.IsTupleIter I l (i + 1)/\h2.IsTuple l its.toArray:=⟨hst'.1.at fun o e=>(hs2.2 I hdI).trans e,hst'.2.at fun o e=>(hs2.2 l hdl).trans e⟩
    refine wpAny_pure ⟨plainId_quiet xa3 _,ih (i + 1) _ _ (by omega) hlt st2.1 st2.2 hd2 ?_ ?_ fun h3 tk3 hd3 hk3=>?_⟩
    · rw [hpr]
      exact hrest.keep fun b xs hb=>by
        have h1:h'.IsTuple b xs:=hb.at fun o e=>hk' b o (by simpa using xf8 hb hit) e
        exact h1.at fun o e=>(hs2.2 b (xgy h1 hd')).trans e
    · have:=stored_length_le cur p.1 p.2
      omega
    · refine hR h3 tk3 ?_ fun b o hb hbI e=>hk3 b o hb hbI ((hs2.2 b hb).trans (hk' b o (by simpa using hbI) e))
      rw [hpe]
      rw [hpr] at hd3
      exact hd3
end
end L2
namespace L2
open PySem PySem.Spec PyProof.Rows
theorem xk9:typeLookup (.type "tuple") "keys"=pure none:=am_miss_of_fast (by kernel_rfl)
section
variable {prog:Program} {w:World} {A:Around} {E:Value->Shared->Prop} {s:Shared} {K:Type} [DecidableEq K] {knd:KeyKind prog w K}
theorem xl6 {l:Addr} {its:List Value} {n:Nat} {sl:Array (Option Value)} {ps:List (K×Value)} {Q:Value->Shared->Prop} (hh:A.handled=none) (hl:s.heap.get? l=some { cls:=.type "tuple",data:=.seq its.toArray n,dict:=none,slots:=sl }) (hp:PairsAt knd s.heap its ps) (hsz:its.length<=sizeLine)
  (h:∀ h' tk,h'.DictOf knd s.heap.objs.size (merged [] ps)->(∀ b o,s.heap.get? b=some o->h'.get? b=some o)->Q (.ref s.heap.objs.size) { s with heap:=h',toks:=tk }) :
  wpAny (model prog w) A (call (.type "dict") [.ref l]) Q E s:=by
 refine callType_codes (Q₁:=fun obj s₁=>obj=.ref s.heap.objs.size/\s₁={ s with heap:=s.heap.push { cls:=.type "dict",data:=.dict #[] } }) F.kt_called_dict (F.kt_typeCall_dict_1 _) F.entry_dict_init (kt_code_dict_new _ ⟨rfl,rfl⟩) ?_
 rintro obj s₁ ⟨rfl,rfl⟩
 have hnew:(s.heap.push { cls:=.type "dict",data:=.dict #[] }).DictOf knd s.heap.objs.size []:=Heap.DictOf.new s.heap
 have ext0:∀ b o,s.heap.get? b=some o->(s.heap.push { cls:=.type "dict",data:=.dict #[] }).get? b=some o:=fun b o e=>zPO _ e
 have hl0:=ext0 _ _ hl
 have hT:(⟨s.heap.push { cls:=.type "dict",data:=.dict #[] },s.gens,s.drawn,s.toks,s.os⟩:Shared).TypeIs (.ref l) "tuple":=⟨_,hl0,rfl⟩
 have hdl:l≠s.heap.objs.size:=fun e=>absurd (Heap.lt_size hl) (by rw [e]; exact Nat.lt_irrefl _)
 refine ⟨hnew.typeIs,F.args_dict_init_2 _ _,?_⟩
 unfold Builtin.«dict.__init__»
 refine wpAny_bind ?_
 unfold Builtin.Dict.selfAndRest
 refine wpAny_bind (wpAny_notOrdered_dict hnew.typeIs ?_)
 show wpAny _ _ (pure (s.heap.objs.size,[Value.ref l])) _ _ _
 refine wpAny_pure ?_
 show wpAny _ _ (Builtin.Dict.updateFrom "dict.__init__" s.heap.objs.size (.ref l) [] .none) _ _ _
 unfold Builtin.Dict.updateFrom
 refine wpAny_bind (wpAny_typeOf hT ?_)
 rw [if_pos (by decide)]
 refine wpAny_bind (xf3 (sl:=sl) hl0 xk9 (by walk_at "k") hh (fun h1 tk1 k1=>?_) (by walk_at "k"))
 rw [if_pos (show (none:Option Value).isNone=true from rfl)]
 refine wpAny_bind (wpAny_rule ?_)
 have hl1:=k1 _ _ hl0
 have hL1:h1.IsTuple l its.toArray:=⟨_,hl1,rfl,_,rfl⟩
 refine wpAny_bind (wpAny_pyIter_tuple hL1 (wpAny_pure ⟨plainId_quiet xa3 _,?_⟩))
 have hsz1:s.heap.objs.size < h1.objs.size:=Heap.lt_size (k1 _ _ (Heap.get?_push_size _ rfl))
 have hlI:l < h1.objs.size:=Heap.lt_size hl1
 have ext2:∀ b o,h1.get? b=some o->(h1.push { cls:=.type "tuple_iterator",data:=.fields #[.ref l,.int 0 0] }).get? b=some o:=fun b o e=>zPO _ e
 refine xof (knd:=knd) (A:=A.in1) (ps:=ps) (l:=l) (d:=s.heap.objs.size) (its:=its) hh (Nat.ne_of_lt hlI) hdl (Nat.ne_of_gt hsz1) its.length 0 _ [] (Nat.sub_zero _) (Nat.zero_le _) ⟨_,Heap.get?_push_size _ rfl,rfl,rfl⟩ (hL1.push _) (hnew.at fun o e=>ext2 _ _ (k1 _ _ e)) (hp.keep fun a xs ha=>ha.at fun o e=>ext2 _ _ (k1 _ _ (ext0 _ _ e))) (by simpa using hsz) fun h3 tk3 hd3 hk3=>?_
 refine ⟨rfl,h h3 tk3 hd3 fun b o e=>hk3 b o ?_ ?_ (ext2 _ _ (k1 _ _ (ext0 _ _ e)))⟩
 ·exact fun z=>absurd (Heap.lt_size e) (by rw [z]; exact Nat.lt_irrefl _)
 ·exact fun z=>absurd (Heap.lt_size e) (by rw [z]; exact Nat.not_lt_of_gt hsz1)
end
end L2
namespace L2
open PySem PySem.Spec PyProof.Rows
section
variable {X:Cx}
theorem xdv (hc:X.calm=true):xew X (.type "dict") (fun xs H Q=>∃ a ys,∃ kvs:List (Key×V),xs=[.ref a]/\H a=some (.tup ys)/\PairsV H ys kvs/\∀ p,H p=none->Q (.ref p) (upd H p (.dK (xaw [] kvs)))):=by
 intro pins s σ H xs us Q I r h
 obtain ⟨a,ys,kvs,rfl,ha,hp,q⟩:=h
 obtain ⟨u,rfl,ru⟩:=xfb r
 obtain rfl:u=.ref a:=ru
 obtain ⟨hz,its,rv,⟨oc,od,dt,sl⟩,ho,h1,n,h2,h3⟩:=(show ObjOk X.prog X.w H s.heap a (.tup ys) from I.hok a _ ha)
 simp only at h1 h2 h3
 subst h1 h2 h3
 obtain ⟨ps,hk,hpa⟩:=xis I rv hp
 have hyl:=hp.length
 refine xl6 (knd:=xbs X.prog X.w) (I.ok.hd hc) ho hpa (by rw [<- rv.length]; exact hz) fun h' tk dd' k'=>?_
 have hz':(xaw [] kvs).length<=sizeLine:=by
  have:=xb2 kvs []
  rw [List.length_nil] at this
  omega
 exact ⟨.ref s.heap.objs.size,_,I.laid (a:=s.heap.objs.size) (o:=.dK (xaw [] kvs)) (t':=tk) k' (Nat.le_refl _) (xid hz' (beq_eq_false_iff_ne.mpr (Ne.symm (Nat.ne_of_lt I.big))) (hk.merge .nil) dd'),rfl,q _ (I.hok.fresh (Nat.le_refl _))⟩
end
end L2
end
section
namespace M
open PySem L2
abbrev Wy:=Str×Str×D
def wyD (y:Wy):D:=.tup [.str y.2.1,y.2.2]
def WAll (H:Hp):List (Key×V)->List Wy->Prop
 | [],[]=>True
 | kv :: kvs,y :: ys=>(kv.1=Sum.inr y.1/\RelD H kv.2 (wyD y))/\WAll H kvs ys
 | _,_=>False
theorem WAll.len {H:Hp}:∀ {kvs:List (Key×V)} {ys:List Wy},WAll H kvs ys->kvs.length=ys.length
 | [],[],_=>rfl
 | kv :: kvs,y :: ys,h=>by rw [List.length_cons,List.length_cons,WAll.len h.2]
theorem WAll.tups {H H':Hp} (s:∀ b us,H b=some (.tup us)->H' b=some (.tup us)):∀ {kvs:List (Key×V)} {ys:List Wy},WAll H kvs ys->WAll H' kvs ys
 | [],[],_=>trivial
 | kv :: kvs,y :: ys,h=>⟨⟨h.1.1,h.1.2.tups s _⟩,WAll.tups s h.2⟩
theorem WAll.snoc {H:Hp} {kv:Key×V} {y:Wy} (h:kv.1=Sum.inr y.1/\RelD H kv.2 (wyD y)):∀ {kvs:List (Key×V)} {ys:List Wy},WAll H kvs ys->WAll H (kvs++[kv]) (ys++[y])
 | [],[],_=>⟨h,trivial⟩
 | kv' :: kvs,y' :: ys,g=>⟨g.1,WAll.snoc h g.2⟩
def wyAt (ys:List Wy) (x:Str):Option Wy:=ys.find? fun y=>decide (y.1=x)
def xau (ys:List Wy) (x:Str):Option Str:=if x=S "num" then some (S "num") else (wyAt ys x).map fun y=>y.2.1
def optV:Option Str->V
 | some x=>.str x
 | none=>.non
def WaysAt (H:Hp) (a:Addr) (ys:List Wy):Prop:=∃ kvs:List (Key×V),Rd H a (.dK kvs)/\WAll H kvs ys
theorem WAll.val {H:Hp} {x:Str}:∀ {kvs:List (Key×V)} {ys:List Wy},WAll H kvs ys->(wyAt ys x=none->valV kvs (Sum.inr x:Key)=none)/\∀ y,wyAt ys x=some y->∃ v,valV kvs (Sum.inr x:Key)=some v/\RelD H v (wyD y)
 | [],[],_=>⟨fun _=>rfl,fun y e=>(by cases e)⟩
 | kv :: kvs,y :: ys,h=>by
  have ih:=WAll.val (x:=x) h.2
  unfold wyAt valV at *
  rw [List.find?_cons,List.find?_cons]
  by_cases c:y.1=x
  ·have c':kv.1=Sum.inr x:=by rw [h.1.1,c]
   rw [zDT c,zDT c']
   exact ⟨fun e=>(by cases e),fun z e=>by cases e; exact ⟨kv.2,rfl,h.1.2⟩⟩
  ·have c':¬ kv.1=Sum.inr x:=fun z=>c (Sum.inr.inj (h.1.1.symm.trans z))
   rw [zDF c,zDF c']
   exact ih
theorem Rd.same {H H':Hp} {a:Addr} {u:HO} (h:Rd H a u) (s:Same H H'):Rd H' a u:=by
 rcases h with h | ⟨o,h⟩
 ·exact .inl (s _ _ h)
 ·exact .inr ⟨o,s _ _ h⟩
theorem WaysAt.same {H H':Hp} {a:Addr} {ys:List Wy} (h:WaysAt H a ys) (s:Same H H'):WaysAt H' a ys:=by
 obtain ⟨kvs,h1,h2⟩:=h
 exact ⟨kvs,Rd.same h1 s,h2.tups fun b us e=>s _ _ e⟩
theorem DGet.rd {H:Hp} {a:Addr} {kvs:List (Key×V)} {k:Key} (e:Rd H a (.dK kvs)):DGet H a (kV k) (valV kvs k):=.inl ⟨kvs,k,e,rfl,rfl⟩
end M
end
section
namespace M
open PySem L2
theorem xdz {ks:List Kn} (nd:(ks.map Kn.name).Nodup) {k:Kn} (hk:k∈ks):kAt ks k.name=some k:=by
 obtain ⟨i,hi,e⟩:=zMI hk
 exact xb5 (f:=Kn.name) (xs:=ks) (i:=i) (a:=k) nd (by rw [<- e]; exact zGA hi)
end M
end
section
namespace M
open PySem L2
def xd7 (olds:List (Str×Str)) (x:Str):Option Str:=(olds.find? fun p=>decide (p.1=x)).map fun p=>p.2
theorem xmv {olds:List (Str×Str)} {x k:Str} (h:xd7 olds x=some k):(x,k)∈olds:=by
 unfold xd7 at h
 obtain ⟨p,hp,e⟩:=zMS h
 have h1:p.1=x:=by
  have:=List.find?_some hp
  exact of_decide_eq_true this
 have:=zMF hp
 rw [<- h1,<- e]
 exact this
theorem xvh {olds:List (Str×Str)} (nd:(olds.map (·.1)).Nodup) {p:Str×Str} (hp:p∈olds):xd7 olds p.1=some p.2:=by
 unfold xd7
 obtain ⟨i,hi,e⟩:=zMI hp
 rw [xb5 (f:=fun r:Str×Str=>r.1) (xs:=olds) (i:=i) (a:=p) nd (by rw [<- e]; exact zGA hi)]
 rfl
def okQ (ys:List Wy) (olds:List (Str×Str)) (q:Str×Str):Bool:=match xd7 olds q.1 with
 | none=>true
 | some k=>decide (xau ys k=some q.2)
def tmQ (ks2:List Kn) (olds:List (Str×Str)) (q:Str×Str):D:=match xd7 olds q.1 with
 | none=>nuT 7 ks2 q.2
 | some _=>tBox q.1
def okT (ys:List Wy) (news:List (Str×Str)) (p:Str×Str):Bool:=match xd7 news p.1 with
 | none=>false
 | some g=>decide (xau ys p.2=some g)
def xq2 (k:Kn):D:=.tup (k.parts.map fun p=>.tup [.str p.1,tTag k.name p.1 (tBox (S "it"))])
def xde (ks2:List Kn) (ys:List Wy) (k:Kn):Option D:=match kAt ks2 k.name with
  | none=>none
  | some k2=>if k2.rc=k.rc then
      (if k.rc=true then (if k2.parts.all (okQ ys k.parts)=true then some (tRec k.name (k2.parts.map (tmQ ks2 k.parts))) else none)
       else (if k.parts.all (okT ys k2.parts)=true then some (xq2 k) else none))
    else none
def xe2 (ks2:List Kn) (ys:List Wy) (k:Kn):List Wy:=match wyAt ys k.name with
 | some _=>ys
 | none=>match xde ks2 ys k with
  | none=>ys
  | some d=>ys++[(k.name,k.name,d)]
def xbp (ks2 ks:List Kn) (told:List Wy):List Wy:=ks.foldl (xe2 ks2) told
theorem xfu (ks2 ks:List Kn) (k:Kn) (told:List Wy):xbp ks2 (ks++[k]) told=xe2 ks2 (xbp ks2 ks told) k:=by
 unfold xbp
 rw [List.foldl_append]
 rfl
theorem xn9 (ks2 as bs:List Kn) (told:List Wy):xbp ks2 (as++bs) told=xbp ks2 bs (xbp ks2 as told):=by
 unfold xbp
 rw [List.foldl_append]
theorem xk5 (ys:List Wy) (y:Wy) (x:Str):wyAt (ys++[y]) x=match wyAt ys x with
  | some z=>some z
  | none=>if y.1=x then some y else none:=by
 unfold wyAt
 rw [List.find?_append]
 cases h:ys.find? fun y=>decide (y.1=x) with
 | some z=>rfl
 | none=>
  rw [Option.none_or,List.find?_cons]
  by_cases c:y.1=x
  ·rw [zDT c,if_pos c]
  ·rw [zDF c,if_neg c]
   rfl
theorem xhz {ys:List Wy} {y:Wy} {x:Str} (h:y.1≠x):wyAt (ys++[y]) x=wyAt ys x:=by
 rw [xk5]
 cases wyAt ys x with
 | some z=>rfl
 | none=>rw [if_neg h]
theorem xgu {ys:List Wy} {x:Str} {y:Wy} (h:wyAt ys x=some y):y.1=x/\y∈ys:=by
 unfold wyAt at h
 have h2:=List.find?_some h
 exact ⟨of_decide_eq_true h2,zMF h⟩
theorem xqy {ks2:List Kn} {ys:List Wy} {k:Kn} {x:Str} (h:k.name≠x):wyAt (xe2 ks2 ys k) x=wyAt ys x:=by
 unfold xe2
 cases wyAt ys k.name with
 | some z=>rfl
 | none=>
  cases xde ks2 ys k with
  | none=>rfl
  | some d=>exact xhz h
theorem xmg {ks2:List Kn} {x:Str}:∀ {ks:List Kn} {ys:List Wy},(∀ k∈ks,k.name≠x)->wyAt (xbp ks2 ks ys) x=wyAt ys x
 | [],ys,_=>rfl
 | k :: ks,ys,h=>by
  show wyAt (xbp ks2 ks (xe2 ks2 ys k)) x=_
  rw [xmg fun k' hk=>h k' (by simp [hk]),xqy (h k (by simp))]
theorem xf1 {ys ys':List Wy} {x:Str} (h:wyAt ys x=wyAt ys' x):xau ys x=xau ys' x:=by
 unfold xau
 rw [h]
theorem xhs {α:Type} {f g:α->Bool}:∀ {l:List α},(∀ a∈l,f a=g a)->l.all f=l.all g
 | [],_=>rfl
 | a :: l,h=>by rw [List.all_cons,List.all_cons,h a (by simp),xhs fun b hb=>h b (by simp [hb])]
theorem xkk {ks2:List Kn} {ys ys':List Wy} {k:Kn} (h:∀ p∈k.parts,xau ys p.2=xau ys' p.2):xde ks2 ys k=xde ks2 ys' k:=by
 have hq:∀ q,okQ ys k.parts q=okQ ys' k.parts q:=fun q=>by
  unfold okQ
  cases e:xd7 k.parts q.1 with
  | none=>rfl
  | some z=>
   show decide (xau ys z=some q.2)=decide (xau ys' z=some q.2)
   rw [h _ (xmv e)]
 have ht:∀ news,∀ p∈k.parts,okT ys news p=okT ys' news p:=fun news p hp=>by
  unfold okT
  cases e:xd7 news p.1 with
  | none=>rfl
  | some g=>
   show decide (xau ys p.2=some g)=decide (xau ys' p.2=some g)
   rw [h p hp]
 unfold xde
 cases kAt ks2 k.name with
 | none=>rfl
 | some k2=>
  show (if k2.rc=k.rc then _ else _)=(if k2.rc=k.rc then _ else _)
  rw [xhs (l:=k2.parts) fun q _=>hq q,xhs (l:=k.parts) (ht k2.parts)]
theorem xfh {ks:List Kn} (nd:(ks.map Kn.name).Nodup) {i j:Nat} {k k':Kn} (hi:ks[i]?=some k) (hj:ks[j]?=some k') (e:k.name=k'.name):i=j:=by
 have h1:(ks.map Kn.name)[i]?=some k.name:=by rw [zGM,hi]; rfl
 have h2:(ks.map Kn.name)[j]?=some k.name:=by rw [zGM,hj,e]; rfl
 have hl:=(zES hi).1
 exact (List.getElem?_inj (by rw [zLM]; exact hl) nd).mp (h1.trans h2.symm)
def xnl (ks:List Kn) (i:Nat) (x:Str):Prop:=x=S "num"\/∃ j,∃ k':Kn,j < i/\ks[j]?=some k'/\k'.name=x
theorem xd4 (ys:List Wy):xau ys (S "num")=some (S "num"):=by unfold xau; rw [if_pos rfl]
theorem xhk {ks:List Kn} (wf:KWf ks) {ks2:List Kn} {told:List Wy} {i:Nat} {x:Str} (h:xnl ks i x):xau (xbp ks2 ks told) x=xau (xbp ks2 (ks.take i) told) x:=by
 rcases h with rfl | ⟨j,k',hj,hk,rfl⟩
 ·rw [xd4,xd4]
 ·apply xf1
  conv=>lhs; rw [<- List.take_append_drop i ks]
  rw [xn9]
  refine xmg fun k hk2 e=>?_
  obtain ⟨l,hl,e2⟩:=zMI hk2
  have h2:ks[i + l]?=some k:=by
   rw [<- e2,List.getElem_drop]
   rw [List.length_drop] at hl
   exact zGA (by omega)
  have:=xfh wf.nd h2 hk e
  omega
theorem xjd {ks:List Kn} {i:Nat} {k:Kn} (h:ks[i]?=some k):ks.take (i + 1)=ks.take i++[k]:=by
 rw [zTA,h]
 rfl
theorem xja {ks:List Kn} (wf:KWf ks) {ks2:List Kn} {told:List Wy} {y:Wy} {i:Nat} {k0:Kn} (h0:ks[i]?=some k0) (hy:y.1=k0.name):∀ j,j<=i->∀ x,x≠y.1->wyAt (xbp ks2 (ks.take j) (told++[y])) x=wyAt (xbp ks2 (ks.take j) told) x
 | 0,_,x,hx=>by
  rw [List.take_zero]
  exact xhz (Ne.symm hx)
 | j + 1,hj,x,hx=>by
  have ih:=xja wf (ks2:=ks2) (told:=told) h0 hy j (by omega)
  have hi:=(zES h0).1
  obtain ⟨k,hk⟩:∃ k,ks[j]?=some k:=⟨ks[j],zGA (by omega)⟩
  have hkn:k.name≠y.1:=fun e=>by
   have:=xfh wf.nd hk h0 (by rw [e,hy])
   omega
  rw [xjd hk,xfu,xfu]
  have hb:xde ks2 (xbp ks2 (ks.take j) (told++[y])) k=xde ks2 (xbp ks2 (ks.take j) told) k:=xkk fun p hp=>by
   rcases wf.ref j k hk p hp with z | ⟨l,k',hl,hk',e⟩
   ·rw [z,xd4,xd4]
   ·refine xf1 (ih p.2 fun e2=>?_)
    have:=xfh wf.nd hk' h0 (by rw [e,e2,hy])
    omega
  have hw:=ih k.name hkn
  have hx':=ih x hx
  unfold xe2
  rw [hw,hb]
  cases wyAt (xbp ks2 (ks.take j) told) k.name with
  | some z=>exact hx'
  | none=>
   cases xde ks2 (xbp ks2 (ks.take j) told) k with
   | none=>exact hx'
   | some d=>
    show wyAt (_++[_]) x=wyAt (_++[_]) x
    rw [xk5,xk5,hx']
theorem xqe {ks:List Kn} (wf:KWf ks) {ks2:List Kn} {told:List Wy} {y:Wy} {i:Nat} {k0:Kn} (h0:ks[i]?=some k0) (hy:y.1=k0.name) {x:Str} (h:xnl ks i x):xau (xbp ks2 ks (told++[y])) x=xau (xbp ks2 ks told) x:=by
 rw [xhk wf h,xhk wf h]
 rcases h with rfl | ⟨j,k',hj,hk,rfl⟩
 ·rw [xd4,xd4]
 ·refine xf1 (xja wf h0 hy i (Nat.le_refl _) _ fun e=>?_)
  have:=xfh wf.nd hk h0 (by rw [e,hy])
  omega
def xb7 (ys:List Wy) (ps:List (Str×Str)):List (Str×Str):=ps.filterMap fun p=>(xau ys p.2).map fun g=>(p.1,g)
theorem xfw {ys ys':List Wy}:∀ {ps:List (Str×Str)},(∀ p∈ps,xau ys p.2=xau ys' p.2)->xb7 ys ps=xb7 ys' ps
 | [],_=>rfl
 | p :: ps,h=>by
  unfold xb7
  rw [List.filterMap_cons,List.filterMap_cons,h p (by simp)]
  have:=xfw (ps:=ps) fun q hq=>h q (by simp [hq])
  unfold xb7 at this
  rw [this]
theorem xph {ys:List Wy} {ps:List (Str×Str)} {p:Str×Str} {g:Str} (hp:p∈ps) (h:xau ys p.2=some g):(p.1,g)∈xb7 ys ps:=by
 unfold xb7
 exact List.mem_filterMap.mpr ⟨p,hp,by rw [h]; rfl⟩
theorem xg8 {ys:List Wy} {ps:List (Str×Str)} {b:Str×Str} (h:b∈xb7 ys ps):∃ p∈ps,p.1=b.1/\xau ys p.2=some b.2:=by
 unfold xb7 at h
 obtain ⟨p,hp,e⟩:=List.mem_filterMap.mp h
 obtain ⟨g,hg,rfl⟩:=zMS e
 exact ⟨p,hp,rfl,hg⟩
theorem xh7 {ys:List Wy}:∀ {ps:List (Str×Str)},((xb7 ys ps).map (·.1)).Sublist (ps.map (·.1))
 | []=>.slnil
 | p :: ps=>by
  have ih:=xh7 (ys:=ys) (ps:=ps)
  unfold xb7 at ih ⊢
  rw [List.filterMap_cons]
  cases xau ys p.2 with
  | none=>exact ih.cons _
  | some g=>exact ih.cons₂ _
theorem xpg {ys:List Wy} {ps:List (Str×Str)} (h:(ps.map (·.1)).Nodup):((xb7 ys ps).map (·.1)).Nodup:=h.sublist xh7
theorem xmw {ys:List Wy} {ps:List (Str×Str)}:(xb7 ys ps).length<=ps.length:=List.length_filterMap_le _ _
def dPr (e:Str×D):D:=.tup [.str e.1,e.2]
def HowOk (ks2:List Kn) (ys:List Wy) (k:Kn) (g:Str) (d:D):Prop:=
 (k.rc=true/\TmB ks2 22 (xb7 ys k.parts) d g) ∨
 (k.rc=false/\∃ es:List (Str×D),d=.tup (es.map dPr)/\es.map (·.1)=k.parts.map (·.1)/\∀ (i:Nat) e p,es[i]?=some e->k.parts[i]?=some p->TmB ks2 22 (xb7 ys [(S "it",p.2)]) e.2 g)
def WRight (ks ks2:List Kn) (ys:List Wy) (y:Wy):Prop:=∃ k,kAt ks y.1=some k/\KIn ks2 6 y.2.1/\HowOk ks2 ys k y.2.1 y.2.2
theorem HowOk.congr {ks2:List Kn} {ys ys':List Wy} {k:Kn} {g:Str} {d:D} (h:HowOk ks2 ys k g d) (c:∀ p∈k.parts,xau ys p.2=xau ys' p.2):HowOk ks2 ys' k g d:=by
 rcases h with ⟨hc,h⟩ | ⟨hc,es,e1,e2,h⟩
 ·exact .inl ⟨hc,by rw [<- xfw c]; exact h⟩
 ·refine .inr ⟨hc,es,e1,e2,fun i e p he hp=>?_⟩
  have:=h i e p he hp
  rw [xfw (ys:=ys) (ys':=ys') (ps:=[(S "it",p.2)]) fun q hq=>by rw [zMO hq]; exact c p (zMG hp)] at this
  exact this
theorem xta {ks:List Kn} (wf:KWf ks) {bs:List (Str×Str)}:∀ (m:Nat) (x:Str),KIn ks m x->TmB ks m bs (nuT (m + 1) ks x) x
 | 0,x,h=>by
  rcases h.nu wf with ⟨rfl,_,e,_⟩ | ⟨j,k,e,_⟩
  ·rw [e]; exact xom ⟨by decide,by decide⟩
  ·cases e
 | m + 1,x,h=>by
  rcases h.nu wf with ⟨rfl,_,e,_⟩ | ⟨j,k,ej,hk,hn,hm,hp,_,⟨hc,e,_⟩ | ⟨hc,p,r,er,e,_⟩⟩
  ·rw [e]; exact xom ⟨by decide,by decide⟩
  ·cases ej
   rw [e]
   refine xol hk hc (by have:=wf.pts k hm; omega) ?_
   have:=xi4 (R:=fun e (p:Str×Str)=>TmB ks m bs e p.2) (f:=fun p:Str×Str=>nuT (m + 1) ks p.2) (g:=fun p=>p) (xs:=k.parts) fun p hp'=>xta wf m p.2 (hp p hp')
   rw [List.map_id'] at this
   exact this
  ·cases ej
   rw [e]
   exact xok wf hk hc (by rw [er]; simp) (xta wf m p.2 (hp p (by rw [er]; simp)))
theorem xqg {ks:List Kn}:∀ (n:Nat) (env:En) (d v:D),Evs ks n env d v->Evs ks (n + 1) env d v
 | 0,_,_,_,h=>.inl h
 | n + 1,env,d,v,h=>by
  rcases h with h | ⟨h,g⟩
  ·exact .inl h
  ·exact .inr ⟨h.mono (xqg n),g⟩
theorem xue {ks:List Kn} {n m:Nat} (l:n<=m) {env:En} {d v:D} (h:Evs ks n env d v):Evs ks m env d v:=by
 obtain ⟨k,rfl⟩:∃ k,m=n + k:=⟨m - n,by omega⟩
 clear l
 induction k with
 | zero=>exact h
 | succ k ih=>exact xqg _ _ _ _ ih
theorem TmB.up {ks:List Kn} {n m:Nat} {bs:List (Str×Str)} {d:D} {x:Str} (h:TmB ks n bs d x) (l:n<=m):TmB ks m bs d x:=⟨fun env hf=>by
 obtain ⟨v,h1,h2⟩:=h.1 env hf
 exact ⟨v,xue l h1,h2⟩,fun env hf=>xvu l (h.2 env hf)⟩
theorem xm3 {ks:List Kn} (wf:KWf ks) {x:Str} {k:Kn} (h:kAt ks x=some k):KIn ks 6 x:=by
 have hm:=zMF h
 have hx:k.name=x:=by
  have:=List.find?_some h
  exact of_decide_eq_true this
 exact (KIn.of (.inr ⟨k,hm,hx⟩)).mono wf.few
theorem xlx {ks:List Kn} {x:Str} {k:Kn} (h:kAt ks x=some k):k.name=x:=by
 have:=List.find?_some h
 exact of_decide_eq_true this
theorem xp5 {ks:List Kn} (wf:KWf ks) {k:Kn} (h:k∈ks) {p:Str×Str} (hp:p∈k.parts):KIn ks 6 p.2:=by
 obtain ⟨i,hi,e⟩:=zMI h
 have:=wf.few
 exact KIn.mono (n:=i) (wf.ref i k (by rw [<- e]; exact zGA hi) p hp) (by omega)
theorem xqc {ks2:List Kn} (wf2:KWf ks2) {ys:List Wy} {k:Kn} {d:D} (h:xde ks2 ys k=some d):KIn ks2 6 k.name/\HowOk ks2 ys k k.name d:=by
 unfold xde at h
 cases hk:kAt ks2 k.name with
 | none=>rw [hk] at h; cases h
 | some k2=>
  rw [hk] at h
  have hm:=zMF hk
  refine ⟨xm3 wf2 hk,?_⟩
  by_cases hr:k2.rc=k.rc
  ·simp only [hr,if_true] at h
   cases hc:k.rc with
   | true=>
    simp only [hc,if_true] at h
    by_cases ha:k2.parts.all (okQ ys k.parts)=true
    ·rw [if_pos ha] at h
     cases h
     refine .inl ⟨hc,?_⟩
     have h5:=wf2.pts k2 hm
     refine TmB.up (n:=7) (xol (n:=6) hk (by rw [hr,hc]) (by omega) ?_) (by omega)
     have:=xi4 (R:=fun e (p:Str×Str)=>TmB ks2 6 (xb7 ys k.parts) e p.2) (f:=tmQ ks2 k.parts) (g:=fun p=>p) (xs:=k2.parts) fun q hq=>by
      have hok:=List.all_eq_true.mp ha q hq
      unfold okQ at hok
      unfold tmQ
      cases ho:xd7 k.parts q.1 with
      | none=>exact xta wf2 6 q.2 (xp5 wf2 hm hq)
      | some z=>
       rw [ho] at hok
       exact xjc (xph (p:=(q.1,z)) (xmv ho) (of_decide_eq_true hok))
     rw [List.map_id'] at this
     exact this
    ·rw [if_neg ha] at h
     cases h
   | false=>
    rw [hc] at h
    simp only [Bool.false_eq_true,if_false] at h
    by_cases ha:k.parts.all (okT ys k2.parts)=true
    ·rw [if_pos ha] at h
     cases h
     refine .inr ⟨hc,k.parts.map fun p=>(p.1,tTag k.name p.1 (tBox (S "it"))),?_,?_,fun i e p he hp=>?_⟩
     ·unfold xq2
      rw [List.map_map]
      rfl
     ·rw [List.map_map]
      rfl
     ·rw [zGM,hp] at he
      cases he
      have hpm:=zMG hp
      have hok:=List.all_eq_true.mp ha p hpm
      unfold okT at hok
      cases ho:xd7 k2.parts p.1 with
      | none=>rw [ho] at hok; cases hok
      | some g=>
       rw [ho] at hok
       have hg:=of_decide_eq_true hok
       refine TmB.up (n:=1) (xok (n:=0) (p:=(p.1,g)) wf2 hk (by rw [hr,hc]) (xmv ho) (xjc ?_)) (by omega)
       exact xph (p:=(S "it",p.2)) (by simp) hg
    ·rw [if_neg ha] at h
     cases h
  ·simp only [if_neg hr] at h
   cases h
theorem xlw {ks2:List Kn}:∀ {ks:List Kn} {told:List Wy} {y:Wy},y∈xbp ks2 ks told->y∈told\/∃ i k d,ks[i]?=some k/\y=(k.name,k.name,d)/\xde ks2 (xbp ks2 (ks.take i) told) k=some d
 | [],told,y,h=>.inl h
 | k :: ks,told,y,h=>by
  rcases xlw (ks:=ks) (told:=xe2 ks2 told k) h with h | ⟨i,k',d,h1,h2,h3⟩
  ·unfold xe2 at h
   cases hw:wyAt told k.name with
   | some z=>rw [hw] at h; exact .inl h
   | none=>
    rw [hw] at h
    cases hb:xde ks2 told k with
    | none=>rw [hb] at h; exact .inl h
    | some d=>
     rw [hb] at h
     rcases zMA h with h | h
     ·exact .inl h
     ·exact .inr ⟨0,k,d,rfl,zMO h,hb⟩
  ·exact .inr ⟨i + 1,k',d,h1,h2,h3⟩
theorem xg7 {ks:List Kn} (wf:KWf ks) {i:Nat} {k:Kn} (hk:ks[i]?=some k) {p:Str×Str} (hp:p∈k.parts):xnl ks i p.2:=wf.ref i k hk p hp
def xhv (ks ks2:List Kn) (told:List Wy):Prop:=∀ y∈told,WRight ks ks2 (xbp ks2 ks told) y
theorem xfz {ks ks2:List Kn} (wf:KWf ks) (wf2:KWf ks2) {told:List Wy} (h:xhv ks ks2 told):∀ y∈xbp ks2 ks told,WRight ks ks2 (xbp ks2 ks told) y:=fun y hy=>by
 rcases xlw hy with h1 | ⟨i,k,d,hk,rfl,hb⟩
 ·exact h y h1
 ·have hb':xde ks2 (xbp ks2 ks told) k=some d:=by
   rw [xkk (ys':=xbp ks2 (ks.take i) told) fun p hp=>xhk wf (xg7 wf hk hp)]
   exact hb
  obtain ⟨h1,h2⟩:=xqc wf2 hb'
  exact ⟨k,xdz wf.nd (zMG hk),h1,h2⟩
theorem xi9 {ks ks2:List Kn} (wf:KWf ks) {told:List Wy} {y:Wy} {i:Nat} {k0:Kn} (h0:ks[i]?=some k0) (hy:y.1=k0.name) (h:xhv ks ks2 told) (hb:∀ z∈told,∃ j k,j < i/\ks[j]?=some k/\k.name=z.1) (hw:KIn ks2 6 y.2.1/\HowOk ks2 (xbp ks2 ks told) k0 y.2.1 y.2.2):xhv ks ks2 (told++[y]):=by
 have stay:∀ x,xnl ks i x->xau (xbp ks2 ks told) x=xau (xbp ks2 ks (told++[y])) x:=fun x hx=>(xqe wf h0 hy hx).symm
 intro z hz
 rcases zMA hz with hz | hz
 ·obtain ⟨k,h1,h2,h3⟩:=h z hz
  obtain ⟨j,k',hj,hk',e⟩:=hb z hz
  have ek:k=k':=by
   have:=xdz wf.nd (zMG hk')
   rw [e,h1] at this
   exact Option.some.inj this
  subst ek
  refine ⟨k,h1,h2,h3.congr fun p hp=>stay _ ?_⟩
  rcases wf.ref j k hk' p hp with z | ⟨l,k2,hl,z⟩
  ·exact .inl z
  ·exact .inr ⟨l,k2,by omega,z⟩
 ·rw [zMO hz]
  exact ⟨k0,by rw [hy]; exact xdz wf.nd (zMG h0),hw.1,hw.2.congr fun p hp=>stay _ (xg7 wf h0 hp)⟩
theorem xi5 {ys:List Wy} {x:Str} (h:wyAt ys x=none):∀ y∈ys,y.1≠x:=fun y hy e=>by
 unfold wyAt at h
 have:=List.find?_eq_none.mp h y hy
 exact this (zDT e)
theorem xn8 {ys:List Wy} (nd:(ys.map (·.1)).Nodup) {y:Wy} (hy:y∈ys):wyAt ys y.1=some y:=by
 obtain ⟨i,hi,e⟩:=zMI hy
 exact xb5 (f:=fun z:Wy=>z.1) (xs:=ys) (i:=i) (a:=y) nd (by rw [<- e]; exact zGA hi)
theorem xtf {ks2:List Kn} {ys:List Wy} {k:Kn} (nd:(ys.map (·.1)).Nodup):((xe2 ks2 ys k).map (·.1)).Nodup:=by
 unfold xe2
 cases hw:wyAt ys k.name with
 | some z=>exact nd
 | none=>
  cases xde ks2 ys k with
  | none=>exact nd
  | some d=>
   show ((ys++[(k.name,k.name,d)]).map (·.1)).Nodup
   rw [zAP]
   refine List.nodup_append.mpr ⟨nd,by simp,fun a ha b hb e=>?_⟩
   obtain ⟨y,hy,rfl⟩:=zMP ha
   have hb':b=k.name:=by simpa using hb
   exact xi5 hw y hy (by rw [e,hb'])
theorem xp0 {ks2:List Kn}:∀ {ks:List Kn} {ys:List Wy},(ys.map (·.1)).Nodup->((xbp ks2 ks ys).map (·.1)).Nodup
 | [],_,nd=>nd
 | k :: ks,ys,nd=>xp0 (ks:=ks) (xtf nd)
theorem xq7 {ks2:List Kn} {ys:List Wy} {k:Kn}:(xe2 ks2 ys k).length<=ys.length + 1:=by
 unfold xe2
 cases wyAt ys k.name with
 | some z=>show ys.length<=_; omega
 | none=>
  cases xde ks2 ys k with
  | none=>show ys.length<=_; omega
  | some d=>show (ys++[_]).length<=_; simp
theorem xix {ks2:List Kn}:∀ {ks:List Kn} {ys:List Wy},(xbp ks2 ks ys).length<=ys.length + ks.length
 | [],ys=>Nat.le_refl _
 | k :: ks,ys=>by
  have h1:=xix (ks2:=ks2) (ks:=ks) (ys:=xe2 ks2 ys k)
  have h2:=xq7 (ks2:=ks2) (ys:=ys) (k:=k)
  show (xbp ks2 ks (xe2 ks2 ys k)).length<=ys.length + (ks.length + 1)
  omega
theorem xn3 {ks ks2:List Kn} {ys:List Wy} (h:∀ y∈ys,WRight ks ks2 ys y) {x g:Str} (hg:xau ys x=some g):KIn ks2 6 g:=by
 unfold xau at hg
 by_cases c:x=S "num"
 ·rw [if_pos c] at hg
  cases hg
  exact .inl rfl
 ·rw [if_neg c] at hg
  obtain ⟨y,hy,rfl⟩:=zMS hg
  obtain ⟨k,_,h2,_⟩:=h y (xgu hy).2
  exact h2
end M
end
section
namespace M
open PySem L2
def envP (ds:List (Str×D)):En:=fun y=>(ds.find? fun q=>decide (q.1=y)).map fun q=>q.2
theorem xl2 {ds:List (Str×D)} (nd:(ds.map (·.1)).Nodup) {q:Str×D} (hq:q∈ds):envP ds q.1=some q.2:=by
 unfold envP
 obtain ⟨i,hi,e⟩:=zMI hq
 rw [xb5 (f:=fun r:Str×D=>r.1) (xs:=ds) (i:=i) (a:=q) nd (by rw [<- e]; exact zGA hi)]
 rfl
theorem xna {ds:List (Str×D)} {y:Str} (h:∀ q∈ds,q.1≠y):envP ds y=none:=by
 unfold envP
 rw [List.find?_eq_none.mpr fun q hq c=>h q hq (of_decide_eq_true c)]
 rfl
def TnE (R:Str->D->D->Prop) (e:(Str×Str)×D) (q:Str×D):Prop:=q.1=e.1.1/\R e.1.2 e.2 q.2
def goF (ys:List Wy) (es:List ((Str×Str)×D)):List ((Str×Str)×D):=es.filter fun e=>(xau ys e.1.2).isSome
def Tn (ks ks2:List Kn) (ys:List Wy):Nat->Str->D->D->Prop
  | 0,x,d,d'=>x=S "num"/\d'=d
  | m + 1,x,d,d'=>(x=S "num"/\d'=d)\/∃ k y ds,kAt ks x=some k/\wyAt ys x=some y ∧
    ((k.rc=true/\∃ ws,ws.length=k.parts.length/\d=.tup [.str x,.tup ws]/\All2 (TnE (Tn ks ks2 ys m)) (goF ys (k.parts.zip ws)) ds/\Ev ks2 22 (envP ds) y.2.2 d') ∨
     (k.rc=false/\∃ (es:List (Str×D)) (p0:Str×Str) (d0:D) (e0:Str×D),y.2.2=.tup (es.map dPr)/\es.map (·.1)=k.parts.map (·.1)/\p0∈k.parts/\e0∈es/\e0.1=p0.1/\d=.tup [.str x,.str p0.1,d0]/\All2 (TnE (Tn ks ks2 ys m)) (goF ys [((S "it",p0.2),d0)]) ds/\Ev ks2 22 (envP ds) e0.2 d'))
theorem xeb {R:Str->D->D->Prop}:∀ {es:List ((Str×Str)×D)} {ds:List (Str×D)},All2 (TnE R) es ds->ds.map (·.1)=es.map fun e=>e.1.1
 | _,_,.nil=>rfl
 | _,_,.cons h t=>by rw [List.map_cons,List.map_cons,xeb t,h.1]
theorem xgt {α β:Type} {R:α->β->Prop}:∀ {as:List α} {bs:List β},All2 R as bs->∀ a∈as,∃ b∈bs,R a b
 | _,_,.nil,a,h=>nomatch h
 | _,_,.cons h t,a,ha=>by
  rcases zMC ha with rfl | ha
  ·exact ⟨_,by simp,h⟩
  ·obtain ⟨b,hb,r⟩:=xgt t a ha
   exact ⟨b,by simp [hb],r⟩
theorem xmb {α β:Type} {R:α->β->Prop}:∀ {as:List α},(∀ a∈as,∃ b,R a b)->∃ bs,All2 R as bs
 | [],_=>⟨[],.nil⟩
 | a :: as,h=>by
  obtain ⟨b,hb⟩:=h a (by simp)
  obtain ⟨bs,hbs⟩:=xmb (as:=as) fun c hc=>h c (by simp [hc])
  exact ⟨b :: bs,.cons hb hbs⟩
theorem xdj {α β:Type}:∀ {ps:List α} {ws:List β},ps.length=ws.length->(ps.zip ws).map (·.1)=ps
 | [],[],_=>rfl
 | p :: ps,v :: ws,hl=>by
  rw [List.zip_cons_cons,List.map_cons,xdj (by simpa using hl)]
theorem xmd {α β:Type} {ps:List α} {ws:List β} {e:α×β} (he:e∈ps.zip ws):∃ i:Nat,ps[i]?=some e.1/\ws[i]?=some e.2:=by
 obtain ⟨i,hi,e'⟩:=zMI he
 have h2:=List.getElem?_zip_eq_some.mp (show (ps.zip ws)[i]?=some e by rw [<- e']; exact zGA hi)
 exact ⟨i,h2⟩
def HowV (ks2:List Kn) (ys:List Wy) (k:Kn) (g:Str) (d:D):Prop:=
 (k.rc=true/\TmOk ks2 22 (xb7 ys k.parts) d g) ∨
 (k.rc=false/\∃ es:List (Str×D),d=.tup (es.map dPr)/\es.map (·.1)=k.parts.map (·.1)/\∀ (i:Nat) e p,es[i]?=some e->k.parts[i]?=some p->TmOk ks2 22 (xb7 ys [(S "it",p.2)]) e.2 g)
def WV (ks ks2:List Kn) (ys:List Wy) (y:Wy):Prop:=∃ k,kAt ks y.1=some k/\KIn ks2 6 y.2.1/\HowV ks2 ys k y.2.1 y.2.2
theorem WRight.v {ks ks2:List Kn} {ys:List Wy} {y:Wy} (h:WRight ks ks2 ys y):WV ks ks2 ys y:=by
 obtain ⟨k,h1,h2,h3⟩:=h
 refine ⟨k,h1,h2,?_⟩
 rcases h3 with ⟨hc,h⟩ | ⟨hc,es,e1,e2,h⟩
 ·exact .inl ⟨hc,h.1⟩
 ·exact .inr ⟨hc,es,e1,e2,fun i e p he hp=>(h i e p he hp).1⟩
theorem xly {ks ks2:List Kn} {ys:List Wy} (h:∀ y∈ys,WV ks ks2 ys y) {x g:Str} (hg:xau ys x=some g):KIn ks2 6 g:=by
 unfold xau at hg
 by_cases c:x=S "num"
 ·rw [if_pos c] at hg
  cases hg
  exact .inl rfl
 ·rw [if_neg c] at hg
  obtain ⟨y,hy,rfl⟩:=zMS hg
  obtain ⟨k,_,h2,_⟩:=h y (xgu hy).2
  exact h2
theorem xmt {R:Str->D->D->Prop} {ks2:List Kn} {ys:List Wy} {es:List ((Str×Str)×D)} (nd:(es.map fun e=>e.1.1).Nodup) (h:∀ e∈es,∀ g,xau ys e.1.2=some g->∃ d',R e.1.2 e.2 d'/\Vk ks2 g d'):∃ ds,All2 (TnE R) (goF ys es) ds/\FitB ks2 (xb7 ys (es.map (·.1))) (envP ds):=by
 obtain ⟨ds,hds⟩:∃ ds,All2 (fun e q=>TnE R e q/\∃ g,xau ys e.1.2=some g/\Vk ks2 g q.2) (goF ys es) ds:=xmb fun e he=>by
  obtain ⟨h1,h2⟩:=List.mem_filter.mp he
  obtain ⟨g,hg⟩:=Option.isSome_iff_exists.mp h2
  obtain ⟨d',h3,h4⟩:=h e h1 g hg
  exact ⟨(e.1.1,d'),⟨rfl,h3⟩,g,hg,h4⟩
 have hd1:=hds.imp fun _ _ h=>h.1
 refine ⟨ds,hd1,fun b hb=>?_⟩
 obtain ⟨p,hp,e1,e2⟩:=xg8 hb
 obtain ⟨e,he,rfl⟩:=zMP hp
 obtain ⟨q,hq,⟨h1,_⟩,g,hg,hv⟩:=xgt hds e (List.mem_filter.mpr ⟨he,by rw [e2]; rfl⟩)
 rw [e2] at hg
 cases hg
 refine ⟨q.2,?_,hv⟩
 rw [<- e1,<- h1]
 refine xl2 ?_ hq
 rw [xeb hd1]
 exact nd.sublist (List.filter_sublist.map _)
theorem xq1 {ks ks2:List Kn} (wf:KWf ks) {ys:List Wy} (rt:∀ y∈ys,WV ks ks2 ys y):∀ (m:Nat) (x g:Str) (d:D),KIn ks m x->xau ys x=some g->Vk ks x d->∃ d',Tn ks ks2 ys m x d d'/\Vk ks2 g d'
 | m,x,g,d,hin,hgo,hv=>by
  rcases hin.look wf with ⟨rfl,hkx⟩ | ⟨j,k,rfl,hkx,hn,hm,hp⟩
  ·rw [xd4] at hgo
   cases hgo
   obtain ⟨i,hi,rfl⟩:=xh1 wf rfl hv
   refine ⟨_,?_,.num i hi⟩
   cases m with
   | zero=>exact ⟨rfl,rfl⟩
   | succ m=>exact .inl ⟨rfl,rfl⟩
  ·have hne:¬ x=S "num":=fun e=>by rw [e,wf.num] at hkx; cases hkx
   obtain ⟨y,hy,hy1,hy2⟩:∃ y:Wy,wyAt ys x=some y/\y.1=x/\y.2.1=g:=by
    unfold xau at hgo
    rw [if_neg hne] at hgo
    obtain ⟨y,hy,e⟩:=zMS hgo
    exact ⟨y,hy,(xgu hy).1,e⟩
   obtain ⟨k',hk',hgk,how⟩:=rt y (xgu hy).2
   rw [hy1,hkx] at hk'
   cases hk'
   rw [hy2] at hgk how
   rcases how with ⟨hrc,htm⟩ | ⟨hrc,es,ees,hes,htm⟩
   ·obtain ⟨ws,hwl,hws,rfl⟩:=xmh wf hkx hrc hv
    obtain ⟨ds,h1,h2⟩:=xmt (R:=Tn ks ks2 ys j) (ks2:=ks2) (ys:=ys) (es:=k.parts.zip ws) (by
     have:(k.parts.zip ws).map (fun e=>e.1.1)=((k.parts.zip ws).map (·.1)).map (·.1):=by rw [List.map_map]; rfl
     rw [this,xdj hwl.symm]
     exact wf.pnd k hm) fun e he g' hg'=>by
      obtain ⟨i,hi1,hi2⟩:=xmd he
      exact xq1 wf rt j _ g' _ (hp e.1 (zMG hi1)) hg' (hws i _ _ hi2 hi1)
    rw [xdj hwl.symm] at h2
    obtain ⟨val,h3,h4⟩:=htm _ h2
    exact ⟨val,.inr ⟨k,y,ds,hkx,hy,.inl ⟨hrc,ws,hwl,rfl,h1,xqh _ _ _ _ h3⟩⟩,h4⟩
   ·obtain ⟨p0,hp0,d0,hvk0,rfl⟩:=xoa wf hkx hrc hv
    obtain ⟨ds,h1,h2⟩:=xmt (R:=Tn ks ks2 ys j) (ks2:=ks2) (ys:=ys) (es:=[((S "it",p0.2),d0)]) (by simp) fun e he g' hg'=>by
     rw [zMO he] at hg' ⊢
     exact xq1 wf rt j _ g' _ (hp p0 hp0) hg' hvk0
    obtain ⟨i0,hi0,ei0⟩:=zMI hp0
    have hel:es.length=k.parts.length:=by
     have:=congrArg List.length hes
     rwa [zLM,zLM] at this
    obtain ⟨e0,he0⟩:∃ e0,es[i0]?=some e0:=⟨es[i0]'(by omega),zGA _⟩
    have hp0':k.parts[i0]?=some p0:=by rw [<- ei0]; exact zGA hi0
    have hn0:e0.1=p0.1:=by
     have h9:(es.map (·.1))[i0]?=some e0.1:=by rw [zGM,he0]; rfl
     rw [hes,zGM,hp0'] at h9
     exact (Option.some.inj h9).symm
    obtain ⟨val,h3,h4⟩:=htm i0 e0 p0 he0 hp0' _ h2
    exact ⟨val,.inr ⟨k,y,ds,hkx,hy,.inr ⟨hrc,es,p0,d0,e0,ees,hes,hp0,zMG he0,hn0,rfl,h1,xqh _ _ _ _ h3⟩⟩,h4⟩
 termination_by m=>m
end M
end
section
namespace M
open PySem L2
def LfC (d:D) (c:Int):Prop:=(∃ i,d=tNum i/\0<=c)\/∃ x,d=tBox x/\1<=c
def NdC (R:D->Int->Prop) (d:D) (c:Int):Prop:=
 (∃ s a b c1 c2,R a c1/\R b c2/\c1 + c2<=c/\d=tOpD s a b) ∨
 (∃ k es cs,All2 R es cs/\cs.sum<=c/\es.length<=1000/\d=tRec k es) ∨
 (∃ a f,R a c/\d=tGet a f) ∨
 (∃ k t a,R a c/\d=tTag k t a) ∨
 (∃ a rs c0 e,R a c0/\(∀ r∈rs,R r.2.2 e)/\0<=e/\c0 + (rs.length:Int) * e<=c/\rs.length<=1000/\d=xik a rs) ∨
 (∃ a b e c1 c2 c3,R a c1/\R b c2/\R e c3/\c1 + c2 + c3<=c/\d=tIfD a b e)
def Tc:Nat->D->Int->Prop
 | 0=>LfC
 | n + 1=>fun d c=>LfC d c\/NdC (Tc n) d c
theorem NdC.mono {R R':D->Int->Prop} (k:∀ d c,R d c->R' d c) {d:D} {c:Int} (h:NdC R d c):NdC R' d c:=by
 rcases h with ⟨s,a,b,c1,c2,h1,h2,r⟩ | ⟨kk,es,cs,h1,r⟩ | ⟨a,f,h1,r⟩ | ⟨kk,t,a,h1,r⟩ | ⟨a,rs,c0,e,h1,h2,r⟩ | ⟨a,b,e,c1,c2,c3,h1,h2,h3,r⟩
 ·exact .inl ⟨s,a,b,c1,c2,k _ _ h1,k _ _ h2,r⟩
 ·exact .inr (.inl ⟨kk,es,cs,h1.imp k,r⟩)
 ·exact .inr (.inr (.inl ⟨a,f,k _ _ h1,r⟩))
 ·exact .inr (.inr (.inr (.inl ⟨kk,t,a,k _ _ h1,r⟩)))
 ·exact .inr (.inr (.inr (.inr (.inl ⟨a,rs,c0,e,k _ _ h1,fun r' hr=>k _ _ (h2 r' hr),r⟩))))
 ·exact .inr (.inr (.inr (.inr (.inr ⟨a,b,e,c1,c2,c3,k _ _ h1,k _ _ h2,k _ _ h3,r⟩))))
theorem xuq:∀ (n:Nat) (d:D) (c:Int),Tc n d c->Tc (n + 1) d c
 | 0,_,_,h=>.inl h
 | n + 1,d,c,h=>by
  rcases h with h | h
  ·exact .inl h
  ·exact .inr (h.mono (xuq n))
theorem xhw {n m:Nat} (l:n<=m) {d:D} {c:Int} (h:Tc n d c):Tc m d c:=by
 obtain ⟨k,rfl⟩:∃ k,m=n + k:=⟨m - n,by omega⟩
 clear l
 induction k with
 | zero=>exact h
 | succ k ih=>exact xuq _ _ _ ih
theorem xsv {d:D} {c:Int} (h:LfC d c):0<=c:=by
 rcases h with ⟨_,_,h⟩ | ⟨_,_,h⟩ <;> omega
theorem xi3 {R:D->Int->Prop} (k:∀ d c,R d c->0<=c):∀ {es:List D} {cs:List Int},All2 R es cs->0<=cs.sum
 | _,_,.nil=>by simp
 | _,_,.cons h t=>by
  have h1:=k _ _ h
  have h2:=xi3 k t
  simp only [List.sum_cons]
  omega
theorem xex:∀ (n:Nat) (d:D) (c:Int),Tc n d c->0<=c
 | 0,_,_,h=>xsv h
 | n + 1,d,c,h=>by
  rcases h with h | h
  ·exact xsv h
  ·rcases h with ⟨s,a,b,c1,c2,h1,h2,h3,r⟩ | ⟨kk,es,cs,h1,h2,r⟩ | ⟨a,f,h1,r⟩ | ⟨kk,t,a,h1,r⟩ | ⟨a,rs,c0,e,h1,h2,h3,h4,r⟩ | ⟨a,b,e,c1,c2,c3,h1,h2,h3,h4,r⟩
   ·have:=xex n _ _ h1; have:=xex n _ _ h2; omega
   ·have:=xi3 (xex n) h1; omega
   ·exact xex n _ _ h1
   ·exact xex n _ _ h1
   ·have:=xex n _ _ h1
    have:0<=(rs.length:Int) * e:=Int.mul_nonneg (by omega) h3
    omega
   ·have:=xex n _ _ h1; have:=xex n _ _ h2; have:=xex n _ _ h3; omega
theorem xp2 {d:D} {c c':Int} (l:c<=c') (h:LfC d c):LfC d c':=by
 rcases h with ⟨i,e,h⟩ | ⟨x,e,h⟩
 ·exact .inl ⟨i,e,by omega⟩
 ·exact .inr ⟨x,e,by omega⟩
theorem xca:∀ (n:Nat) (d:D) (c c':Int),c<=c'->Tc n d c->Tc n d c'
 | 0,_,_,_,l,h=>xp2 l h
 | n + 1,d,c,c',l,h=>by
  rcases h with h | h
  ·exact .inl (xp2 l h)
  ·refine .inr ?_
   rcases h with ⟨s,a,b,c1,c2,h1,h2,h3,r⟩ | ⟨kk,es,cs,h1,h2,r⟩ | ⟨a,f,h1,r⟩ | ⟨kk,t,a,h1,r⟩ | ⟨a,rs,c0,e,h1,h2,h3,h4,r⟩ | ⟨a,b,e,c1,c2,c3,h1,h2,h3,h4,r⟩
   ·exact .inl ⟨s,a,b,c1,c2,h1,h2,by omega,r⟩
   ·exact .inr (.inl ⟨kk,es,cs,h1,by omega,r⟩)
   ·exact .inr (.inr (.inl ⟨a,f,xca n _ _ _ l h1,r⟩))
   ·exact .inr (.inr (.inr (.inl ⟨kk,t,a,xca n _ _ _ l h1,r⟩)))
   ·exact .inr (.inr (.inr (.inr (.inl ⟨a,rs,c0,e,h1,h2,h3,by omega,r⟩))))
   ·exact .inr (.inr (.inr (.inr (.inr ⟨a,b,e,c1,c2,c3,h1,h2,h3,by omega,r⟩))))
theorem xoj {n:Nat} {i c:Int} (h:0<=c):Tc n (tNum i) c:=by
 cases n with
 | zero=>exact .inl ⟨i,rfl,h⟩
 | succ n=>exact .inl (.inl ⟨i,rfl,h⟩)
theorem xjb {n:Nat} {x:Str} {c:Int} (h:1<=c):Tc n (tBox x) c:=by
 cases n with
 | zero=>exact .inr ⟨x,rfl,h⟩
 | succ n=>exact .inl (.inr ⟨x,rfl,h⟩)
def xls (f:D->List Str):D->List Str
 | .tup [_,.str x,e]=>(f e).filter fun z=>!decide (V.str z=V.str x)
 | _=>[]
def bxL:List D->List Str
 | [.str x]=>[x]
 | _=>[]
def esL:List D->List D
 | [_,.tup es]=>es
 | _=>[]
def innL (h:Str) (r:List D):List D:=if h=S "op" then r.drop 1 else if h=S "rec" then esL r else if h=S "get"\/h=S "case" then r.take 1 else if h=S "tag" then r.drop 2 else if h=S "if" then r else []
def nd:Nat->D->List Str
 | n,.tup (.str h :: r)=>if h=S "box" then bxL r else match n with
  | 0=>[]
  | n + 1=>(innL h r).flatMap (nd n)++(if h=S "case" then (esL r).flatMap (xls (nd n)) else [])
 | _,_=>[]
theorem xdr (n:Nat) (h:Str) (r:List D) (hb:¬ h=S "box"):nd (n + 1) (.tup (.str h :: r))=(innL h r).flatMap (nd n)++(if h=S "case" then (esL r).flatMap (xls (nd n)) else []):=by
 rw [nd,if_neg hb]
theorem xmz (n:Nat) (x:Str):nd n (tBox x)=[x]:=by
 cases n with
 | zero=>
  show (if S "box"=S "box" then [x] else [])=_
  rw [if_pos rfl]
 | succ n=>
  unfold tBox
  unfold nd
  rw [if_pos rfl]
  rfl
theorem xhj (r:List D):innL (S "num") r=[]:=by
 unfold innL
 rw [if_neg (by walk_at "k"),if_neg (by walk_at "k"),if_neg (by walk_at "k"),if_neg (by walk_at "k"),if_neg (by walk_at "k")]
theorem xm6 (s a b:D):innL (S "op") [s,a,b]=[a,b]:=by
 unfold innL
 rw [if_pos rfl]
 rfl
theorem xhi (k:D) (es:List D):innL (S "rec") [k,.tup es]=es:=by
 unfold innL
 rw [if_neg (by walk_at "k"),if_pos rfl]
 rfl
theorem xiz (a f:D):innL (S "get") [a,f]=[a]:=by
 unfold innL
 rw [if_neg (by walk_at "k"),if_neg (by walk_at "k"),if_pos (.inl rfl)]
 rfl
theorem xgp (a r:D):innL (S "case") [a,r]=[a]:=by
 unfold innL
 rw [if_neg (by walk_at "k"),if_neg (by walk_at "k"),if_pos (.inr rfl)]
 rfl
theorem xiy (k t a:D):innL (S "tag") [k,t,a]=[a]:=by
 unfold innL
 rw [if_neg (by walk_at "k"),if_neg (by walk_at "k"),if_neg (by walk_at "k"),if_pos rfl]
 rfl
theorem xm7 (a b c:D):innL (S "if") [a,b,c]=[a,b,c]:=by
 unfold innL
 rw [if_neg (by walk_at "k"),if_neg (by walk_at "k"),if_neg (by walk_at "k"),if_neg (by walk_at "k"),if_pos rfl]
theorem xpu (n:Nat) (i:Int):nd n (tNum i)=[]:=by
 cases n with
 | zero=>unfold tNum; rw [nd,if_neg (by walk_at "k")]
 | succ n=>
  unfold tNum
  rw [xdr _ _ _ (by walk_at "k"),xhj,if_neg (by walk_at "k")]
  rfl
theorem xtz (n:Nat) (s:Str) (a b:D):nd (n + 1) (tOpD s a b)=nd n a++nd n b:=by
 unfold tOpD
 rw [xdr _ _ _ (by walk_at "k"),xm6,if_neg (by walk_at "k"),List.append_nil]
 simp
theorem xpt (n:Nat) (k:Str) (es:List D):nd (n + 1) (tRec k es)=es.flatMap (nd n):=by
 unfold tRec
 rw [xdr _ _ _ (by walk_at "k"),xhi,if_neg (by walk_at "k"),List.append_nil]
theorem xpv (n:Nat) (a:D) (f:Str):nd (n + 1) (tGet a f)=nd n a:=by
 unfold tGet
 rw [xdr _ _ _ (by walk_at "k"),xiz,if_neg (by walk_at "k"),List.append_nil]
 simp
theorem xps (n:Nat) (k t:Str) (a:D):nd (n + 1) (tTag k t a)=nd n a:=by
 unfold tTag
 rw [xdr _ _ _ (by walk_at "k"),xiy,if_neg (by walk_at "k"),List.append_nil]
 simp
theorem xt0 (n:Nat) (a b c:D):nd (n + 1) (tIfD a b c)=nd n a++(nd n b++nd n c):=by
 unfold tIfD
 rw [xdr _ _ _ (by walk_at "k"),xm7,if_neg (by walk_at "k"),List.append_nil]
 simp
theorem xlr (n:Nat) (a:D) (rs:List (Str×Str×D)):nd (n + 1) (xik a rs)=nd n a++rs.flatMap fun r=>(nd n r.2.2).filter fun z=>!decide (V.str z=V.str r.2.1):=by
 unfold xik
 rw [xdr _ _ _ (by walk_at "k"),xgp,if_pos rfl]
 show _++(rs.map dArm).flatMap _=_
 rw [List.flatMap_map]
 simp [xls,dArm]
theorem xm9 {α:Type} {f:α->List Str} {e:Int}:∀ {l:List α},(∀ a∈l,((f a).length:Int)<=e)->((l.flatMap f).length:Int)<=(l.length:Int) * e
 | [],_=>by simp
 | a :: l,h=>by
  have h1:=h a (by simp)
  have h2:=xm9 (l:=l) fun b hb=>h b (by simp [hb])
  rw [List.flatMap_cons,zLA,List.length_cons]
  have:((l.length + 1:Nat):Int) * e=(l.length:Int) * e + e:=by rw [Int.natCast_add,Int.add_mul]; simp
  omega
theorem xk2 {R:D->Int->Prop} {f:D->List Str} (k:∀ d c,R d c->((f d).length:Int)<=c):∀ {es:List D} {cs:List Int},All2 R es cs->((es.flatMap f).length:Int)<=cs.sum
 | _,_,.nil=>by simp
 | _,_,.cons h t=>by
  have h1:=k _ _ h
  have h2:=xk2 k t
  rw [List.flatMap_cons,zLA,List.sum_cons]
  omega
theorem xdn:∀ (n:Nat) (d:D) (c:Int),Tc n d c->((nd n d).length:Int)<=c
 | n,d,c,h=>by
  have leaf:LfC d c->((nd n d).length:Int)<=c:=by
   rintro (⟨i,rfl,h0⟩ | ⟨x,rfl,h0⟩)
   ·rw [xpu]; simpa using h0
   ·rw [xmz]; simpa using h0
  cases n with
  | zero=>exact leaf h
  | succ n=>
   rcases h with h | h
   ·exact leaf h
   ·rcases h with ⟨s,a,b,c1,c2,h1,h2,h3,rfl⟩ | ⟨kk,es,cs,h1,h2,_,rfl⟩ | ⟨a,f,h1,rfl⟩ | ⟨kk,t,a,h1,rfl⟩ | ⟨a,rs,c0,e,h1,h2,h3,h4,_,rfl⟩ | ⟨a,b,e,c1,c2,c3,h1,h2,h3,h4,rfl⟩
    ·have:=xdn n _ _ h1; have:=xdn n _ _ h2
     rw [xtz,zLA]; omega
    ·have:=xk2 (xdn n) h1
     rw [xpt]; omega
    ·rw [xpv]; exact xdn n _ _ h1
    ·rw [xps]; exact xdn n _ _ h1
    ·have g1:=xdn n _ _ h1
     have g2:=xm9 (l:=rs) (f:=fun r=>(nd n r.2.2).filter fun z=>!decide (V.str z=V.str r.2.1)) (e:=e) fun r hr=>by
      have:=xdn n _ _ (h2 r hr)
      have:=List.length_filter_le (fun z=>!decide (V.str z=V.str r.2.1)) (nd n r.2.2)
      omega
     rw [xlr,zLA]; omega
    ·have:=xdn n _ _ h1; have:=xdn n _ _ h2; have:=xdn n _ _ h3
     rw [xt0,zLA,zLA]; omega
theorem arm_mem {n:Nat} {rs:List (Str×Str×D)} {x:Str}:x∈(rs.flatMap fun r=>(nd n r.2.2).filter fun z=>!decide (V.str z=V.str r.2.1)) ↔ ∃ r∈rs,x∈nd n r.2.2/\x≠r.2.1:=by
 rw [List.mem_flatMap]
 constructor
 ·rintro ⟨r,hr,h⟩
  obtain ⟨h1,h2⟩:=List.mem_filter.mp h
  exact ⟨r,hr,h1,fun e=>by rw [e] at h2; simp at h2⟩
 ·rintro ⟨r,hr,h1,h2⟩
  exact ⟨r,hr,List.mem_filter.mpr ⟨h1,by simpa using fun e=>h2 e⟩⟩
theorem xhf {cs:Prop} {ks:List Kn}:∀ (n:Nat) (env:En) (d:D) (k:Str),Kd cs ks n env d k->∀ x∈nd n d,∃ v,env x=some v
 | n,env,d,k,h,x,hx=>by
  have leaf:xnk env d k->∃ v,env x=some v:=by
   rintro (⟨i,_,rfl,_⟩ | ⟨y,hy,rfl⟩)
   ·rw [xpu] at hx; cases hx
   ·rw [xmz,List.mem_singleton] at hx
    subst hx
    exact ⟨_,hy⟩
  cases n with
  | zero=>exact leaf h
  | succ n=>
   rcases h with h | h
   ·exact leaf h
   ·rcases h with ⟨s,a,b,h1,h2,rfl,_⟩ | ⟨es,kn,h1,h2,h3,rfl⟩ | ⟨a,k1,f,kn,h1,h2,h3,h4,rfl⟩ | ⟨t,a,kn,k1,h1,h2,h3,h4,rfl⟩ | ⟨hc,a,rs,k1,kn,h1,h2,h3,h4,h5,h6,h7,rfl⟩ | ⟨a,b,c,h1,h2,h3,rfl⟩
    ·rw [xtz] at hx
     rcases zMA hx with hx | hx
     ·exact xhf n _ _ _ h1 x hx
     ·exact xhf n _ _ _ h2 x hx
    ·rw [xpt,List.mem_flatMap] at hx
     obtain ⟨e,he,hx⟩:=hx
     obtain ⟨p,_,hp⟩:=xgt h3 e he
     exact xhf n _ _ _ hp x hx
    ·rw [xpv] at hx
     exact xhf n _ _ _ h1 x hx
    ·rw [xps] at hx
     exact xhf n _ _ _ h4 x hx
    ·rw [xlr] at hx
     rcases zMA hx with hx | hx
     ·exact xhf n _ _ _ h1 x hx
     ·obtain ⟨r,hr,hx1,hx2⟩:=arm_mem.mp hx
      obtain ⟨_,k2,_,g⟩:=h7 r hr
      obtain ⟨v,hv⟩:=xhf n _ _ _ g x hx1
      unfold En.put at hv
      rw [if_neg hx2] at hv
      exact ⟨v,hv⟩
    ·rw [xt0] at hx
     rcases zMA hx with hx | hx
     ·exact xhf n _ _ _ h1 x hx
     ·rcases zMA hx with hx | hx
      ·exact xhf n _ _ _ h2 x hx
      ·exact xhf n _ _ _ h3 x hx
theorem xgc {α β:Type} {R R':α->β->Prop}:∀ {as:List α} {bs:List β},All2 R as bs->(∀ a∈as,∀ b,R a b->R' a b)->All2 R' as bs
 | _,_,.nil,_=>.nil
 | _,_,.cons h t,k=>.cons (k _ (by simp) _ h) (xgc t fun a ha=>k a (by simp [ha]))
theorem xgj {ks:List Kn}:∀ (n:Nat) (env env':En) (d v:D),Ev ks n env d v->(∀ x∈nd n d,env x=env' x)->Ev ks n env' d v
 | n,env,env',d,v,h,he=>by
  have leaf:xel env d v->xel env' d v:=by
   rintro (⟨i,rfl,rfl⟩ | ⟨y,hy,rfl⟩)
   ·exact .inl ⟨i,rfl,rfl⟩
   ·exact .inr ⟨y,by rw [<- he y (by rw [xmz]; simp)]; exact hy,rfl⟩
  cases n with
  | zero=>exact leaf h
  | succ n=>
   rcases h with h | h
   ·exact .inl (leaf h)
   ·refine .inr ?_
    rcases h with ⟨s,a,b,x,y,h1,h2,hx,hy,rfl,hv⟩ | ⟨k,es,vs,hl,h1,rfl,hv⟩ | ⟨a,k,vs,f,kn,i,h1,h2,h3,h4,rfl⟩ | ⟨k,t,a,x,h1,rfl,hv⟩ | ⟨a,rs,k,t,x,y,e,hl,h1,hf,h2,rfl⟩ | ⟨a,b,c,x,h1,h2,rfl⟩
    ·rw [xtz] at he
     exact .inl ⟨s,a,b,x,y,xgj n _ _ _ _ h1 fun z hz=>he z (by simp [hz]),xgj n _ _ _ _ h2 fun z hz=>he z (by simp [hz]),hx,hy,rfl,hv⟩
    ·rw [xpt] at he
     exact .inr (.inl ⟨k,es,vs,hl,xgc h1 fun e' he' v' hv'=>xgj n _ _ _ _ hv' fun z hz=>he z (List.mem_flatMap.mpr ⟨e',he',hz⟩),rfl,hv⟩)
    ·rw [xpv] at he
     exact .inr (.inr (.inl ⟨a,k,vs,f,kn,i,xgj n _ _ _ _ h1 he,h2,h3,h4,rfl⟩))
    ·rw [xps] at he
     exact .inr (.inr (.inr (.inl ⟨k,t,a,x,xgj n _ _ _ _ h1 he,rfl,hv⟩)))
    ·rw [xlr] at he
     refine .inr (.inr (.inr (.inr (.inl ⟨a,rs,k,t,x,y,e,hl,xgj n _ _ _ _ h1 fun z hz=>he z (by simp [hz]),hf,xgj n _ _ _ _ h2 fun z hz=>?_,rfl⟩))))
     unfold En.put
     by_cases c:z=y
     ·rw [if_pos c,if_pos c]
     ·rw [if_neg c,if_neg c]
      exact he z (List.mem_append.mpr (.inr (arm_mem.mpr ⟨_,zMF hf,hz,c⟩)))
    ·rw [xt0] at he
     refine .inr (.inr (.inr (.inr (.inr ⟨a,b,c,x,xgj n _ _ _ _ h1 fun z hz=>he z (by simp [hz]),?_,rfl⟩))))
     by_cases h0:x=0
     ·rw [if_pos h0] at h2 ⊢
      exact xgj n _ _ _ _ h2 fun z hz=>he z (by simp [hz])
     ·rw [if_neg h0] at h2 ⊢
      exact xgj n _ _ _ _ h2 fun z hz=>he z (by simp [hz])
def CntE (rc:Bool) (d:D) (b:Int):Prop:=(rc=true/\Tc 22 d b)\/(rc=false/\∃ es:List (Str×D),d=.tup (es.map dPr)/\∀ e∈es,Tc 22 e.2 b)
theorem xk0 {α:Type} {R:D->Int->Prop} {f:α->D}:∀ {l:List α},(∀ a∈l,R (f a) 1)->All2 R (l.map f) (l.map fun _=>1)
 | [],_=>.nil
 | a :: l,h=>.cons (h a (by simp)) (xk0 fun b hb=>h b (by simp [hb]))
theorem xmj {α:Type}:∀ (l:List α),(l.map fun _=>(1:Int)).sum=l.length
 | []=>rfl
 | a :: l=>by
  rw [List.map_cons,List.sum_cons,xmj l,List.length_cons]
  omega
theorem xk1 {α:Type} {R:D->Int->Prop} {f:α->D}:∀ {l:List α},(∀ a∈l,R (f a) 0)->All2 R (l.map f) (l.map fun _=>0)
 | [],_=>.nil
 | a :: l,h=>.cons (h a (by simp)) (xk1 fun b hb=>h b (by simp [hb]))
theorem xjf {α:Type}:∀ (l:List α),(l.map fun _=>(0:Int)).sum=0
 | []=>rfl
 | a :: l=>by
  rw [List.map_cons,List.sum_cons,xjf l]
  rfl
theorem xpo {ks:List Kn} (wf:KWf ks):∀ (m:Nat) (x:Str),KIn ks m x->Tc m (nuT (m + 1) ks x) 0
 | 0,x,h=>by
  rcases h.nu wf with ⟨rfl,_,e,_⟩ | ⟨j,k,e,_⟩
  ·rw [e]; exact xoj (by decide)
  ·cases e
 | m + 1,x,h=>by
  rcases h.nu wf with ⟨rfl,_,e,_⟩ | ⟨j,k,ej,hk,hn,hm,hp,_,⟨hc,e,_⟩ | ⟨hc,p,r,er,e,_⟩⟩
  ·rw [e]; exact xoj (by decide)
  ·cases ej
   rw [e]
   refine .inr (.inr (.inl ⟨_,_,_,xk1 (R:=Tc m) (f:=fun p:Str×Str=>nuT (m + 1) ks p.2) fun p hp'=>xpo wf m p.2 (hp p hp'),by rw [xjf]; decide,by rw [zLM]; have:=wf.pts k hm; omega,rfl⟩))
  ·cases ej
   rw [e]
   exact .inr (.inr (.inr (.inr (.inl ⟨_,_,_,xpo wf m p.2 (hp p (by rw [er]; simp)),rfl⟩))))
theorem xt9 {ks2:List Kn} (wf2:KWf ks2) {ys:List Wy} {k:Kn} {d:D} (h:xde ks2 ys k=some d):CntE k.rc d 10:=by
 unfold xde at h
 cases hk:kAt ks2 k.name with
 | none=>rw [hk] at h; cases h
 | some k2=>
  rw [hk] at h
  have hm:=zMF hk
  by_cases hr:k2.rc=k.rc
  ·simp only [hr,if_true] at h
   cases hc:k.rc with
   | true=>
    simp only [hc,if_true] at h
    by_cases ha:k2.parts.all (okQ ys k.parts)=true
    ·rw [if_pos ha] at h
     cases h
     have h5:=wf2.pts k2 hm
     refine .inl ⟨rfl,xhw (n:=7) (by omega) (.inr (.inr (.inl ⟨_,_,_,xk0 (R:=Tc 6) (f:=tmQ ks2 k.parts) fun q hq=>?_,by rw [xmj]; omega,by rw [zLM]; omega,rfl⟩)))⟩
     unfold tmQ
     cases xd7 k.parts q.1 with
     | none=>exact xca _ _ _ _ (by decide) (xpo wf2 6 q.2 (xp5 wf2 hm hq))
     | some _=>exact xjb (by decide)
    ·rw [if_neg ha] at h
     cases h
   | false=>
    simp only [hc,Bool.false_eq_true,if_false] at h
    by_cases ha:k.parts.all (okT ys k2.parts)=true
    ·rw [if_pos ha] at h
     cases h
     refine .inr ⟨rfl,k.parts.map fun p=>(p.1,tTag k.name p.1 (tBox (S "it"))),?_,fun e he=>?_⟩
     ·unfold xq2
      rw [List.map_map]
      rfl
     ·obtain ⟨p,_,rfl⟩:=zMP he
      exact xhw (n:=1) (by omega) (.inr (.inr (.inr (.inr (.inl ⟨_,_,_,xjb (by decide),rfl⟩)))))
    ·rw [if_neg ha] at h
     cases h
  ·simp only [if_neg hr] at h
   cases h
theorem xjm {ks:List Kn} (wf:KWf ks):∀ (j:Nat) (x:Str) (b:Int),KIn ks j x->(match j with | 0=>(1:Int) | 1=>6 | 2=>31 | 3=>156 | _=>781)<=b->j<=4->smK ks x<=b
 | 0,x,b,h,hb,_=>by
  rcases h.look wf with ⟨rfl,_⟩ | ⟨j,k,e,_⟩
  ·rw [(xg3 wf).1]; exact hb
  ·cases e
 | j + 1,x,b,h,hb,hj=>by
  rcases h.look wf with ⟨rfl,_⟩ | ⟨j',k,e,hkx,hn,hm,hp⟩
  ·rw [(xg3 wf).1]
   match j,hj,hb with
   | 0,_,hb=>have hb':(6:Int)<=b:=hb; omega
   | 1,_,hb=>have hb':(31:Int)<=b:=hb; omega
   | 2,_,hb=>have hb':(156:Int)<=b:=hb; omega
   | 3,_,hb=>have hb':(781:Int)<=b:=hb; omega
  ·cases e
   rw [(xtj wf hkx).1]
   have h5:=wf.pts k hm
   have key:∀ B:Int,0<=B->(∀ p∈k.parts,smK ks p.2<=B)->smS (smK ks) k<=5 * B:=fun B hB hq=>by
    unfold smS
    by_cases hc:k.rc=true
    ·rw [if_pos hc]
     have:∀ l:List (Str×Str),(∀ p∈l,smK ks p.2<=B)->(l.map fun p=>smK ks p.2).sum<=(l.length:Int) * B:=by
      intro l
      induction l with
      | nil=>intro _; simp
      | cons a l ih=>
       intro hl
       have h1:=hl a (by simp)
       have h2:=ih fun p hp=>hl p (by simp [hp])
       rw [List.map_cons,List.sum_cons,List.length_cons]
       have:((l.length + 1:Nat):Int) * B=(l.length:Int) * B + B:=by rw [Int.natCast_add,Int.add_mul]; simp
       omega
     have h1:=this k.parts hq
     have h2:(k.parts.length:Int) * B<=5 * B:=Int.mul_le_mul_of_nonneg_right (by omega) hB
     omega
    ·rw [if_neg hc]
     cases hpp:k.parts with
     | nil=>show (0:Int)<=_; omega
     | cons p r=>
      have:=hq p (by rw [hpp]; simp)
      show smK ks p.2<=_
      omega
   match j,hj,hb with
   | 0,_,hb=>
    have hb':(6:Int)<=b:=hb
    have:=key 1 (by decide) fun p hp'=>xjm wf 0 p.2 1 (hp p hp') (by decide) (by decide)
    omega
   | 1,_,hb=>
    have hb':(31:Int)<=b:=hb
    have:=key 6 (by decide) fun p hp'=>xjm wf 1 p.2 6 (hp p hp') (by decide) (by decide)
    omega
   | 2,_,hb=>
    have hb':(156:Int)<=b:=hb
    have:=key 31 (by decide) fun p hp'=>xjm wf 2 p.2 31 (hp p hp') (by decide) (by decide)
    omega
   | 3,_,hb=>
    have hb':(781:Int)<=b:=hb
    have:=key 156 (by decide) fun p hp'=>xjm wf 3 p.2 156 (hp p hp') (by decide) (by decide)
    omega
theorem xu1 {ks:List Kn} (wf:KWf ks) (h4:ks.length<=4) {x:Str} (h:KIn ks 6 x):smK ks x<=781:=by
 rcases h.look wf with ⟨rfl,_⟩ | ⟨j,k,e,hkx,hn,hm,hp⟩
 ·rw [(xg3 wf).1]; decide
 ·have hin:KIn ks 4 x:=(KIn.of (.inr ⟨k,hm,hn⟩)).mono h4
  exact xjm wf 4 x 781 hin (by decide) (by decide)
end M
end
section
namespace M
open PySem L2
def ShC (h:Str) (r:List D):Prop:=(h=S "num"/\∃ i:Int,r=[.int i])\/(h=S "box"/\∃ x,r=[.str x])\/(h=S "op"/\∃ s a b,r=[.str s,a,b])\/(h=S "rec"/\∃ k es,r=[.str k,.tup es])\/(h=S "get"/\∃ a f,r=[a,.str f]) ∨
 (h=S "tag"/\∃ k t a,r=[.str k,.str t,a])\/(h=S "case"/\∃ a rs,r=[a,.tup rs])\/(h=S "if"/\∃ a b c,r=[a,b,c])
theorem xk3 {R:D->Int->Prop} (k:∀ d c,R d c->0<=c):∀ {es:List D} {cs:List Int},All2 R es cs->∀ e∈es,∃ c,R e c/\c<=cs.sum
 | _,_,.nil,_,h=>nomatch h
 | _,_,.cons h t,e,he=>by
  have h0:=k _ _ h
  have h1:=xi3 k t
  rw [List.sum_cons]
  rcases zMC he with rfl | he
  ·exact ⟨_,h,by omega⟩
  ·obtain ⟨c,g,l⟩:=xk3 k t e he
   exact ⟨c,g,by omega⟩
theorem xlc {m:Nat} {d:D} {c:Int} (h:Tc m d c):∃ hd r,d=.tup (.str hd :: r)/\ShC hd r/\((hd=S "box"/\∃ x,r=[.str x]/\nd m d=[x])\/(hd≠S "box"/\(∀ e∈innL hd r,∃ j,m=j + 1/\Tc j e c) ∧
  (hd=S "case"->∃ a,∃ rs:List (Str×Str×D),r=[a,.tup (rs.map dArm)]/\rs.length<=1000/\∀ q∈rs,∃ j,m=j + 1/\Tc j q.2.2 c)/\nd m d=(innL hd r).flatMap (nd (m - 1))++(if hd=S "case" then (esL r).flatMap (xls (nd (m - 1))) else [])))/\(innL hd r).length<=1000:=by
 have leaf:LfC d c->∃ hd r,d=.tup (.str hd :: r)/\ShC hd r/\((hd=S "box"/\∃ x,r=[.str x]/\nd m d=[x])\/(hd≠S "box"/\(∀ e∈innL hd r,∃ j,m=j + 1/\Tc j e c) ∧
  (hd=S "case"->∃ a,∃ rs:List (Str×Str×D),r=[a,.tup (rs.map dArm)]/\rs.length<=1000/\∀ q∈rs,∃ j,m=j + 1/\Tc j q.2.2 c)/\nd m d=(innL hd r).flatMap (nd (m - 1))++(if hd=S "case" then (esL r).flatMap (xls (nd (m - 1))) else [])))/\(innL hd r).length<=1000:=by
  rintro (⟨i,rfl,_⟩ | ⟨x,rfl,_⟩)
  ·refine ⟨S "num",_,rfl,.inl ⟨rfl,i,rfl⟩,.inr ⟨by walk_at "k",fun e he=>?_,fun z=>absurd z (by walk_at "k"),?_⟩,?_⟩
   ·rw [xhj] at he; cases he
   ·rw [xpu,xhj,if_neg (by walk_at "k")]; rfl
   ·rw [xhj]; exact Nat.zero_le _
  ·refine ⟨S "box",_,rfl,.inr (.inl ⟨rfl,x,rfl⟩),.inl ⟨rfl,x,rfl,xmz _ _⟩,?_⟩
   unfold innL
   rw [if_neg (by walk_at "k"),if_neg (by walk_at "k"),if_neg (by walk_at "k"),if_neg (by walk_at "k"),if_neg (by walk_at "k")]
   exact Nat.zero_le _
 cases m with
 | zero=>exact leaf h
 | succ n=>
  rcases h with h | h
  ·exact leaf h
  ·have tp:=xex n
   rcases h with ⟨s,a,b,c1,c2,h1,h2,h3,rfl⟩ | ⟨kk,es,cs,h1,h2,h3,rfl⟩ | ⟨a,f,h1,rfl⟩ | ⟨kk,t,a,h1,rfl⟩ | ⟨a,rs,c0,e,h1,h2,h3,h4,h5,rfl⟩ | ⟨a,b,e,c1,c2,c3,h1,h2,h3,h4,rfl⟩
   ·have:=tp _ _ h1; have:=tp _ _ h2
    refine ⟨S "op",_,rfl,.inr (.inr (.inl ⟨rfl,_,_,_,rfl⟩)),.inr ⟨by walk_at "k",fun e he=>?_,fun z=>absurd z (by walk_at "k"),xdr _ _ _ (by walk_at "k")⟩,by rw [xm6]; simp⟩
    rw [xm6] at he
    refine ⟨n,rfl,?_⟩
    rcases zMC he with rfl | he
    ·exact xca _ _ _ _ (by omega) h1
    ·rw [zMO he]; exact xca _ _ _ _ (by omega) h2
   ·refine ⟨S "rec",_,rfl,.inr (.inr (.inr (.inl ⟨rfl,_,_,rfl⟩))),.inr ⟨by walk_at "k",fun e he=>?_,fun z=>absurd z (by walk_at "k"),xdr _ _ _ (by walk_at "k")⟩,by rw [xhi]; exact h3⟩
    rw [xhi] at he
    obtain ⟨c',g,l⟩:=xk3 tp h1 e he
    exact ⟨n,rfl,xca _ _ _ _ (by omega) g⟩
   ·refine ⟨S "get",_,rfl,.inr (.inr (.inr (.inr (.inl ⟨rfl,_,_,rfl⟩)))),.inr ⟨by walk_at "k",fun e he=>?_,fun z=>absurd z (by walk_at "k"),xdr _ _ _ (by walk_at "k")⟩,by rw [xiz]; simp⟩
    rw [xiz,List.mem_singleton] at he
    rw [he]; exact ⟨n,rfl,h1⟩
   ·refine ⟨S "tag",_,rfl,.inr (.inr (.inr (.inr (.inr (.inl ⟨rfl,_,_,_,rfl⟩))))),.inr ⟨by walk_at "k",fun e he=>?_,fun z=>absurd z (by walk_at "k"),xdr _ _ _ (by walk_at "k")⟩,by rw [xiy]; simp⟩
    rw [xiy,List.mem_singleton] at he
    rw [he]; exact ⟨n,rfl,h1⟩
   ·have:=tp _ _ h1
    have hm:0<=(rs.length:Int) * e:=Int.mul_nonneg (by omega) h3
    refine ⟨S "case",_,rfl,.inr (.inr (.inr (.inr (.inr (.inr (.inl ⟨rfl,_,_,rfl⟩)))))),.inr ⟨by walk_at "k",fun e' he=>?_,fun z=>⟨a,rs,rfl,h5,fun q hq=>⟨n,rfl,xca _ _ _ _ ?_ (h2 q hq)⟩⟩,xdr _ _ _ (by walk_at "k")⟩,by rw [xgp]; simp⟩
    ·rw [xgp,List.mem_singleton] at he
     rw [he]; exact ⟨n,rfl,xca _ _ _ _ (by omega) h1⟩
    ·have:1 * e<=(rs.length:Int) * e:=Int.mul_le_mul_of_nonneg_right (by have:=List.length_pos_of_mem hq; omega) h3
     omega
   ·have:=tp _ _ h1; have:=tp _ _ h2; have:=tp _ _ h3
    refine ⟨S "if",_,rfl,.inr (.inr (.inr (.inr (.inr (.inr (.inr ⟨rfl,_,_,_,rfl⟩)))))),.inr ⟨by walk_at "k",fun e' he=>?_,fun z=>absurd z (by walk_at "k"),xdr _ _ _ (by walk_at "k")⟩,by rw [xm7]; simp⟩
    rw [xm7] at he
    refine ⟨n,rfl,?_⟩
    rcases zMC he with rfl | he
    ·exact xca _ _ _ _ (by omega) h1
    ·rcases zMC he with rfl | he
     ·exact xca _ _ _ _ (by omega) h2
     ·rw [zMO he]; exact xca _ _ _ _ (by omega) h3
theorem xgb {α β:Type} (f:α->List β) (l:List α) (i:Nat):((l.take i).flatMap f).length<=(l.flatMap f).length:=by
 conv=>rhs; rw [<- List.take_append_drop i l,List.flatMap_append,zLA]
 exact Nat.le_add_right _ _
theorem xko {α β:Type} (f:α->List β) {l:List α} {i:Nat} {a:α} (h:l[i]?=some a):(l.take (i + 1)).flatMap f=(l.take i).flatMap f++f a:=by
 rw [zTA,h]
 show (l.take i++[a]).flatMap f=_
 rw [List.flatMap_append]
 simp
end M
end
section
namespace St
open PySem PySem.Spec PyProof.Rows
def byT (w:World):Bool:=w.params.followText "set-order"
def SetL (prog:Program) (w:World) (h:Heap) (a:Addr) (S:Str->Bool) (n:Nat):Prop:=
 ∃ o es ep t,h.get? a=some o/\o.ExactSet/\o.data=.set es ep t/\ElemsOf (PySem.strKind prog w) es.toList/\(∀ k,S k=true ↔ ∃ e∈es.toList,(PySem.strKind prog w).is k e.2=true)/\es.size < scanBound/\t.fits es.size=true/\es.size=n/\(byT w=true\/t.led=true)/\(n=0\/t.plain=false)
theorem xle (t:SetTable) (n:Nat):(t.orStandIn n).led=t.led/\(t.plain=false->(t.orStandIn n).plain=false):=by
 unfold SetTable.orStandIn
 split
 ·exact ⟨rfl,id⟩
 ·exact ⟨rfl,fun _=>rfl⟩
theorem xt4 (t:SetTable) (es:Array (Int×Value)) (h:Int) (x:Value):(layNew t es h x).2.1.led=t.led/\(t.plain=false->(layNew t es h x).2.1.plain=false):=by
 unfold layNew
 split
 ·rename_i slot wd _
  exact xle (t.put slot).1 _
 ·exact ⟨rfl,fun _=>rfl⟩
theorem xo8 (t:SetTable) (es:Array (Int×Value)) (k:Nat):(relayAll t es k).2.1.led=t.led/\(t.plain=false->(relayAll t es k).2.1.plain=false):=by
 unfold relayAll
 split
 ·rename_i t' order hr
  have h2:t'.led=t.led/\t'.plain=t.plain:=by
   unfold SetTable.relaid SetTable.laid at hr
   cases hl:SetTable.layClean (SetTable.sizeAbove k - 1) (es.map fun x=>x.1) with
   | none=>rw [hl] at hr; cases hr
   | some ow=>
    rw [hl] at hr
    cases hr
    exact ⟨rfl,rfl⟩
  dsimp only
  split
  ·exact ⟨h2.1,fun e=>by rw [<- e]; exact h2.2⟩
  ·exact ⟨rfl,fun _=>rfl⟩
 ·exact ⟨rfl,fun _=>rfl⟩
section
variable {prog:Program} {w:World} {A:Around} {E:Value->Shared->Prop} {s:Shared}
theorem xh4 {h:Heap} {a:Addr} {o:Obj} {es:Array (Int×Value)} {ep:Nat} {t:SetTable} (ho:h.get? a=some o) (hex:o.ExactSet) (hd:o.data=.set es ep t)
  {es':Array (Int×Value)} {t':SetTable} {S':Str->Bool} (hel:ElemsOf (PySem.strKind prog w) es'.toList) (hmem:∀ k,S' k=true ↔ ∃ e∈es'.toList,(PySem.strKind prog w).is k e.2=true) (hb:es'.size < scanBound) (hf:t'.fits es'.size=true)
  (hl:byT w=true\/t'.led=true) (hp:es'.size=0\/t'.plain=false) :
  (h.update a (Obj.putSet es' t')).get? a=some { o with data:=.set es' (ep + 1) t' }/\SetL prog w (h.update a (Obj.putSet es' t')) a S' es'.size:=by
 obtain ⟨hg,_⟩:=SetOf_store (knd:=PySem.strKind prog w) (S':=S') ho hex hd hel hmem hb hf
 exact ⟨hg,_,es',ep + 1,t',hg,hex,rfl,hel,hmem,hb,hf,rfl,hl,hp⟩
theorem xnj {g:Bool->Sem Unit} (hg:∀ (b:Bool) (s₁:Shared) (Q':Unit->Shared->Prop),Q' () s₁->wpAny (model prog w) A (g b) Q' E s₁)
  {a:Addr} {o:Obj} {es:Array (Int×Value)} {ep:Nat} {t:SetTable} (ho:s.heap.get? a=some o) (hex:o.ExactSet) (hd:o.data=.set es ep t)
  {es1:Array (Int×Value)} {t2:SetTable} {S':Str->Bool} (hel1:ElemsOf (PySem.strKind prog w) es1.toList) (hmem1:∀ k',S' k'=true ↔ ∃ e∈es1.toList,(PySem.strKind prog w).is k' e.2=true)
  (hb1:es1.size < scanBound) (hf2:t2.fits es1.size=true) (hl:byT w=true\/t2.led=true) (hp:t2.plain=false) {wd:Bool} {R:Option Bool->Shared->Prop}
  (h:∀ h',Heap.SameBut a s.heap h'->SetL prog w h' a S' es1.size->R (some true) { s with heap:=h' }) :
  wpAny (model prog w) A (do
    storeSet a es1 t2
    if (!wd && t2.tooFull)=true then do
      g (relayAll t2 es1 (SetTable.grown es1.size)).2.2
      storeSet a (relayAll t2 es1 (SetTable.grown es1.size)).1 (relayAll t2 es1 (SetTable.grown es1.size)).2.1
      pure (some true)
     else pure (some true)) R E s:=by
 refine wpAny_bind (wpAny_storeSet_of ho hd ?_ (fits_of_scanBound hb1))
 obtain ⟨ho1,hS1⟩:=xh4 (prog:=prog) (w:=w) ho hex hd hel1 hmem1 hb1 hf2 hl (.inr hp)
 have sb1:=Heap.SameBut.update s.heap a (Obj.putSet es1 t2)
 split
 ·have rp:=relayAll_perm t2 es1 (SetTable.grown es1.size)
  have rf:=relayAll_fits t2 es1 (SetTable.grown es1.size)
  have rl:=xo8 t2 es1 (SetTable.grown es1.size)
  generalize relayAll t2 es1 (SetTable.grown es1.size)=Rl at rp rf rl ⊢
  obtain ⟨es2,t3,g2⟩:=Rl
  dsimp only at rp rf rl ⊢
  have sz:es2.size=es1.size:=by rw [<- Array.length_toList,rp.length_eq,Array.length_toList]
  have b2:es2.size < scanBound:=by rw [sz]; exact hb1
  refine wpAny_bind (hg _ _ _ ?_)
  refine wpAny_bind (wpAny_storeSet_of ho1 rfl ?_ (fits_of_scanBound b2))
  obtain ⟨_,hS2⟩:=xh4 (prog:=prog) (w:=w) (S':=S') ho1 hex rfl (hel1.perm rp) (fun k'=>(hmem1 k').trans ⟨fun ⟨e,he,q⟩=>⟨e,rp.mem_iff.mpr he,q⟩,fun ⟨e,he,q⟩=>⟨e,rp.mem_iff.mp he,q⟩⟩) b2 rf (by rw [rl.1]; exact hl) (.inr (rl.2 hp))
  rw [sz] at hS2
  exact wpAny_pure (h _ (sb1.trans (Heap.SameBut.update _ a _)) hS2)
 ·exact wpAny_pure (h _ sb1 hS1)
theorem addL {a:Addr} {S:Str->Bool} {n:Nat} {k:Str} {tk:Tok} {Q:Bool->Shared->Prop} (hS:SetL prog w s.heap a S n) (hroom:n + 1 < scanBound)
  (h:∀ h',Heap.SameBut a s.heap h'->SetL prog w h' a (fun k'=>S k' || decide (k'=k)) (if S k then n else n + 1)->Q (!S k) { s with heap:=h' }) :
  wpAny (model prog w) A (setAddHashed a (.str k tk) ((PySem.strKind prog w).hash k)) Q E s:=by
 have hkey:=PySem.strKind_is prog w k tk
 have hsc:(Value.str k tk).scannable=true:=rfl
 obtain ⟨o,es,ep,t,ho,hex,hd,hel,hmem,hb,hf,hn,hl,hp⟩:=hS
 have hb1:es.size + 1 < scanBound:=by rw [hn]; exact hroom
 unfold setAddHashed setAddHashedIn
 refine wpAny_holding (wpAny_bind (wpAny_setState_of ho hd hf ?_))
 dsimp only
 rw [byScan_of hsc hb hel]
 simp only [↓reduceIte]
 unfold setAddByScan
 refine wpAny_bind ?_
 refine wpAny_bind (wpAny_rule ?_)
 refine wpAny_bind (wpAny_setScan_of hkey ho hd hf hel ?_)
 cases hr:List.findIdx? (fun e=>(PySem.strKind prog w).is k e.2) es.toList with
 | some j=>
  dsimp only
  obtain ⟨hj,pj,_⟩:=List.findIdx?_eq_some_iff_getElem.mp hr
  have hSk:S k=true:=(hmem k).mpr ⟨es.toList[j],List.getElem_mem hj,pj⟩
  refine wpAny_pure (wpAny_pure ?_)
  have e:s={ s with heap:=s.heap }:=by cases s; rfl
  have:=h s.heap (Heap.SameBut.refl a s.heap) ⟨o,es,ep,t,ho,hex,hd,hel,fun k'=>by
   rw [Bool.or_eq_true,decide_eq_true_eq,<- hmem k']
   exact ⟨fun hk=>hk.elim id (fun e=>e ▸ hSk),.inl⟩,hb,hf,by rw [hSk]; exact hn,hl,by rw [hSk]; exact hp⟩
  rw [hSk] at this
  rw [e]
  exact this
 | none=>
  dsimp only
  have hSk:S k=false:=by
   cases hk:S k with
   | false=>rfl
   | true=>
    obtain ⟨e,he,q⟩:=(hmem k).mp hk
    have:=List.findIdx?_eq_none_iff.mp hr e he
    rw [q] at this
    exact Bool.noConfusion this
  have hgw:∀ (b:Bool) {s₁:Shared} {Q':Unit->Shared->Prop},Q' () s₁->wpAny (model prog w) A (match b with | true=>rule "set.scan.the-table-gave-way" | false=>pure ()) Q' E s₁:=fun b s₁ Q' hq=>by
   cases b
   ·exact wpAny_pure hq
   ·exact wpAny_rule hq
  have lp:=layNew_perm t es ((PySem.strKind prog w).hash k) (.str k tk)
  have lf:=layNew_fits t es ((PySem.strKind prog w).hash k) (.str k tk)
  have ll:=xt4 t es ((PySem.strKind prog w).hash k) (.str k tk)
  generalize layNew t es ((PySem.strKind prog w).hash k) (.str k tk)=L at lp lf ll ⊢
  obtain ⟨es1,t1,wd,gv⟩:=L
  dsimp only at lp lf ll ⊢
  rw [Array.toList_push] at lp
  have hel1:ElemsOf (PySem.strKind prog w) es1.toList:=(hel.push hkey hsc).perm lp
  have hmem1:∀ k',(S k' || decide (k'=k))=true ↔ ∃ e∈es1.toList,(PySem.strKind prog w).is k' e.2=true:=mem_push_iff hkey hmem lp
  have sz1:es1.size=n + 1:=by rw [<- Array.length_toList,lp.length_eq,zLA,Array.length_toList,hn]; rfl
  have b1:es1.size < scanBound:=by rw [sz1]; exact hroom
  refine wpAny_bind (hgw _ ?_)
  have fin:∀ h',Heap.SameBut a s.heap h'->SetL prog w h' a (fun k'=>S k' || decide (k'=k)) es1.size->Q true { s with heap:=h' }:=by
   intro h' sb hS'
   have:=h h' sb
   rw [hSk] at this
   rw [sz1] at hS'
   exact this hS'
  have hl1:byT w=true\/t1.led=true:=by rw [ll.1]; exact hl
  split
  ·refine wpAny_bind ?_
   rw [hashByValue_scannable 8 hsc]
   refine wpAny_pure ?_
   refine xnj ?_ ho hex hd hel1 hmem1 b1 (t2:={ t1 with plain:=false }) (SetTable.fits_plain_off lf) hl1 rfl ?_
   ·intro b s₁ Q' hq; cases b <;> first | exact wpAny_pure hq | exact wpAny_rule hq
   ·intro h' sb hS'; dsimp only; exact wpAny_pure (fin h' sb hS')
  ·rename_i hpl
   refine wpAny_bind (wpAny_pure ?_)
   simp only [↓reduceIte]
   refine xnj ?_ ho hex hd hel1 hmem1 b1 lf hl1 (by simpa using hpl) ?_
   ·intro b s₁ Q' hq; cases b <;> first | exact wpAny_pure hq | exact wpAny_rule hq
   ·intro h' sb hS'; dsimp only; exact wpAny_pure (fin h' sb hS')
theorem xnq {h:Heap} {a:Addr} {S S':Str->Bool} {n n':Nat} (hS:SetL prog w h a S n) (e:∀ k,S k=S' k) (en:n=n'):SetL prog w h a S' n':=by
 subst en
 rw [<- show S=S' from funext e]
 exact hS
theorem xrb (a:Value) {Q₁:Value->Shared->Prop}
  (h:Q₁ (.ref s.heap.objs.size) { s with heap:=s.heap.push { cls:=.type "set",dict:=none,data:=.set #[] 0 (.fresh 0 0 (!byT w)) } }) :
  codeAny (model prog w) A (.call (.builtin "set.__new__") ⟨[.type "set",a],[]⟩) (wants Q₁ E) s:=by
 refine codeAny_of_tree ?_
 show wpAny _ A.in1 (do checkBuiltinCall "set.__new__" ⟨[.type "set",a],[]⟩; again (.builtin "set.__new__" ⟨[.type "set",a],[]⟩)) _ _ s
 refine wpAny_bind (wpAny_of_eq (F.newCall_set_1 a) (wpAny_pure ⟨plainId_quiet F.plain_set_new _,codeAny_builtin F.entry_set_new ?_⟩))
 rw [Around.under_plainId F.plain_set_new _]
 unfold Builtin.«set.__new__» Builtin.Frozenset.newClass
 have sb:=sub_set_self
 obtain ⟨h0,g0,d0,t0,o0⟩:=s
 dsimp only
 wp_walk
 refine wpAny_askSetting (wpAny_pure ?_)
 dsimp only
 simp only [newObj]
 refine wpAny_bind (wpAny_alloc (wpAny_pure ?_))
 exact wpAny_pure h
end
section
variable {prog:Program} {w:World} {A:Around} {R:Result->Shared->Prop} {I:Addr} {fp wr:List Addr} {G:Array GenState->Array GenState->Prop} {n:Nat} {P:Nat->Value->Prop} {St:Nat->Shared->Prop}
theorem xog (W:WalksS prog w A.in1 I fp wr G n P St) (S:Addr) (hSf:S ∉ fp)
  (val:Nat->Str) (hval:∀ i v,P i v->∃ t,v=.str (val i) t) (hb:n + 1 < scanBound) :
  ∀ (k i:Nat) (s:Shared),n - i=k->i<=n->St i s->
   SetL prog w s.heap S (fun k'=>(met val i).any (· == k')) (met val i).length->
   (∀ s',Moved (S :: wr) G s s'->SetL prog w s'.heap S (fun k'=>(met val n).any (· == k')) (met val n).length->R (.ok (.ret .none)) s')->
   codeAny (model prog w) A (.builtin "set.update.loop" ⟨[.ref S,.ref I],[]⟩) R s:=by
 have hSw:S ∉ wr:=fun h=>hSf (W.sub _ h)
 have hsub:∀ b∈wr,b∈S :: wr:=fun b hb=>List.mem_cons_of_mem _ hb
 intro k
 induction k with
 | zero=>
  intro i s hk hi hst hS hR
  have hin:i=n:=by omega
  subst hin
  refine codeAny_builtin F.entry_set_update_loop ?_
  rw [Around.under_plainId F.plain_set_update_loop _]
  show wpAny _ A.in1 (pyNext (.ref I) >>= _) _ _ s
  refine wpAny_bind (W.done s _ _ hst fun s' hm=>?_)
  show wpAny _ A.in1 (ret Value.none) _ _ s'
  exact wpAny_pure (hR s' (hm.mono hsub) (by
   obtain ⟨o,es,ep,t,ho,rest⟩:=hS
   exact ⟨o,es,ep,t,hm.heap S _ hSw ho,rest⟩))
 | succ k ih=>
  intro i s hk hi hst hS hR
  have hlt:i < n:=by omega
  refine codeAny_builtin F.entry_set_update_loop ?_
  rw [Around.under_plainId F.plain_set_update_loop _]
  show wpAny _ A.in1 (pyNext (.ref I) >>= _) _ _ s
  refine wpAny_bind (W.item i s _ _ hlt hst fun v s' hP hst' hm=>?_)
  obtain ⟨t,rfl⟩:=hval i v hP
  have hS':SetL prog w s'.heap S (fun k'=>(met val i).any (· == k')) (met val i).length:=by
   obtain ⟨o,es,ep,tb,ho,rest⟩:=hS
   exact ⟨o,es,ep,tb,hm.heap S _ hSw ho,rest⟩
  show wpAny _ A.in1 (holding [Value.str (val i) t] (setAdd S (.str (val i) t)) >>= _) _ _ s'
  refine wpAny_bind (wpAny_holding ?_)
  unfold setAdd
  refine wpAny_holding ?_
  refine wpAny_bind ((PySem.strKind prog w).pyHash (k:=val i) (PySem.strKind_is _ _ _ _) ?_)
  have hroom:(met val i).length + 1 < scanBound:=by have:=met_len val i; omega
  refine addL (s:={ s' with toks:=s'.toks + 1 }) hS' hroom fun h' hsb hS2=>?_
  have hSi:SetL prog w h' S (fun k'=>(met val (i + 1)).any (· == k')) (met val (i + 1)).length:=
   xnq hS2 (fun k'=>by rw [xfi,xs1]) (by rw [xfi,xv9])
  refine wpAny_pure ⟨plainId_quiet F.plain_set_update_loop _,ih (i + 1) _ (by omega) hlt (W.frame _ s' _ _ hst' (Nat.le_succ _) fun b hb o e=>?_) hSi fun s'' hm'' hS''=>?_⟩
  ·rw [hsb.2 b (fun h:b=S=>hSf (by rw [<- h]; exact hb))]; exact e
  ·refine hR s'' (Moved.trans W.gtrans ((hm.mono hsub).then_heap (Nat.le_succ _) fun b o hb e=>?_) hm'') hS''
   rw [hsb.2 b (fun h:b=S=>hb (by rw [h]; exact List.mem_cons_self))]; exact e
end
section
variable {prog:Program} {w:World} {A:Around} {E:Value->Shared->Prop} {s:Shared}
set_option maxRecDepth 100000 in
set_option maxHeartbeats 3200000 in
theorem call_setL {l:Addr} {items:Array Value} {ns:List Str} {Q:Value->Shared->Prop}
  (hh:A.handled=none) (hl:s.heap.IsList l items) (hi:StrsAre items.toList ns) (hb:items.size + 1 < scanBound)
  (h:∀ (h':Heap) (tk:Nat),SetL prog w h' s.heap.objs.size (fun k'=>(met (fun i=>ns.getD i Str.empty) items.size).any (· == k')) (met (fun i=>ns.getD i Str.empty) items.size).length->
   (∀ b o,b < s.heap.objs.size->s.heap.get? b=some o->h'.get? b=some o)->Q (.ref s.heap.objs.size) { s with heap:=h',toks:=tk }) :
  wpAny (model prog w) A (call (.type "set") [.ref l]) Q E s:=by
 obtain ⟨c,tl,hmro⟩:=F.called_set.mro
 have hmade:=F.called_set.made
 have hsub:=F.called_set.sub
 refine wpAny_call (codeAny_of_tree ?_)
 show wpAny _ _ (callAny (.type "set") _) _ _ _
 refine wpAny_pure ⟨Code.quiet_builtin _ (by walk_at "k"),codeAny_builtin F.entry_type_call ?_⟩
 rw [Around.under_plain (weight_type_call_type "set" [.ref l] []) rfl]
 have h1:=F.called_set.notType
 have h2:=F.called_set.canCreate
 have hct:=F.typeCall_set_1 (.ref l)
 repeat (any_goals (first | assumption | wp_step))
 refine codeAny_mono (xrb (.ref l) (E:=E) (Q₁:=fun obj s₁=>∃ led:Bool,led=!byT w/\obj=.ref s.heap.objs.size/\s₁={ s with heap:=s.heap.push { cls:=.type "set",dict:=none,data:=.set #[] 0 (.fresh 0 0 led) } }) ⟨_,rfl,rfl,rfl⟩) fun r s₁ hr=>?_
 cases r with
 | error e=>exact hr
 | ok fl=>
  cases fl with
  | ret obj=>
   obtain ⟨led,hled,rfl,rfl⟩:=hr
   have hS:(s.heap.push { cls:=.type "set",dict:=none,data:=.set #[] 0 (.fresh 0 0 led) }).get? s.heap.objs.size=some { cls:=.type "set",dict:=none,data:=.set #[] 0 (.fresh 0 0 led) }:=Heap.get?_push_size _ rfl
   have hT:Shared.TypeIs { s with heap:=s.heap.push { cls:=.type "set",dict:=none,data:=.set #[] 0 (.fresh 0 0 led) } } (.ref s.heap.objs.size) "set":=⟨_,hS,rfl⟩
   have hli:=F.called_set.init.lookup
   have hbi:=F.called_set.init.bind (.ref s.heap.objs.size)
   repeat (any_goals (first | assumption | wp_step))
   refine codeAny_mono (codeAny_call_builtin (R:=wants (fun r s₂=>r=.none/\∃ h' tk,s₂={ s with heap:=h',toks:=tk } ∧
     SetL prog w h' s.heap.objs.size (fun k'=>(met (fun i=>ns.getD i Str.empty) items.size).any (· == k')) (met (fun i=>ns.getD i Str.empty) items.size).length ∧
     (∀ b o,b < s.heap.objs.size->s.heap.get? b=some o->h'.get? b=some o)) E) F.called_set.init.plain F.entry_set_init (check_set_init_1 hT ?_)) fun r₂ s₂ hr₂=>?_
   ·obtain ⟨ol,hol,hcl,nl,hdl⟩:=hl
    obtain ⟨ocls,odict,odata,oslots⟩:=ol
    simp only at hcl hdl
    subst hcl; subst hdl
    have hol':(s.heap.push { cls:=.type "set",dict:=none,data:=.set #[] 0 (.fresh 0 0 led) }).get? l=some { cls:=.type "list",dict:=odict,data:=.seq items nl,slots:=oslots }:=zPO _ hol
    have hsls:=F.sub_list_set
    have hslf:=F.sub_list_frozenset
    have hne:(Value.type "list" == Value.type "dict")=false:=by decide
    have hl1:(s.heap.push { cls:=.type "set",dict:=none,data:=.set #[] 0 (.fresh 0 0 led) }).IsList l items:=⟨_,hol',rfl,nl,rfl⟩
    unfold Builtin.«set.__init__» noKeywords Builtin.Frozenset.updateFrom
    generalize hPI:pyIter=PI
    wp_walk
    subst hPI
    refine wpAny_pyIter_list hl1 ?_
    refine wpAny_bind (wpAny_runValue ?_)
    have hlS:l < s.heap.objs.size:=Heap.lt_size hol
    have hh3:A.in1.in1.in1.handled=none:=by simp [hh]
    have hneI:l≠(s.heap.push { cls:=.type "set",dict:=none,data:=.set #[] 0 (.fresh 0 0 led) }).objs.size:=by
     rw [Heap.size_push]; exact Nat.ne_of_lt (Nat.lt_succ_of_lt hlS)
    have hSf:s.heap.objs.size ∉ [(s.heap.push { cls:=.type "set",dict:=none,data:=.set #[] 0 (.fresh 0 0 led) }).objs.size,l]:=by
     rw [Heap.size_push]; simp only [List.mem_cons,List.mem_singleton,List.not_mem_nil,or_false,not_or]
     exact ⟨Nat.ne_of_lt (Nat.lt_succ_self _),Nat.ne_of_gt hlS⟩
    have hval:∀ (i:Nat) (v:Value),items[i]?=some v->∃ t,v=.str ((fun i=>ns.getD i Str.empty) i) t:=fun i v hv=>
     xor hi i v (by rw [Array.getElem?_toList]; exact hv)
    refine xog ((Walks.list hh3 _ l hneI items).toS) s.heap.objs.size
     hSf (fun i=>ns.getD i Str.empty) hval hb (items.size - 0) 0 _ (by omega) (Nat.zero_le _)
     ⟨⟨_,Heap.get?_push_size _ rfl,rfl,rfl⟩,(hl1.push _)⟩ ?hS0 ?hR
    case hS0=>
     have hget:((s.heap.push { cls:=.type "set",dict:=none,data:=.set #[] 0 (.fresh 0 0 led) }).push { cls:=.type "list_iterator",data:=.fields #[.ref l,.int 0 0] }).get? s.heap.objs.size
       = some { cls:=.type "set",dict:=none,data:=.set #[] 0 (.fresh 0 0 led) }:=zPO _ hS
     exact ⟨_,#[],0,_,hget,⟨rfl,rfl,rfl⟩,rfl,(fun e he=>by simp at he),(fun k=>by simp [met]),by decide,rfl,rfl,by
      rw [hled]
      cases byT w
      ·exact .inr rfl
      ·exact .inl rfl,.inl rfl⟩
    case hR=>
     intro s' hm hS'
     obtain ⟨h',g',d',tk',os'⟩:=s'
     have eg:g'=s.gens:=hm.gens
     have ed:d'=s.drawn:=hm.drawn
     have eo:os'=s.os:=hm.os
     subst eg; subst ed; subst eo
     show wpAny _ _ _ _ _ _
     refine wpAny_pure ?_
     show wpAny _ _ (ret Value.none) _ _ _
     refine wpAny_pure ⟨rfl,h',tk',rfl,hS',fun b o hb e=>?_⟩
     have hb1:b≠s.heap.objs.size:=Nat.ne_of_lt hb
     have hb2:b≠(s.heap.push { cls:=.type "set",dict:=none,data:=.set #[] 0 (.fresh 0 0 led) }).objs.size:=by
      rw [Heap.size_push]; exact Nat.ne_of_lt (Nat.lt_succ_of_lt hb)
     exact hm.heap b o (by simp only [List.mem_cons,List.mem_singleton,List.not_mem_nil,or_false,not_or]; exact ⟨hb1,hb2⟩) (zPO _ (zPO _ e))
   ·cases r₂ with
    | error e=>exact hr₂
    | ok fl₂=>
     cases fl₂ with
     | ret r=>
      obtain ⟨rfl,h',tk,rfl,hS',hk'⟩:=hr₂
      repeat (any_goals (first | assumption | wp_step))
      exact h _ _ hS' hk'
     | _=>exact hr₂.elim
  | _=>exact hr.elim
end
end St
end
section
namespace St
open PySem PySem.Spec PyProof.Rows
section
variable {M:Model} {A:Around} {E:Value->Shared->Prop} {s:Shared}
theorem xs5 {src:Source} {n:Nat} {Q:Nat->Shared->Prop} (hn:n≠0) (h:∀ i d,i < n->Q i { s with drawn:=d }):wpAny M A (choose src n) Q E s:=fun Γ p _=>
 ⟨hn,h _ _ (Nat.mod_lt _ (Nat.pos_of_ne_zero hn))⟩
theorem xf4 {α:Type}:∀ {xs:List α} {i:Nat} {x:α},xs[i]?=some x->(x :: xs.eraseIdx i).Perm xs
 | [],i,x,h=>by simp at h
 | y :: xs,0,x,h=>by
  simp at h
  subst h
  exact List.Perm.refl _
 | y :: xs,i + 1,x,h=>by
  have ih:=xf4 (xs:=xs) (i:=i) (x:=x) (by simpa using h)
  rw [List.eraseIdx_cons_succ]
  exact (List.Perm.swap y x _).trans (ih.cons y)
theorem xme {α:Type}:∀ (n:Nat) (xs:List α) {s:Shared} {Q:List α->Shared->Prop},xs.length=n->(∀ ys d,ys.Perm xs->Q ys { s with drawn:=d })->wpAny M A (drawOrder n xs) Q E s
 | 0,xs,s,Q,hl,h=>by
  obtain rfl:=List.eq_nil_of_length_eq_zero hl
  unfold drawOrder
  exact wpAny_pure (h [] s.drawn (List.Perm.refl _))
 | n + 1,[],s,Q,hl,h=>by cases hl
 | n + 1,x :: xs,s,Q,hl,h=>by
  unfold drawOrder
  refine wpAny_bind (xs5 (by simp) fun i d hi=>?_)
  have hx:(x :: xs)[i]?=some (x :: xs)[i]:=zGA hi
  rw [hx]
  dsimp only
  refine wpAny_bind (xme n ((x :: xs).eraseIdx i) (by rw [List.length_eraseIdx_of_lt hi]; simp at hl ⊢; omega) fun ys d' hp=>wpAny_pure ?_)
  exact h _ _ ((hp.cons _).trans (xf4 hx))
end
theorem xpd {α:Type} {next:Nat->Nat}:∀ (n k:Nat) (left:List α) (out:Array α),left.length=n->(pickOrder.go next n k left out).toList.Perm (out.toList++left)
 | 0,k,left,out,h=>by
  obtain rfl:=List.eq_nil_of_length_eq_zero h
  unfold pickOrder.go
  rw [List.append_nil]
 | n + 1,k,left,out,h=>by
  unfold pickOrder.go
  have hi:next k % left.length < left.length:=Nat.mod_lt _ (by omega)
  have hx:left[next k % left.length]?=some (left[next k % left.length]'hi):=zGA hi
  rw [hx]
  dsimp only
  refine (xpd n (k + 1) _ _ (by rw [List.length_eraseIdx_of_lt hi]; omega)).trans ?_
  rw [Array.toList_push,List.append_assoc]
  exact (xf4 hx).append_left _
theorem xpc {α:Type} (next:Nat->Nat) (xs:Array α):(pickOrder next xs).toList.Perm xs.toList:=by
 have:=xpd (next:=next) xs.size 0 xs.toList #[] (by simp)
 simpa [pickOrder] using this
def xd8 (h:Heap) (a:Addr) (es:Array (Int×Value)) (ep:Nat) (t:SetTable):Prop:=h.get? a=some { cls:=.type "set",dict:=none,data:=.set es ep t,slots:=#[] }/\t.fits es.size=true
abbrev siN (f:Value) (i:Nat) (a:Addr) (n ep:Nat):Obj:={ cls:=.type "set_iterator",data:=.fields #[f,rawInt (i:Nat),.ref a,rawInt ((n:Nat):Int),rawInt ((ep:Nat):Int)] }
section
variable {prog:Program} {w:World} {A:Around} {E:Value->Shared->Prop} {s:Shared} {a:Addr} {es:Array (Int×Value)} {ep:Nat} {t:SetTable}
theorem xvx {Q:Value->Shared->Prop} (hS:xd8 s.heap a es ep t) (hn:byT w=true\/es.size<=1) (h:Q (.ref s.heap.objs.size) { s with heap:=s.heap.push (siN (rawInt 0) 0 a es.size ep) }):wpAny (model prog w) A (pyIter (.ref a)) Q E s:=by
 obtain ⟨ho,hf⟩:=hS
 have hT:s.TypeIs (.ref a) "set":=⟨_,ho,rfl⟩
 refine wpAny_pyIter_slot hT F.slot_set_iter (wpAny_call_entry F.slot_set_iter hT xe1 ?_ (F.args_set_iter_1 _))
 unfold Builtin.«frozenset.__iter__» Builtin.Frozenset.slot0 slotArgs
 simp only [List.isEmpty_nil,Bool.not_true,Bool.false_eq_true,↓reduceIte,bind_assoc,List.length_nil,bne_self_eq_false]
 unfold Builtin.Frozenset.addrOf Builtin.Frozenset.sizeOf setDrawn
 refine wpAny_bind (wpAny_pure ?_)
 try dsimp only
 refine wpAny_bind (wpAny_pure ?_)
 refine wpAny_bind (wpAny_bind (wpAny_setEntries_of ho rfl hf (wpAny_pure ?_)))
 simp only [bind_assoc]
 refine wpAny_bind (wpAny_setState_of ho rfl hf ?_)
 unfold setsByText
 simp only [bind_assoc]
 refine wpAny_bind (wpAny_askSetting ?_)
 refine wpAny_bind (wpAny_pure ?_)
 refine wpAny_bind (wpAny_pure ?_)
 refine wpAny_ite_split (fun hab=>absurd (show (!byT w && (!t.plain && decide (es.size > 1)))=true from hab) (by
  rcases hn with e | e
  ·rw [e]; simp
  ·simp; intro _ _; omega)) (fun _=>?_)
 refine wpAny_bind (wpAny_pure ?_)
 refine wpAny_bind (wpAny_setEpoch_of ho rfl hf ?_)
 unfold newFields
 refine wpAny_bind (wpAny_newObj_type ?_)
 exact wpAny_pure ⟨_,rfl,"set_iterator",_,⟨_,Heap.get?_push_size _ rfl,rfl⟩,slot_si_next.lookup,h⟩
theorem xvn {it:Addr} {sl i nx:Nat} {x:Value} {Q:Option Value->Shared->Prop} (hI:s.heap.get? it=some (siN (rawInt (sl:Nat)) i a es.size ep)) (hS:xd8 s.heap a es ep t)
  (hN:∀ (A':Around) (E':Value->Shared->Prop) (Q':Option (Value×Nat)->Shared->Prop),Q' (some (x,nx)) s->wpAny (model prog w) A' (setNext a sl i ep) Q' E' s)
  (hQ:∀ h',h'.get? it=some (siN (rawInt (nx:Nat)) (i + 1) a es.size ep)->Heap.SameBut it s.heap h'->Q (some x) { s with heap:=h' }):wpAny (model prog w) A (pyNext (.ref it)) Q E s:=by
 obtain ⟨ho,hf⟩:=hS
 have hT:s.TypeIs (.ref it) "set_iterator":=⟨_,hI,rfl⟩
 unfold pyNext
 refine wpAny_bind (wpAny_attempt (wpAny_callSpecial?_slot (name:=Str.ofString "__next__") hT slot_si_next
  (wpAny_call_entry slot_si_next hT xc5 ?_ (xdi _))))
 unfold Builtin.«set_iterator.__next__» slotArgs
 simp only [List.isEmpty_nil,Bool.not_true,Bool.false_eq_true,↓reduceIte,bind_assoc,List.length_nil,bne_self_eq_false]
 refine wpAny_bind (wpAny_pure ?_)
 unfold fieldsOf
 simp only [bind_assoc]
 refine wpAny_bind (wpAny_load hI ?_)
 refine wpAny_bind (wpAny_pure ?_)
 show wpAny _ _ (setEntries a >>= _) _ _ s
 refine wpAny_bind (wpAny_setEntries_of ho rfl hf ?_)
 refine wpAny_ite_split (fun hab=>absurd hab (by simp)) (fun _=>?_)
 show wpAny _ _ (setNext a sl i ep >>= _) _ _ s
 refine wpAny_bind (hN _ _ _ ?_)
 refine wpAny_bind (wpAny_setField_rec hI (by simp) fun h1 e1 b1=>?_)
 refine wpAny_bind (wpAny_setField_rec (s:={ s with heap:=h1 }) e1 (by simp) fun h2 e2 b2=>?_)
 exact wpAny_pure ⟨x,rfl,wpAny_pure (hQ h2 e2 (b1.trans b2))⟩
theorem endF {it:Addr} {sl i:Nat} {Q:Option Value->Shared->Prop} (hh:A.handled=none) (hI:s.heap.get? it=some (siN (rawInt (sl:Nat)) i a es.size ep)) (hS:xd8 s.heap a es ep t)
  (hN:∀ (A':Around) (E':Value->Shared->Prop) (Q':Option (Value×Nat)->Shared->Prop),Q' none s->wpAny (model prog w) A' (setNext a sl i ep) Q' E' s)
  (hQ:∀ h',Heap.ExtBut it s.heap h'->Q none { s with heap:=h' }):wpAny (model prog w) A (pyNext (.ref it)) Q E s:=by
 obtain ⟨ho,hf⟩:=hS
 have hT:s.TypeIs (.ref it) "set_iterator":=⟨_,hI,rfl⟩
 unfold pyNext
 refine wpAny_bind (wpAny_attempt (wpAny_callSpecial?_slot (name:=Str.ofString "__next__") hT slot_si_next
  (wpAny_call_entry slot_si_next hT xc5 ?_ (xdi _))))
 unfold Builtin.«set_iterator.__next__» slotArgs
 simp only [List.isEmpty_nil,Bool.not_true,Bool.false_eq_true,↓reduceIte,bind_assoc,List.length_nil,bne_self_eq_false]
 refine wpAny_bind (wpAny_pure ?_)
 unfold fieldsOf
 simp only [bind_assoc]
 refine wpAny_bind (wpAny_load hI ?_)
 refine wpAny_bind (wpAny_pure ?_)
 show wpAny _ _ (setEntries a >>= _) _ _ s
 refine wpAny_bind (wpAny_setEntries_of ho rfl hf ?_)
 refine wpAny_ite_split (fun hab=>absurd hab (by simp)) (fun _=>?_)
 show wpAny _ _ (setNext a sl i ep >>= _) _ _ s
 refine wpAny_bind (hN _ _ _ ?_)
 show wpAny _ _ (setField (.ref it) 2 Value.none >>= _) _ _ _
 refine wpAny_bind (wpAny_setField hI rfl (by simp) ?_)
 show wpAny _ _ (newExc (.type "StopIteration") [] >>= _) _ _ _
 refine wpAny_bind ?_
 simp only [newExc,newTuple]
 refine wpAny_bind (wpAny_newObj_type ?_ (by size_fits))
 refine wpAny_bind (m:=firstArgMember _ _) (wpAny_of_eq (a:=Value.none) (by first | rfl | (simp only [firstArgMember]; rfl)) ?_)
 refine wpAny_newObj_type ?_ (by size_fits)
 simp only [raiseNew]
 refine wpAny_bind (wpAny_handled ?_)
 rw [show A.in1.handled=none from hh]
 refine wpAny_bind (wpAny_pure (wpAny_throw ?_))
 refine wpAny_bind (wpAny_isInstance (T:="StopIteration") (b:=true) ⟨_,Heap.get?_push_size _ rfl,rfl⟩ isSubtype_stop ?_)
 exact wpAny_pure (hQ _ (((Heap.SameBut.update ..).extBut.push _).push _))
theorem xnh (hb:byT w=true) (hS:xd8 s.heap a es ep t) (i:Nat) (A':Around) (E':Value->Shared->Prop) (Q':Option (Value×Nat)->Shared->Prop)
  (h:Q' (((pickOrder (w.params.setOrder a ep) es)[i]?).map fun e=>(e.2,0)) s):wpAny (model prog w) A' (setNext a 0 i ep) Q' E' s:=by
 obtain ⟨ho,hf⟩:=hS
 unfold setNext setsByText
 refine wpAny_bind (wpAny_setState_of ho rfl hf ?_)
 simp only [bind_assoc]
 refine wpAny_bind (wpAny_askSetting ?_)
 refine wpAny_bind (wpAny_pure ?_)
 refine wpAny_ite_split (fun _=>?_) (fun hab=>absurd hb hab)
 refine wpAny_ite_split (fun hab=>absurd hab (by simp)) (fun _=>?_)
 refine wpAny_bind ?_
 unfold setWalk setsByText
 refine wpAny_bind (wpAny_setState_of ho rfl hf ?_)
 simp only [bind_assoc]
 refine wpAny_bind (wpAny_askSetting ?_)
 refine wpAny_bind (wpAny_pure ?_)
 refine wpAny_ite_split (fun _=>?_) (fun hab=>absurd hb hab)
 refine wpAny_bind (wpAny_askSetting ?_)
 exact wpAny_pure (wpAny_pure h)
theorem xit (hb:byT w=false) (hl:t.led=true) (h1:es.size<=1) (hS:xd8 s.heap a es ep t) (sl i:Nat) (A':Around) (E':Value->Shared->Prop) (Q':Option (Value×Nat)->Shared->Prop)
  (h:Q' (match es[SetTable.below t.place sl]?,t.place[SetTable.below t.place sl]? with | some (_,x),some j=>some (x,j + 1) | _,_=>none) s):wpAny (model prog w) A' (setNext a sl i ep) Q' E' s:=by
 obtain ⟨ho,hf⟩:=hS
 unfold setNext setsByText
 refine wpAny_bind (wpAny_setState_of ho rfl hf ?_)
 simp only [bind_assoc]
 refine wpAny_bind (wpAny_askSetting ?_)
 refine wpAny_bind (wpAny_pure ?_)
 refine wpAny_ite_split (fun hab=>absurd (show byT w=true from hab) (by rw [hb]; decide)) (fun _=>?_)
 refine wpAny_ite_split (fun hab=>absurd (show (!t.plain && decide (es.size > 1))=true from hab) (by simp; intro _; omega)) (fun _=>?_)
 refine wpAny_bind ?_
 refine wpAny_ite_split (fun hab=>absurd (show (!t.led && !es.isEmpty)=true from hab) (by rw [hl]; simp)) (fun _=>wpAny_pure ?_)
 exact wpAny_pure h
theorem xrc {it:Addr} {o:Obj} {Q:Value->Shared->Prop} (hI:s.heap.get? it=some o) (hc:o.cls=.type "set_iterator") (h:Q (.ref it) s):wpAny (model prog w) A (pyIter (.ref it)) Q E s:=by
 have hT:s.TypeIs (.ref it) "set_iterator":=⟨_,hI,hc⟩
 refine wpAny_pyIter_slot hT xf9 (wpAny_call_entry xf9 hT xi2 ?_ (xkz _))
 show wpAny _ _ (ret (.ref it)) _ _ s
 exact wpAny_pure ⟨_,rfl,"set_iterator",_,hT,slot_si_next.lookup,h⟩
theorem xbq {h h':Heap} (hS:xd8 h a es ep t) (k:∀ o,h.get? a=some o->h'.get? a=some o):xd8 h' a es ep t:=⟨k _ hS.1,hS.2⟩
def ordT (w:World) (a:Addr) (ep:Nat) (es:Array (Int×Value)):List Value:=(pickOrder (w.params.setOrder a ep) es).toList.map fun e=>e.2
theorem xwc (hh:A.handled=none) (hb:byT w=true) (I:Addr) (hI:a≠I) :
  Walks prog w A I [I,a] [I] (ordT w a ep es).length (fun i v=>(ordT w a ep es)[i]?=some v) (fun i h=>h.get? I=some (siN (rawInt 0) i a es.size ep)/\xd8 h a es ep t) where
 sub:=fun b hb=>by simp at hb; simp [hb]
 frame:=fun i h h' st k=>⟨k _ (by simp) _ st.1,xbq st.2 fun o e=>k _ (by simp) o e⟩
 item:=fun i s Q E hi st hQ=>by
  obtain ⟨v,hv⟩:∃ v,(ordT w a ep es)[i]?=some v:=⟨_,zGA hi⟩
  have hv':=hv
  unfold ordT at hv'
  rw [zGM] at hv'
  obtain ⟨e,he,rfl⟩:=zMS hv'
  have he':(pickOrder (w.params.setOrder a ep) es)[i]?=some e:=by rw [<- Array.getElem?_toList]; exact he
  refine xvn (sl:=0) (nx:=0) (x:=e.2) st.1 st.2 (fun A' E' Q' h=>xnh hb st.2 i A' E' Q' (by rw [he']; exact h)) fun h' e1 sb=>?_
  exact hQ _ h' s.toks hv ⟨e1,xbq st.2 fun o eo=>by rw [sb.2 a hI]; exact eo⟩ fun b o hb eo=>by rw [sb.2 b (by simpa using hb)]; exact eo
 done:=fun s Q E st hQ=>by
  have he:(pickOrder (w.params.setOrder a ep) es)[(ordT w a ep es).length]?=none:=by
   rw [<- Array.getElem?_toList]
   unfold ordT
   rw [zLM]
   exact List.getElem?_eq_none_iff.mpr (Nat.le_refl _)
  exact endF (sl:=0) hh st.1 st.2 (fun A' E' Q' h=>xnh hb st.2 _ A' E' Q' (by rw [he]; exact h)) fun h' eb=>hQ h' s.toks fun b o hb e=>eb b o (by simpa using hb) e
 self:=fun i s Q E st hQ=>xrc st.1 rfl hQ
theorem xky (p:Nat):SetTable.below #[p] 0=0/\SetTable.below #[p] (p + 1)=1:=by
 constructor <;> simp [SetTable.below,SetTable.below.go]
def slN (p:Nat):Nat->Nat
 | 0=>0
 | _ + 1=>p + 1
theorem xwe (hh:A.handled=none) (hb:byT w=false) (hl:t.led=true) {h0:Int} {x:Value} {p:Nat} (I:Addr) (hI:a≠I) (hp:t.place=#[p]) :
  Walks prog w A I [I,a] [I] 1 (fun i v=>[x][i]?=some v) (fun i h=>h.get? I=some (siN (rawInt ((slN p i:Nat):Int)) i a 1 ep)/\xd8 h a #[(h0,x)] ep t) where
 sub:=fun b hb=>by simp at hb; simp [hb]
 frame:=fun i h h' st k=>⟨k _ (by simp) _ st.1,xbq st.2 fun o e=>k _ (by simp) o e⟩
 item:=fun i s Q E hi st hQ=>by
  obtain rfl:i=0:=by omega
  refine xvn (es:=#[(h0,x)]) (sl:=0) (nx:=p + 1) (x:=x) st.1 st.2 (fun A' E' Q' h=>xit hb hl (Nat.le_refl _) st.2 0 0 A' E' Q' (by rw [hp,(xky p).1]; exact h)) fun h' e1 sb=>?_
  exact hQ _ h' s.toks rfl ⟨e1,xbq st.2 fun o eo=>by rw [sb.2 a hI]; exact eo⟩ fun b o hb eo=>by rw [sb.2 b (by simpa using hb)]; exact eo
 done:=fun s Q E st hQ=>endF (es:=#[(h0,x)]) (sl:=p + 1) hh st.1 st.2 (fun A' E' Q' h=>xit hb hl (Nat.le_refl _) st.2 (p + 1) 1 A' E' Q' (by rw [hp,(xky p).2]; exact h)) fun h' eb=>hQ h' s.toks fun b o hb e=>eb b o (by simpa using hb) e
 self:=fun i s Q E st hQ=>xrc st.1 rfl hQ
def plT (ps:List Nat):List Value:=ps.map fun i=>rawInt (i:Nat)
theorem xw6 {Q:Value->Shared->Prop} (hS:xd8 s.heap a es ep t) (hb:byT w=false) (hp:t.plain=false) (h2:1 < es.size) (hz:es.size<=sizeLine)
  (h:∀ ps d,ps.Perm (List.range es.size)->Q (.ref (s.heap.objs.size + 1)) { s with heap:=(s.heap.push { cls:=.type "tuple",data:=.seq (plT ps).toArray }).push (siN (.ref s.heap.objs.size) 0 a es.size ep),drawn:=d }):wpAny (model prog w) A (pyIter (.ref a)) Q E s:=by
 obtain ⟨ho,hf⟩:=hS
 have hT:s.TypeIs (.ref a) "set":=⟨_,ho,rfl⟩
 refine wpAny_pyIter_slot hT F.slot_set_iter (wpAny_call_entry F.slot_set_iter hT xe1 ?_ (F.args_set_iter_1 _))
 unfold Builtin.«frozenset.__iter__» Builtin.Frozenset.slot0 slotArgs
 simp only [List.isEmpty_nil,Bool.not_true,Bool.false_eq_true,↓reduceIte,bind_assoc,List.length_nil,bne_self_eq_false]
 unfold Builtin.Frozenset.addrOf Builtin.Frozenset.sizeOf setDrawn
 refine wpAny_bind (wpAny_pure ?_)
 try dsimp only
 refine wpAny_bind (wpAny_pure ?_)
 refine wpAny_bind (wpAny_bind (wpAny_setEntries_of ho rfl hf (wpAny_pure ?_)))
 simp only [bind_assoc]
 refine wpAny_bind (wpAny_setState_of ho rfl hf ?_)
 unfold setsByText
 simp only [bind_assoc]
 refine wpAny_bind (wpAny_askSetting ?_)
 refine wpAny_bind (wpAny_pure ?_)
 refine wpAny_bind (wpAny_pure ?_)
 refine wpAny_ite_split (fun _=>?_) (fun hab=>absurd (show (!byT w && (!t.plain && decide (es.size > 1)))=true from by rw [hb,hp]; simp; omega) hab)
 refine wpAny_bind (xme _ _ (by simp) fun ps d hps=>?_)
 refine wpAny_bind (wpAny_newTuple ?_ (by rw [zLM,hps.length_eq,List.length_range]; exact hz))
 refine wpAny_bind (wpAny_setEpoch_of (zPO _ ho) rfl hf ?_)
 unfold newFields
 refine wpAny_bind (wpAny_newObj_type ?_)
 have e:(s.heap.push { cls:=.type "tuple",data:=.seq (plT ps).toArray }).objs.size=s.heap.objs.size + 1:=Heap.size_push ..
 have h':=h ps d hps
 refine wpAny_pure ⟨_,rfl,"set_iterator",_,⟨_,Heap.get?_push_size _ rfl,rfl⟩,slot_si_next.lookup,?_⟩
 rw [<- e] at h'
 exact h'
theorem xw2 {it X:Addr} {i p:Nat} {ps:List Nat} {h0:Int} {x:Value} {Q:Option Value->Shared->Prop} (hI:s.heap.get? it=some (siN (.ref X) i a es.size ep)) (hS:xd8 s.heap a es ep t)
  (hX:s.heap.get? X=some { cls:=.type "tuple",data:=.seq (plT ps).toArray }) (hp:ps[i]?=some p) (he:es[p]?=some (h0,x))
  (hQ:∀ h',h'.get? it=some (siN (.ref X) (i + 1) a es.size ep)->Heap.SameBut it s.heap h'->Q (some x) { s with heap:=h' }):wpAny (model prog w) A (pyNext (.ref it)) Q E s:=by
 obtain ⟨ho,hf⟩:=hS
 have hT:s.TypeIs (.ref it) "set_iterator":=⟨_,hI,rfl⟩
 unfold pyNext
 refine wpAny_bind (wpAny_attempt (wpAny_callSpecial?_slot (name:=Str.ofString "__next__") hT slot_si_next
  (wpAny_call_entry slot_si_next hT xc5 ?_ (xdi _))))
 unfold Builtin.«set_iterator.__next__» slotArgs
 simp only [List.isEmpty_nil,Bool.not_true,Bool.false_eq_true,↓reduceIte,bind_assoc,List.length_nil,bne_self_eq_false]
 refine wpAny_bind (wpAny_pure ?_)
 unfold fieldsOf
 simp only [bind_assoc]
 refine wpAny_bind (wpAny_load hI ?_)
 refine wpAny_bind (wpAny_pure ?_)
 show wpAny _ _ (setEntries a >>= _) _ _ s
 refine wpAny_bind (wpAny_setEntries_of ho rfl hf ?_)
 refine wpAny_ite_split (fun hab=>absurd hab (by simp)) (fun _=>?_)
 show wpAny _ _ (seqItems? (.ref X) >>= _) _ _ s
 refine wpAny_bind (wpAny_seqItems hX rfl ?_)
 dsimp only
 have hpl:(plT ps).toArray[(i:Int).toNat]?=some (rawInt (p:Nat)):=by
  unfold plT
  rw [List.getElem?_toArray,zGM,show ((i:Int)).toNat=i from rfl,hp]
  rfl
 rw [hpl]
 show wpAny _ _ (setNextDrawn a p ep >>= _) _ _ s
 unfold setNextDrawn
 simp only [bind_assoc]
 refine wpAny_bind (wpAny_setState_of ho rfl hf ?_)
 refine wpAny_bind ?_
 refine wpAny_ite_split (fun hab=>absurd hab (by simp)) (fun _=>?_)
 dsimp only
 rw [he]
 dsimp only
 refine wpAny_pure ?_
 refine wpAny_bind (wpAny_setField_rec hI (by simp) fun h1 e1 b1=>?_)
 exact wpAny_pure ⟨x,rfl,wpAny_pure (hQ h1 e1 b1)⟩
theorem endD {it X:Addr} {i:Nat} {ps:List Nat} {Q:Option Value->Shared->Prop} (hh:A.handled=none) (hI:s.heap.get? it=some (siN (.ref X) i a es.size ep)) (hS:xd8 s.heap a es ep t)
  (hX:s.heap.get? X=some { cls:=.type "tuple",data:=.seq (plT ps).toArray }) (hp:ps[i]?=none)
  (hQ:∀ h',Heap.ExtBut it s.heap h'->Q none { s with heap:=h' }):wpAny (model prog w) A (pyNext (.ref it)) Q E s:=by
 obtain ⟨ho,hf⟩:=hS
 have hT:s.TypeIs (.ref it) "set_iterator":=⟨_,hI,rfl⟩
 unfold pyNext
 refine wpAny_bind (wpAny_attempt (wpAny_callSpecial?_slot (name:=Str.ofString "__next__") hT slot_si_next
  (wpAny_call_entry slot_si_next hT xc5 ?_ (xdi _))))
 unfold Builtin.«set_iterator.__next__» slotArgs
 simp only [List.isEmpty_nil,Bool.not_true,Bool.false_eq_true,↓reduceIte,bind_assoc,List.length_nil,bne_self_eq_false]
 refine wpAny_bind (wpAny_pure ?_)
 unfold fieldsOf
 simp only [bind_assoc]
 refine wpAny_bind (wpAny_load hI ?_)
 refine wpAny_bind (wpAny_pure ?_)
 show wpAny _ _ (setEntries a >>= _) _ _ s
 refine wpAny_bind (wpAny_setEntries_of ho rfl hf ?_)
 refine wpAny_ite_split (fun hab=>absurd hab (by simp)) (fun _=>?_)
 show wpAny _ _ (seqItems? (.ref X) >>= _) _ _ s
 refine wpAny_bind (wpAny_seqItems hX rfl ?_)
 dsimp only
 have hpl:(plT ps).toArray[(i:Int).toNat]?=none:=by
  unfold plT
  rw [List.getElem?_toArray,zGM,show ((i:Int)).toNat=i from rfl,hp]
  rfl
 rw [hpl]
 show wpAny _ _ (setField (.ref it) 0 (rawInt 0) >>= _) _ _ _
 refine wpAny_bind (wpAny_setField_rec hI (by simp) fun h1 e1 b1=>?_)
 show wpAny _ _ (setField (.ref it) 2 Value.none >>= _) _ _ _
 refine wpAny_bind (wpAny_setField_rec (s:={ s with heap:=h1 }) e1 (by simp) fun h2 e2 b2=>?_)
 show wpAny _ _ (newExc (.type "StopIteration") [] >>= _) _ _ _
 refine wpAny_bind ?_
 simp only [newExc,newTuple]
 refine wpAny_bind (wpAny_newObj_type ?_ (by size_fits))
 refine wpAny_bind (m:=firstArgMember _ _) (wpAny_of_eq (a:=Value.none) (by first | rfl | (simp only [firstArgMember]; rfl)) ?_)
 refine wpAny_newObj_type ?_ (by size_fits)
 simp only [raiseNew]
 refine wpAny_bind (wpAny_handled ?_)
 rw [show A.in1.handled=none from hh]
 refine wpAny_bind (wpAny_pure (wpAny_throw ?_))
 refine wpAny_bind (wpAny_isInstance (T:="StopIteration") (b:=true) ⟨_,Heap.get?_push_size _ rfl,rfl⟩ isSubtype_stop ?_)
 exact wpAny_pure (hQ _ ((((b1.trans b2).extBut.push _).push _)))
theorem xwd (hh:A.handled=none) (I X:Addr) (hI:a≠I) (hX:X≠I) {ps:List Nat} {ord:List Value} (hl:ord.length=ps.length) (hps:∀ (i p:Nat),ps[i]?=some p->∃ h0 x,es[p]?=some (h0,x)/\ord[i]?=some x) :
  Walks prog w A I [I,X,a] [I] ord.length (fun i v=>ord[i]?=some v) (fun i h=>h.get? I=some (siN (.ref X) i a es.size ep)/\h.get? X=some { cls:=.type "tuple",data:=.seq (plT ps).toArray }/\xd8 h a es ep t) where
 sub:=fun b hb=>by simp at hb; simp [hb]
 frame:=fun i h h' st k=>⟨k _ (by simp) _ st.1,k _ (by simp) _ st.2.1,xbq st.2.2 fun o e=>k _ (by simp) o e⟩
 item:=fun i s Q E hi st hQ=>by
  obtain ⟨p,hp⟩:∃ p,ps[i]?=some p:=⟨_,zGA (by omega)⟩
  obtain ⟨h0,x,e1,e2⟩:=hps i p hp
  refine xw2 st.1 st.2.2 st.2.1 hp e1 fun h' f1 sb=>?_
  exact hQ _ h' s.toks e2 ⟨f1,by rw [sb.2 X hX]; exact st.2.1,xbq st.2.2 fun o eo=>by rw [sb.2 a hI]; exact eo⟩ fun b o hb eo=>by rw [sb.2 b (by simpa using hb)]; exact eo
 done:=fun s Q E st hQ=>endD hh st.1 st.2.2 st.2.1 (List.getElem?_eq_none_iff.mpr (by omega)) fun h' eb=>hQ h' s.toks fun b o hb e=>eb b o (by simpa using hb) e
 self:=fun i s Q E st hQ=>xrc st.1 rfl hQ
theorem xwf (hh:A.handled=none) (hb:byT w=false) (hl:t.led=true) (I:Addr) :
  Walks prog w A I [I,a] [I] 0 (fun i v=>([]:List Value)[i]?=some v) (fun i h=>h.get? I=some (siN (rawInt 0) 0 a 0 ep)/\xd8 h a #[] ep t) where
 sub:=fun b hb=>by simp at hb; simp [hb]
 frame:=fun i h h' st k=>⟨k _ (by simp) _ st.1,xbq st.2 fun o e=>k _ (by simp) o e⟩
 item:=fun i s Q E hi=>absurd hi (Nat.not_lt_zero _)
 done:=fun s Q E st hQ=>endF (es:=#[]) (sl:=0) hh st.1 st.2 (fun A' E' Q' h=>xit hb hl (Nat.zero_le _) st.2 0 0 A' E' Q' h) fun h' eb=>hQ h' s.toks fun b o hb e=>eb b o (by simpa using hb) e
 self:=fun i s Q E st hQ=>xrc st.1 rfl hQ
def ordD (es:Array (Int×Value)) (p:Nat):Value:=((es[p]?).map fun e=>e.2).getD .none
theorem xrk:(List.range es.size).map (ordD es)=es.toList.map fun e=>e.2:=by
 refine List.ext_getElem? fun i=>?_
 rw [zGM,zGM]
 by_cases c:i < es.size
 ·rw [List.getElem?_range c,Array.getElem?_toList]
  show some (ordD es i)=_
  unfold ordD
  rw [Array.getElem?_eq_getElem c]
  rfl
 ·rw [List.getElem?_eq_none_iff.mpr (by simp; omega),List.getElem?_eq_none_iff.mpr (by simp; omega)]
  rfl
def Wk (prog:Program) (w:World) (h:Heap) (I:Addr) (fp:List Addr) (ord:List Value):Prop:=∃ St:Nat->Heap->Prop,(∀ A:Around,A.handled=none->Walks prog w A I fp [I] ord.length (fun i v=>ord[i]?=some v) St)/\St 0 h
theorem xw5 {Q:Value->Shared->Prop} (hS:xd8 s.heap a es ep t) (hl:byT w=true\/t.led=true) (hp:es.size=0\/t.plain=false) (hz:es.size<=sizeLine)
  (h:∀ h1 d I fp ord,ord.Perm (es.toList.map fun e=>e.2)->Wk prog w h1 I fp ord->(∀ b o,s.heap.get? b=some o->h1.get? b=some o)->(∀ b∈fp,b=a\/s.heap.objs.size<=b)->s.heap.objs.size<=I->Q (.ref I) { s with heap:=h1,drawn:=d }):wpAny (model prog w) A (pyIter (.ref a)) Q E s:=by
 have haL:a < s.heap.objs.size:=Heap.lt_size hS.1
 have hne:a≠s.heap.objs.size:=Nat.ne_of_lt haL
 cases hb:byT w with
 | true=>
  refine xvx hS (.inl hb) ?_
  have:=h (s.heap.push (siN (rawInt 0) 0 a es.size ep)) s.drawn s.heap.objs.size [s.heap.objs.size,a] (ordT w a ep es) ((xpc _ _).map _) ⟨_,fun A hh=>xwc (t:=t) hh hb _ hne,Heap.get?_push_size _ rfl,xbq hS fun o e=>zPO _ e⟩ (fun b o e=>zPO _ e) (fun b hb=>by
   rcases zMC hb with rfl | hb
   ·exact .inr (Nat.le_refl _)
   ·rw [zMO hb]; exact .inl rfl) (Nat.le_refl _)
  exact this
 | false=>
  have hled:t.led=true:=by
   rcases hl with e | e
   ·rw [hb] at e; cases e
   ·exact e
  by_cases h1:es.size<=1
  ·refine xvx hS (.inr h1) ?_
   have fin:∀ (ord:List Value),ord.Perm (es.toList.map fun e=>e.2)->Wk prog w (s.heap.push (siN (rawInt 0) 0 a es.size ep)) s.heap.objs.size [s.heap.objs.size,a] ord->Q (.ref s.heap.objs.size) { s with heap:=s.heap.push (siN (rawInt 0) 0 a es.size ep) }:=fun ord hpo hw=>
    h (s.heap.push (siN (rawInt 0) 0 a es.size ep)) s.drawn s.heap.objs.size [s.heap.objs.size,a] ord hpo hw (fun b o e=>zPO _ e) (fun b hb=>by
     rcases zMC hb with rfl | hb
     ·exact .inr (Nat.le_refl _)
     ·rw [zMO hb]; exact .inl rfl) (Nat.le_refl _)
   have hS':=xbq (h':=s.heap.push (siN (rawInt 0) 0 a es.size ep)) hS fun o e=>zPO _ e
   have hI':(s.heap.push (siN (rawInt 0) 0 a es.size ep)).get? s.heap.objs.size=some (siN (rawInt 0) 0 a es.size ep):=Heap.get?_push_size _ rfl
   by_cases h0:es.size=0
   ·have e0:es=#[]:=Array.eq_empty_of_size_eq_zero h0
    subst e0
    exact fin [] (List.Perm.refl _) ⟨_,fun A hh=>xwf (t:=t) hh hb hled _,hI',hS'⟩
   ·obtain ⟨e0,rfl⟩:∃ e0,es=#[e0]:=by
     obtain ⟨l⟩:=es
     match l,h1,h0 with
     | [],_,h0=>exact absurd rfl h0
     | [e],_,_=>exact ⟨e,rfl⟩
     | _ :: _ :: _,h1,_=>simp at h1
    obtain ⟨p,hpc⟩:∃ p,t.place=#[p]:=by
     have hf:=hS.2
     simp only [SetTable.fits,Bool.and_eq_true,beq_iff_eq] at hf
     have hf1:=hf.1
     generalize t.place=pl at hf1
     obtain ⟨l⟩:=pl
     match l,hf1 with
     | [p],_=>exact ⟨p,rfl⟩
     | [],h=>simp at h
     | _ :: _ :: _,h=>simp at h
    obtain ⟨h0',x⟩:=e0
    exact fin [x] (List.Perm.refl _) ⟨_,fun A hh=>xwe (t:=t) (h0:=h0') (x:=x) hh hb hled _ hne hpc,hI',hS'⟩
  ·have hpl:t.plain=false:=by
    rcases hp with e | e
    ·omega
    ·exact e
   refine xw6 hS hb hpl (by omega) hz fun ps d hps=>?_
   have hsz:(s.heap.push { cls:=.type "tuple",data:=.seq (plT ps).toArray }).objs.size=s.heap.objs.size + 1:=Heap.size_push ..
   refine h _ d (s.heap.objs.size + 1) [s.heap.objs.size + 1,s.heap.objs.size,a] (ps.map (ordD es)) ?_ ⟨_,fun A hh=>xwd (es:=es) (ep:=ep) (t:=t) (ps:=ps) hh _ s.heap.objs.size ?_ ?_ (by rw [zLM]) ?_,?_,?_,?_⟩ ?_ ?_ (Nat.le_succ _)
   ·have:=hps.map (ordD es)
    rw [xrk] at this
    exact this
   ·exact Nat.ne_of_lt (Nat.lt_succ_of_lt haL)
   ·exact Nat.ne_of_lt (Nat.lt_succ_self _)
   ·intro i p hip
    have hpm:p∈List.range es.size:=hps.mem_iff.mp (zMG hip)
    have hpl':p < es.size:=List.mem_range.mp hpm
    refine ⟨es[p].1,es[p].2,Array.getElem?_eq_getElem hpl',?_⟩
    rw [zGM,hip]
    show some (ordD es p)=_
    unfold ordD
    rw [Array.getElem?_eq_getElem hpl']
    rfl
   ·rw [<- hsz]
    exact Heap.get?_push_size _ rfl
   ·exact zPO _ (Heap.get?_push_size _ rfl)
   ·exact xbq hS fun o e=>zPO _ (zPO _ e)
   ·exact fun b o e=>zPO _ (zPO _ e)
   ·intro b hb
    rcases zMC hb with rfl | hb
    ·exact .inr (Nat.le_succ _)
    ·rcases zMC hb with rfl | hb
     ·exact .inr (Nat.le_refl _)
     ·rw [zMO hb]; exact .inl rfl
end
end St
end
section
namespace St
open PySem PySem.Spec PyProof.Rows
section
variable {prog:Program} {w:World} {A:Around} {E:Value->Shared->Prop} {s:Shared} {a:Addr} {es:Array (Int×Value)} {ep:Nat} {t:SetTable}
theorem xn1 {ord:List Value} {acc:Array Value} (h:ItemsOf (fun i v=>ord[i]?=some v) acc ord.length):acc.toList=ord:=by
 refine List.ext_getElem? fun i=>?_
 by_cases c:i < acc.size
 ·have e:acc[i]?=some acc[i]:=Array.getElem?_eq_getElem c
  rw [Array.getElem?_toList,e,h.2 i _ e]
 ·rw [List.getElem?_eq_none_iff.mpr (by simp; omega),List.getElem?_eq_none_iff.mpr (by rw [<- h.1]; omega)]
theorem xxb {Q:Bool->Shared->Prop} (hT:s.TypeIs (.ref a) "set") (h:Q false s):wpAny (model prog w) A (Builtin.List.listLengthHint (.ref a)) Q E s:=xxc hT h
theorem extL {R:Result->Shared->Prop} (hh:A.handled=none) (hS:xd8 s.heap a es ep t) (hl:byT w=true\/t.led=true) (hp:es.size=0\/t.plain=false) (hz:es.size<=sizeLine) (S:Addr) (hSr:S≠a) (res:Value) (c₀:Nat) (hL:s.heap.get? S=some { cls:=.type "list",data:=.seq #[] c₀ })
  (hR:∀ h' tk d acc c ord,ord.Perm (es.toList.map fun e=>e.2)->acc.toList=ord->(∀ b o,b≠S->s.heap.get? b=some o->h'.get? b=some o)->h'.get? S=some { cls:=.type "list",dict:=none,data:=.seq acc c,slots:=#[] }->R (.ok (.ret res)) { s with heap:=h',toks:=tk,drawn:=d }) :
  wpAny (model prog w) A.in1 (Builtin.List.listExtendWith (.ref S) (.ref a) res)
   (fun fin s'=>match fin with | .done f=>R (.ok f) s' | .again c'=>c'.quiet=true/\codeAny (model prog w) A c' R s') (fun e s'=>R (.error e) s') s:=by
 have hT:s.TypeIs (.ref a) "set":=⟨_,hS.1,rfl⟩
 have hSl:S < s.heap.objs.size:=Heap.lt_size hL
 unfold Builtin.List.listExtendWith
 refine wpAny_bind (wpAny_typeOf (T:="set") hT ?_)
 have f1:Builtin.List.listSameRef (.ref S) (.ref a)=false:=by simp [Builtin.List.listSameRef,hSr]
 have f2:(Value.type "set" == Value.type "list")=false:=by decide
 have f3:(Value.type "set" == Value.type "tuple")=false:=by decide
 simp only [f1,f2,f3,Bool.or_false,Bool.false_eq_true,if_false]
 refine wpAny_bind (xw5 hS hl hp hz fun h1 d I fp ord hpo hwk hk1 hfp hI=>?_)
 obtain ⟨St,hW,st⟩:=hwk
 have hn:ord.length<=sizeLine:=by rw [hpo.length_eq,zLM,Array.length_toList]; exact hz
 have hSf:S ∉ fp:=fun hm=>by
  rcases hfp S hm with e | e
  ·exact hSr e
  ·exact absurd hSl (Nat.not_lt.mpr e)
 have W:=hW A.in1 hh
 have key:∀ (h:Heap) (c₁ tk:Nat),St 0 h->(∀ b o,b≠S->s.heap.get? b=some o->h.get? b=some o)->
   h.get? S=some { cls:=.type "list",data:=.seq #[] c₁ }->codeAny (model prog w) A (.builtin "list.extend.loop" ⟨[.ref S,.ref I,res],[]⟩) R { s with heap:=h,toks:=tk,drawn:=d }:=by
  intro h c₁ tk hst hk hS₁
  refine codeAny_extend_loopS W.toS hn S hSf res ord.length 0 _ #[] c₁ rfl (Nat.zero_le _) hst hS₁ (ItemsOf.nil _) fun s' acc' c' hm hS' hacc=>?_
  rw [Moved.eq_with hm]
  refine hR s'.heap s'.toks d acc' c' ord hpo (xn1 hacc) (fun b o hb e=>hm.heap b o (fun hmem=>?_) (hk b o hb e)) hS'
  rcases zMC hmem with e' | hmem
  ·exact hb e'
  ·exact absurd (Heap.lt_size e) (by rw [zMO hmem]; exact Nat.not_lt.mpr hI)
 have hS₁:=hk1 _ _ hL
 refine wpAny_bind (wpAny_holding (xxb (s:={ s with heap:=h1,drawn:=d }) ⟨_,hk1 _ _ hS.1,rfl⟩ ?_))
 refine wpAny_ite_split (fun _=>?_) (fun _=>wpAny_pure ⟨plainId_quiet PySem.F.plain_extend_loop _,key _ c₀ _ st (fun b o _ e=>hk1 _ _ e) hS₁⟩)
 refine wpAny_bind (wpAny_rule ?_)
 refine wpAny_bind ?_
 show wpAny _ _ (updateSeq S (·.push .none) >>= fun _=>updateSeq S (·.pop)) _ _ _
 refine wpAny_bind (wpAny_updateSeq hS₁ rfl ?_)
 have hS₂:=Heap.get?_update_self (Obj.mapSeq (·.push Value.none)) hS₁ rfl
 refine wpAny_updateSeq (hz:=by seq_fits) hS₂ rfl ?_
 have hS₃:=Heap.get?_update_self (Obj.mapSeq (·.pop)) hS₂ rfl
 refine wpAny_pure ⟨plainId_quiet PySem.F.plain_extend_loop _,key _ _ _ ?_ (fun b o hb e=>?_) hS₃⟩
 ·refine W.frame 0 _ _ st fun b hb o e=>?_
  have hbS:b≠S:=fun h=>hSf (h ▸ hb)
  exact (Heap.get?_update_other _ _ (Ne.symm hbS)).trans ((Heap.get?_update_other _ _ (Ne.symm hbS)).trans e)
 ·exact (Heap.get?_update_other _ _ (Ne.symm hb)).trans ((Heap.get?_update_other _ _ (Ne.symm hb)).trans (hk1 _ _ e))
theorem xsc {R:List Value->Shared->Prop} (hh:A.handled=none) (hS:xd8 s.heap a es ep t) (hl:byT w=true\/t.led=true) (hp:es.size=0\/t.plain=false) (hz:es.size<=sizeLine)
  (h:∀ h' tk d ord,ord.Perm (es.toList.map fun e=>e.2)->(∀ b o,s.heap.get? b=some o->h'.get? b=some o)->R ord { s with heap:=h',toks:=tk,drawn:=d }):wpAny (model prog w) A (collect (.ref a)) R E s:=by
 have haL:a < s.heap.objs.size:=Heap.lt_size hS.1
 unfold collect
 refine wpAny_bind (wpAny_runValue (codeAny_builtin entry_proto_collect' ?_))
 rw [Around.under_plainId PySem.F.plain_proto_collect _]
 show wpAny _ A.in1 (newList [] >>= fun l=>again (.builtin "list.__iadd__" ⟨[l,.ref a],[]⟩)) _ _ s
 refine wpAny_bind (wpAny_newObj_type ?_)
 refine wpAny_pure ⟨plainId_quiet PySem.F.plain_list_iadd _,codeAny_builtin entry_list_iadd' ?_⟩
 rw [Around.under_plainId PySem.F.plain_list_iadd _]
 have hL:(s.heap.push { cls:=.type "list",data:=.seq ([]:List Value).toArray }).get? s.heap.objs.size=some { cls:=.type "list",data:=.seq #[] }:=Heap.get?_push_size _ rfl
 show wpAny _ A.in1 (Builtin.List.listExtendWith (.ref s.heap.objs.size) (.ref a) (.ref s.heap.objs.size)) _ _ _
 have key:=extL (prog:=prog) (A:=A) (s:={ s with heap:=s.heap.push { cls:=.type "list",data:=.seq ([]:List Value).toArray } })
  (R:=fun (q:Result) (s':Shared)=>∃ (h':Heap) (tk:Nat) (d:Drawn) (acc:Array Value) (c:Nat),q=.ok (.ret (.ref s.heap.objs.size))/\s'={ s with heap:=h',toks:=tk,drawn:=d }/\acc.toList.Perm (es.toList.map fun e=>e.2) ∧
   (∀ b o,s.heap.get? b=some o->h'.get? b=some o)/\h'.get? s.heap.objs.size=some { cls:=.type "list",dict:=none,data:=.seq acc c,slots:=#[] })
  hh (xbq hS fun o e=>zPO _ e) hl hp hz s.heap.objs.size (Nat.ne_of_gt haL) (.ref s.heap.objs.size) 0 hL
  (fun h' tk d acc c ord hpo e hk hS'=>⟨h',tk,d,acc,c,rfl,rfl,by rw [e]; exact hpo,fun b o eb=>hk b o (Nat.ne_of_lt (Heap.lt_size eb)) (zPO _ eb),hS'⟩)
 refine wpAny_mono key (fun fin s' x=>?_) fun e s' x=>?_
 ·cases fin with
  | done f=>
   obtain ⟨h',tk,d,acc,c,e,rfl,hpo,hk,hS'⟩:=x
   cases e
   show wpAny _ A (load s.heap.objs.size >>= _) _ _ _
   refine wpAny_bind (wpAny_load hS' ?_)
   exact wpAny_pure (h h' tk d acc.toList hpo hk)
  | again c₁=>
   refine ⟨x.1,codeAny_mono x.2 fun q s₂ y=>?_⟩
   obtain ⟨h',tk,d,acc,c,rfl,rfl,hpo,hk,hS'⟩:=y
   show wpAny _ A (load s.heap.objs.size >>= _) _ _ _
   refine wpAny_bind (wpAny_load hS' ?_)
   exact wpAny_pure (h h' tk d acc.toList hpo hk)
 ·obtain ⟨_,_,_,_,_,e',_⟩:=x
  cases e'
theorem xoq:∀ {vs:List Value},(∀ v∈vs,∃ x t,v=.str x t)->∃ ns,StrsAre vs ns
 | [],_=>⟨[],.nil⟩
 | v :: vs,h=>by
  obtain ⟨x,t,rfl⟩:=h v (by simp)
  obtain ⟨ns,hn⟩:=xoq (vs:=vs) fun u hu=>h u (by simp [hu])
  exact ⟨x :: ns,.cons x t hn⟩
theorem sortedL {Q:Value->Shared->Prop} (hh:A.handled=none) (hS:xd8 s.heap a es ep t) (hl:byT w=true\/t.led=true) (hp:es.size=0\/t.plain=false) (h64:es.size < 64) (hst:∀ e∈es.toList,∃ x t,e.2=.str x t)
    (h:∀ (h':Heap) (tk:Nat) (d:Drawn) (D:Addr) (c:Nat) (out:Array Value) (ms:List Str),(∀ b o,s.heap.get? b=some o->h'.get? b=some o)->a < D->h'.get? D=some (seqObj "list" out c)->StrsAre out.toList ms->ms.Perm (es.toList.map fun e=>strOf e.2)->sortedS ms=true->Q (.ref D) { s with heap:=h',toks:=tk,drawn:=d }) :
    wpAny (model prog w) A (call (.builtin "sorted") [.ref a]) Q E s:=by
  refine Calls.call_function_entry kind_sorted plain_sorted entry_sorted (args_sorted1 _) ?_
  unfold Builtin.«sorted»
  refine wpAny_bind (m:=checkCount "sorted" 1 1 _) (wpAny_pure ?_)
  refine wpAny_bind (xsc (A:=A.in1) hh hS hl hp (Nat.le_trans (Nat.le_of_lt h64) (by decide)) fun h' tk d ord hpo hk=>?_)
  have ha:a < h'.objs.size:=Heap.lt_size (hk _ _ hS.1)
  obtain ⟨ns,hns⟩:=xoq (vs:=ord) fun v hv=>by
    obtain ⟨e,he,rfl⟩:=zMP (hpo.mem_iff.mp hv)
    exact hst e he
  have hlen:ord.length < 64:=by rw [hpo.length_eq,zLM,Array.length_toList]; exact h64
  refine wpAny_bind (wpAny_newList ?_ (by have : (64 : Nat) <= sizeLine := by decide
                                          omega))
  have hoL:(h'.push (seqObj "list" ord.toArray 0)).get? h'.objs.size=some (seqObj "list" ord.toArray 0):=Heap.get?_push_size _ rfl
  refine wpAny_bind (wpAny_holding (wpAny_call_entry slot_list_sort ⟨_,hoL,rfl⟩ entry_list_sort (list_sort_treeK strKind_oneLt hoL hns.keysOf (fun v₁ v₂ rest e=>keyKind_strs (ss:=ns) (by rw [<- e]; exact hns)) hlen fun st' a1 a2=>⟨_,rfl,?_⟩) (args_list_sort _)))
  obtain ⟨ms,m1,m2,m3⟩:=sorted_out_str hns a1 a2
  obtain ⟨e,he⟩:=sortedHeap_at (out:=(arrOf st').map (·.2)) hoL
  refine wpAny_pure ⟨_,rfl,h _ tk d h'.objs.size e _ ms (fun b o eb=>?_) ha he m1 ?_ m3⟩
  · have hb:=hk b o eb
    have hlt:=Heap.lt_size hb
    rw [sortedHeap_old (Nat.ne_of_lt hlt) (by rw [Heap.size_push]; exact Nat.lt_succ_of_lt hlt)]
    exact zPO _ hb
  · refine m2.trans ?_
    rw [<- hns.strs]
    have:=hpo.map strOf
    rw [List.map_map] at this
    exact this
end
end St
end
section
namespace St
open PySem PySem.Spec PyProof.Rows
theorem met_mem (val:Nat->Str) (x:Str):∀ n,x∈met val n ↔ ∃ i,i < n/\val i=x
 | 0=>⟨(fun h=>nomatch h),(fun ⟨i,h,_⟩=>absurd h (Nat.not_lt_zero _))⟩
 | n + 1=>by
  rw [xfi]
  have ih:=met_mem val x n
  have hd:x∈step_dedup (met val n) (val n) ↔ x∈met val n\/x=val n:=by
   have:=xs1 (met val n) (val n) x
   have h1:∀ l:List Str,l.any (· == x)=true ↔ x∈l:=fun l=>by simp
   rw [<- h1,this,Bool.or_eq_true,h1,decide_eq_true_eq]
  rw [hd,ih]
  constructor
  ·rintro (⟨i,h1,h2⟩ | rfl)
   ·exact ⟨i,by omega,h2⟩
   ·exact ⟨n,by omega,rfl⟩
  ·rintro ⟨i,h1,h2⟩
   by_cases c:i=n
   ·subst c; exact .inr h2.symm
   ·exact .inl ⟨i,by omega,h2⟩
theorem met_nd (val:Nat->Str):∀ n,(met val n).Nodup
 | 0=>List.nodup_nil
 | n + 1=>by
  rw [xfi]
  have ih:=met_nd val n
  unfold step_dedup
  split
  ·exact ih
  ·rename_i h
   refine List.nodup_append.mpr ⟨ih,by simp,fun a ha b hb e=>h ?_⟩
   rw [List.mem_singleton] at hb
   subst hb e
   simpa using ha
theorem perm_of:∀ {as bs:List Str},as.Nodup->(∀ x∈as,x∈bs)->bs.length<=as.length->bs.Perm as
 | [],bs,_,_,hl=>by
  obtain rfl:bs=[]:=List.eq_nil_of_length_eq_zero (by simpa using hl)
  exact List.Perm.refl _
 | a :: as,bs,nd,h,hl=>by
  rw [List.nodup_cons] at nd
  obtain ⟨p,q,rfl⟩:=List.append_of_mem (h a (by simp))
  have ih:=perm_of (as:=as) (bs:=p++q) nd.2 (fun x hx=>by
   have hm:=h x (by simp [hx])
   rcases zMA hm with h1 | h1
   ·exact List.mem_append.mpr (.inl h1)
   ·rcases zMC h1 with h2 | h2
    ·rw [h2] at hx; exact absurd hx nd.1
    ·exact List.mem_append.mpr (.inr h2)) (by simp only [zLA,List.length_cons] at hl ⊢; omega)
  exact List.perm_middle.trans (ih.cons a)
theorem nd_le:∀ {as bs:List Str},as.Nodup->(∀ x∈as,x∈bs)->as.length<=bs.length
 | [],_,_,_=>Nat.zero_le _
 | a :: as,bs,nd,h=>by
  rw [List.nodup_cons] at nd
  obtain ⟨p,q,rfl⟩:=List.append_of_mem (h a (by simp))
  have ih:=nd_le (as:=as) (bs:=p++q) nd.2 fun x hx=>by
   have hm:=h x (by simp [hx])
   rcases zMA hm with h1 | h1
   ·exact List.mem_append.mpr (.inl h1)
   ·rcases zMC h1 with h2 | h2
    ·rw [h2] at hx; exact absurd hx nd.1
    ·exact List.mem_append.mpr (.inr h2)
  simp only [zLA,List.length_cons] at ih ⊢; omega
theorem val_mem {ns:List Str} {x:Str}:(∃ i,i < ns.length/\ns.getD i Str.empty=x) ↔ x∈ns:=by
 constructor
 ·rintro ⟨i,h,rfl⟩
  simp [List.getD,zGA h]
 ·intro h
  obtain ⟨i,hi,e⟩:=zMI h
  exact ⟨i,hi,by simp [List.getD,zGA hi,e]⟩
end St
namespace L2
open PySem PySem.Spec PyProof.Rows
def xq3 (te:TE):TE:=fun σ H Q=>te σ H fun x H1=>∃ p,∃ ns:List Str,x=.ref p/\H1 p=some (.lst (ns.map V.str))/\ns.length<=4000/\(∃ B:List Str,B.length < 64/\∀ x∈ns,x∈B)/\∀ (l:Addr) (ms:List Str),H1 l=none->(∀ x,x∈ms ↔ x∈ns)->ms.Nodup->sortedS ms=true->Q (.ref l) (upd H1 l (.lst (ms.map V.str)))
theorem xi6:∀ {us:List Value} {ms:List Str},StrsAre us ms->Vals (ms.map V.str) us
 | _,_,.nil=>.nil
 | _,_,.cons x t r=>.cons ⟨t,rfl⟩ (xi6 r)
theorem xns {X:Cx} {e:Expr} {te:TE} {p1 p2 q1 q2:Pos} (hc:X.calm=true) (hg1:Gl X "sorted") (hm1:X.mg "sorted"=none) (hg2:Gl X "set") (hm2:X.mg "set"=none) (he:PE X e te)
  (hs2:starEach [e] X.env=[(false,eval e X.env)]:=by rfl)
  (hs1:starEach [Expr.Call (.Name "set" p2) [e] [] q2] X.env=[(false,eval (.Call (.Name "set" p2) [e] [] q2) X.env)]:=by rfl) :
  PE X (.Call (.Name "sorted" p1) [.Call (.Name "set" p2) [e] [] q2] [] q1) (xq3 te):=by
 intro pins s σ H Q I h
 refine wpAny_Call_Name_kw (xfj I hg1 hm1 boot_sorted ?_ (by decide) (by decide))
 refine PyProof.Rows.callWith_builtin1 ?_ hs1 rfl
 rw [hs1]
 refine Calls.spliced_cons ?_
 refine wpAny_Call_Name_kw (xfj I hg2 hm2 PyProof.Rows.boot_set ?_ (by decide) (by decide))
 refine PyProof.Rows.callWith_type1 (thn ((pc he pN hs2) q2 pins s σ H (fun vs H1=>match vs with
  | [x]=>∃ p,∃ ns:List Str,x=.ref p/\H1 p=some (.lst (ns.map V.str))/\ns.length<=4000/\(∃ B:List Str,B.length < 64/\∀ x∈ns,x∈B)/\∀ (l:Addr) (ms:List Str),H1 l=none->(∀ x,x∈ms ↔ x∈ns)->ms.Nodup->sortedS ms=true->Q (.ref l) (upd H1 l (.lst (ms.map V.str)))
  | _=>False) I h) fun us s1 ⟨vs,H1,I1,r1,q⟩=>?_) hs2 rfl
 match vs,r1,q with
 | [x],r1,q=>
  obtain ⟨p,ns,rfl,hp,h64,⟨B,hB,hnB⟩,q⟩:=q
  obtain ⟨u,rfl,ru⟩:=xfb r1
  cases ru
  obtain ⟨its,rv,pl,hz⟩:=I1.list (SqL.of (K:=X.K) hp)
  have hlen:ns.length=its.length:=by have:=rv.length; rw [zLM] at this; exact this
  refine St.call_setL (ns:=ns) (I.ok.hd hc) pl.isList (by rw [List.toList_toArray]; exact xml rv) (by rw [List.size_toArray,<- hlen]; have:scanBound=4096:=rfl; omega) fun h2 tk hS hk=>Calls.spliced_nil ?_
  have e9:its.toArray.size=ns.length:=by rw [List.size_toArray,hlen]
  rw [e9] at hS
  have hml:=St.met_len (fun i=>ns.getD i Str.empty) ns.length
  have hmd:=St.met_nd (fun i=>ns.getD i Str.empty) ns.length
  have hmm:∀ x,x∈St.met (fun i=>ns.getD i Str.empty) ns.length ↔ x∈ns:=fun x=>(St.met_mem _ x _).trans St.val_mem
  generalize St.met (fun i=>ns.getD i Str.empty) ns.length=mt at hS hml hmd hmm
  have hm64:mt.length < 64:=Nat.lt_of_le_of_lt (St.nd_le hmd fun x hx=>hnB x ((hmm x).mp hx)) hB
  obtain ⟨o,es,ep,t,ho,hex,hd,hel,hmem,_,hf,hsz,hled,hpl⟩:=hS
  obtain ⟨oc,od,odt,osl⟩:=o
  obtain ⟨rfl,rfl,rfl⟩:=hex
  cases hd
  have his:∀ k v,(PySem.strKind X.prog X.w).is k v=true->∃ t,v=.str k t:=fun k v hk1=>by
   rw [(PySem.strKind X.prog X.w).strs k k 0 v (PySem.strKind_is _ _ _ _)] at hk1
   cases v <;> simp [Value.isStr] at hk1
   subst hk1
   exact ⟨_,rfl⟩
  have hstr:∀ e∈es.toList,∃ x t,e.2=.str x t:=fun e he=>by
   obtain ⟨⟨k,hk1,_⟩,_⟩:=hel e he
   exact ⟨k,his k _ hk1⟩
  have hkeys:∀ x,x∈mt ↔ x∈es.toList.map fun e=>PyProof.Rows.strOf e.2:=fun x=>by
   have h1:mt.any (· == x)=true ↔ x∈mt:=by simp
   rw [<- h1,hmem x,List.mem_map]
   constructor
   ·rintro ⟨e,he,hk1⟩
    obtain ⟨t',et⟩:=his _ _ hk1
    exact ⟨e,he,by rw [et]; rfl⟩
   ·rintro ⟨e,he,rfl⟩
    obtain ⟨y,t',et⟩:=hstr e he
    exact ⟨e,he,by rw [et]; exact PySem.strKind_is _ _ _ _⟩
  have hperm:=St.perm_of hmd (fun x hx=>(hkeys x).mp hx) (by rw [zLM,Array.length_toList,hsz]; exact Nat.le_refl _)
  refine St.sortedL (I.ok.hd hc) ⟨ho,hf⟩ hled (by rw [hsz]; exact hpl) (by omega) hstr fun h3 tk3 d D c out ms k3 hD he' hms hpm hso=>?_
  have hpm2:=hpm.trans hperm
  have I2:Inv X pins σ (upd H1 D (.lst (ms.map V.str))) { s1 with heap:=h3,toks:=tk3 }:=I1.laid (fun b u eb=>k3 b u (hk b u (Heap.lt_size eb) eb)) (Nat.le_of_lt hD) ⟨?_,out.toList,c,xi6 hms,by rw [Array.toArray_toList]; exact he'⟩
  ·refine ⟨.ref D,upd H1 D (.lst (ms.map V.str)),?_,rfl,q D ms (I1.hok.fresh (Nat.le_of_lt hD)) (fun x=>(hpm2.mem_iff).trans (hmm x)) (hpm2.nodup_iff.mpr hmd) hso⟩
   exact ⟨I2.ok,I2.os,I2.bare,I2.base,I2.loc,I2.cell,I2.free,I2.freeC,I2.pin,I2.hok,I2.len⟩
  ·rw [zLM,hpm2.length_eq]
   have:(64:Nat)<=sizeLine:=by decide
   omega
end L2
end
section
set_option maxHeartbeats 1000000
end
section
set_option maxHeartbeats 1000000
end
section
set_option maxHeartbeats 1000000
end
section
set_option maxHeartbeats 1000000
end
section
set_option maxHeartbeats 1000000
end
section
set_option maxHeartbeats 1000000
end
section
set_option maxHeartbeats 1000000
end
section
set_option maxHeartbeats 1000000
end
section
namespace M
open PySem L2
theorem xhu {α β:Type} {R:α->β->Prop}:∀ {as:List α} {bs:List β},All2 R as bs->∀ b∈bs,∃ a∈as,R a b
 | _,_,.nil,_,h=>nomatch h
 | _,_,.cons h t,b,hb=>by
  rcases zMC hb with rfl | hb
  ·exact ⟨_,by simp,h⟩
  ·obtain ⟨a,ha,r⟩:=xhu t b hb
   exact ⟨a,by simp [ha],r⟩
theorem xkm {ys:List Wy}:∀ {es es':List ((Str×Str)×D)},es'.map (·.1)=es.map (·.1)->(goF ys es').map (fun e=>e.1.1)=(goF ys es).map fun e=>e.1.1
 | [],[],_=>rfl
 | [],_ :: _,h=>by cases h
 | _ :: _,[],h=>by cases h
 | e :: es,e' :: es',h=>by
  rw [List.map_cons,List.map_cons] at h
  obtain ⟨h1,h2⟩:=List.cons.inj h
  have ih:=xkm (ys:=ys) h2
  unfold goF at ih ⊢
  rw [List.filter_cons,List.filter_cons,h1]
  cases (xau ys e.1.2).isSome with
  | true=>simp only [if_true,List.map_cons,h1,ih]
  | false=>simpa using ih
theorem xm2 {ks ks2:List Kn} (wf:KWf ks) {ys:List Wy} (rt:∀ y∈ys,WV ks ks2 ys y) {m:Nat} {es es':List ((Str×Str)×D)} (hn:es'.map (·.1)=es.map (·.1)) (hnd:(es.map fun e=>e.1.1).Nodup) (hk:∀ e∈es',KIn ks m e.1.2/\Vk ks e.1.2 e.2)
  {N:List Str} (h:∀ e∈es',e.1.1∈N->e∈es) {ds:List (Str×D)} (ha:All2 (TnE (Tn ks ks2 ys m)) (goF ys es) ds):∃ ds',All2 (TnE (Tn ks ks2 ys m)) (goF ys es') ds'/\∀ y∈N,envP ds y=envP ds' y:=by
 have hg:=xkm (ys:=ys) hn
 have hdn:=xeb ha
 have hdd:(ds.map (·.1)).Nodup:=by rw [hdn]; exact hnd.sublist (List.filter_sublist.map _)
 obtain ⟨ds',ha'⟩:=xmb (as:=goF ys es') (R:=fun e q=>TnE (Tn ks ks2 ys m) e q/\(e.1.1∈N->envP ds e.1.1=some q.2)) fun e he=>by
  have hm:=List.mem_filter.mp he
  by_cases hN:e.1.1∈N
  ·have h1:e∈goF ys es:=List.mem_filter.mpr ⟨h e hm.1 hN,hm.2⟩
   obtain ⟨q,hq,hT⟩:=xgt ha e h1
   refine ⟨q,hT,fun _=>?_⟩
   rw [<- hT.1]
   exact xl2 hdd hq
  ·obtain ⟨g,hg⟩:=Option.isSome_iff_exists.mp hm.2
   obtain ⟨h1,h2⟩:=hk e hm.1
   obtain ⟨d',ht,_⟩:=xq1 wf rt m _ g _ h1 hg h2
   exact ⟨(e.1.1,d'),⟨rfl,ht⟩,fun z=>absurd z hN⟩
 have ha2:=ha'.imp fun _ _ h=>h.1
 have hdn':=xeb ha2
 have hdd':(ds'.map (·.1)).Nodup:=by rw [hdn',hg,<- hdn]; exact hdd
 refine ⟨ds',ha2,fun y hy=>?_⟩
 by_cases c:y∈ds'.map (·.1)
 ·obtain ⟨q,hq,rfl⟩:=zMP c
  obtain ⟨e,he,hT,hE⟩:=xhu ha' q hq
  rw [xl2 hdd' hq,hT.1]
  exact hE (by rw [<- hT.1]; exact hy)
 ·rw [xna (ds:=ds) fun q hq e=>c (by rw [hdn',hg,<- hdn,<- e]; exact List.mem_map_of_mem hq),xna (ds:=ds') fun q hq e=>c (by rw [<- e]; exact List.mem_map_of_mem hq)]
theorem xn7 {α β:Type} {ps:List α} {ws ws':List β} (h:ps.length=ws.length) (h':ps.length=ws'.length):(ps.zip ws').map (·.1)=(ps.zip ws).map (·.1):=by rw [xdj h,xdj h']
theorem xla {ks ks2:List Kn} (wf:KWf ks) {ys:List Wy} (rt:∀ y∈ys,WV ks ks2 ys y) {m:Nat} {x:Str} {k:Kn} {y:Wy} (hk:kAt ks x=some k) (hy:wyAt ys x=some y) (hr:k.rc=true) {ws ws':List D} {d':D} (hpm:∀ p∈k.parts,KIn ks m p.2) (hl:ws.length=k.parts.length) (hl':ws'.length=k.parts.length)
  (hv:∀ (i:Nat) w p,ws'[i]?=some w->k.parts[i]?=some p->Vk ks p.2 w) (h:∀ (i:Nat) w p,ws'[i]?=some w->k.parts[i]?=some p->p.1∈nd 22 y.2.2->ws[i]?=some w) {ds:List (Str×D)} (ha:All2 (TnE (Tn ks ks2 ys m)) (goF ys (k.parts.zip ws)) ds) (he:Ev ks2 22 (envP ds) y.2.2 d'):Tn ks ks2 ys (m + 1) x (.tup [.str x,.tup ws']) d':=by
 have hm:=zMF hk
 obtain ⟨ds',h1,h2⟩:=xm2 wf rt (es:=k.parts.zip ws) (es':=k.parts.zip ws') (xn7 hl.symm hl'.symm) (by
   have:(k.parts.zip ws).map (fun e=>e.1.1)=((k.parts.zip ws).map (·.1)).map (·.1):=by rw [List.map_map]; rfl
   rw [this,xdj hl.symm]
   exact wf.pnd k hm) (fun e he=>by
   obtain ⟨i,g1,g2⟩:=xmd he
   exact ⟨hpm _ (zMG g1),hv i _ _ g2 g1⟩) (N:=nd 22 y.2.2) (fun e he hN=>by
   obtain ⟨i,g1,g2⟩:=xmd he
   exact zMG (List.getElem?_zip_eq_some.mpr ⟨g1,h i _ _ g2 g1 hN⟩)) ha
 exact .inr ⟨k,y,ds',hk,hy,.inl ⟨hr,ws',hl',rfl,h1,xgj _ _ _ _ _ he h2⟩⟩
theorem xlb {ks ks2:List Kn} (wf:KWf ks) {ys:List Wy} (rt:∀ y∈ys,WV ks ks2 ys y) {m:Nat} {x:Str} {k:Kn} {y:Wy} (hk:kAt ks x=some k) (hy:wyAt ys x=some y) (hr:k.rc=false) {es:List (Str×D)} {p0:Str×Str} {e0:Str×D} {d0 d1 d':D} (ees:y.2.2=.tup (es.map dPr)) (hes:es.map (·.1)=k.parts.map (·.1)) (hp0:p0∈k.parts) (he0:e0∈es) (hn0:e0.1=p0.1)
  (hpm:KIn ks m p0.2) (hv:Vk ks p0.2 d1) (h:S "it" ∉ nd 22 e0.2) {ds:List (Str×D)} (ha:All2 (TnE (Tn ks ks2 ys m)) (goF ys [((S "it",p0.2),d0)]) ds) (he:Ev ks2 22 (envP ds) e0.2 d'):Tn ks ks2 ys (m + 1) x (.tup [.str x,.str p0.1,d1]) d':=by
 obtain ⟨ds',h1,h2⟩:=xm2 wf rt (es:=[((S "it",p0.2),d0)]) (es':=[((S "it",p0.2),d1)]) rfl (by simp) (fun e he=>by
   rw [zMO he]; exact ⟨hpm,hv⟩) (N:=nd 22 e0.2) (fun e he hN=>by
   rw [zMO he] at hN; exact absurd hN h) ha
 exact .inr ⟨k,y,ds',hk,hy,.inr ⟨hr,es,p0,d1,e0,ees,hes,hp0,he0,hn0,rfl,h1,xgj _ _ _ _ _ he h2⟩⟩
theorem over_sub {ys:List Wy}:∀ {ps:List (Str×Str)},((xb7 ys ps).map (·.1)).Sublist (ps.map (·.1))
 | []=>List.Sublist.slnil
 | p :: ps=>by
  unfold xb7
  rw [List.filterMap_cons]
  have ih:=over_sub (ys:=ys) (ps:=ps)
  unfold xb7 at ih
  cases h:xau ys p.2 with
  | none=>exact ih.cons _
  | some g=>exact ih.cons₂ _
def envK (bs:List (Str×Str)):En:=fun z=>(bs.find? fun b=>decide (b.1=z)).map fun b=>.str b.2
theorem xr6 {ks:List Kn} {bs:List (Str×Str)} (nd:(bs.map (·.1)).Nodup):FitK ks bs (envK bs):=by
 refine ⟨fun p hp=>?_,fun z _ hq=>?_⟩
 ·unfold envK
  obtain ⟨i,hi,e⟩:=zMI hp
  rw [xb5 (f:=fun r:Str×Str=>r.1) (xs:=bs) (i:=i) (a:=p) nd (by rw [<- e]; exact zGA hi)]
  rfl
 ·unfold envK
  rw [List.find?_eq_none.mpr fun q hq' e=>hq q hq' (of_decide_eq_true e)]
  rfl
theorem xvo {ks:List Kn} {bs:List (Str×Str)} {n:Nat} {d:D} {x:Str} (nd':(bs.map (·.1)).Nodup) (h:TmB ks n bs d x):∀ z∈nd n d,z∈bs.map (·.1):=fun z hz=>by
 obtain ⟨v,hv⟩:=xhf _ _ _ _ (h.2 _ (xr6 nd')) z hz
 unfold envK at hv
 obtain ⟨b,hb,_⟩:=zMS hv
 have:=List.find?_some hb
 rw [<- of_decide_eq_true this]
 exact List.mem_map_of_mem (zMF hb)
def HasB (k:Kn) (d:D):Prop:=(k.rc=true/\Tc 22 d 1000/\∀ z∈nd 22 d,z∈k.parts.map (·.1))\/(k.rc=false/\∀ es:List (Str×D),d=.tup (es.map dPr)->∀ e∈es,Tc 22 e.2 1000/\∀ z∈nd 22 e.2,z=S "it")
theorem xl8:∀ {es es':List (Str×D)},es.map dPr=es'.map dPr->es=es'
 | [],[],_=>rfl
 | [],_ :: _,h=>by cases h
 | _ :: _,[],h=>by cases h
 | e :: es,e' :: es',h=>by
  rw [List.map_cons,List.map_cons] at h
  obtain ⟨h1,h2⟩:=List.cons.inj h
  rw [xl8 h2]
  obtain ⟨a,b⟩:=e
  obtain ⟨a',b'⟩:=e'
  unfold dPr at h1
  injection h1 with h1
  injection h1 with h3 h4
  injection h3 with h3
  injection h4 with h4
  rw [show a=a' from h3,show b=b' from h4]
theorem xv1 {ks ks2:List Kn} (wf:KWf ks) {ys:List Wy} {y:Wy} {k:Kn} (hk:kAt ks y.1=some k) (h:WRight ks ks2 ys y) {c:Int} (hc:CntE k.rc y.2.2 c) (hl:c<=1000):HasB k y.2.2:=by
 obtain ⟨k',h1,h2,h3⟩:=h
 rw [hk] at h1
 cases h1
 have hnd:=wf.pnd k (zMF hk)
 rcases h3 with ⟨hr,h⟩ | ⟨hr,es,e1,e2,h⟩
 ·rcases hc with ⟨_,hc⟩ | ⟨hr',_⟩
  ·exact .inl ⟨hr,xca _ _ _ _ hl hc,fun z hz=>over_sub.subset (xvo (hnd.sublist over_sub) h z hz)⟩
  ·rw [hr] at hr'; cases hr'
 ·rcases hc with ⟨hr',_⟩ | ⟨_,es',e3,hc⟩
  ·rw [hr] at hr'; cases hr'
  ·refine .inr ⟨hr,fun es2 e4 e he=>?_⟩
   rw [e1] at e3 e4
   injection e3 with e3
   injection e4 with e4
   have i1:=xl8 e3
   have i2:=xl8 e4
   subst i1 i2
   refine ⟨xca _ _ _ _ hl (hc e he),fun z hz=>?_⟩
   obtain ⟨i,hi,ei⟩:=zMI he
   have hlen:=congrArg List.length e2
   rw [zLM,zLM] at hlen
   have hb:=h i e (k.parts[i]'(by omega)) (by rw [<- ei]; exact zGA hi) (zGA _)
   have hz':=xvo (List.Nodup.sublist over_sub (by simp)) hb z hz
   have:=over_sub.subset hz'
   simpa using this
theorem xr5 {ks ks2:List Kn} (wf:KWf ks) (wf2:KWf ks2) (h4:ks2.length<=4) {told:List Wy} (h:xhv ks ks2 told) (hc:∀ y∈told,∀ k,kAt ks y.1=some k->CntE k.rc y.2.2 (smK ks2 y.2.1 + 9)):∀ y∈xbp ks2 ks told,∀ k,kAt ks y.1=some k->HasB k y.2.2:=fun y hy k hk=>by
 have hr:=xfz wf wf2 h y hy
 have hin:KIn ks2 6 y.2.1:=by
  obtain ⟨_,_,h2,_⟩:=hr
  exact h2
 rcases xlw hy with h1 | ⟨i,k',d,hk',rfl,hb⟩
 ·exact xv1 wf hk hr (hc y h1 k hk) (by have:=xu1 wf2 h4 hin; omega)
 ·rw [xdz wf.nd (zMG hk')] at hk
  cases hk
  exact xv1 wf (xdz wf.nd (zMG hk')) hr (xt9 wf2 hb) (by decide)
end M
end
section
namespace M
open PySem L2
theorem xs7 {ks ks2:List Kn} {ys:List Wy}:∀ (m:Nat) (x:Str) (d d':D),Tn ks ks2 ys m x d d'->Tn ks ks2 ys (m + 1) x d d'
 | 0,x,d,d',h=>.inl h
 | m + 1,x,d,d',h=>by
  rcases h with h | ⟨k,y,ds,h1,h2,h3⟩
  ·exact .inl h
  ·refine .inr ⟨k,y,ds,h1,h2,?_⟩
   rcases h3 with ⟨hr,ws,hl,e,ha,hev⟩ | ⟨hr,es,p0,d0,e0,ees,hes,hp0,he0,hn0,e,ha,hev⟩
   ·exact .inl ⟨hr,ws,hl,e,ha.imp fun _ _ h=>⟨h.1,xs7 m _ _ _ h.2⟩,hev⟩
   ·exact .inr ⟨hr,es,p0,d0,e0,ees,hes,hp0,he0,hn0,e,ha.imp fun _ _ h=>⟨h.1,xs7 m _ _ _ h.2⟩,hev⟩
theorem xi0 {a b:Str} {r r':List D} (h:D.tup (.str a :: r)=.tup (.str b :: r')):a=b:=by
 injection h with h
 injection h with h _
 injection h
theorem xv5 {ks:List Kn} {n:Nat} {env:En} {r:List D} {v:D} (h:Ev ks n env (.tup (.str (S "rec") :: r)) v):∃ k es vs j,r=[.str k,.tup es]/\v=.tup [.str k,.tup vs]/\n=j + 1/\All2 (Ev ks j env) es vs:=by
 have leaf:¬ xel env (.tup (.str (S "rec") :: r)) v:=by
  rintro (⟨i,e,_⟩ | ⟨y,_,e⟩)
  ·exact absurd (xi0 e) (by walk_at "k")
  ·exact absurd (xi0 e) (by walk_at "k")
 cases n with
 | zero=>exact absurd h leaf
 | succ n=>
  rcases h with h | h
  ·exact absurd h leaf
  ·rcases h with ⟨s,a,b,x,y,h1,h2,hx,hy,e,hv⟩ | ⟨k,es,vs,hl,h1,e,hv⟩ | ⟨a,k,vs,f,kn,i,h1,h2,h3,h4,e⟩ | ⟨k,t,a,x,h1,e,hv⟩ | ⟨a,rs,k,t,x,y,e',hl,h1,hf,h2,e⟩ | ⟨a,b,c,x,h1,h2,e⟩
   ·exact absurd (xi0 e) (by walk_at "k")
   ·unfold tRec at e
    injection e with e
    injection e with _ e
    exact ⟨k,es,vs,n,e,hv,rfl,h1⟩
   ·exact absurd (xi0 e) (by walk_at "k")
   ·exact absurd (xi0 e) (by walk_at "k")
   ·exact absurd (xi0 e) (by walk_at "k")
   ·exact absurd (xi0 e) (by walk_at "k")
theorem xv6 {ks:List Kn} {n:Nat} {env:En} {z:Str} {v:D} (h:Ev ks n env (.tup [.str (S "box"),.str z]) v):env z=some v:=by
 have leaf:xel env (.tup [.str (S "box"),.str z]) v->env z=some v:=by
  rintro (⟨i,e,_⟩ | ⟨y,hy,e⟩)
  ·exact absurd (xi0 e) (by walk_at "k")
  ·unfold tBox at e
   injection e with e
   injection e with _ e
   injection e with e _
   injection e with e
   rw [e]
   exact hy
 cases n with
 | zero=>exact leaf h
 | succ n=>
  rcases h with h | h
  ·exact leaf h
  ·rcases h with ⟨s,a,b,x,y,h1,h2,hx,hy,e,hv⟩ | ⟨k,es,vs,hl,h1,e,hv⟩ | ⟨a,k,vs,f,kn,i,h1,h2,h3,h4,e⟩ | ⟨k,t,a,x,h1,e,hv⟩ | ⟨a,rs,k,t,x,y,e',hl,h1,hf,h2,e⟩ | ⟨a,b,c,x,h1,h2,e⟩
   all_goals exact absurd (xi0 e) (by walk_at "k")
theorem xr7 {R:Str->D->D->Prop} {ys:List Wy} {ps:List (Str×Str)} {ws:List D} {ds:List (Str×D)} (h:All2 (TnE R) (goF ys (ps.zip ws)) ds) {z:Str} {v:D} (hz:envP ds z=some v):∃ (i:Nat) (p:Str×Str) (w:D),ps[i]?=some p/\ws[i]?=some w/\p.1=z/\R p.2 w v:=by
 unfold envP at hz
 obtain ⟨q,hq,rfl⟩:=zMS hz
 have h0:=List.find?_some hq
 have h1:q.1=z:=of_decide_eq_true h0
 obtain ⟨e,he,hT⟩:=xhu h q (zMF hq)
 obtain ⟨i,g1,g2⟩:=xmd (List.mem_filter.mp he).1
 exact ⟨i,e.1,e.2,g1,g2,by rw [<- h1,hT.1],hT.2⟩
end M
end
section
namespace Zm
open PySem Zt
structure Zs (h:Heap) (z TI TO i1 i2 l1 l2:Addr) (xs ys:Array Value) (k:Nat):Prop where
 zip:Free h z TI TO
 ti:IsPair h TI (.ref i1) (.ref i2)
 to:∃ a b,IsPair h TO a b
 it1:h.IsListIter i1 l1 k
 it2:h.IsTupleIter i2 l2 k
 t1:h.IsList l1 xs
 t2:h.IsTuple l2 ys
section
variable {prog:Program} {w:World} {A:Around} {E:Value->Shared->Prop} {s:Shared}
theorem nxL {it l:Addr} {xs:Array Value} (hne:l≠it):Nx prog w it l xs fun h k=>h.IsListIter it l k/\h.IsList l xs where
 item:=fun p hx hQ=>wpAny_nextOf_list_item p.1 p.2 hx fun h' a s=>hQ h' ⟨a,p.2.extBut s.extBut hne⟩ s
 last:=fun hh p hx hE=>wpAny_nextOf_list_end hh p.1 p.2 hx hE
 kept:=fun p a b=>⟨p.1.at a,p.2.at b⟩
 there:=fun p=>by obtain ⟨o,e,_⟩:=p.1; exact ⟨o,e⟩
theorem pyNext_item {z TI TO i1 i2 l1 l2:Addr} {k:Nat} {xs ys:Array Value} {x y:Value} {Q:Option Value->Shared->Prop} (D:ZipApart z TI TO i1 i2 l1 l2) (hlt:l1 < s.heap.objs.size/\l2 < s.heap.objs.size) (S:Zs s.heap z TI TO i1 i2 l1 l2 xs ys k)
  (hl1T:l1≠TO/\l2≠TO) (hx:xs[k]?=some x) (hy:ys[k]?=some y)
  (hQ:∀ h',Zs h' z TI TO i1 i2 l1 l2 xs ys (k + 1)->IsPair h' s.heap.objs.size x y->h'.objs.size=s.heap.objs.size + 1->
   (∀ c o,c≠z->c≠TO->c≠i1->c≠i2->s.heap.get? c=some o->h'.get? c=some o)->Q (some (.ref s.heap.objs.size)) { s with heap:=h' }) :
  wpAny (model prog w) A (pyNext (.ref z)) Q E s:=xxd D hlt (nxL D.l1i1) ⟨S.zip,S.ti,S.to,⟨S.it1,S.t1⟩,S.it2,S.t2⟩ hl1T hx hy fun h' Z b1 b2 b3=>hQ h' ⟨Z.zip,Z.ti,Z.to,Z.p1.1,Z.it2,Z.p1.2,Z.t2⟩ b1 b2 b3
theorem pyNext_end {z TI TO i1 i2 l1 l2:Addr} {k:Nat} {xs ys:Array Value} {Q:Option Value->Shared->Prop} (hh:A.handled=none) (D:ZipApart z TI TO i1 i2 l1 l2) (S:Zs s.heap z TI TO i1 i2 l1 l2 xs ys k) (hx:xs[k]?=none)
  (hQ:∀ h',(∀ c o,c≠z->c≠i1->s.heap.get? c=some o->h'.get? c=some o)->Q none { s with heap:=h' }):wpAny (model prog w) A (pyNext (.ref z)) Q E s:=gEnd hh D (nxL D.l1i1) ⟨S.zip,S.ti,S.to,⟨S.it1,S.t1⟩,S.it2,S.t2⟩ hx hQ
end
section
variable {S z TI TO i1 i2 l1 l2:Addr} {xs ys:Array Value}
theorem Zs.keep {h h':Heap} {k:Nat} (Z:Zs h z TI TO i1 i2 l1 l2 xs ys k) (e:∀ b o,b≠S->h.get? b=some o->h'.get? b=some o) (hS:z≠S/\TI≠S/\TO≠S/\i1≠S/\i2≠S/\l1≠S/\l2≠S) (hSo:∃ o,h'.get? S=some o):Zs h' z TI TO i1 i2 l1 l2 xs ys k:=by
 obtain ⟨hz,hTI,⟨a,b,hTO⟩,h1,h2,hl1,hl2⟩:=Z
 obtain ⟨s1,s2,s3,s4,s5,s6,s7⟩:=hS
 refine ⟨?_,e _ _ s2 hTI,⟨a,b,e _ _ s3 hTO⟩,h1.at fun o q=>e _ o s4 q,h2.at fun o q=>e _ o s5 q,hl1.at fun o q=>e _ o s6 q,hl2.at fun o q=>e _ o s7 q⟩
 rcases hz with hz | ⟨T,bb,oT,hz,hT,hTz⟩
 ·exact .inl (e _ _ s1 hz)
 ·by_cases hTS:T=S
  ·obtain ⟨o,ho⟩:=hSo
   exact .inr ⟨T,bb,o,e _ _ s1 hz,by rw [hTS]; exact ho,hTz⟩
  ·exact .inr ⟨T,bb,oT,e _ _ s1 hz,e _ _ hTS hT,hTz⟩
end
abbrev zH1 (h:Heap) (l1:Addr):Heap:=h.push { cls:=.type "list_iterator",data:=.fields #[.ref l1,.int 0 0] }
abbrev zH2 (h:Heap) (l1 l2:Addr):Heap:=(zH1 h l1).push { cls:=.type "tuple_iterator",data:=.fields #[.ref l2,.int 0 0] }
abbrev zH3 (h:Heap) (l1 l2:Addr):Heap:=(zH2 h l1 l2).push { cls:=.type "tuple",data:=.seq #[.ref h.objs.size,.ref (zH1 h l1).objs.size] }
abbrev zH4 (h:Heap) (l1 l2:Addr):Heap:=(zH3 h l1 l2).push { cls:=.type "tuple",data:=.seq #[.none,.none] }
abbrev zH5 (h:Heap) (l1 l2:Addr):Heap:=(zH4 h l1 l2).push { cls:=.type "zip",data:=.fields #[.none,.bool false,.bool false,.ref (zH2 h l1 l2).objs.size,.ref (zH3 h l1 l2).objs.size] }
theorem meets_new (l1 l2:Addr) (xs ys:Array Value) :
  Meets (Builtin.«zip.__new__» ⟨[.type "zip",.ref l1,.ref l2],[]⟩) (fun _ R s=>s.heap.IsList l1 xs/\s.heap.IsTuple l2 ys ∧
   R (.ok (.ret (.ref (zH4 s.heap l1 l2).objs.size))) { s with heap:=zH5 s.heap l1 l2 }):=
 .of_wp fun prog w A R s h=>by
  obtain ⟨hp,g,d,tk,os⟩:=s; obtain ⟨hl1,hl2,h⟩:=h
  have hsub:=sub_zip
  have hL1:Heap.IsList (Shared.heap ⟨hp,g,d,tk,os⟩) l1 xs:=hl1
  have hL2:Heap.IsTuple (Shared.heap ⟨hp.push { cls:=.type "list_iterator",data:=.fields #[.ref l1,.int 0 0] },g,d,tk,os⟩) l2 ys:=Heap.IsTuple.push hl2 _
  wp_walk using wpAny_pyIter_list hL1,wpAny_pyIter_tuple hL2
  exact ⟨_,rfl,h⟩
section
variable {prog:Program} {w:World} {A:Around} {E:Value->Shared->Prop} {s:Shared}
theorem call_zip {l1 l2:Addr} {xs ys:Array Value} {Q:Value->Shared->Prop} (hl1:s.heap.IsList l1 xs) (hl2:s.heap.IsTuple l2 ys)
  (h:∀ h',Zs h' (s.heap.objs.size + 4) (s.heap.objs.size + 2) (s.heap.objs.size + 3) s.heap.objs.size (s.heap.objs.size + 1) l1 l2 xs ys 0->IsZip h' (s.heap.objs.size + 4) (s.heap.objs.size + 2) (s.heap.objs.size + 3) .none->h'.objs.size=s.heap.objs.size + 5->
   (∀ c o,s.heap.get? c=some o->h'.get? c=some o)->Q (.ref (s.heap.objs.size + 4)) { s with heap:=h' }) :
  wpAny (model prog w) A (call (.type "zip") [.ref l1,.ref l2]) Q E s:=by
 refine callType_new F.called_zip (by decide) (F.typeCall_zip_2 _ _) (F.newCall_zip_2 _ _) (fun obj=>F.args_object_init_3 obj _ _) F.entry_zip_new
  (meets_new l1 l2 xs ys) ⟨hl1,hl2,?_⟩
 have z1:(zH1 s.heap l1).objs.size=s.heap.objs.size + 1:=Heap.size_push ..
 have z2:(zH2 s.heap l1 l2).objs.size=s.heap.objs.size + 2:=by rw [Heap.size_push,z1]
 have z3:(zH3 s.heap l1 l2).objs.size=s.heap.objs.size + 3:=by rw [Heap.size_push,z2]
 have z4:(zH4 s.heap l1 l2).objs.size=s.heap.objs.size + 4:=by rw [Heap.size_push,z3]
 have z5:(zH5 s.heap l1 l2).objs.size=s.heap.objs.size + 5:=by rw [Heap.size_push,z4]
 have g5:(zH5 s.heap l1 l2).get? (zH4 s.heap l1 l2).objs.size=some _:=Heap.get?_push_size _ rfl
 have g4:(zH5 s.heap l1 l2).get? (zH3 s.heap l1 l2).objs.size=some _:=zPO _ (Heap.get?_push_size _ rfl)
 have g3:(zH5 s.heap l1 l2).get? (zH2 s.heap l1 l2).objs.size=some _:=zPO _ (zPO _ (Heap.get?_push_size _ rfl))
 have g2:(zH5 s.heap l1 l2).get? (zH1 s.heap l1).objs.size=some _:=zPO _ (zPO _ (zPO _ (Heap.get?_push_size _ rfl)))
 have g1:(zH5 s.heap l1 l2).get? s.heap.objs.size=some _:=zPO _ (zPO _ (zPO _ (zPO _ (Heap.get?_push_size _ rfl))))
 have kp:∀ c o,s.heap.get? c=some o->(zH5 s.heap l1 l2).get? c=some o:=fun c o e=>zPO _ (zPO _ (zPO _ (zPO _ (zPO _ e))))
 show _/\_
 rw [z2,z3,z4] at g5
 rw [z1,z2] at g3
 rw [z3] at g4
 rw [z1] at g2
 rw [z4]
 exact ⟨⟨_,g5,rfl⟩,h _ ⟨.inl g5,g3,⟨_,_,g4⟩,⟨_,g1,rfl,rfl⟩,⟨_,g2,rfl,rfl⟩,hl1.at fun o e=>kp _ o e,hl2.at fun o e=>kp _ o e⟩ g5 z5 kp⟩
end
end Zm
end
section
namespace PySem
open Sem (wp)
theorem xfa:typeLookup (.type "zip") "__getattr__"=pure none:=by rw [typeLookup_type,builtinLookup_eq_fast]; kernel_rfl
theorem xdm:entryFor table "zip.__getattribute__"=some Builtin.«object.__getattribute__»:=
 entryFor_alias (id':="object.__getattribute__") (by kernel_rfl) (by walk_at "k") (by walk_at "k") (by kernel_rfl)
theorem xdb (a:Addr) (fs:Array Value) (sl:Array (Option Value)) (name:Str) (u:Tok) (hmiss:typeLookup (.type "zip") name=pure none) (hname:(["__module__","__name__","__qualname__","__doc__","__annotations__"]:List Str).contains name=false) (hsz:name.length + 100<=sizeLine) :
  Meets (Builtin.«object.__getattribute__» ⟨[.ref a,.str name u],[]⟩) (fun A R s=>s.heap.get? a=some { cls:=.type "zip",dict:=none,data:=.fields fs,slots:=sl }/\raisesAttr (.ref a) name A R s):=
 Meets.of_wp fun prog w A R s hs=>by
  obtain ⟨hp,g,d,tk,os⟩:=s
  obtain ⟨hx,hs⟩:=hs
  have hT:(⟨hp,g,d,tk,os⟩:Shared).TypeIs (.ref a) "zip":=⟨_,hx,rfl⟩
  unfold Builtin.«object.__getattribute__»
  repeat (any_goals (first | assumption | wp_step))
  simp only [hname,Bool.false_eq_true,if_false]
  repeat (any_goals (first | assumption | wp_step))
  exact wpAny_raiseAttrError hs.1 hs.2 (attrMsg_fits (by walk_at "k") hsz)
section
variable {prog:Program} {w:World} {A:Around} {E:Value->Shared->Prop} {s:Shared}
theorem xf2 {a:Addr} {fs:Array Value} {sl:Array (Option Value)} {name:Str} {Q:Option Value->Shared->Prop}
  (hx:s.heap.get? a=some { cls:=.type "zip",dict:=none,data:=.fields fs,slots:=sl }) (hmiss:typeLookup (.type "zip") name=pure none) (hname:(["__module__","__name__","__qualname__","__doc__","__annotations__"]:List Str).contains name=false) (hA:A.handled=none)
  (h:∀ h' tk,(∀ b o,s.heap.get? b=some o->h'.get? b=some o)->Q none { s with heap:=h',toks:=tk }) (hsz:name.length + 100<=sizeLine) :
  wpAny (model prog w) A (getAttr? (.ref a) name) Q E s:=by
 obtain ⟨hp,g,d,tk,os⟩:=s
 have hT:∀ tk',(⟨hp,g,d,tk',os⟩:Shared).TypeIs (.ref a) "zip":=fun _=>⟨_,hx,rfl⟩
 have f1:=sub_AttributeError
 have f3:=F.slot_zip_getattribute.lookup
 have f4:=F.slot_zip_getattribute.bind (.ref a)
 have f5:=xfa
 unfold getAttr? getAttrBy? getAttrBy
 repeat (any_goals (first | assumption | exact hT _ | ((with_reducible show wpAny _ _ (call (Value.builtin "zip.__getattribute__") _ _) _ _ _); refine call_meets F.slot_zip_getattribute (hT _) xdm (F.args_zip_getattribute_2 _ _) (xdb a fs sl name _ hmiss hname hsz) ⟨hx,hA,fun h' tk' e hx'=>?_⟩) | wp_step))
 obtain ⟨t',u',he⟩:=hx'.there
 show wpAny _ _ (getattributeRaised _ _ _ _ _ _ _) _ _ _
 unfold getattributeRaised
 repeat (any_goals (first | assumption | wp_step))
 all_goals first | exact h _ _ hx'.keeps | skip
end
end PySem
namespace L2
open PySem PySem.Spec PyProof.Rows
theorem xk4:typeLookup (.type "zip") "keys"=pure none:=am_miss_of_fast (by kernel_rfl)
section
variable {prog:Program} {w:World} {A:Around} {K:Type} [DecidableEq K] {knd:KeyKind prog w K}
theorem xoe {R:Result->Shared->Prop} {z TI TO i1 i2 l1 l2 d:Addr} {xs ys:Array Value} {n:Nat} {ps:List (K×Value)} (hh:A.in1.handled=none) (D:ZipApart z TI TO i1 i2 l1 l2) (hlT:l1≠TO/\l2≠TO) (hS:z≠d/\TI≠d/\TO≠d/\i1≠d/\i2≠d/\l1≠d/\l2≠d)
  (hxn:xs.size=n) (hyn:ys.size=n) (hpn:ps.length=n) (hps:∀ (i:Nat) (p:K×Value) x y,ps[i]?=some p->xs[i]?=some x->ys[i]?=some y->knd.is p.1 x=true/\y=p.2) :
  ∀ (k i:Nat) (s:Shared) (cur:List (K×Value)),n - i=k->i<=n->Zm.Zs s.heap z TI TO i1 i2 l1 l2 xs ys i->s.heap.DictOf knd d cur->cur.length + (n - i)<=sizeLine->
  (∀ h' tk,h'.DictOf knd d (merged cur (ps.drop i))->(∀ b o,b ∉ [d,z,TO,i1,i2]->s.heap.get? b=some o->h'.get? b=some o)->R (.ok (.ret .none)) { s with heap:=h',toks:=tk })->
  codeAny (model prog w) A (.builtin "dict.update.loop" ⟨[.ref d,.ref z,rawInt i,.none],[]⟩) R s:=by
 intro k
 induction k with
 | zero=>
  intro i s cur hk hi hst hd hsz hR
  have hin:i=n:=by omega
  refine codeAny_builtin xbx ?_
  rw [Around.under_plainId xa3 _]
  show wpAny _ A.in1 (pyNext (.ref z) >>= _) _ _ s
  refine wpAny_bind (Zm.pyNext_end (A:=A.in1) hh D hst (by rw [Array.getElem?_eq_none]; omega) fun h' hm=>?_)
  show wpAny _ _ (Builtin.Dict.addKeywords d [] >>= _) _ _ _
  refine wpAny_bind (wpAny_pure (wpAny_pure ?_))
  have hps0:ps.drop i=[]:=List.drop_eq_nil_of_le (by omega)
  refine hR h' s.toks ?_ fun b o hb e=>hm b o (fun q=>hb (by simp [q])) (fun q=>hb (by simp [q])) e
  rw [hps0]
  exact hd.at fun o e=>hm d o hS.1.symm hS.2.2.2.1.symm e
 | succ k ih=>
  intro i s cur hk hi hst hd hsz hR
  have hlt:i < n:=by omega
  obtain ⟨p,hp⟩:∃ p,ps[i]?=some p:=⟨ps[i]'(by omega),zGA (by omega)⟩
  have hpe:ps.drop i=p :: ps.drop (i + 1):=by
   rw [List.drop_eq_getElem_cons (by omega)]
   congr 1
   rw [zGA (by omega)] at hp
   exact Option.some.inj hp
  have l1lt:l1 < s.heap.objs.size:=by obtain ⟨o,e,_⟩:=hst.t1; exact Heap.lt_size e
  have l2lt:l2 < s.heap.objs.size:=by obtain ⟨o,e,_⟩:=hst.t2; exact Heap.lt_size e
  obtain ⟨hkey,hval⟩:=hps i p xs[i] ys[i] hp (by simp [show i < xs.size by omega]) (by simp [show i < ys.size by omega])
  refine codeAny_builtin xbx ?_
  rw [Around.under_plainId xa3 _]
  show wpAny _ A.in1 (pyNext (.ref z) >>= _) _ _ s
  refine wpAny_bind (Zm.pyNext_item (A:=A.in1) (x:=xs[i]) (y:=ys[i]) D ⟨l1lt,l2lt⟩ hst hlT (by simp [show i < xs.size by omega]) (by simp [show i < ys.size by omega]) fun h' Z' pr hsz' hm=>?_)
  have hta':h'.IsTuple s.heap.objs.size #[xs[i],p.2]:=by rw [<- hval]; exact ⟨_,pr,rfl,_,rfl⟩
  have hd':h'.DictOf knd d cur:=hd.at fun o e=>hm d o hS.1.symm hS.2.2.1.symm hS.2.2.2.1.symm hS.2.2.2.2.1.symm e
  obtain ⟨oa,hoa,hca,na,hda⟩:=id hta'
  refine wpAny_bind (wpAny_holding (wpAny_bind (wpAny_tryCatch ?_)))
  unfold Builtin.Dict.pairItems
  refine wpAny_bind (wpAny_typeOf ⟨oa,hoa,hca⟩ ?_)
  rw [if_pos (by decide)]
  refine wpAny_bind (wpAny_seqItems hoa hda (wpAny_pure ?_))
  show wpAny _ _ (holding [xs[i],p.2] (dictSet d xs[i] p.2)) _ _ _
  refine wpAny_holding (wpAny_dictSet_pairs hkey hd' (fun h2 hd2 hs2=>?_) (by omega))
  have oth:∀ b o,b≠d->h'.get? b=some o->h2.get? b=some o:=fun b o hb e=>(hs2.2 b hb).trans e
  have hdo:∃ o,h2.get? d=some o:=by
   obtain ⟨t,_,_,ht2,_⟩:=hd2
   exact ⟨t,ht2⟩
  refine wpAny_pure ⟨plainId_quiet xa3 _,ih (i + 1) _ _ (by omega) hlt (Z'.keep oth hS hdo) hd2 ?_ fun h3 tk3 hd3 hk3=>?_⟩
  ·have:=stored_length_le cur p.1 p.2
   omega
  ·refine hR h3 tk3 ?_ fun b o hb e=>hk3 b o hb (oth b o (fun q=>hb (by simp [q])) (hm b o (fun q=>hb (by simp [q])) (fun q=>hb (by simp [q])) (fun q=>hb (by simp [q])) (fun q=>hb (by simp [q])) e))
   rw [hpe]
   exact hd3
end
section
variable {prog:Program} {w:World} {A:Around} {E:Value->Shared->Prop} {s:Shared} {K:Type} [DecidableEq K] {knd:KeyKind prog w K}
theorem xl5 {z TI TO i1 i2 l1 l2:Addr} {xs ys:Array Value} {n:Nat} {ps:List (K×Value)} {Q:Value->Shared->Prop} (hh:A.handled=none) (D:ZipApart z TI TO i1 i2 l1 l2) (hlT:l1≠TO/\l2≠TO) (hst:Zm.Zs s.heap z TI TO i1 i2 l1 l2 xs ys 0) (hz:IsZip s.heap z TI TO .none)
  (hxn:xs.size=n) (hyn:ys.size=n) (hpn:ps.length=n) (hps:∀ (i:Nat) (p:K×Value) x y,ps[i]?=some p->xs[i]?=some x->ys[i]?=some y->knd.is p.1 x=true/\y=p.2) (hsz:n<=sizeLine)
  (h:∀ h' tk,h'.DictOf knd s.heap.objs.size (merged [] ps)->(∀ b o,b ∉ [z,TO,i1,i2]->s.heap.get? b=some o->h'.get? b=some o)->Q (.ref s.heap.objs.size) { s with heap:=h',toks:=tk }) :
  wpAny (model prog w) A (call (.type "dict") [.ref z]) Q E s:=by
 refine callType_codes (Q₁:=fun obj s₁=>obj=.ref s.heap.objs.size/\s₁={ s with heap:=s.heap.push { cls:=.type "dict",data:=.dict #[] } }) F.kt_called_dict (F.kt_typeCall_dict_1 _) F.entry_dict_init (kt_code_dict_new _ ⟨rfl,rfl⟩) ?_
 rintro obj s₁ ⟨rfl,rfl⟩
 have hnew:(s.heap.push { cls:=.type "dict",data:=.dict #[] }).DictOf knd s.heap.objs.size []:=Heap.DictOf.new s.heap
 have ext0:∀ b o,s.heap.get? b=some o->(s.heap.push { cls:=.type "dict",data:=.dict #[] }).get? b=some o:=fun b o e=>zPO _ e
 have hz0:=ext0 _ _ hz
 have hT:(⟨s.heap.push { cls:=.type "dict",data:=.dict #[] },s.gens,s.drawn,s.toks,s.os⟩:Shared).TypeIs (.ref z) "zip":=⟨_,hz0,rfl⟩
 have nd:∀ {b o},s.heap.get? b=some o->b≠s.heap.objs.size:=fun e q=>absurd (Heap.lt_size e) (by rw [q]; exact Nat.lt_irrefl _)
 refine ⟨hnew.typeIs,F.args_dict_init_2 _ _,?_⟩
 unfold Builtin.«dict.__init__»
 refine wpAny_bind ?_
 unfold Builtin.Dict.selfAndRest
 refine wpAny_bind (wpAny_notOrdered_dict hnew.typeIs ?_)
 show wpAny _ _ (pure (s.heap.objs.size,[Value.ref z])) _ _ _
 refine wpAny_pure ?_
 show wpAny _ _ (Builtin.Dict.updateFrom "dict.__init__" s.heap.objs.size (.ref z) [] .none) _ _ _
 unfold Builtin.Dict.updateFrom
 refine wpAny_bind (wpAny_typeOf hT ?_)
 rw [if_pos (by decide)]
 refine wpAny_bind (xf2 hz0 xk4 (by walk_at "k") hh (fun h1 tk1 k1=>?_) (by walk_at "k"))
 rw [if_pos (show (none:Option Value).isNone=true from rfl)]
 refine wpAny_bind (wpAny_rule ?_)
 have hz1:=k1 _ _ hz0
 refine wpAny_bind (wpAny_pyIter_zip hz1 (wpAny_pure ⟨plainId_quiet xa3 _,?_⟩))
 obtain ⟨hf,hTI,⟨ta,tb,hTO⟩,h1',h2',hl1,hl2⟩:=id hst
 have k01:∀ b o,s.heap.get? b=some o->h1.get? b=some o:=fun b o e=>k1 _ _ (ext0 _ _ e)
 have hst1:Zm.Zs h1 z TI TO i1 i2 l1 l2 xs ys 0:=⟨.inl hz1,k01 _ _ hTI,⟨ta,tb,k01 _ _ hTO⟩,h1'.at fun o e=>k01 _ o e,h2'.at fun o e=>k01 _ o e,hl1.at fun o e=>k01 _ o e,hl2.at fun o e=>k01 _ o e⟩
 refine xoe (knd:=knd) (A:=A.in1) (ps:=ps) (d:=s.heap.objs.size) (n:=n) hh D hlT ⟨nd hz,nd hTI,nd hTO,?_,?_,?_,?_⟩ hxn hyn hpn hps n 0 _ [] (Nat.sub_zero _) (Nat.zero_le _) hst1 (hnew.at fun o e=>k1 _ _ e) (by simpa using hsz) fun h3 tk3 hd3 hk3=>?_
 ·obtain ⟨o,e,_⟩:=h1'; exact nd e
 ·obtain ⟨o,e,_⟩:=h2'; exact nd e
 ·obtain ⟨o,e,_⟩:=hl1; exact nd e
 ·obtain ⟨o,e,_⟩:=hl2; exact nd e
 ·exact ⟨rfl,h h3 tk3 hd3 fun b o hb e=>hk3 b o (fun q=>by
   rcases zMC q with q | q
   ·exact nd e q
   ·exact hb q) (k01 _ _ e)⟩
end
def xq4 (K:PySem.W.Frag) (ta:TA):TE:=fun σ H Q=>ta σ H fun vs H1=>∃ l1 l2,∃ ks:List Str,∃ us:List V,vs=[.ref l1,.ref l2]/\H1 l1=some (.lst (ks.map V.str))/\SqT K H1 l2 us/\ks.length=us.length/\∀ p,H1 p=none->Q (.ref p) (upd H1 p (.dK (xaw [] ((ks.zip us).map fun x=>((Sum.inr x.1:Key),x.2)))))
theorem xsw:∀ {ks:List Str} {us:List V} {its:List Value},Vals us its->KV ((ks.zip us).map fun x=>((Sum.inr x.1:Key),x.2)) ((ks.zip its).map fun x=>((Sum.inr x.1:Key),x.2))
 | [],_,_,_=>by rw [List.zip_nil_left,List.zip_nil_left]; exact .nil
 | k :: ks,[],_,.nil=>.nil
 | k :: ks,u :: us,_,.cons h t=>.cons ⟨rfl,h⟩ (xsw t)
theorem xnt {X:Cx} {a b:Expr} {ta:TA} {p1 p2 q1 q2:Pos} (hc:X.calm=true) (hg1:Gl X "dict") (hm1:X.mg "dict"=none) (hg2:Gl X "zip") (hm2:X.mg "zip"=none) (ha:PA X [a,b] ta)
  (hs:starEach [a,b] X.env=[(false,eval a X.env),(false,eval b X.env)]:=by rfl) (hs2:starEach [b] X.env=[(false,eval b X.env)]:=by rfl)
  (hs1:starEach [Expr.Call (.Name "zip" p2) [a,b] [] q2] X.env=[(false,eval (.Call (.Name "zip" p2) [a,b] [] q2) X.env)]:=by rfl) :
  PE X (.Call (.Name "dict" p1) [.Call (.Name "zip" p2) [a,b] [] q2] [] q1) (xq4 X.K ta):=by
 intro pins s σ H Q I h
 refine wpAny_Call_Name_kw (xfj I hg1 hm1 PyProof.Rows.boot_dict ?_ (by decide) (by decide))
 refine PyProof.Rows.callWith_type1 ?_ hs1 rfl
 rw [hs1]
 refine Calls.spliced_cons ?_
 refine wpAny_Call_Name_kw (xfj I hg2 hm2 PyProof.Rows.boot_zip ?_ (by decide) (by decide))
 refine PyProof.Rows.callWith_type1 (thn (ha q2 pins s σ H _ I h) fun us s1 ⟨vs,H1,I1,r1,q⟩=>?_) (by rw [hs,hs2]) (by rw [hs2]; rfl)
 obtain ⟨l1,l2,ks,us',rfl,hl1,hl2,hkl,q⟩:=q
 obtain ⟨u1,u2,rfl,e1,e2⟩:=r1.two
 cases e1
 cases e2
 obtain ⟨its,rx,tx,hzx⟩:=I1.list (SqL.of (K:=X.K) hl1)
 obtain ⟨jts,ry,ty,hzy⟩:=I1.tuple hl2
 have a1:l1 < s1.heap.objs.size:=by obtain ⟨_,e,_⟩:=tx.isList; exact Heap.lt_size e
 have a2:l2 < s1.heap.objs.size:=by obtain ⟨_,e,_⟩:=ty; exact Heap.lt_size e
 have D:=PyProof.Rows.zipApart_new a1 a2
 have hil:ks.length=its.length:=by have:=rx.length; rw [zLM] at this; exact this
 have hjl:us'.length=jts.length:=ry.length
 refine Zm.call_zip tx.isList ty fun h1 Z1 hz1 hs5 kp=>Calls.spliced_nil ?_
 refine xl5 (knd:=xbs X.prog X.w) (n:=ks.length) (ps:=(ks.zip jts).map fun x=>((Sum.inr x.1:Key),x.2)) (I.ok.hd hc) D ⟨D.l1TO,D.l2TO⟩ Z1 hz1 (by simp [hil]) (by simp; omega) (by rw [zLM,List.length_zip]; omega) (fun i p x y hp hx hy=>?_) (by omega) fun h3 tk3 hd3 hk3=>?_
 ·rw [zGM] at hp
  obtain ⟨⟨k0,v0⟩,hk0,rfl⟩:=zMS hp
  obtain ⟨g1,g2⟩:=List.getElem?_zip_eq_some.mp hk0
  rw [List.getElem?_toArray] at hx hy
  rw [hy] at g2
  refine ⟨?_,Option.some.inj g2⟩
  obtain ⟨u,hu,ru⟩:=rx.get (i:=i) (x:=V.str k0) (by rw [zGM,g1]; rfl)
  rw [hx] at hu
  cases hu
  exact xkg (k:=Sum.inr k0) ru
 ·have hz':(xaw [] ((ks.zip us').map fun x=>((Sum.inr x.1:Key),x.2))).length<=sizeLine:=by
   have:=xb2 ((ks.zip us').map fun x=>((Sum.inr x.1:Key),x.2)) []
   rw [List.length_nil,zLM,List.length_zip] at this
   omega
  have k3:∀ b o,s1.heap.get? b=some o->h3.get? b=some o:=fun b o e=>hk3 b o (fun hb=>by
   have:=Heap.lt_size e
   simp only [List.mem_cons,List.not_mem_nil,or_false] at hb
   rcases hb with z | z | z | z <;> subst z <;> exact absurd this (Nat.not_lt.mpr (by first | exact Nat.le_add_right _ _ | exact Nat.le_refl _))) (kp b o e)
  exact ⟨.ref h1.objs.size,_,I1.laid (a:=h1.objs.size) (o:=.dK (xaw [] ((ks.zip us').map fun x=>((Sum.inr x.1:Key),x.2)))) (t':=tk3) k3 (by omega) (xid hz' (beq_eq_false_iff_ne.mpr (Ne.symm (Nat.ne_of_lt (Nat.lt_of_lt_of_le I1.big (by rw [hs5]; exact Nat.le_add_right _ _))))) ((xsw ry).merge .nil) hd3),rfl,q _ (I1.hok.fresh (by omega))⟩
end L2
end
section
namespace L2
open PySem PySem.Spec PyProof.Rows
section
variable {X:Cx}
theorem xqr (hc:X.calm=true):xew X (.builtin "sum") (fun xs H Q=>∃ p,∃ ns:List Int,xs=[.ref p]/\SqL X.K H p (ns.map V.int)/\Q (.int ns.sum) H):=by
 intro pins s σ H xs us Q I r h
 obtain ⟨p,ns,rfl,hq,q⟩:=h
 obtain ⟨u,rfl,ru⟩:=xfb r
 cases ru
 obtain ⟨its,rv,pl,hz⟩:=I.list hq
 have hi:=xf0 rv
 obtain ⟨xs,e⟩:=hi.allInts.items
 have hns:ns=xs.toList.map (·.1):=by rw [<- hi.numsOf,<- nums_intItems,<- e]
 have hl:=pl.isList
 rw [e] at hl
 have hsz:xs.size=ns.length:=by rw [hns,zLM,Array.length_toList]
 refine sum_intListG (I.ok.hd hc) hl fun h' tk t' k=>⟨.int ns.sum,H,I.kept k,?_,q⟩
 refine ⟨t',?_⟩
 rw [preSum_eq,<- hns,zTL (by omega)]
end
end L2
end
section
namespace L2
open PySem
abbrev qaa:List Str:=["_law_kinds_here","_law_kind"]
abbrev qab:List Str:=["_law_feed_here","_law_many"]
abbrev qac:List Str:=["term"]
abbrev qad:List Str:=["kinds","K"]
abbrev qae:List Str:=["kinds","term","boxes"]
abbrev qaf:List Str:=["_law_feed_here","_law_kinds_here","_law_boxes","_law_kind","_law_room","_law_deep"]
abbrev qag:List Str:=["kinds","ways","kind"]
abbrev qah:List Str:=["ways","kind"]
abbrev qai:List Str:=["_law_name","_law_part","_law_kinds_here"]
abbrev qaj:List Str:=["first","second","ways","kind","value"]
abbrev qak:List Str:=["_law_feed_here","_law_kinds_here"]
abbrev qal:List Str:=["_law_feed_here","_law_kinds_here","_law_kind"]
abbrev qam:List Str:=["kinds","kind"]
abbrev qan:List Str:=["first","second","told"]
abbrev qao:List Str:=["_law_feed_here","_law_kinds_here","_law_sort","_law_names_here"]
abbrev qap:List Str:=["_law_feed_here","_law_kinds_here","_law_boxes","_law_kind"]
abbrev qaq:List Str:=["sign","a","b"]
abbrev qar:List Str:=["_law_feed_here"]
abbrev qas:List Str:=["_law_feed_here","_law_some"]
abbrev qat:List Str:=["_law_feed_here","_law_kinds_here","_law_names_here"]
abbrev qau:List Str:=["_law_feed_here","_law_first","_law_kinds_here","_law_ways","_law_name"]
abbrev qav:List Str:=["_law_feed_here","_law_first","_law_kinds_here"]
abbrev qaw:List Str:=["_law_feed_here","_law_kinds_here","_law_ways","_law_kind","_law_value_here"]
abbrev qax:List Str:=["_law_first","_law_second","_law_ways","_law_kind","_law_value_here","_law_found"]
abbrev qay:List Str:=["kinds","kind","name"]
abbrev qaz:List Str:=["boxes","x","thing"]
abbrev qa0:List Str:=["kinds","ways","olds","news"]
abbrev qa1:List Str:=["kinds","value","f"]
abbrev qa2:List Str:=["first","second","ways","parts","values"]
abbrev qa3:List Str:=["_law_script","_law_k"]
abbrev qa4:List Str:=["_law_cell","_law_many"]
abbrev qa5:List Str:=["_law_feed_here","_law_names_here"]
abbrev qa6:List Str:=["_law_feed_here","_law_kinds_here","_law_boxes","_law_parts_here","_law_kind","_law_room","_law_deep"]
abbrev qa7:List Str:=["_law_feed_here","_law_kinds_here","_law_sort","_law_parts_here","_law_names_here"]
abbrev qa8:List Str:=["_law_x","_law_told_here","_law_kind"]
abbrev qa9:List Str:=["_law_f","_law_part","_law_x","_law_sort","_law_kind"]
abbrev qba:List Str:=["_law_x","_law_told_here","_law_kinds_here"]
abbrev qbb:List Str:=["_law_f","_law_part","_law_ways"]
abbrev qbc:List Str:=["x","kind","first","second","ways","values"]
abbrev qbd:List Str:=["_law_name","_law_part","_law_feed_here","_law_kinds_here"]
abbrev qbe:List Str:=["_law_k","_law_common","_law_letters","_law_at","_law_cell"]
end L2
namespace K46
open PySem L2 M
seal L2.PE L2.PA L2.PS L2.PSs L2.PT L2.PW L2.PI L2.PG L2.PJ L2.PTs
local macro_rules | `(tactic| obtain $p:rcasesPatMed:=$e:term)=>`(tactic| ((refine L2.gcut fun G hG=>?_; rcases $e:term with $p:rcasesPatMed) <;> refine hG ?_))
def top (i:Nat):Stmt:=PySem.Challenge.pw_swapstride_k46_what_is_lost.main.body.getD i (.Pass ⟨0,0,0,0⟩)
abbrev s_sort_of:Stmt:=top 4
theorem sc_sort_of:FnScope ["kinds","K","name","sort","parts"] qad (xaf s_sort_of):=by walk_at "q"
abbrev s_parts_of:Stmt:=top 5
theorem sc_parts_of:FnScope ["kinds","K","name","sort","parts"] qad (xaf s_parts_of):=by walk_at "q"
abbrev s_part_kind:Stmt:=top 8
theorem sc_part_kind:FnScope ["kinds","kind","name","part"] qay (xaf s_part_kind):=by walk_at "q"
abbrev s_with_box:Stmt:=top 9
theorem sc_with_box:FnScope ["boxes","x","thing","more"] qaz (xaf s_with_box):=by walk_at "q"
abbrev s_nought_term:Stmt:=top 10
theorem sc_nought_term:FnScope ["kinds","kind","parts"] qam (xaf s_nought_term):=by walk_at "q"
abbrev s_boxes_in:Stmt:=top 11
theorem xlh:FnScope qac qac (xaf s_boxes_in):=by walk_at "q"
abbrev s_needed:Stmt:=top 12
theorem sc_needed:FnScope ["term","found","inner","tag","x"] qac (xaf s_needed):=by walk_at "q"
abbrev s_inner_terms:Stmt:=top 13
theorem sc_inner_terms:FnScope ["term","head"] qac (xaf s_inner_terms):=by walk_at "q"
abbrev s_goes_to:Stmt:=top 15
theorem sc_goes_to:FnScope qah qah (xaf s_goes_to):=by walk_at "q"
abbrev s_made_ways:Stmt:=top 16
theorem sc_made_ways:FnScope ["first","second","told","ways","lacking","kind","K","how"] qan (xaf s_made_ways):=by walk_at "q"
abbrev s_how_by_rules:Stmt:=top 17
theorem sc_how_by_rules:FnScope ["kinds","ways","kind","K","terms"] qag (xaf s_how_by_rules):=by walk_at "q"
abbrev s_terms_by_rules:Stmt:=top 18
theorem sc_terms_by_rules:FnScope ["kinds","ways","olds","news","own","terms","x","kind"] qa0 (xaf s_terms_by_rules):=by walk_at "q"
abbrev s_tags_by_rules:Stmt:=top 19
theorem sc_tags_by_rules:FnScope ["kinds","ways","kind","K","theirs","tag","inner"] qag (xaf s_tags_by_rules):=by walk_at "q"
abbrev s_field:Stmt:=top 21
theorem sc_field:FnScope ["kinds","value","f","names"] qa1 (xaf s_field):=by walk_at "q"
abbrev s_worth:Stmt:=top 23
theorem sc_worth:FnScope ["kinds","term","boxes","head","taken"] qae (xaf s_worth):=by walk_at "q"
abbrev s_op_worth:Stmt:=top 24
theorem xlg:FnScope qaq qaq (xaf s_op_worth):=by walk_at "q"
abbrev s_case_worth:Stmt:=top 25
theorem sc_case_worth:FnScope ["kinds","term","boxes","value","arm"] qae (xaf s_case_worth):=by walk_at "q"
abbrev s_turned:Stmt:=top 27
theorem sc_turned:FnScope ["first","second","ways","kind","value","how","parts","values","tag","it"] qaj (xaf s_turned):=by walk_at "q"
abbrev s_turned_boxes:Stmt:=top 28
theorem sc_turned_boxes:FnScope ["first","second","ways","parts","values","over"] qa2 (xaf s_turned_boxes):=by walk_at "q"
abbrev sl_feed:Stmt:=top 30
theorem scl_feed:FnScope ["_law_script","_law_k","_law_cell"] qa3 (xaf sl_feed):=by walk_at "q"
abbrev sl_take:Stmt:=top 31
theorem scl_take:FnScope ["_law_feed_here","_law_many","_law_digit","_law_one"] qab (xaf sl_take):=by walk_at "q"
abbrev sl_names:Stmt:=top 32
theorem scl_names:FnScope ["_law_cell","_law_many","_law_letters","_law_size_here","_law_at","_law_common","_law_found"] qa4 (xaf sl_names):=by walk_at "q"
abbrev sl_number:Stmt:=top 33
theorem scl_number:FnScope ["_law_feed_here","_law_form"] qar (xaf sl_number):=by walk_at "q"
abbrev sl_sort_of:Stmt:=top 34
theorem scl_sort_of:FnScope ["_law_kinds_here","_law_kind","_law_name","_law_sort","_law_parts_here"] qaa (xaf sl_sort_of):=by walk_at "q"
abbrev sl_size:Stmt:=top 35
theorem scl_size:FnScope ["_law_kinds_here","_law_kind","_law_sort","_law_parts_here","_law_sizes"] qaa (xaf sl_size):=by walk_at "q"
abbrev sl_small:Stmt:=top 36
theorem scl_small:FnScope ["_law_kinds_here","_law_kind","_law_sort","_law_parts_here"] qaa (xaf sl_small):=by walk_at "q"
abbrev sl_parts:Stmt:=top 37
theorem scl_parts:FnScope ["_law_feed_here","_law_kinds_here","_law_sort","_law_names_here","_law_parts_here","_law_left","_law_j","_law_kind"] qao (xaf sl_parts):=by walk_at "q"
abbrev sl_kinds:Stmt:=top 38
theorem scl_kinds:FnScope ["_law_feed_here","_law_names_here","_law_kinds_here","_law_k","_law_sort"] qa5 (xaf sl_kinds):=by walk_at "q"
abbrev sl_boxed:Stmt:=top 39
theorem xo6:FnScope qas qas (xaf sl_boxed):=by walk_at "q"
abbrev sl_arms:Stmt:=top 40
theorem scl_arms:FnScope ["_law_feed_here","_law_kinds_here","_law_boxes","_law_parts_here","_law_kind","_law_room","_law_deep","_law_arms_here","_law_each","_law_t","_law_part","_law_x"] qa6 (xaf sl_arms):=by walk_at "q"
abbrev sl_whole_term:Stmt:=top 41
theorem scl_whole_term:FnScope ["_law_feed_here","_law_kinds_here","_law_boxes","_law_kind","_law_room","_law_deep","_law_sort","_law_parts_here","_law_one","_law_other","_law_some","_law_t","_law_part","_law_more","_law_terms","_law_f"] qaf (xaf sl_whole_term):=by walk_at "q"
abbrev sl_term:Stmt:=top 42
theorem scl_term:FnScope ["_law_feed_here","_law_kinds_here","_law_boxes","_law_kind","_law_room","_law_deep","_law_some","_law_form","_law_small_here","_law_more","_law_one","_law_first","_law_held","_law_x","_law_told_here","_law_sort","_law_parts_here","_law_f","_law_tags"] qaf (xaf sl_term):=by walk_at "q"
abbrev sl_new_term:Stmt:=top 43
theorem xjq:FnScope qap qap (xaf sl_new_term):=by walk_at "q"
abbrev sl_any_kind:Stmt:=top 44
theorem scl_any_kind:FnScope qak qak (xaf sl_any_kind):=by walk_at "q"
abbrev sl_beside_parts:Stmt:=top 45
theorem scl_beside_parts:FnScope ["_law_feed_here","_law_kinds_here","_law_sort","_law_parts_here","_law_names_here","_law_form","_law_k"] qa7 (xaf sl_beside_parts):=by walk_at "q"
abbrev sl_beside:Stmt:=top 46
theorem scl_beside:FnScope ["_law_feed_here","_law_kinds_here","_law_names_here","_law_found","_law_name","_law_sort","_law_parts_here","_law_form","_law_more"] qat (xaf sl_beside):=by walk_at "q"
abbrev sl_way:Stmt:=top 47
theorem scl_way:FnScope ["_law_feed_here","_law_first","_law_kinds_here","_law_ways","_law_name","_law_sort","_law_parts_here","_law_goal","_law_boxes","_law_arms_here","_law_t","_law_part"] qau (xaf sl_way):=by walk_at "q"
abbrev sl_told:Stmt:=top 48
theorem scl_told:FnScope ["_law_feed_here","_law_first","_law_kinds_here","_law_told_here","_law_name","_law_sort","_law_parts_here","_law_ways","_law_lacking"] qav (xaf sl_told):=by walk_at "q"
abbrev sl_value:Stmt:=top 49
theorem scl_value:FnScope ["_law_feed_here","_law_kinds_here","_law_kind","_law_sort","_law_parts_here","_law_t","_law_part"] qal (xaf sl_value):=by walk_at "q"
abbrev sl_lost:Stmt:=top 50
theorem scl_lost:FnScope ["_law_feed_here","_law_kinds_here","_law_ways","_law_kind","_law_value_here","_law_sort","_law_parts_here","_law_how","_law_t","_law_term_here","_law_part","_law_fields","_law_k"] qaw (xaf sl_lost):=by walk_at "q"
abbrev sl_kept:Stmt:=top 51
theorem scl_kept:FnScope ["_law_first","_law_second","_law_ways","_law_kind","_law_value_here","_law_found","_law_sort","_law_parts_here","_law_known","_law_term_here","_law_inner"] qax (xaf sl_kept):=by walk_at "q"
abbrev s_law:Stmt:=top 52
theorem sc_law:FnScope ["_law_script","_law_names_here","_law_kinds_here","_law_first","_law_second","_law_ways","_law_k","_law_feed_here","_law_kind","_law_value_here","_law_found"] ["_law_script"] (xaf s_law):=by walk_at "q"
structure Tx (K:PySem.W.Frag) (mg:Str->Option Value):Prop where
 d_sort_of:DefTx K mg "sort_of" s_sort_of qad
 d_parts_of:DefTx K mg "parts_of" s_parts_of qad
 d_part_kind:DefTx K mg "part_kind" s_part_kind qay
 d_with_box:DefTx K mg "with_box" s_with_box qaz
 d_nought_term:DefTx K mg "nought_term" s_nought_term qam
 d_boxes_in:DefTx K mg "boxes_in" s_boxes_in qac
 d_needed:DefTx K mg "needed" s_needed qac
 d_inner_terms:DefTx K mg "inner_terms" s_inner_terms qac
 d_goes_to:DefTx K mg "goes_to" s_goes_to qah
 d_made_ways:DefTx K mg "made_ways" s_made_ways qan
 d_how_by_rules:DefTx K mg "how_by_rules" s_how_by_rules qag
 d_terms_by_rules:DefTx K mg "terms_by_rules" s_terms_by_rules qa0
 d_tags_by_rules:DefTx K mg "tags_by_rules" s_tags_by_rules qag
 d_field:DefTx K mg "field" s_field qa1
 d_worth:DefTx K mg "worth" s_worth qae
 d_op_worth:DefTx K mg "op_worth" s_op_worth qaq
 d_case_worth:DefTx K mg "case_worth" s_case_worth qae
 d_turned:DefTx K mg "turned" s_turned qaj
 d_turned_boxes:DefTx K mg "turned_boxes" s_turned_boxes qa2
 dl_feed:DefTx K mg "_law_feed" sl_feed qa3
 dl_take:DefTx K mg "_law_take" sl_take qab
 dl_names:DefTx K mg "_law_names" sl_names qa4
 dl_number:DefTx K mg "_law_number" sl_number qar
 dl_sort_of:DefTx K mg "_law_sort_of" sl_sort_of qaa
 dl_size:DefTx K mg "_law_size" sl_size qaa
 dl_small:DefTx K mg "_law_small" sl_small qaa
 dl_parts:DefTx K mg "_law_parts" sl_parts qao
 dl_kinds:DefTx K mg "_law_kinds" sl_kinds qa5
 dl_boxed:DefTx K mg "_law_boxed" sl_boxed qas
 dl_arms:DefTx K mg "_law_arms" sl_arms qa6
 dl_whole_term:DefTx K mg "_law_whole_term" sl_whole_term qaf
 dl_term:DefTx K mg "_law_term" sl_term qaf
 dl_new_term:DefTx K mg "_law_new_term" sl_new_term qap
 dl_any_kind:DefTx K mg "_law_any_kind" sl_any_kind qak
 dl_beside_parts:DefTx K mg "_law_beside_parts" sl_beside_parts qa7
 dl_beside:DefTx K mg "_law_beside" sl_beside qat
 dl_way:DefTx K mg "_law_way" sl_way qau
 dl_told:DefTx K mg "_law_told" sl_told qav
 dl_value:DefTx K mg "_law_value" sl_value qal
 dl_lost:DefTx K mg "_law_lost" sl_lost qaw
 dl_kept:DefTx K mg "_law_kept" sl_kept qax
 d_law:DefTx K mg "law" s_law ["_law_script"]
 g_WIDE:∃ t,mg "WIDE"=some (.int 4294967296 t)
 z_dict:mg "dict"=none
 z_int:mg "int"=none
 z_len:mg "len"=none
 z_list:mg "list"=none
 z_max:mg "max"=none
 z_min:mg "min"=none
 z_range:mg "range"=none
 z_set:mg "set"=none
 z_sorted:mg "sorted"=none
 z_sum:mg "sum"=none
 z_tuple:mg "tuple"=none
 z_zip:mg "zip"=none
theorem fits {n:Nat} (h:n<=4000000):n<=sizeLine:=Nat.le_trans h (by decide)
theorem xa7 {n:Nat} (h:n<=4000000):n < sizeLine:=Nat.lt_of_le_of_lt h (by decide)
def xsi (K:PySem.W.Frag):Sp:=fun vs H Q _=>∃ (a:Addr) (ns:List Int) (k:Int),vs=[.ref a,.int k]/\SqL K H a (ns.map V.int)/\ns.length<=63/\0<=k/\∀ (r:Addr) (p q:Int),H r=none->Q (.ref r) (upd H r (.lst [.int p,.int q]))
def xcy:Sp:=fun vs H Q _=>∃ (a:Addr) (p q m:Int),vs=[.ref a,.int m]/\H a=some (.lst [.int p,.int q])/\0 < m/\m < 2 ^ 64/\∀ (r:Int) (H':Hp),0<=r->r < m->Fed a H H'->Q (.int r) H'
section
variable {P:Program} {w:World} {K:PySem.W.Frag} {mg:Str->Option Value} {base:Heap} {n:Nat}
theorem xl9 {ns:List Int} {k:Int} (h0:0<=k) (h:k < (ns.length:Int)):∃ v:Int,atI (ns.map V.int) k=some (.int v):=by
 have hk:k.toNat < ns.length:=by omega
 have ek:k=((k.toNat:Nat):Int):=by omega
 refine ⟨ns[k.toNat],?_⟩
 have q:atI (ns.map V.int) ((k.toNat:Nat):Int)=some (.int ns[k.toNat]):=xaz (by rw [zGM,zGA hk] <;> rfl)
 rw [<- ek] at q
 exact q
theorem xdf:2<=sizeLine:=by decide
theorem xrp (T:Tx K mg):DefIs P w K mg base (n + 1) "_law_feed" qa3 (xsi K):=by
 refine DefIs.of T.dl_feed scl_feed ?_ ?_ <;> walk_at "i"
 ·obtain ⟨a,ns,k,rfl,_⟩:=h
  rfl
 obtain ⟨a,ns,k,rfl,hS,h63,hk,q⟩:=h
 have nd:=scl_feed.nd
 have hl:(ns.map V.int).length=ns.length:=zLM _
 refine ⟨_,(zpn (xal (i:=2) nd rfl (by walk_at "o") pI)
   (zpn (xa1 (pR xnv (pv 1) (xax xao rfl T.z_len PySem.boot_len (pc (pv 0) pN zsn)) (nM _)) (po (xal (i:=2) nd rfl (by walk_at "o") (xaj iL (pv 0) (pv 1) (fun _ _=>rfl)))) pQ)
   (zpn (xa1 (PW.pt (xd6 (pR xe6 (xax xao rfl T.z_len PySem.boot_len (pc (pv 0) pN zsn)) pI (nM _)) (xc8 (pR xa4 (xaq xcg (xaj iL (pv 0) pI (fun _ _=>rfl)) pI) pI (nM _))))) (po (xae (xb6 (pc (pv 2) (pc (xaq xbt (xaq xcg (xaq xbt (xaq xdp (xaq xcg (pv 2) pI) pI) (xaq xdp pI (pv 1))) pI) pI) pN xa8) zsn)))) pQ)
   (zpn (xa1 (PW.pt (xd6 (pR xvi (pv 1) (xax xao rfl T.z_len PySem.boot_len (pc (pv 0) pN zsn)) (nM _)) (xc8 (pR xe6 (xax xao rfl T.z_len PySem.boot_len (pc (pv 0) pN zsn)) pI (nM _))))) (po (xal (i:=2) nd rfl (by walk_at "o") (xaq xbt (xaj iL (pv 0) (xaq xcg (pv 1) (xax xao rfl T.z_len PySem.boot_len (pc (pv 0) pN zsn))) (fun _ _=>rfl)) (xaq xdp pI (pv 1))))) pQ)
   (po (xae (xb6 (pc pI (pc (xaq xbt (xaq xcg (xaq xbt (xaq xdp (xaq xcg (pv 2) pI) pI) (xaq xdp pI (pv 1))) pI) pI) pN xa8) zso)))))))),?_⟩
 have h0:0 < ns.length->∃ v:Int,atI (ns.map V.int) 0=some (.int v):=fun h=>xl9 (Int.le_refl 0) (by omega)
 walk_at "rd"
 refine ite2 (fun c=>?_) (fun c=>?_)
 ·have c':=of_decide_eq_true c
  rw [hl] at c'
  obtain ⟨v,hv⟩:=xl9 (ns:=ns) hk c'
  obtain ⟨v0,hv0⟩:=h0 (by omega)
  walk_at "rd"
  refine ite2 (fun c2=>?_) (fun c2=>?_)
  ·walk_at "rd"
   refine ite2 (fun c3=>?_) (fun c3=>?_)
   ·walk_at "rd"
    exact ⟨xdf,fun l hl'=>q l _ _ hl'⟩
   ·walk_at "rd"
    refine ite2 (fun c4=>?_) (fun c4=>?_)
    ·have c4':=of_decide_eq_true c4
     rw [hl] at c4'
     omega
    ·refine iteF ?_
     walk_at "rd"
     exact ⟨xdf,fun l hl'=>q l _ _ hl'⟩
  ·have c2':=of_decide_eq_false (Bool.eq_false_iff.mpr c2)
   rw [hl] at c2'
   omega
 ·have c':=of_decide_eq_false (Bool.eq_false_iff.mpr c)
  rw [hl] at c'
  walk_at "rd"
  refine ite2 (fun c2=>?_) (fun c2=>?_)
  ·have c2':=of_decide_eq_true c2
   rw [hl] at c2'
   obtain ⟨v0,hv0⟩:=h0 (by omega)
   walk_at "rd"
   refine ite2 (fun c3=>?_) (fun c3=>?_)
   ·walk_at "rd"
    exact ⟨xdf,fun l hl'=>q l _ _ hl'⟩
   ·walk_at "rd"
    refine ite2 (fun c4=>?_) (fun c4=>?_)
    ·walk_at "rd"
     refine ite2 (fun c5=>?_) (fun c5=>?_)
     ·obtain ⟨v,hv⟩:=xl9 (ns:=ns) (k:=k % (ns.length:Int)) (Int.emod_nonneg _ (by omega)) (Int.emod_lt_of_pos _ (by omega))
      rw [<- hl] at hv
      have hp:(0:Int) < ((ns.map V.int).length:Nat):=by rw [hl]; omega
      walk_at "rd"
      exact ⟨xdf,fun l hl'=>q l _ _ hl'⟩
     ·walk_at "rd"
      exact ⟨xdf,fun l hl'=>q l _ _ hl'⟩
    ·refine iteF ?_
     walk_at "rd"
     exact ⟨xdf,fun l hl'=>q l _ _ hl'⟩
  ·refine iteF ?_
   walk_at "rd"
   refine ite2 (fun c4=>?_) (fun c4=>?_)
   ·walk_at "rd"
    refine ite2 (fun c5=>?_) (fun c5=>?_)
    ·have c2':=of_decide_eq_false (Bool.eq_false_iff.mpr c2)
     exact absurd (of_decide_eq_true c5) c2'
    ·walk_at "rd"
     exact ⟨xdf,fun l hl'=>q l _ _ hl'⟩
   ·refine iteF ?_
    walk_at "rd"
    exact ⟨xdf,fun l hl'=>q l _ _ hl'⟩
theorem xdx (T:Tx K mg):DefIs P w K mg base (n + 1) "_law_take" qab xcy:=by
 refine DefIs.of T.dl_take scl_take ?_ ?_ <;> walk_at "i"
 ·obtain ⟨a,p,q,m,rfl,_⟩:=h
  rfl
 obtain ⟨a,p,q,m,rfl,ha,m0,m1,k⟩:=h
 have nd:=scl_take.nd
 have hS:SqL K H a [.int p,.int q]:=SqL.of ha
 refine ⟨_,(zpn (xa1 (pR xe6 (xaj iL (pv 0) pI (fun _ _=>rfl)) pI (nM _)) (zpn (xal (i:=2) nd rfl (by walk_at "o") (xaq xcg (xaj iL (pv 0) pI (fun _ _=>rfl)) (pv 1)))
   (zpn (xcz (xaq xb9 (xaj iL (pv 0) pI (fun _ _=>rfl)) (pv 1)) (xms (pv 0) pI xgn))
   (po (xae (pv 2))))) pQ)
   (zpn (xal (i:=3) nd rfl (by walk_at "o") (xaq xcg (xaq xdp (xaj iL (pv 0) pI (fun _ _=>rfl)) pI) pI))
   (zpn (xcz (xaq xbt (xaq xcg (xaq xbt (xaq xdp (pv 3) pI) pI) pI) pI) (xms (pv 0) pI xgn))
   (po (xae (xaq xcg (xaq xb9 (xaq xbt (xaq xdp (pv 3) pI) (xaj iL (pv 0) pI (fun _ _=>rfl))) pI) (pv 1))))))),?_⟩
 walk_at "rd"
 refine ite2 (fun c=>?_) (fun c=>?_)
 ·walk_at "rd"
  refine k _ _ (Int.emod_nonneg _ (by omega)) (Int.emod_lt_of_pos _ m0) Fed.of
 ·walk_at "rd"
  refine (xay _ _ _ _ rfl rfl (SqL.of ups) rfl ?_)
  walk_at "rd"
  refine k _ _ (Int.emod_nonneg _ (by omega)) (Int.emod_lt_of_pos _ m0) Fed.of
end
def xow:Sp:=fun vs H Q _=>∃ c:Int,vs=[.int c,.int 26]/\∀ (b:Addr) (H':Hp) (nms:List Str),Same H H'->H b=none->H' b=some (.lst (nms.map V.str))->xmc nms->(∀ z∈nms,NoBy z/\NoMo z)->Q (.ref b) H'
section
variable {P:Program} {w:World} {K:PySem.W.Frag} {mg:Str->Option Value} {base:Heap} {n m:Nat}
theorem xpj (T:Tx K mg):DefIs P w K mg base (n + 1) "_law_names" qa4 xow:=by
 refine DefIs.of T.dl_names scl_names ?_ ?_ <;> walk_at "i"
 ·obtain ⟨_,rfl,_⟩:=h
  rfl
 obtain ⟨c,rfl,k⟩:=h
 have nd:=scl_names.nd
 refine ⟨_,(zpn (xal (i:=2) nd rfl (by walk_at "o") pS)
   (zpn (xal (i:=3) nd rfl (by walk_at "o") (xaq xcg (pv 0) pI))
   (zpn (xal (i:=4) nd rfl (by walk_at "o") (xaq xcg (xaq xb9 (pv 0) pI) (xaq xbt (pv 3) pI)))
   (zpn (xal (i:=5) nd rfl (by walk_at "o") (xfe PySem.F.plainAttrs_str PySem.F.slot_str_join PySem.F.type_str_join xt1 pS (pc (xbu ["_law_j","_law_cell"] [none,some 0] rfl (by kernel_rfl) (xdo rfl T.z_range (pc (pv 3) pN zsn)) (fun _ _ _ _=>(xab (i:=0) (by show List.Nodup (["_law_j","_law_cell"]:List Str); decide +kernel) rfl (Or.inl rfl))) (fun _ _ _ _=>xbz) (fun _ _ _ _=>(xaj xm4 pS (xaq xcg (xaq xbt (xaq xb9 (pv 1) pI) (pv 0)) pI) (fun _ _=>rfl)))) pN xby)))
   (zpn (xal (i:=6) nd rfl (by walk_at "o") (xbu qbe [none,some 5,some 2,some 4,some 0] rfl (by kernel_rfl) (xdo rfl T.z_range (pc (pv 1) pN zsn)) (fun _ _ _ _=>(xab (i:=0) (by show List.Nodup (qbe:List Str); decide +kernel) rfl (Or.inl rfl))) (fun _ _ _ _=>xbz) (fun _ _ _ _=>(xaq xep (xaq xep (xc4 xsk (pv 1) xe5 (xda (pv 3))) (xaj xm4 (pv 2) (xaq xcg (xaq xbt (xaq xb9 (pv 4) pI) (xaq xdp pI (pv 0))) pI) (fun _ _=>rfl))) (xc4 xsk (pv 1) (xda (pv 3)) xe5)))))
   (zpn (xa1 (pR xa4 (xaq xcg (xaq xb9 (pv 0) pI) pI) pI (nM _)) (po (xae (pv 6))) pQ)
   (po (xae (xbu ["_law_k","_law_found"] [none,some 6] rfl (by kernel_rfl) (xdo rfl T.z_range (pc (pv 1) pN zsn)) (fun _ _ _ _=>(xab (i:=0) (by show List.Nodup (["_law_k","_law_found"]:List Str); decide +kernel) rfl (Or.inl rfl))) (fun _ _ _ _=>xbz) (fun _ _ _ _=>(xaq xep (xaj (xr1 (K:=K) rfl) (pv 1) (xaq xcm (pv 0) (xaq xcg (pv 0) pI)) (fun _ _=>rfl)) (xaq xtr pS (xaq xcg (pv 0) pI))))))))))))),?_⟩
 have m0:0<=c % 5:=Int.emod_nonneg _ (by decide)
 have m5:c % 5 < 5:=Int.emod_lt_of_pos _ (by decide)
 refine (xbe _ rfl _ _ rfl rfl ⟨(by show (0:Int) < 5; decide),?_⟩)
 have hp:0 < (c % 5) + 1:=by omega
 refine (xbe _ rfl _ _ rfl rfl (jAEA ⟨by decide,by decide⟩ _ rfl (xav _ _ rfl rfl (xcp _ _ rfl rfl hp ?_))))
 have a0:0<=c / 5 % ((c % 5) + 1):=Int.emod_nonneg _ (by omega)
 have a1:c / 5 % ((c % 5) + 1) < (c % 5) + 1:=Int.emod_lt_of_pos _ hp
 refine (jAEA rfl _ rfl (xc1 _ rfl (by omega) (by omega) ?_))
 refine xf5 (j:=0) (fun i ys H'=>H'=H/\∃ cs:List Nat,ys=(cs.map xdg).map V.str/\∀ c∈cs,c∈five) (by rfl) (jAEA rfl ([]) rfl (fun _ h=>nomatch h)) (xa7 (by omega)) ?_ ?_
 ·rintro i ys H' hi hl ⟨rfl,cs,rfl,hcs⟩
  refine (xbe _ rfl _ _ rfl rfl (jAEA ⟨by decide,by decide⟩ _ rfl (xav _ _ rfl rfl (xcp _ _ rfl rfl (by show (0:Int) < 5; decide) ?_))))
  obtain ⟨ch,hch,hat⟩:=xud (Int.emod_nonneg (c / 25 + (0 + (i:Int))) (by decide:(5:Int)≠0)) (Int.emod_lt_of_pos _ (by decide))
  refine (xbd _ _ ch rfl rfl (by walk_at "k") hat ?_)
  exact nxt hi hl ⟨rfl,cs++[ch],by simp [xdg],fun x hx=>by
   rcases zMA hx with hx | hx
   ·exact hcs x hx
   ·rw [zMO hx]; exact hch⟩
 ·rintro ys H' hl ⟨rfl,cs,rfl,hcs⟩ D hD
  rw [zLM,zLM] at hl
  refine (xbd (S "") D (cs.map xdg) rfl rfl (SqL.of ups) ?_ ?_)
  ·rw [xld,show (S "").length=0 by walk_at "k"]
   omega
  rw [xkh]
  have sD:=Same.new hD (.lst ((cs.map xdg).map V.str))
  generalize upd H' D (.lst ((cs.map xdg).map V.str))=H1 at sD ⊢
  have hlen:(ofL cs).length=cs.length:=by rw [<- xft,xd9]
  have c4:cs.length<=4:=by omega
  refine (xa9 _ rfl _ rfl (by decide) ⟨by decide,?_⟩)
  refine xf5 (j:=0) (fun i ys H2=>H2=H1/\ys=((List.range i).map fun k=>ofL (nmA cs (c / 5 % (c % 5 + 1)).toNat (c / 125) k)).map V.str) (by rfl) ⟨rfl,rfl⟩ (xa7 (by decide)) ?_ ?_
  ·rintro i ys H2 hi hl2 ⟨rfl,rfl⟩
   have e0:(0 + (i:Int))=(i:Int):=by omega
   have li0:0<=(c / 125 + 5 * (0 + (i:Int))) % 26:=Int.emod_nonneg _ (by decide)
   have li1:(c / 125 + 5 * (0 + (i:Int))) % 26 < 26:=Int.emod_lt_of_pos _ (by decide)
   refine (jEA _ rfl (xcx _ rfl _ rfl _ rfl (fits (by rw [hlen]; omega)) ?_))
   refine (xb0 _ rfl _ rfl _ _ rfl rfl (jAEA ⟨by decide,by decide⟩ _ rfl (xcp _ _ rfl rfl (.inl ⟨by decide,by decide⟩) (xav _ _ rfl rfl (xcp _ _ rfl rfl (by show (0:Int) < 26; decide) ?_)))))
   refine (xbd _ _ _ rfl rfl (by walk_at "k") (xp3 li0 li1) ?_)
   rw [xra (ofL cs) a0 (by rw [hlen]; omega)]
   refine (xcp _ _ rfl rfl ?_ ?_)
   ·refine fits ?_
    rw [show (ofL ((L (ofL cs)).take (c / 5 % (c % 5 + 1)).toNat)).length=(cs.take (c / 5 % (c % 5 + 1)).toNat).length by rw [<- xft,xd9,xd9],List.length_take]
    show _ + 1<=_
    omega
   refine (jEA _ rfl (xcx _ rfl _ rfl _ rfl (fits (by rw [hlen]; omega)) ?_))
   rw [xnp (ofL cs) a0 (by rw [hlen]; omega),xd9]
   refine (xcp _ _ rfl rfl ?_ ?_)
   ·refine fits ?_
    rw [Str.length_append,show (ofL (cs.take (c / 5 % (c % 5 + 1)).toNat)).length=(cs.take (c / 5 % (c % 5 + 1)).toNat).length by rw [<- xft,xd9],show (ofL (cs.drop (c / 5 % (c % 5 + 1)).toNat)).length=(cs.drop (c / 5 % (c % 5 + 1)).toNat).length by rw [<- xft,xd9],List.length_take,List.length_drop]
    show _ + 1 + _<=_
    omega
   rw [xpw]
   refine nxt hi hl2 ⟨rfl,?_⟩
   rw [List.range_succ,zAP,zAP,e0]
   rfl
  ·rintro ys H2 hl2 ⟨rfl,rfl⟩ D2 hD2
   have sD2:=Same.new hD2 (.lst (((List.range 26).map fun k=>ofL (nmA cs (c / 5 % (c % 5 + 1)).toNat (c / 125) k)).map V.str))
   refine (xbe _ rfl _ _ rfl rfl (jAE ⟨by decide,by decide⟩ _ (xc3 _ rfl rfl (by show (0:Int) < 3; decide) rfl (jEA _ rfl (ite2 (fun cc=>?_) (fun cc=>?_))))))
   ·exact (jEA _ rfl (k D2 _ _ (sD.trans sD2) (xdh sD hD2) ups (nmsA c4 hcs) (fun z hz=>⟨xtx hcs z hz,xtw hcs z hz⟩)))
   ·refine (xa9 _ rfl _ rfl (by decide) ⟨by decide,?_⟩)
    obtain ⟨H3,hH3⟩:∃ H3,H3=upd H2 D2 (.lst (((List.range 26).map fun k=>ofL (nmA cs (c / 5 % (c % 5 + 1)).toNat (c / 125) k)).map V.str)):=⟨_,rfl⟩
    have hb:H3 D2=some (.lst (((List.range 26).map fun k=>ofL (nmA cs (c / 5 % (c % 5 + 1)).toNat (c / 125) k)).map V.str)):=by rw [hH3]; exact ups
    rw [<- hH3] at sD2
    refine xf5 (j:=0) (fun i ys H4=>H4=H3/\ys=((List.range i).map fun k=>ofL (nmB cs (c / 5 % (c % 5 + 1)).toNat (c / 125) k)).map V.str) (by rfl) ⟨hH3.symm,rfl⟩ (xa7 (by decide)) ?_ ?_
    ·rintro i ys H4 hi hl3 ⟨rfl,rfl⟩
     have hi':i < 26:=hi
     have er:(0 + (i:Int)) % 2=((i % 2:Nat):Int):=by omega
     have es:(0 + (i:Int)) - (0 + (i:Int)) % 2=((i - i % 2:Nat):Int):=by omega
     refine (xbm _ rfl _ rfl _ rfl _ _ rfl rfl (jAE (by show (0:Int) < 2; decide) _ (jEAA _ rfl rfl (xay D2 _ _ (.str (ofL (nmA cs (c / 5 % (c % 5 + 1)).toNat (c / 125) (i - i % 2)))) rfl rfl (SqL.of hb) ?_ ?_))))
     ·rw [es]
      refine xaz ?_
      rw [zGM,zGM,List.getElem?_range (by omega)]
      rfl
     refine (xbe _ rfl _ _ rfl rfl (jAE (by show (0:Int) < 2; decide) _ (xc1 _ rfl rfl (by omega) ?_)))
     refine (xcp _ _ rfl rfl ?_ ?_)
     ·refine fits ?_
      rw [show (ofL (nmA cs (c / 5 % (c % 5 + 1)).toNat (c / 125) (i - i % 2))).length=cs.length + 1 by rw [<- xft,xd9,xhd]]
      have:(if (0 + (i:Int)) % 2=1 then S "q" else Str.empty).length<=1:=by split <;> decide +kernel
      show _ + (if (0 + (i:Int)) % 2=1 then S "q" else Str.empty).length<=_
      omega
     refine nxt hi hl3 ⟨rfl,?_⟩
     rw [List.range_succ,zAP,zAP]
     congr 1
     show [V.str _]=[V.str _]
     congr 2
     apply xqx
     rw [xeu,xd9,xd9]
     unfold nmB
     congr 1
     rw [er]
     rcases Nat.mod_two_eq_zero_or_one i with e | e
     ·rw [e]; decide +kernel
     ·rw [e]; decide +kernel
    ·rintro ys H4 hl3 ⟨rfl,rfl⟩ D4 hD4
     have sD4:=Same.new hD4 (.lst (((List.range 26).map fun k=>ofL (nmB cs (c / 5 % (c % 5 + 1)).toNat (c / 125) k)).map V.str))
     exact k D4 _ _ (sD.trans (sD2.trans sD4)) (xdh (sD.trans sD2) hD4) ups (nmsB c4 hcs) (fun z hz=>⟨xtv hcs z hz,xtu hcs z hz⟩)
end
def xdw:Sp:=fun vs H Q _=>∃ v ks x,vs=[v,.str x]/\KsSeq H v ks/\∀ t pv H',Same H H'->H' t=some (.tup [.str (xed (kAt ks x)),pv])->RelD H' pv (xmu (kAt ks x))->Q (.ref t) H'
def xg1 (m:Nat):Sp:=fun vs H Q _=>∃ v ks x,vs=[v,.str x]/\KsSeq H v ks/\KWf ks/\KIn ks m x/\∀ H',Same H H'->Q (.int (szF (m + 1) ks x)) H'
section
variable {P:Program} {w:World} {K:PySem.W.Frag} {mg:Str->Option Value} {base:Heap} {n m:Nat}
theorem xbj (T:Tx K mg):DefIs P w K mg base (n + 1) "_law_sort_of" qaa xdw:=by
  refine DefIs.of T.dl_sort_of scl_sort_of ?_ ?_ <;> walk_at "i"
  · obtain ⟨_,_,_,rfl,_⟩:=h
    rfl
  obtain ⟨v,ks,x,rfl,⟨a,us,rfl,hau,hR⟩,q⟩:=h
  have nd:=scl_sort_of.nd
  refine ⟨_,(zpn (xcf PassesOwn.never rfl (xvb (xdk (pv 0)) (xbi (pv 0))) (xbr rfl (xac (xab (i:=2) nd rfl (by walk_at "o")) (xac (xab (i:=3) nd rfl (by walk_at "o")) (xac (xab (i:=4) nd rfl (by walk_at "o")) xa0))))
      (po (xa1 (pR xa4 (pv 2) (pv 1) (nM _)) (po (xae (xar (pc (pv 3) (pc (pv 4) pN zsn) zsn)))) pQ)))
      (po (xae (xar (pc pS (pc (xar pN) pN sT) zso))))),?_⟩
  have hl:=hR.length
  rw [zLM] at hl
  have turn:∀ (i:Nat) (v:V),us[i]?=some v->(ks.take i).find? (fun k=>decide (k.name=x))=none->∃ k b pv,ks[i]?=some k/\v=.ref b/\H b=some (.tup [.str k.name,.str k.sort,pv])/\RelD H pv (xdd k.parts):=fun i v hv hn=>by
    obtain ⟨d,hd,rd⟩:=hR.get hv
    rw [zGM] at hd
    obtain ⟨k,hk',rfl⟩:=zMS hd
    obtain ⟨b,ws,rfl,hb,_,_,rfl,rfl,_,_,rfl,rfl,v3,_,rfl,r3,rfl⟩:=rd
    exact (xe8 k b v3 hk' rfl hb r3)
  rcases hau with ha | ha
  case' inl=>
    refine .inl (xa9 _ rfl a rfl ⟨_,SqL.of ha⟩ ?_)
    refine xm8 (xs:=us) (fun i σ H'=>∃ o2 o3 o4,σ=[some (.ref a),some (.str x),o2,o3,o4]/\H'=H/\(ks.take i).find? (fun k=>decide (k.name=x))=none) (xeg none none none rfl rfl rfl) (fun i σ H' _ p=>by obtain ⟨_,_,_,_,rfl,_⟩:=p; exact SqL.of ha) ?_ ?_
  case' inr=>
    refine .inr (xa9 _ rfl a rfl ⟨_,SqT.of ha⟩ ?_)
    refine xcq (xs:=us) (fun i σ H'=>∃ o2 o3 o4,σ=[some (.ref a),some (.str x),o2,o3,o4]/\H'=H/\(ks.take i).find? (fun k=>decide (k.name=x))=none) (xeg none none none rfl rfl rfl) (fun i σ H' _ p=>by obtain ⟨_,_,_,_,rfl,_⟩:=p; exact SqT.of ha) ?_ ?_
  all_goals first
    | (rintro i v σ H' hv ⟨o2,o3,o4,rfl,rfl,hn⟩
       obtain ⟨k,b,pv,hk',rfl,hb,r3⟩:=turn i v hv hn
       refine (xak b _ rfl (SqT.of hb) rfl _ _ rfl _ (xbe _ rfl _ _ rfl rfl ?_))
       refine (xd0 _ rfl _ rfl rfl _ rfl (ite2 (fun c=>?_) (fun c=>?_)))
       · have e:k.name=x:=V.str.inj (of_decide_eq_true c)
         have e2:kAt ks x=some k:=(xc2 hn hk').1 (zDT e)
         refine (xa9 _ rfl _ rfl (by walk_at "s") (fun t ht=>?_))
         have st:=Same.new ht (.tup [.str k.sort,pv])
         rw [e2] at q
         exact q t pv _ st ups (r3.same st _)
       · have e:¬ k.name=x:=fun z=>c (zDT (congrArg V.str z))
         exact (xeg _ _ _ rfl rfl ((xc2 hn hk').2 (zDF e))))
    | (rintro σ H' ⟨o2,o3,o4,rfl,rfl,hn⟩
       rw [zTL (by omega)] at hn
       rw [show kAt ks x=none from hn] at q
       refine ⟨(by walk_at "s"),fun e he=>⟨(by walk_at "s"),fun t ht=>?_⟩⟩
       have se:=Same.new he (.tup [])
       have st:=Same.new ht (.tup [.str (S "num"),.ref e])
       exact q t (.ref e) _ (se.trans st) ups (xav e ([]) rfl (st _ _ ups) rfl))
theorem xmx (T:Tx K mg) (spc:Sp) (Dl_sort_of:DefIs P w K mg base n "_law_sort_of" qaa xdw) (Dl_size:DefIs P w K mg base n "_law_size" qaa spc) (hspc:∀ j,m=j + 1->spc=xg1 j) (hm:m<=6) :
  DefIs P w K mg base (n + 1) "_law_size" qaa (xg1 m):=by
 refine DefIs.of T.dl_size scl_size ?_ ?_ <;> walk_at "i"
 ·obtain ⟨_,_,_,rfl,_⟩:=h
  rfl
 obtain ⟨v,ks,x,rfl,hk,wf,hin,q⟩:=h
 have nd:=scl_size.nd
 refine ⟨_,(zpn (xcz (pd Dl_sort_of hr (pc (pv 0) (pc (pv 1) pN zsn) zsn)) (xbr rfl (xac (xab (i:=2) nd rfl (by walk_at "o")) (xac (xab (i:=3) nd rfl (by walk_at "o")) xa0))))
   (zpn (xb1 (i:=4) qai [none,none,some 0] rfl (by kernel_rfl) nd rfl (by walk_at "o") (xbi (pv 3)) (fun _ _ _ _=>(xcs (K:=K) (n:=2) rfl rfl (xac (xab (i:=0) (by show List.Nodup (qai:List Str); decide +kernel) rfl (Or.inl rfl)) (xac (xab (i:=1) (by show List.Nodup (qai:List Str); decide +kernel) rfl (Or.inl rfl)) xa0)))) (fun _ _ _ _=>xbz) (fun _ _ _ _=>(pd Dl_size hr (pc (pv 2) (pc (pv 1) pN zsn) zsn))))
   (zpn (xa1 (pR xa4 (pv 2) pS (nM _)) (po (xae (xaq xbt pI (xax (xqt rfl) rfl T.z_max PyProof.Rows.boot_max (pc (pv 4) pN zsn))))) pQ)
   (po (xae (xaq xbt pI (xax (xkr rfl) rfl T.z_sum PyProof.Rows.boot_sum (pc (pv 4) pN zsn)))))))),?_⟩
 refine (xbh _ rfl _ rfl v ks x rfl hk (fun t pv H1 s1 ht rp=>?_))
 refine (xak t _ rfl (SqT.of ht) rfl _ _ rfl _ (jEAA _ rfl rfl ?_))
 have key:∃ ps:List (Str×Str),xmu (kAt ks x)=xdd ps/\ps.length<=5/\(∀ p∈ps,∃ j,m=j + 1/\KIn ks j p.2)/\(xed (kAt ks x)=S "alt"->ps≠[]/\szF (m + 1) ks x=1 + maxD (ps.map fun p=>szF m ks p.2)) ∧
   (xed (kAt ks x)≠S "alt"->szF (m + 1) ks x=1 + (ps.map fun p=>szF m ks p.2).sum):=by
  cases hx:kAt ks x with
  | none=>
   refine (xc3 ([]) rfl (by decide) (fun _ h=>nomatch h) (fun h=>absurd h (by walk_at "k")) (fun _=>?_))
   unfold szF
   rw [hx]
   rfl
  | some k=>
   have hmem:k∈ks:=zMF hx
   have hname:k.name=x:=by
    have:=List.find?_some hx
    simpa using this
   refine (xc3 k.parts rfl (wf.pts k hmem) (fun p hp=>?_) (fun h=>?_) (fun h=>?_))
   ·rcases hin with rfl | ⟨j,k',hj,hk',e⟩
    ·exact absurd hname (xe7 (wf.nm k hmem))
    ·have e2:kAt ks k'.name=some k':=wf.at hk'
     rw [e,hx] at e2
     cases e2
     refine (jEA (m - 1) (by omega) ?_)
     rcases wf.ref j k hk' p hp with z | ⟨i,k2,hi,z⟩
     ·exact .inl z
     ·exact .inr (jEEA i k2 (by omega) z)
   ·have hrc:k.rc=false:=by
     cases hc:k.rc with
     | false=>rfl
     | true=>
      have:k.sort=S "alt":=h
      unfold Kn.sort at this
      rw [hc,if_pos rfl] at this
      exact absurd this (by walk_at "k")
    refine ⟨wf.alt k hmem hrc,?_⟩
    conv=>lhs; unfold szF
    rw [hx]
    show 1 + (if k.rc=true then _ else _)=_
    rw [if_neg (by rw [hrc]; decide)]
   ·have hrc:k.rc=true:=by
     cases hc:k.rc with
     | true=>rfl
     | false=>
      refine absurd ?_ h
      show k.sort=S "alt"
      unfold Kn.sort
      rw [hc,if_neg (by decide)]
    conv=>lhs; unfold szF
    rw [hx]
    show 1 + (if k.rc=true then _ else _)=_
    rw [if_pos hrc]
 obtain ⟨ps,eps,h5,hpin,halt,hrec⟩:=key
 rw [eps] at rp
 obtain ⟨e,us,rfl,he,hus⟩:=rp
 have hl:=hus.length
 rw [zLM] at hl
 refine (xa9 _ rfl e rfl ⟨_,SqT.of he⟩ ?_)
 refine xbn (xs:=us) (fun i ys H'=>Same H1 H'/\ys=((ps.take i).map fun p=>szF m ks p.2).map V.int) ⟨Same.refl _,rfl⟩ (xa7 (by omega)) (fun i ys H' _ p=>SqT.of (p.1 _ _ he)) ?_ ?_
 ·rintro i z ys H' hz hi hly ⟨sm,rfl⟩
  obtain ⟨d,hd,rd⟩:=hus.get hz
  rw [zGM] at hd
  obtain ⟨p,hp,rfl⟩:=zMS hd
  obtain ⟨b,ws,rfl,hb,_,_,rfl,rfl,_,_,rfl,rfl,rfl⟩:=rd
  obtain ⟨j,rfl,hj⟩:=hpin p (zMG hp)
  have D':=hspc j rfl
  subst D'
  refine (xak b _ rfl (SqT.of (sm _ _ hb)) rfl _ _ rfl _ (xc1 _ rfl rfl (ext2 rfl rfl) (xf7 ?_)))
  refine (xce _ rfl _ rfl _ ks p.2 rfl (hk.same (s1.trans sm)) wf ⟨hj,fun H2 s2=>nxtG hi hly ⟨sm.trans s2,?_⟩⟩)
  rw [zTA,hp]
  simp
 ·rintro ys H' hly ⟨sm,rfl⟩ D hD
  rw [zTL (by omega)]
  have sD:=Same.new hD (.lst ((ps.map fun p=>szF m ks p.2).map V.int))
  have sAll:=s1.trans (sm.trans sD)
  have hb:∀ n∈ps.map (fun p=>szF m ks p.2),0<=n/\n<=1000000:=fun n hn=>by
   obtain ⟨p,_,rfl⟩:=zMP hn
   have h1:=xgz wf.pts m p.2
   have h2:(6:Int) ^ m<=6 ^ 6:=by
    rcases (show m=0\/m=1\/m=2\/m=3\/m=4\/m=5\/m=6 by omega) with h | h | h | h | h | h | h <;> subst h <;> decide
   have h3:(6:Int) ^ 6=46656:=by decide
   omega
  refine (xan _ rfl rfl _ rfl (ite2 (fun c=>?_) (fun c=>?_)))
  ·obtain ⟨hne,ez⟩:=halt (V.str.inj (of_decide_eq_true c))
   refine (xbe _ rfl D _ rfl (SqL.of ups) ⟨(fun z=>hne (List.map_eq_nil_iff.mp z)),fun mx h1 h2=>(xav _ _ rfl rfl ?_)⟩)
   have:=q _ sAll
   rw [ez,<- xt2 (fun z=>hne (List.map_eq_nil_iff.mp z)) (fun n hn=>(hb n hn).1) h1 h2] at this
   exact this
  ·have ez:=hrec (fun z=>c (zDT (congrArg V.str z)))
   refine (xbe _ rfl D _ rfl (SqL.of ups) (jAA hb (by rw [zLM]; omega) (xav _ _ rfl rfl ?_)))
   have:=q _ sAll
   rw [ez] at this
   exact this
theorem xo4 (T:Tx K mg):∀ m,m<=6->DefIs P w K mg base (m + 2) "_law_size" qaa (xg1 m)
 | 0,h=>xmx (n:=1) T (fun _ _ _ _=>False) (xbj T) (DefIs.none T.dl_size fun _ _ _ _ h=>h) (fun j e=>by cases e) h
 | m + 1,h=>xmx (n:=m + 2) T (xg1 m) (xbj T) (xo4 T m (by omega)) (fun j e=>by cases e; rfl) h
end
def xim:Sp:=fun vs H Q _=>∃ (f l nb:Addr) (srt:Str) (p q:Int) (ws:List V) (ks:List Kn) (n4:List Str),vs=[.ref f,.ref l,.str srt,.ref nb]/\H f=some (.lst [.int p,.int q])/\H l=some (.lst ws)/\RelDs H ws (ks.map Kn.d)/\KWf ks ∧
 H nb=some (.lst (n4.map V.str))/\n4.length=4/\(srt=S "rec"\/srt=S "alt")/\l≠f/\nb≠f ∧
 ∀ v ps (H':Hp),Fed f H H'->RelD H' v (xdd ps)->ps.length<=4->ps.map (·.1)=n4.take ps.length->(srt=S "alt"->ps≠[])->(∀ p∈ps,KIn ks ks.length p.2)->(ps.map fun p=>sz ks p.2).sum<=29->Q v H'
theorem xvz {D:Ends} {σ:St} {H:Hp} {c:Bool} {B:Prop} {i:Nat} {v x:V} (σk:V->St) (h1:σ.set i (some v)=σk v) (h2:σ=σk x) (hB:D.nx σ H->B) (h:∀ y,(y=v\/(y=x/\c=false))->D.nx (σk y) H):if c=true then tAsg (tC v) (xkn i) D σ H else B:=by
 cases c with
 | false=>exact hB (by rw [h2]; exact h x (.inr ⟨rfl,rfl⟩))
 | true=>
  show D.nx (σ.set i (some v)) H
  rw [h1]
  exact h v (.inl rfl)
theorem and2 {tb:TE} {σ:St} {H:Hp} {Q:VK} {c cA:Bool} (hA:Q (.bl cA) H->tb σ H Q) (h:∀ b:Bool,(b=true->cA=true)->Q (.bl b) H):if c=true then tb σ H Q else Q (.bl false) H:=by
 cases c with
 | false=>exact h false (fun e=>by cases e)
 | true=>exact hA (h cA id)
theorem xm1:∀ {ns:List Int},(∀ n∈ns,0<=n)->maxD ns<=ns.sum/\0<=ns.sum
 | [],_=>⟨Int.le_refl _,Int.le_refl _⟩
 | n :: ns,h=>by
  have h1:=h n (by simp)
  have h2:=xm1 (ns:=ns) fun m hm=>h m (by simp [hm])
  rw [List.sum_cons]
  show max n (maxD ns)<=_/\_
  omega
theorem xr3 {ks:List Kn} (wf:KWf ks) {x:Str} {b:Bool} {ps:List (Str×Str)} (h:(ps.map fun p=>sz ks p.2).sum<=29):inSz (Kn.mk x b ps) (sz ks)<=29:=by
 have:=xm1 (ns:=ps.map fun p=>sz ks p.2) fun n hn=>by
  obtain ⟨p,_,rfl⟩:=zMP hn
  have:=xws wf p.2
  omega
 unfold inSz
 show (if b=true then (ps.map fun p=>sz ks p.2).sum else maxD (ps.map fun p=>sz ks p.2))<=29
 split <;> omega
section
variable {P:Program} {w:World} {K:PySem.W.Frag} {mg:Str->Option Value} {base:Heap} {n m:Nat}
theorem xpi (T:Tx K mg) (Dl_take:DefIs P w K mg base n "_law_take" qab xcy) (Dl_size:DefIs P w K mg base n "_law_size" qaa (xg1 6)):DefIs P w K mg base (n + 1) "_law_parts" qao xim:=by
  refine DefIs.of T.dl_parts scl_parts ?_ ?_ <;> walk_at "i"
  · obtain ⟨_,_,_,_,_,_,_,_,_,rfl,_⟩:=h
    rfl
  obtain ⟨f',l,nb,srt,p,q,ws,ks,n4,rfl,hf,hl,hws,wf,hnb,h4,hs,lf,nf,k⟩:=h
  have nd:=scl_parts.nd
  refine ⟨_,(zpn (xal (i:=4) nd rfl (by walk_at "o") (xb6 pN))
      (zpn (xal (i:=5) nd rfl (by walk_at "o") pI)
      (zpn (xcf PassesOwn.never rfl (xdo rfl T.z_range (pc (xaq xbt (xaq xbt (pd Dl_take hr (pc (pv 0) (pc pI pN zso) zsn)) (xat xfs rfl T.z_int PyProof.Rows.boot_int (pc (xg5 xa4 (pv 2) pS (nM _)) pN xil))) (xat xfs rfl T.z_int PyProof.Rows.boot_int (pc (xve (xg5 xa4 (pd Dl_take hr (pc (pv 0) (pc pI pN zso) zsn)) pI (nM _)) (xvd (xg5 xa4 (pv 2) pS (nM _)))) pN xot))) pN xa8)) (xab (i:=6) nd rfl (by walk_at "o"))
      (zpn (xal (i:=7) nd rfl (by walk_at "o") (xaj iL (xaq xh8 (xb6 (pc pS pN zso)) (xbu ["_law_row"] [none] rfl (by kernel_rfl) (xdk (pv 1)) (fun _ _ _ _=>(xab (i:=0) (by show List.Nodup (["_law_row"]:List Str); decide +kernel) rfl (Or.inl rfl))) (fun _ _ _ _=>xbz) (fun _ _ _ _=>(xaj (xcu (K:=K) rfl) (pv 0) pI (fun _ _=>rfl))))) (pd Dl_take hr (pc (pv 0) (pc (xaq xbt pI (xax xao rfl T.z_len PySem.boot_len (pc (pv 1) pN zsn))) pN xa8) zsn)) (fun _ _=>rfl)))
      (zpn (xa1 (pR xe6 (pd Dl_size hr (pc (pv 1) (pc (pv 7) pN zsn) zsn)) (pv 5) (nM _)) (po (xal (i:=7) nd rfl (by walk_at "o") pS)) pQ)
      (zpn (xal (i:=5) nd rfl (by walk_at "o") (xaq xcm (pv 5) (pd Dl_size hr (pc (pv 1) (pc (pv 7) pN zsn) zsn))))
      (po (xck (xfe PySem.F.plainAttrs_list PySem.F.slot_list_append PySem.F.type_list_append xcn (pv 4) (pc (xar (pc (xaj iL (pv 3) (pv 6) (fun _ _=>rfl)) (pc (pv 7) pN zsn) zss)) pN sT))))))))
      (po (xae (xat xa2 rfl T.z_tuple PyProof.Rows.boot_tuple (pc (xc4 xg4 (pv 4) xe5 (xda pI)) pN zss))))))),?_⟩
  refine ⟨(by walk_at "s"),fun pl hpl=>?_⟩
  have s0:=Same.new hpl (.lst [])
  have plf:pl≠f':=Ne.symm (neN hf hpl)
  have hfew:=wf.few
  have hwl:=hws.length
  rw [zLM] at hwl
  refine (xaa _ rfl f' p q 4 rfl (s0 _ _ hf) (by decide) (by decide) (fun r1 H1 r10 r11 f1=>?_))
  obtain ⟨p1,q1,h1⟩:=f1.2
  have F1:Fed f' H H1:=⟨s0.but.trans f1.1,f1.2⟩
  have hp1:H1 pl=some (.lst []):=f1.1 _ _ ups plf
  have hAB:∃ cA cB:Bool,decide (V.str srt=V.str (S "rec"))=cA/\decide (V.str srt=V.str (S "alt"))=cB/\0<=(if cA=true then (1:Int) else 0)/\0<=(if cB=true then (1:Int) else 0)/\(if cA=true then (1:Int) else 0) + (if cB=true then (1:Int) else 0)<=1/\(srt=S "alt"->(if cB=true then (1:Int) else 0)=1):=by
    rcases hs with rfl | rfl
    · exact (xa5 true false (by walk_at "k") (by walk_at "k") (by decide) (by decide) (by decide) (fun e=>absurd e (by walk_at "k")))
    · exact (xa5 false true (by walk_at "k") (by walk_at "k") (by decide) (by decide) (by decide) (fun _=>rfl))
  obtain ⟨cA,cB,eA,eB,hb0,hb1,hb2,hbA⟩:=hAB
  refine (jEAA _ rfl rfl (.inr (xbe cB (congrArg (fun b=>[V.bl b]) eB) r1 (if cB=true then 1 else 0) rfl rfl ?_)))
  refine (xaa _ rfl f' p1 q1 9 rfl h1 (by decide) (by decide) (fun r2 H2 r20 r21 f2=>(jAEA rfl _ rfl (and2 (cA:=decide (V.str srt=V.str (S "rec"))) (fun z=>(jEAA _ rfl rfl z)) (fun b hb=>?_)))))
  rw [eA] at hb
  have hbb:0<=(if b=true then (1:Int) else 0)/\(if b=true then (1:Int) else 0)<=(if cA=true then (1:Int) else 0):=by
    cases b with
    | false=>exact ⟨Int.le_refl _,hb0⟩
    | true=>rw [hb rfl]; exact ⟨by decide,by decide⟩
  refine .inr (xbk b rfl _ (if b=true then 1 else 0) rfl rfl _ rfl (jAA (by omega) (by omega) ?_))
  all_goals
      have F2:Fed f' H H2:=F1.trans f2
      have hp2:H2 pl=some (.lst []):=f2.1 _ _ hp1 plf
      refine xfp (fun i σ H'=>∃ us,∃ ps:List (Str×Str),∃ left o6 o7,σ=[some (.ref f'),some (.ref l),some (.str _),some (.ref nb),some (.ref pl),some (.int left),o6,o7]/\Fed f' H H'/\H' pl=some (.lst us)/\RelDs H' us (ps.map xek)/\ps.length=i/\ps.map (·.1)=n4.take i/\(∀ p∈ps,KIn ks ks.length p.2)/\(ps.map fun p=>sz ks p.2).sum + left=25/\-(i:Int)<=left)
        (xam ([]) ([]) 25 none none rfl F2 hp2 rfl rfl (jAAA rfl (fun _ h=>nomatch h) rfl (by decide))) ?_ ?_
      · rintro i σ H3 hi ⟨us,ps,left,o6,o7,rfl,F,hpu,hus,hpl',hpn,hin,hsum,hleft⟩
        have hi4:i < 4:=by omega
        obtain ⟨p3,q3,h3⟩:=F.2
        have hl3:=F.1 l _ hl lf
        have hn3:=F.1 nb _ hnb nf
        have hws3:=hws.tups (xah (jEE p q hf) F) _
        refine ⟨(by walk_at "s"),fun l1 hl1=>?_⟩
        have s1:=Same.new hl1 (.lst [.str (S "num")])
        refine (xa9 _ rfl l rfl ⟨_,SqL.of (s1 _ _ hl3)⟩ ?_)
        refine xhq (j:=0) (xs:=ws) (fun i ys H'=>H'=upd H3 l1 (.lst [.str (S "num")])/\ys=((ks.take i).map Kn.name).map V.str) (by rfl) ⟨rfl,rfl⟩ (xa7 (by omega)) (fun i ys H' _ p=>by obtain ⟨rfl,_⟩:=p; exact SqL.of (s1 _ _ hl3)) ?_ ?_
        · rintro i' x ys H' hx hly ⟨rfl,rfl⟩
          obtain ⟨d,hd,rd⟩:=(hws3.same s1 _).get hx
          rw [zGM] at hd
          obtain ⟨k',hk',rfl⟩:=zMS hd
          obtain ⟨b,vs',rfl,hb,_,_,rfl,rfl,_,_,rfl,rfl,v3,_,rfl,r3,rfl⟩:=rd
          have hi':i' < ws.length:=(zES hx).1
          refine (xaa _ rfl b _ _ _ rfl rfl (SqT.of hb) rfl (nxt hi' hly ⟨rfl,?_⟩))
          rw [zTA,hk']
          simp
        rintro ys H' hly ⟨rfl,rfl⟩ D2 hD2
        rw [zTL (by omega)]
        have s2:=Same.new hD2 (.lst ((ks.map Kn.name).map V.str))
        refine (xbb l1 D2 _ _ rfl rfl (s2 _ _ ups) ups (fits (by rw [zLM,zLM]; show 1 + _<=_; omega)) (fun l3 hl3'=>?_))
        have s3:=Same.new hl3' (.lst ([.str (S "num")]++(ks.map Kn.name).map V.str))
        have s13:=s1.trans (s2.trans s3)
        have l3f:l3≠f':=Ne.symm (neN (s2 _ _ (s1 _ _ h3)) hl3')
        refine (xbf _ rfl _ rfl l _ rfl (.inl (SqL.of (s13 _ _ hl3))) _ (jEAA _ rfl rfl ?_))
        refine (xay f' p3 q3 _ rfl (s13 _ _ h3) (by omega) (by omega) (fun r H4 r0 r1' f4=>?_))
        rw [hwl] at r1'
        obtain ⟨x,hx,hxin⟩:=xiv r0 r1'
        have hl34:H4 l3=some (.lst ([.str (S "num")]++(ks.map Kn.name).map V.str)):=f4.1 _ _ ups l3f
        refine (xay l3 _ _ _ rfl rfl (SqL.of hl34) hx ?_)
        have F4:Fed f' H H4:=(F.same s13).trans f4
        have hpu4:=f4.1 _ _ (s13 _ _ hpu) plf
        have hus4:=(hus.same s13 _).tups (xah (jEE p3 q3 (s13 _ _ h3)) f4) _
        have hl4:=F4.1 l _ hl lf
        have hn4:=F4.1 nb _ hnb nf
        have hws4:=hws.tups (xah (jEE p q hf) F4) _
        have seq4:KsSeq H4 (.ref l) ks:=(xav l ws rfl (.inl hl4) hws4)
        refine (xce _ rfl _ rfl _ ks x rfl seq4 wf ⟨hxin.mono hfew,fun H5 s5=>(xbk _ rfl _ _ rfl rfl _ rfl (xvz (x:=.str x) (fun y=>[some (.ref f'),some (.ref l),some (.str srt),some (.ref nb),some (.ref pl),some (.int left),some (.int (0 + (i:Int))),some y]) rfl rfl id (fun y hy=>?_)))⟩)
        obtain ⟨kd,rfl,hx',hkl⟩:∃ kd,y=.str kd/\KIn ks ks.length kd/\-((i:Int) + 1)<=left - sz ks kd:=by
          rcases hy with rfl | ⟨rfl,hcf⟩
          · exact ⟨S "num", rfl, .inl rfl, by have h1 : sz ks (S "num") = 1 := xuw wf
                                              omega⟩
          · refine (jEAA _ rfl hxin ?_)
            have h0:¬ left < sz ks x:=of_decide_eq_false hcf
            omega
        · refine (xc0 _ rfl _ rfl _ rfl _ ks (xc3 kd rfl (seq4.same s5) wf (hx'.mono hfew) (fun H6 s6=>(xav _ _ rfl rfl ?_))))
          have s56:=s5.trans s6
          have hpu6:=s56 _ _ hpu4
          have hi4':i < n4.length:=by omega
          refine (xan _ rfl (.inl (jAE rfl _ (SqL.of hpu6))) _ rfl (xaa _ rfl nb _ _ _ rfl rfl (SqL.of (s56 _ _ hn4)) (xmk hi4') (jEAA _ rfl (by walk_at "s") (fun t ht=>?_))))
          have s47:∀ o,Same H4 (upd H6 t o):=fun o=>s56.trans (Same.new ht o)
          have hul:=hus.length
          rw [zLM] at hul
          refine (xbd pl us _ rfl rfl (s47 _ _ _ hpu4) (xa7 (by omega)) ?_)
          refine (xam _ (ps++[(n4[i],kd)]) _ _ _ rfl (Fed.put (F4.same (s47 _)) hpl plf _) ups ?_ (by rw [zLA,List.length_singleton,hpl']) (jAAA ?_ (fun z hz=>?_) ?_ (by push_cast; exact hkl)))
          · rw [zAP]
            refine RelDs.append ((hus4.same (s47 _) _).tups (xbc (s47 _ _ _ hpu4) _) _) ?_
            exact (xav _ ([]) rfl (xad t _ rfl (xbc (s47 _ _ _ hpu4) _ _ _ ups) _ _ rfl rfl _ (jEAA _ rfl rfl rfl)) rfl)
          · rw [zAP,hpn,zTA,zGA hi4']
            rfl
          · rcases zMA hz with hz | hz
            · exact hin z hz
            · rw [zMO hz]; exact hx'
          · show ((ps++[(n4[i],kd)]).map fun p=>sz ks p.2).sum + (left - sz ks kd)=25
            rw [zAP,List.sum_append]
            simp only [List.map_cons,List.map_nil,List.sum_cons,List.sum_nil]
            omega
      · rintro σ H3 ⟨us,ps,left,o6,o7,rfl,F,hpu,hus,hpl',hpn,hin,hsum,hleft⟩
        have hul:=hus.length
        rw [zLM] at hul
        refine (xb0 _ rfl _ rfl pl us rfl (SqL.of hpu) (fun c2 hc2=>?_))
        have ecut:cutV us none (some 4)=us:=by
          unfold cutV
          rw [show HT.sIx us.length 0 none=0 from rfl,List.drop_zero,Nat.sub_zero]
          refine zTL ?_
          unfold HT.sIx
          simp
          omega
        have s1:=Same.new hc2 (.lst (cutV us none (some 4)))
        refine (jEEA c2 _ rfl (.inl ⟨SqL.of ups,fun t ht=>?_⟩))
        have s2:=Same.new ht (.tup (cutV us none (some 4)))
        refine k _ ps _ (F.same (s1.trans s2)) (xav t us rfl (by rw [ecut]; exact ups) (hus.same (s1.trans s2) _)) (by omega) (by rw [hpl']; exact hpn) ?_ hin (by omega)
        intro ha e
        have h9:=hbA ha
        rw [e] at hpl'
        simp only [List.length_nil] at hpl'
        omega
def xoz:Sp:=fun vs H Q _=>∃ (f nb:Addr) (p q:Int) (nms:List Str),vs=[.ref f,.ref nb]/\H f=some (.lst [.int p,.int q])/\H nb=some (.lst (nms.map V.str))/\xmc nms/\nb≠f/\∀ v ks (H':Hp),Fed f H H'->RelD H' v (xb8 ks)->xsf nms ks->Fit ks->Q v H'
theorem xpk (T:Tx K mg) (Dl_take:DefIs P w K mg base n "_law_take" qab xcy) (Dl_parts:DefIs P w K mg base n "_law_parts" qao xim):DefIs P w K mg base (n + 1) "_law_kinds" qa5 xoz:=by
 refine DefIs.of T.dl_kinds scl_kinds ?_ ?_ <;> walk_at "i"
 ·obtain ⟨_,_,_,_,_,rfl,_⟩:=h
  rfl
 obtain ⟨f',nb,p,q,nms,rfl,hf,hnb,hok,nf,k⟩:=h
 have nd:=scl_kinds.nd
 refine ⟨_,(zpn (xal (i:=2) nd rfl (by walk_at "o") (xb6 pN))
   (zpn (xcf PassesOwn.never rfl (xdo rfl T.z_range (pc (pd Dl_take hr (pc (pv 0) (pc pI pN zso) zsn)) pN zsc)) (xab (i:=3) nd rfl (by walk_at "o"))
   (zpn (xal (i:=4) nd rfl (by walk_at "o") (xaj iL (xb6 (pc pS (pc pS pN zso) zso)) (pd Dl_take hr (pc (pv 0) (pc pI pN zso) zsn)) (fun _ _=>rfl)))
   (po (xck (xfe PySem.F.plainAttrs_list PySem.F.slot_list_append PySem.F.type_list_append xcn (pv 2) (pc (xar (pc (xaj iL (pv 1) (pv 3) (fun _ _=>rfl)) (pc (pv 4) (pc (pd Dl_parts hr (pc (pv 0) (pc (pv 2) (pc (pv 4) (pc (xc4 xg4 (pv 1) (xda pI) (xda pI)) pN zss) zsn) zsn) zsn)) pN zsc) zsn) zss)) pN sT))))))
   (po (xae (xat xa2 rfl T.z_tuple PyProof.Rows.boot_tuple (pc (pv 2) pN zsn)))))),?_⟩
 refine ⟨(by walk_at "s"),fun l hl=>?_⟩
 have s0:=Same.new hl (.lst [])
 have lf:l≠f':=Ne.symm (neN hf hl)
 have hlen:=hok.1
 refine (xaa _ rfl f' p q 5 rfl (s0 _ _ hf) (by decide) (by decide) (fun r1 H1 r10 r11 f1=>(xc1 _ rfl (by omega) (by omega) ?_)))
 have F1:Fed f' H H1:=⟨s0.but.trans f1.1,f1.2⟩
 have hp1:H1 l=some (.lst []):=f1.1 _ _ ups lf
 refine xfp (fun i σ H'=>∃ us,∃ ks:List Kn,∃ o3 o4,σ=[some (.ref f'),some (.ref nb),some (.ref l),o3,o4]/\Fed f' H H'/\H' l=some (.lst us)/\RelDs H' us (ks.map Kn.d)/\ks.length=i/\Fit ks/\xsf nms ks)
  (xcb ([]) ([]) none none rfl F1 hp1 rfl rfl Fit.nil (jAAA KWf.nil (Nat.zero_le _) rfl (fun _ h=>nomatch h))) ?_ ?_
 ·rintro i σ H2 hi ⟨us,ks,o3,o4,rfl,F,hlu,hus,hki,hfit,wf,hk4,hkn,hkp⟩
  have hi4:i < 4:=by omega
  have hul:=hus.length
  rw [zLM] at hul
  obtain ⟨p2,q2,h2⟩:=F.2
  refine ⟨(by walk_at "s"),fun l1 hl1=>?_⟩
  have s1:=Same.new hl1 (.lst [.str (S "rec"),.str (S "alt")])
  have l1f:l1≠f':=Ne.symm (neN h2 hl1)
  refine (xaa _ rfl f' p2 q2 2 rfl (s1 _ _ h2) (by decide) (by decide) (fun r H3 r0 r1' f3=>?_))
  have key:∃ srt:Str,atI [V.str (S "rec"),V.str (S "alt")] r=some (.str srt)/\(srt=S "rec"\/srt=S "alt"):=by
   rcases (show r=0\/r=1 by omega) with rfl | rfl
   ·exact (jEA (S "rec") rfl (.inl rfl))
   ·exact (jEA (S "alt") rfl (.inr rfl))
  obtain ⟨srt,hat,hsrt⟩:=key
  refine (xay l1 _ _ _ rfl rfl (SqL.of (f3.1 _ _ ups l1f)) hat ?_)
  have F3:Fed f' H H3:=(F.same s1).trans f3
  obtain ⟨p3,q3,h3⟩:=f3.2
  have hlu3:=f3.1 _ _ (s1 _ _ hlu) lf
  have hus3:=(hus.same s1 _).tups (xah (jEE p2 q2 (s1 _ _ h2)) f3) _
  have hn3:=F3.1 nb _ hnb nf
  have hin:i < nms.length:=by omega
  refine (xan _ rfl (.inl (jAE rfl _ (SqL.of hlu3))) _ rfl (xaa _ rfl nb _ _ _ rfl rfl (SqL.of hn3) (xmk hin) (jEA _ rfl ?_)))
  refine (xap _ rfl _ rfl _ rfl _ rfl _ rfl (xbe _ rfl nb _ rfl (SqL.of hn3) (fun c hc=>?_)))
  rw [xs2 hlen]
  have sc:=Same.new hc (.lst (((nms.drop 8).take 4).map V.str))
  have cf:c≠f':=Ne.symm (neN h3 hc)
  refine (xas f' l c srt p3 (xcb q3 us ks ((nms.drop 8).take 4) rfl (sc _ _ h3) (sc _ _ hlu3) (hus3.same sc _) wf ups (xhy (by rw [List.length_take,List.length_drop,hlen]; rfl) hsrt lf cf (fun v ps H4 f4 rv h4 hpn halt hpin hsum=>?_))))
  have F4:Fed f' H H4:=(F3.same sc).trans f4
  have hlu4:=f4.1 _ _ (sc _ _ hlu3) lf
  have hus4:=(hus3.same sc _).tups (xah (jEE p3 q3 (sc _ _ h3)) f4) _
  refine ⟨(by walk_at "s"),fun t ht=>?_⟩
  have s5:∀ o,Same H4 (upd H4 t o):=fun o=>Same.new ht o
  refine (xbd l us _ rfl rfl (s5 _ _ _ hlu4) (xa7 (by omega)) ?_)
  have hP4:=xvg hok ps.length
  have hsort:(Kn.mk nms[i] (decide (srt=S "rec")) ps).sort=srt:=by
   unfold Kn.sort
   rcases hsrt with rfl | rfl
   ·rfl
   ·show (if decide (S "alt"=S "rec")=true then _ else _)=_
    rw [if_neg (by walk_at "k")]
  have hname:ks.map Kn.name=nms.take i:=by rw [hkn,hki]
  have w2:KWf (ks++[Kn.mk nms[i] (decide (srt=S "rec")) ps]):=by
   refine wf.snoc ?_ (hok.2.2 _ (List.getElem_mem hin)) hpin ?_ (by omega) (by show ps.length<=5; omega) (by show (ps.map (·.1)).Nodup; rw [hpn]; exact hP4.1) (fun z hz=>hP4.2 z.1 (by rw [<- hpn]; exact List.mem_map_of_mem hz))
   ·show nms[i] ∉ ks.map Kn.name
    rw [hname]
    exact xpq hok.2.1 hin
   ·intro hrc
    refine halt ?_
    rcases hsrt with e | e
    ·exact absurd hrc (by show ¬ decide (srt=S "rec")=false; rw [e]; decide +kernel)
    ·exact e
  refine (xcb _ (ks++[Kn.mk nms[i] (decide (srt=S "rec")) ps]) _ _ rfl (Fed.put (F4.same (s5 _)) hl lf _) ups ?_ (by rw [zLA,List.length_singleton,hki]) (hfit.snoc wf w2 hpin (xr3 wf hsum)) ?_)
  ·rw [zAP]
   refine RelDs.append ((hus4.same (s5 _) _).tups (xbc (s5 _ _ _ hlu4) _) _) ?_
   refine (xav _ ([]) rfl (xad t _ rfl (xbc (s5 _ _ _ hlu4) _ _ _ ups) _ _ rfl rfl _ (xb4 _ rfl ?_ _ _ rfl ((rv.same (s5 _) _).tups (xbc (s5 _ _ _ hlu4) _) _) rfl)) rfl)
   show V.str srt=V.str _
   rw [hsort]
  ·refine (jAAA w2 (by rw [zLA,List.length_singleton]; omega) ?_ ?_)
   ·rw [zAP,hname,zLA,List.length_singleton,hki,zTA,zGA hin]
    rfl
   ·intro z hz
    rcases zMA hz with hz | hz
    ·exact hkp z hz
    ·rw [zMO hz]
     exact ⟨h4,hpn⟩
 ·rintro σ H2 ⟨us,ks,o3,o4,rfl,F,hlu,hus,hki,hfit,hK⟩
  refine (xei _ rfl l us rfl (.inl ⟨SqL.of hlu,fun t ht=>?_⟩))
  have s1:=Same.new ht (.tup us)
  exact k _ ks _ (F.same s1) (xav t us rfl ups (hus.same s1 _)) hK hfit
end
def xoy:Sp:=fun vs H Q _=>∃ (a:Addr) (p q:Int),vs=[.ref a]/\H a=some (.lst [.int p,.int q])/\∀ (i:Int) (H':Hp),Nm i->Fed a H H'->Q (.int i) H'
section
variable {P:Program} {w:World} {K:PySem.W.Frag} {mg:Str->Option Value} {base:Heap} {n m:Nat}
theorem xfx (T:Tx K mg) (Dl_take:DefIs P w K mg base n "_law_take" qab xcy):DefIs P w K mg base (n + 1) "_law_number" qar xoy:=by
 refine DefIs.of T.dl_number scl_number ?_ ?_ <;> walk_at "i"
 ·obtain ⟨a,p,q,rfl,_⟩:=h
  rfl
 obtain ⟨a,p,q,rfl,ha,k⟩:=h
 have nd:=scl_number.nd
 have e2:(2:Int) ^ (32:Int).toNat=4294967296:=by decide
 refine ⟨_,(zpn (xal (i:=1) nd rfl (by walk_at "o") (pd Dl_take hr (pc (pv 0) (pc pI pN zso) zsn)))
   (zpn (xa1 (pR xnv (pv 1) pI (nM _)) (po (xae (pd Dl_take hr (pc (pv 0) (pc pI pN zso) zsn)))) pQ)
   (zpn (xa1 (pR xa4 (pv 1) pI (nM _)) (po (xae (xaq xcm (xaq xcm (xaq xsn pI pI) pI) (pd Dl_take hr (pc (pv 0) (pc pI pN zso) zsn))))) pQ)
   (po (xae (pd Dl_take hr (pc (pv 0) (pc (xaq xsn pI pI) pN xa8) zsn))))))),?_⟩
 refine (xaa _ rfl a p q 4 rfl ha (by decide) (by decide) (fun r1 H1 r10 r11 f1=>?_))
 obtain ⟨p1,q1,h1⟩:=f1.2
 refine (xbk _ rfl _ _ rfl rfl _ rfl ?_)
 refine ite2 (fun c=>?_) (fun c=>?_)
 ·exact (xaa _ rfl a p1 q1 6 rfl h1 (by decide) (by decide) (fun r2 H2 r20 r21 f2=>k _ _ ⟨r20,by omega⟩ (f1.trans f2)))
 refine (xan _ rfl rfl _ rfl ?_)
 refine ite2 (fun c=>?_) (fun c=>?_)
 ·refine (xcp _ _ rfl rfl (jAA (by decide) (by decide) (by decide)) (xav _ _ rfl rfl (xaa _ rfl a p1 q1 6 rfl h1 (by decide) (by decide) (fun r2 H2 r20 r21 f2=>(xav _ _ rfl rfl (k _ _ ⟨by omega,by omega⟩ (f1.trans f2)))))))
 ·refine (xbe _ rfl _ _ rfl rfl (jAE (jAA (by decide) (by decide) (by decide)) a (xbd p1 q1 _ rfl h1 (by omega) (by omega) (fun r2 H2 r20 r21 f2=>k _ _ ⟨r20,by omega⟩ (f1.trans f2)))))
def xgl:Sp:=fun vs H Q _=>∃ v ks x,vs=[v,.str x]/\KsAt H v ks/\Q (xwu (kAt ks x)) H
def xc7:Sp:=fun vs H Q _=>∃ v ks x,vs=[v,.str x]/\KsAt H v ks/\∀ u H',Same H H'->RelD H' u (xmu (kAt ks x))->Q u H'
theorem xdq (T:Tx K mg):DefIs P w K mg base (n + 1) "sort_of" qad xgl:=by
 refine DefIs.of T.d_sort_of sc_sort_of ?_ ?_ <;> walk_at "i"
 ·obtain ⟨_,_,_,rfl,_⟩:=h
  rfl
 obtain ⟨v,ks,x,rfl,hk,q⟩:=h
 have nd:=sc_sort_of.nd
 refine ⟨_,(zpn (xcf PassesOwn.never rfl (xbi (pv 0)) (xbr rfl (xac (xab (i:=2) nd rfl (by walk_at "o")) (xac (xab (i:=3) nd rfl (by walk_at "o")) (xac (xab (i:=4) nd rfl (by walk_at "o")) xa0))))
   (po (xa1 (pR xa4 (pv 2) (pv 1) (nM _)) (po (xae (pv 3))) pQ)))
   (po (xae xee))),?_⟩
 obtain ⟨a,us,rfl,ha,hR⟩:=hk.1
 refine (xa9 _ rfl a rfl ⟨_,SqT.of ha⟩ ?_)
 have hl:=hR.length
 rw [zLM] at hl
 refine xcq (xs:=us) (fun i σ H'=>∃ o2 o3 o4,σ=[some (.ref a),some (.str x),o2,o3,o4]/\H'=H/\(ks.take i).find? (fun k=>decide (k.name=x))=none) (xeg none none none rfl rfl rfl) (fun i σ H' _ p=>?_) ?_ ?_
 ·obtain ⟨_,_,_,_,rfl,_⟩:=p
  exact SqT.of ha
 ·rintro i v σ H' hv ⟨o2,o3,o4,rfl,rfl,hn⟩
  obtain ⟨d,hd,rd⟩:=hR.get hv
  rw [zGM] at hd
  obtain ⟨k,hk',rfl⟩:=zMS hd
  obtain ⟨b,ws,rfl,hb,_,_,rfl,rfl,_,_,rfl,rfl,v3,_,rfl,r3,rfl⟩:=rd
  refine (xak b _ rfl (SqT.of hb) rfl _ _ rfl _ (xbe _ rfl _ _ rfl rfl ?_))
  refine (xd0 _ rfl _ rfl rfl _ rfl (ite2 (fun c=>?_) (fun c=>?_)))
  ·have e:k.name=x:=V.str.inj (of_decide_eq_true c)
   have e2:kAt ks x=some k:=(xc2 hn hk').1 (zDT e)
   refine (jEA _ rfl ?_)
   rw [e2] at q
   exact q
  ·have e:¬ k.name=x:=fun z=>c (zDT (congrArg V.str z))
   exact (xeg _ _ _ rfl rfl ((xc2 hn hk').2 (zDF e)))
 ·rintro σ H' ⟨o2,o3,o4,rfl,rfl,hn⟩
  rw [zTL (by omega)] at hn
  rw [show kAt ks x=none from hn] at q
  exact q
theorem xbv (T:Tx K mg):DefIs P w K mg base (n + 1) "parts_of" qad xc7:=by
 refine DefIs.of T.d_parts_of sc_parts_of ?_ ?_ <;> walk_at "i"
 ·obtain ⟨_,_,_,rfl,_⟩:=h
  rfl
 obtain ⟨v,ks,x,rfl,hk,q⟩:=h
 have nd:=sc_parts_of.nd
 refine ⟨_,(zpn (xcf PassesOwn.never rfl (xbi (pv 0)) (xbr rfl (xac (xab (i:=2) nd rfl (by walk_at "o")) (xac (xab (i:=3) nd rfl (by walk_at "o")) (xac (xab (i:=4) nd rfl (by walk_at "o")) xa0))))
   (po (xa1 (pR xa4 (pv 2) (pv 1) (nM _)) (po (xae (pv 4))) pQ)))
   (po (xae (xar pN)))),?_⟩
 obtain ⟨a,us,rfl,ha,hR⟩:=hk.1
 refine (xa9 _ rfl a rfl ⟨_,SqT.of ha⟩ ?_)
 have hl:=hR.length
 rw [zLM] at hl
 refine xcq (xs:=us) (fun i σ H'=>∃ o2 o3 o4,σ=[some (.ref a),some (.str x),o2,o3,o4]/\H'=H/\(ks.take i).find? (fun k=>decide (k.name=x))=none) (xeg none none none rfl rfl rfl) (fun i σ H' _ p=>?_) ?_ ?_
 ·obtain ⟨_,_,_,_,rfl,_⟩:=p
  exact SqT.of ha
 ·rintro i v σ H' hv ⟨o2,o3,o4,rfl,rfl,hn⟩
  obtain ⟨d,hd,rd⟩:=hR.get hv
  rw [zGM] at hd
  obtain ⟨k,hk',rfl⟩:=zMS hd
  obtain ⟨b,ws,rfl,hb,_,_,rfl,rfl,_,_,rfl,rfl,v3,_,rfl,r3,rfl⟩:=rd
  refine (xak b _ rfl (SqT.of hb) rfl _ _ rfl _ (xbe _ rfl _ _ rfl rfl ?_))
  refine (xd0 _ rfl _ rfl rfl _ rfl (ite2 (fun c=>?_) (fun c=>?_)))
  ·have e:k.name=x:=V.str.inj (of_decide_eq_true c)
   have e2:kAt ks x=some k:=(xc2 hn hk').1 (zDT e)
   refine (jEA _ rfl ?_)
   rw [e2] at q
   exact q _ _ (Same.refl _) r3
  ·have e:¬ k.name=x:=fun z=>c (zDT (congrArg V.str z))
   exact (xeg _ _ _ rfl rfl ((xc2 hn hk').2 (zDF e)))
 ·rintro σ H' ⟨o2,o3,o4,rfl,rfl,hn⟩
  rw [zTL (by omega)] at hn
  rw [show kAt ks x=none from hn] at q
  exact ⟨(by walk_at "s"),fun p hp=>q _ _ (Same.new hp _) (xav p ([]) rfl ups rfl)⟩
end
theorem xag {t u:TS} {D:Ends} {σ:St} {H:Hp} (h:∀ R:St->Hp->Prop,(∀ σ H,u D σ H->R σ H)->t { D with nx:=R } σ H):tSeq t u D σ H:=h (u D) fun _ _ h=>h
theorem xcj {k:Kn} (h:k.rc=true):k.sort=S "rec":=by unfold Kn.sort; rw [if_pos h]
theorem xcr {k:Kn} (h:k.rc=false):k.sort=S "alt":=by unfold Kn.sort; rw [if_neg (by rw [h]; decide)]
theorem xr2 {c:Bool} {A B:Prop} (h:c=true) (a:A):if c=true then A else B:=by rw [if_pos h]; exact a
def spSm (F:List Kn->Str->Int) (m:Nat):Sp:=fun vs H Q _=>∃ v ks x,vs=[v,.str x]/\RelD H v (xb8 ks)/\KWf ks/\KIn ks m x/\∀ H',Same H H'->Q (.int (F ks x)) H'
section
variable {P:Program} {w:World} {K:PySem.W.Frag} {mg:Str->Option Value} {base:Heap} {n m:Nat}
theorem xjy (T:Tx K mg) (spc:Sp) (Dl_sort_of:DefIs P w K mg base n "_law_sort_of" qaa xdw) (Dl_small:DefIs P w K mg base n "_law_small" qaa spc) (hspc:∀ j,m=j + 1->spc=spSm smK j) :
  DefIs P w K mg base (n + 1) "_law_small" qaa (spSm smK m):=by
 refine DefIs.of T.dl_small scl_small ?_ ?_ <;> walk_at "i"
 ·obtain ⟨_,_,_,rfl,_⟩:=h
  rfl
 obtain ⟨v,ks,x,rfl,hk,wf,hin,q⟩:=h
 have nd:=scl_small.nd
 refine ⟨_,(zpn (xcz (pd Dl_sort_of hr (pc (pv 0) (pc (pv 1) pN zsn) zsn)) (xbr rfl (xac (xab (i:=2) nd rfl (by walk_at "o")) (xac (xab (i:=3) nd rfl (by walk_at "o")) xa0))))
   (zpn (xa1 (pR xa4 (pv 2) pS (nM _)) (po (xae (xaq xbt pI (pd Dl_small hr (pc (pv 0) (pc (xaj xai (xaj xai (pv 3) pI (fun _ _=>rfl)) pI (fun _ _=>rfl)) pN zss) zsn))))) pQ)
   (po (xae (xaq xbt pI (xax (xkr rfl) rfl T.z_sum PyProof.Rows.boot_sum (pc (xbu qai [none,none,some 0] rfl (by kernel_rfl) (xbi (pv 3)) (fun _ _ _ _=>(xcs (K:=K) (n:=2) rfl rfl (xac (xab (i:=0) (by show List.Nodup (qai:List Str); decide +kernel) rfl (Or.inl rfl)) (xac (xab (i:=1) (by show List.Nodup (qai:List Str); decide +kernel) rfl (Or.inl rfl)) xa0)))) (fun _ _ _ _=>xbz) (fun _ _ _ _=>(pd Dl_small hr (pc (pv 2) (pc (pv 1) pN zsn) zsn)))) pN xby))))))),?_⟩
 refine (xbh _ rfl _ rfl v ks x rfl ((wf.ksAt hk).seq) (fun t pv' H1 s1 ht rp=>?_))
 refine (xak t _ rfl (SqT.of ht) rfl _ _ rfl _ (jEAA _ rfl rfl ?_))
 rcases hin.look wf with ⟨rfl,hkx⟩ | ⟨j,k,rfl,hkx,hn,hm,hp⟩
 ·refine (xan _ rfl rfl _ rfl (iteKF (zDF (by rw [hkx]; decide +kernel)) ?_))
  rw [hkx] at rp
  obtain ⟨a,us,rfl,ha,hus⟩:=rp
  obtain rfl:us=[]:=hus
  refine (xa9 _ rfl a rfl ⟨_,SqT.of ha⟩ ?_)
  refine xbn (xs:=[]) (fun i ys H'=>H'=H1/\ys=[]) ⟨rfl,rfl⟩ (xa7 (by decide)) (fun i ys H' _ p=>by obtain ⟨rfl,_⟩:=p; exact SqT.of ha) (fun i y ys H' hy=>by simp at hy) ?_
  rintro ys H' hly ⟨rfl,rfl⟩ D hD
  refine (xeh D ([]) rfl (SqL.of ups) (fun _ h=>nomatch h) (by decide) (xav _ _ rfl rfl ?_))
  have e:=(xg3 wf).1
  rw [e] at q
  exact q _ (s1.trans (Same.new hD _))
 ·have D':=hspc j rfl
  subst D'
  rw [hkx] at rp
  obtain ⟨a,us,rfl,ha,hus⟩:=rp
  have hl:=hus.length
  rw [zLM] at hl
  have h5:=wf.pts k hm
  have hss:xed (kAt ks x)=k.sort:=by rw [hkx]; rfl
  have e:=(xtj wf hkx).1
  unfold smS at e
  cases hc:k.rc with
  | false=>
   rw [if_neg (by rw [hc]; decide)] at e
   refine (xan _ rfl rfl _ rfl (iteKT (zDT (by rw [hss,xcr hc]; rfl)) ?_))
   cases hpp:k.parts with
   | nil=>exact absurd hpp (wf.alt k hm hc)
   | cons p r=>
    rw [hpp] at hus e
    obtain ⟨vp,rest,rfl,rp,_⟩:=hus
    obtain ⟨b,ws,rfl,hb,_,_,rfl,rfl,_,_,rfl,rfl,rfl⟩:=rp
    refine (xa6 _ rfl _ rfl a _ _ (xdc _ rfl rfl (SqT.of ha) (xaz (j:=0) rfl) b _ _ _ rfl (jAAA rfl (SqT.of hb) rfl ?_)))
    refine (xbd v ks p.2 rfl (hk.same s1 _) wf (hp p (by rw [hpp]; simp)) (fun H2 s2=>(xav _ _ rfl rfl ?_)))
    rw [e] at q
    exact q _ (s1.trans s2)
  | true=>
   rw [if_pos hc] at e
   refine (xan _ rfl rfl _ rfl (iteKF (zDF (by rw [hss,xcj hc]; decide +kernel)) ?_))
   refine (xa9 _ rfl a rfl ⟨_,SqT.of ha⟩ ?_)
   refine xbn (xs:=us) (fun i ys H'=>Same H1 H'/\ys=((k.parts.take i).map fun p=>smK ks p.2).map V.int) ⟨Same.refl _,rfl⟩ (xa7 (by omega)) (fun i ys H' _ p=>SqT.of (p.1 _ _ ha)) ?_ ?_
   ·rintro i y ys H' hy hi' hly ⟨sm',rfl⟩
    obtain ⟨d,hd,rd⟩:=hus.get hy
    rw [zGM] at hd
    obtain ⟨pr,hpr,rfl⟩:=zMS hd
    obtain ⟨b,ws,rfl,hb,_,_,rfl,rfl,_,_,rfl,rfl,rfl⟩:=rd
    refine (xak b _ rfl (SqT.of (sm' _ _ hb)) rfl _ _ rfl _ (xc1 _ rfl rfl (ext2 rfl rfl) (xf7 ?_)))
    refine (xce _ rfl _ rfl v ks pr.2 rfl (hk.same (s1.trans sm') _) wf ⟨hp pr (zMG hpr),fun H2 s2=>nxtG hi' hly ⟨sm'.trans s2,?_⟩⟩)
    rw [zTA,hpr,zAP,zAP]
    rfl
   ·rintro ys H' hly ⟨sm',rfl⟩ D hD
    rw [zTL (by omega)]
    refine (xeh D (k.parts.map fun p=>smK ks p.2) rfl (SqL.of ups) (fun z hz=>?_) (by rw [zLM]; omega) (xav _ _ rfl rfl ?_))
    ·obtain ⟨p,_,rfl⟩:=zMP hz
     have:=xfd wf p.2
     omega
    ·rw [e] at q
     exact q _ (s1.trans (sm'.trans (Same.new hD _)))
theorem xin (T:Tx K mg):∀ m,DefIs P w K mg base (m + 2) "_law_small" qaa (spSm smK m)
 | 0=>xjy (n:=1) T (fun _ _ _ _=>False) (xbj T) (DefIs.none T.dl_small fun _ _ _ _ h=>h) (fun j e=>by cases e)
 | m + 1=>xjy (n:=m + 2) T (spSm smK m) (xbj T) (xin T m) (fun j e=>by cases e; rfl)
def xq9:Sp:=fun vs H Q _=>∃ (f ka:Addr) (p q:Int) (us:List V) (ks:List Kn),vs=[.ref f,.ref ka]/\H f=some (.lst [.int p,.int q])/\(H ka=some (.lst us)\/H ka=some (.tup us))/\RelDs H us (ks.map Kn.d)/\ks.length<=6/\∀ x H',KIn ks ks.length x->Fed f H H'->Q (.str x) H'
theorem xj0 (T:Tx K mg) (Dl_take:DefIs P w K mg base n "_law_take" qab xcy):DefIs P w K mg base (n + 1) "_law_any_kind" qak xq9:=by
 refine DefIs.of T.dl_any_kind scl_any_kind ?_ ?_ <;> walk_at "i"
 ·obtain ⟨_,_,_,_,_,_,rfl,_⟩:=h
  rfl
 obtain ⟨f',ka,p1,q1,us,ks,rfl,h1,hka,hus,hfew,q⟩:=h
 have nd:=scl_any_kind.nd
 refine (jEA _ (po (xae (xaj iL (xaq xh8 (xb6 (pc pS pN zso)) (xbu ["_law_row"] [none] rfl (by kernel_rfl) (xvb (xdk (pv 1)) (xbi (pv 1))) (fun _ _ _ _=>(xab (i:=0) (by show List.Nodup (["_law_row"]:List Str); decide +kernel) rfl (Or.inl rfl))) (fun _ _ _ _=>xbz) (fun _ _ _ _=>(xaj (xcu (K:=K) rfl) (pv 0) pI (fun _ _=>rfl))))) (pd Dl_take hr (pc (pv 0) (pc (xaq xbt pI (xax xao rfl T.z_len PySem.boot_len (pc (pv 1) pN zsn))) pN xa8) zsn)) (fun _ _=>rfl)))) ?_)
 refine ⟨(by walk_at "s"),fun l2 hl2=>?_⟩
 have s2:=Same.new hl2 (.lst [.str (S "num")])
 have hul:=hus.length
 rw [zLM] at hul
 rcases hka with hka | hka
 ·refine .inl (xa9 _ rfl ka rfl ⟨_,SqL.of (s2 _ _ hka)⟩ ?_)
  refine xhq (j:=0) (xs:=us) (fun i ys H'=>H'=upd H l2 (.lst [.str (S "num")])/\ys=((ks.take i).map Kn.name).map V.str) (by rfl) ⟨rfl,rfl⟩ (xa7 (by omega)) (fun i ys H' _ p=>by obtain ⟨rfl,_⟩:=p; exact SqL.of (s2 _ _ hka)) ?_ ?_
  ·rintro i' x ys H' hx hly ⟨rfl,rfl⟩
   obtain ⟨d,hd,rd⟩:=(hus.same s2 _).get hx
   rw [zGM] at hd
   obtain ⟨k',hk',rfl⟩:=zMS hd
   obtain ⟨b,vs',rfl,hb,_,_,rfl,rfl,_,_,rfl,rfl,v3,_,rfl,r3,rfl⟩:=rd
   have hi':i' < us.length:=(zES hx).1
   refine (xaa _ rfl b _ _ _ rfl rfl (SqT.of hb) rfl (nxt hi' hly ⟨rfl,?_⟩))
   rw [zTA,hk']
   simp
  rintro ys H' hly ⟨rfl,rfl⟩ D2 hD2
  rw [zTL (by omega)]
  have s3:=Same.new hD2 (.lst ((ks.map Kn.name).map V.str))
  refine (xbb l2 D2 _ _ rfl rfl (s3 _ _ ups) ups (fits (by rw [zLM,zLM]; show 1 + _<=_; omega)) (fun l3 hl3=>?_))
  have s4:=Same.new hl3 (.lst ([.str (S "num")]++(ks.map Kn.name).map V.str))
  have s24:=s2.trans (s3.trans s4)
  have l3f:l3≠f':=Ne.symm (neN ((s2.trans s3) _ _ h1) hl3)
  refine (xbf _ rfl _ rfl ka _ rfl (.inl (SqL.of (s24 _ _ hka))) _ (jEAA _ rfl rfl (xay f' p1 q1 _ rfl (s24 _ _ h1) (by omega) (by omega) (fun r5 H5 r50 r51 f5=>?_))))
  obtain ⟨x,hx,hxin⟩:=xiv (ks:=ks) r50 (by rw [<- hul]; exact r51)
  exact (xay l3 _ _ _ rfl rfl (SqL.of (f5.1 _ _ ups l3f)) hx (q x _ hxin (((Fed.refl h1).same s24).trans f5)))
 ·refine .inr (xa9 _ rfl ka rfl ⟨_,SqT.of (s2 _ _ hka)⟩ ?_)
  refine xgs (j:=0) (xs:=us) (fun i ys H'=>H'=upd H l2 (.lst [.str (S "num")])/\ys=((ks.take i).map Kn.name).map V.str) (by rfl) ⟨rfl,rfl⟩ (xa7 (by omega)) (fun i ys H' _ p=>by obtain ⟨rfl,_⟩:=p; exact SqT.of (s2 _ _ hka)) ?_ ?_
  ·rintro i' x ys H' hx hly ⟨rfl,rfl⟩
   obtain ⟨d,hd,rd⟩:=(hus.same s2 _).get hx
   rw [zGM] at hd
   obtain ⟨k',hk',rfl⟩:=zMS hd
   obtain ⟨b,vs',rfl,hb,_,_,rfl,rfl,_,_,rfl,rfl,v3,_,rfl,r3,rfl⟩:=rd
   have hi':i' < us.length:=(zES hx).1
   refine (xaa _ rfl b _ _ _ rfl rfl (SqT.of hb) rfl (nxt hi' hly ⟨rfl,?_⟩))
   rw [zTA,hk']
   simp
  rintro ys H' hly ⟨rfl,rfl⟩ D2 hD2
  rw [zTL (by omega)]
  have s3:=Same.new hD2 (.lst ((ks.map Kn.name).map V.str))
  refine (xbb l2 D2 _ _ rfl rfl (s3 _ _ ups) ups (fits (by rw [zLM,zLM]; show 1 + _<=_; omega)) (fun l3 hl3=>?_))
  have s4:=Same.new hl3 (.lst ([.str (S "num")]++(ks.map Kn.name).map V.str))
  have s24:=s2.trans (s3.trans s4)
  have l3f:l3≠f':=Ne.symm (neN ((s2.trans s3) _ _ h1) hl3)
  refine (xbf _ rfl _ rfl ka _ rfl (.inr (SqT.of (s24 _ _ hka))) _ (jEAA _ rfl rfl (xay f' p1 q1 _ rfl (s24 _ _ h1) (by omega) (by omega) (fun r5 H5 r50 r51 f5=>?_))))
  obtain ⟨x,hx,hxin⟩:=xiv (ks:=ks) r50 (by rw [<- hul]; exact r51)
  exact (xay l3 _ _ _ rfl rfl (SqL.of (f5.1 _ _ ups l3f)) hx (q x _ hxin (((Fed.refl h1).same s24).trans f5)))
end
open PyProof.Rows
def xuy:Sp:=fun vs H Q _=>∃ tv h r,vs=[tv]/\RelD H tv (.tup (.str h :: r))/\ShC h r/\∀ a us H',Same H H'->H' a=some (.tup us)->RelDs H' us (innL h r)->Q (.ref a) H'
def spNd (m:Nat):Sp:=fun vs H Q _=>∃ tv d c,vs=[tv]/\RelD H tv d/\Tc m d c/\c<=3000/\∀ l H',Same H H'->H l=none->H' l=some (.lst ((nd m d).map V.str))->Q (.ref l) H'
def spBx (m:Nat):Sp:=fun vs H Q _=>∃ tv d c,∃ B:List Str,vs=[tv]/\RelD H tv d/\Tc m d c/\c<=3000/\B.length < 64/\(∀ x∈nd m d,x∈B)/\∀ l,∀ ms:List Str,∀ H',Same H H'->H' l=some (.lst (ms.map V.str))->(∀ x,x∈ms ↔ x∈nd m d)->ms.Nodup->sortedS ms=true->Q (.ref l) H'
theorem xhm {α:Type} (f:α->Bool) {l:List α} {i:Nat} {a:α} (h:l[i]?=some a):(l.take (i + 1)).filter f=(l.take i).filter f++(if f a=true then [a] else []):=by
 rw [zTA,h]
 show (l.take i++[a]).filter f=_
 rw [List.filter_append,List.filter_cons]
 cases f a <;> rfl
section
variable {P:Program} {w:World} {K:PySem.W.Frag} {mg:Str->Option Value} {base:Heap} {n m:Nat}
theorem xt6 (r:List D):innL (S "box") r=[]:=by
 unfold innL
 rw [if_neg (by walk_at "k"),if_neg (by walk_at "k"),if_neg (by walk_at "k"),if_neg (by walk_at "k"),if_neg (by walk_at "k")]
theorem xez (T:Tx K mg):DefIs P w K mg base (n + 1) "inner_terms" qac xuy:=by
 refine DefIs.of T.d_inner_terms sc_inner_terms ?_ ?_ <;> walk_at "i"
 ·obtain ⟨_,_,_,rfl,_⟩:=h
  rfl
 obtain ⟨tv,h0,r,rfl,hv,hN,q⟩:=h
 have nd:=sc_inner_terms.nd
 refine ⟨_,(zpn (xal (i:=1) nd rfl (by walk_at "o") (xaj xai (pv 0) pI (fun _ _=>rfl)))
   (zpn (xa1 (pR xa4 (pv 1) pS (nM _)) (po (xae (xc4 xsj (pv 0) (xda pI) xe5))) pQ)
   (zpn (xa1 (pR xa4 (pv 1) pS (nM _)) (po (xae (xaj xai (pv 0) pI (fun _ _=>rfl)))) pQ)
   (zpn (xa1 (pR xff (pv 1) (xar (pc pS (pc pS pN zso) zso)) (by with_unfolding_all rfl)) (po (xae (xar (pc (xaj xai (pv 0) pI (fun _ _=>rfl)) pN zss)))) pQ)
   (zpn (xa1 (pR xa4 (pv 1) pS (nM _)) (po (xae (xar (pc (xaj xai (pv 0) pI (fun _ _=>rfl)) pN zss)))) pQ)
   (zpn (xa1 (pR xa4 (pv 1) pS (nM _)) (po (xae (xc4 xsj (pv 0) (xda pI) xe5))) pQ)
   (po (xae (xar pN))))))))),?_⟩
 have z2:2<=sizeLine:=by decide
 have none':∀ H',Same H H'->∀ t,H' t=none->innL h0 r=[]->Q (.ref t) (upd H' t (.tup [])):=fun H' s' t ht e=>q t [] _ (s'.trans (Same.new ht _)) ups (by rw [e]; rfl)
 have one:∀ H' va a,Same H H'->RelD H' va a->∀ t,H' t=none->innL h0 r=[a]->Q (.ref t) (upd H' t (.tup [va])):=fun H' va a s' ra t ht e=>q t [va] _ (s'.trans (Same.new ht _)) ups (by rw [e]; exact (xav va ([]) rfl (ra.same (Same.new ht _) _) rfl))
 rcases hN with ⟨rfl,i,rfl⟩ | ⟨rfl,x,rfl⟩ | ⟨rfl,s,a,b,rfl⟩ | ⟨rfl,k,es,rfl⟩ | ⟨rfl,a,f,rfl⟩ | ⟨rfl,k,t,a,rfl⟩ | ⟨rfl,a,rs,rfl⟩ | ⟨rfl,a,b,c,rfl⟩
 ·obtain ⟨l,us,rfl,ha,_,_,rfl,rfl,_,_,rfl,rfl,rfl⟩:=hv
  have hS:SqT K H l [.str (S "num"),.int i]:=SqT.of ha
  walk_at "rd"
  refine ⟨z2,fun c hc=>(xco c _ rfl (.inr (SqT.of ups)) rfl rfl _ rfl (xn2 (by walk_at "k") ?_))⟩
  walk_at "rd"
  exact ⟨Nat.zero_le _,fun t ht=>none' _ (Same.new hc _) t ht (xhj _)⟩
 ·obtain ⟨l,us,rfl,ha,_,_,rfl,rfl,_,_,rfl,rfl,rfl⟩:=hv
  have hS:SqT K H l [.str (S "box"),.str x]:=SqT.of ha
  walk_at "rd"
  refine ⟨z2,fun c hc=>(xco c _ rfl (.inr (SqT.of ups)) rfl rfl _ rfl (xn2 (by walk_at "k") ?_))⟩
  walk_at "rd"
  exact ⟨Nat.zero_le _,fun t ht=>none' _ (Same.new hc _) t ht (xt6 _)⟩
 ·obtain ⟨l,us,rfl,ha,_,_,rfl,rfl,_,_,rfl,rfl,va,_,rfl,ra,vb,_,rfl,rb,rfl⟩:=hv
  have hS:SqT K H l [.str (S "op"),.str s,va,vb]:=SqT.of ha
  walk_at "rd"
  refine (xcp _ _ rfl hS (fun h=>absurd h.1 (by show ¬ HT.sIx 4 0 (some 2)=0; decide)) (fun p hp=>?_))
  have sp:=Same.new hp (.tup [va,vb])
  exact q p [va,vb] _ sp ups (by rw [xm6]; exact (xav va _ rfl (ra.same sp _) (xav vb _ rfl (rb.same sp _) rfl)))
 ·obtain ⟨l,us,rfl,ha,_,_,rfl,rfl,_,_,rfl,rfl,va,_,rfl,ra,rfl⟩:=hv
  obtain ⟨c,vs',rfl,hc,hvs⟩:=ra
  have hS:SqT K H l [.str (S "rec"),.str k,.ref c]:=SqT.of ha
  walk_at "rd"
  exact q c vs' _ (Same.refl _) hc (by rw [xhi]; exact hvs)
 ·obtain ⟨l,us,rfl,ha,_,_,rfl,rfl,va,_,rfl,ra,_,_,rfl,rfl,rfl⟩:=hv
  have hS:SqT K H l [.str (S "get"),va,.str f]:=SqT.of ha
  walk_at "rd"
  refine ⟨z2,fun c hc=>(xco c _ rfl (.inr (SqT.of ups)) rfl rfl _ rfl (xr2 (by walk_at "k") ?_))⟩
  have sc:=Same.new hc (.tup [.str (S "get"),.str (S "case")])
  exact (xaa _ rfl l _ _ _ rfl rfl (SqT.of (sc _ _ ha)) rfl ⟨(by walk_at "s"),fun t' ht'=>one _ va a sc (ra.same sc _) t' ht' (xiz _ _)⟩)
 ·obtain ⟨l,us,rfl,ha,_,_,rfl,rfl,_,_,rfl,rfl,_,_,rfl,rfl,va,_,rfl,ra,rfl⟩:=hv
  have hS:SqT K H l [.str (S "tag"),.str k,.str t,va]:=SqT.of ha
  walk_at "rd"
  refine ⟨z2,fun c hc=>(xco c _ rfl (.inr (SqT.of ups)) rfl rfl _ rfl (xn2 (by walk_at "k") ?_))⟩
  have sc:=Same.new hc (.tup [.str (S "get"),.str (S "case")])
  refine (xan _ rfl rfl _ rfl (iteKT (by walk_at "k") ?_))
  exact (xaa _ rfl l _ _ _ rfl rfl (SqT.of (sc _ _ ha)) rfl ⟨(by walk_at "s"),fun t' ht'=>one _ va a sc (ra.same sc _) t' ht' (xiy _ _ _)⟩)
 ·obtain ⟨l,us,rfl,ha,_,_,rfl,rfl,va,_,rfl,ra,vr,_,rfl,_,rfl⟩:=hv
  have hS:SqT K H l [.str (S "case"),va,vr]:=SqT.of ha
  walk_at "rd"
  refine ⟨z2,fun c hc=>(xco c _ rfl (.inr (SqT.of ups)) rfl rfl _ rfl (xr2 (by walk_at "k") ?_))⟩
  have sc:=Same.new hc (.tup [.str (S "get"),.str (S "case")])
  exact (xaa _ rfl l _ _ _ rfl rfl (SqT.of (sc _ _ ha)) rfl ⟨(by walk_at "s"),fun t' ht'=>one _ va a sc (ra.same sc _) t' ht' (xgp _ _)⟩)
 ·obtain ⟨l,us,rfl,ha,_,_,rfl,rfl,va,_,rfl,ra,vb,_,rfl,rb,vc,_,rfl,rc,rfl⟩:=hv
  have hS:SqT K H l [.str (S "if"),va,vb,vc]:=SqT.of ha
  walk_at "rd"
  refine ⟨z2,fun c' hc=>(xco c' _ rfl (.inr (SqT.of ups)) rfl rfl _ rfl (xn2 (by walk_at "k") ?_))⟩
  have sc:=Same.new hc (.tup [.str (S "get"),.str (S "case")])
  refine (xan _ rfl rfl _ rfl (iteKF (by walk_at "k") ?_))
  refine (xan _ rfl rfl _ rfl (iteKT (by walk_at "k") ?_))
  refine (xb0 _ rfl _ rfl _ _ rfl (SqT.of (sc _ _ ha)) ⟨fun h=>absurd h.1 (by show ¬ HT.sIx 4 0 (some 1)=0; decide),fun p hp=>?_⟩)
  have sp:=sc.trans (Same.new hp (.tup [va,vb,vc]))
  exact q p [va,vb,vc] _ sp ups (by rw [xm7]; exact (xad va _ rfl (ra.same sp _) vb _ rfl (rb.same sp _) vc (jEAA _ rfl (rc.same sp _) rfl)))
theorem xj2 (T:Tx K mg) (spc:Sp) (D_inner_terms:DefIs P w K mg base n "inner_terms" qac xuy) (D_needed:DefIs P w K mg base n "needed" qac spc) (hspc:∀ j,m=j + 1->spc=spNd j):DefIs P w K mg base (n + 1) "needed" qac (spNd m):=by
 refine DefIs.of T.d_needed sc_needed ?_ ?_ <;> walk_at "i"
 ·obtain ⟨_,_,_,rfl,_⟩:=h
  rfl
 obtain ⟨tv,d,c,rfl,hv,hN,hc,q⟩:=h
 have nd:=sc_needed.nd
 refine ⟨_,(zpn (xa1 (pR xa4 (xaj xai (pv 0) pI (fun _ _=>rfl)) pS (nM _)) (po (xae (xb6 (pc (xaj xai (pv 0) pI (fun _ _=>rfl)) pN zss)))) pQ)
   (zpn (xal (i:=1) nd rfl (by walk_at "o") (xb6 pN))
   (zpn (xcf PassesOwn.never rfl (xbi (pd D_inner_terms hr (pc (pv 0) pN zsn))) (xab (i:=2) nd rfl (by walk_at "o"))
   (po (xck (xfe PySem.F.plainAttrs_list PySem.F.slot_list_extend PySem.F.type_list_extend xj9 (pv 1) (pc (pd D_needed hr (pc (pv 2) pN zsn)) pN zsc)))))
   (zpn (xa1 (pR xa4 (xaj xai (pv 0) pI (fun _ _=>rfl)) pS (nM _)) (po (xcf PassesOwn.never rfl (xbi (xaj xai (pv 0) pI (fun _ _=>rfl))) (xbr rfl (xac (xab (i:=3) nd rfl (by walk_at "o")) (xac (xab (i:=4) nd rfl (by walk_at "o")) (xac (xab (i:=2) nd rfl (by walk_at "o")) xa0))))
   (po (xck (xfe PySem.F.plainAttrs_list PySem.F.slot_list_extend PySem.F.type_list_extend xj9 (pv 1) (pc (xbu ["each","x"] [none,some 4] rfl (by kernel_rfl) (xdk (pd D_needed hr (pc (pv 2) pN zsn))) (fun _ _ _ _=>(xab (i:=0) (by show List.Nodup (["each","x"]:List Str); decide +kernel) rfl (Or.inl rfl))) (fun _ _ _ _=>(xc9 (pR xjw (pv 0) (pv 1) (nM _)))) (fun _ _ _ _=>(pv 0))) pN xby)))))) pQ)
   (po (xae (pv 1))))))),xag fun R1 hR1=>?_⟩
 have hlen:=xdn _ _ _ hN
 obtain ⟨h0,r,rfl,hsh,look,hil⟩:=xlc hN
 have hv2:=hv
 obtain ⟨l,us,rfl,ha,_,rest,rfl,rfl,hrest⟩:=hv2
 have at0:atI (V.str h0 :: rest) 0=some (.str h0):=xaz (j:=0) rfl
 refine (xaa _ rfl l _ _ _ rfl rfl (SqT.of ha) at0 (jAEA rfl _ rfl ?_))
 rcases look with ⟨rfl,x,rfl,hnd⟩ | ⟨hb,hin,hcase,hnd⟩
 ·refine iteKT (by walk_at "k") ?_
  obtain ⟨_,_,rfl,rfl,rfl⟩:=hrest
  refine (xaa _ rfl l _ _ _ rfl rfl (SqT.of ha) rfl ⟨(by walk_at "s"),fun fl hfl=>?_⟩)
  exact q fl _ (Same.new hfl _) hfl (by rw [hnd]; exact ups)
 refine iteKF (zDF fun z=>hb (V.str.inj z)) (hR1 _ _ (xag fun R0 hR0=>?_))
 rw [hnd,zLA] at hlen
 have h4:(4000:Nat)<=sizeLine:=by decide
 refine ⟨(by walk_at "s"),fun fl hfl=>hR0 _ _ (xag fun R hR=>?_)⟩
 have s0:=Same.new hfl (.lst [])
 refine (xfk _ rfl _ _ _ rfl (hv.same s0 _) hsh (fun a us H1 s1 hau hus=>?_))
 have hl:=hus.length
 have hf0:H1 fl=some (.lst []):=s1 _ _ ups
 have s01:=s0.trans s1
 have tb:∀ {HX:Hp},SameBut fl H1 HX->Same H HX:=fun sm b o hb=>sm b o (s01 _ _ hb) (neN hb hfl)
 refine (jEAA a rfl ⟨_,SqT.of hau⟩ ?_)
 refine xcq (xs:=us) (fun i σ H'=>∃ o2,σ=[some (.ref l),some (.ref fl),o2,none,none]/\SameBut fl H1 H'/\H' fl=some (.lst ((((innL h0 r).take i).flatMap (M.nd (m - 1))).map V.str))) (jEAA none rfl (fun _ _ h _=>h) hf0) (fun i σ H' _ p=>?_) ?_ ?_
 ·obtain ⟨_,_,sm,_⟩:=p
  exact SqT.of (sm _ _ hau (fun z=>by subst z; rw [hf0] at hau; cases hau))
 ·rintro i v σ H' hv' ⟨o2,rfl,sm,hfl'⟩
  obtain ⟨e,he,re⟩:=hus.get hv'
  obtain ⟨j,rfl,hj⟩:=hin e (zMG he)
  have D':=hspc j rfl
  subst D'
  have rX:RelD H' v e:=re.tups (fun b us hb=>sm _ _ hb fun z=>by subst z; rw [hf0] at hb; cases hb) _
  refine (xan _ rfl (.inl (jAE rfl _ (SqL.of hfl'))) _ rfl (xbd v e c rfl rX hj hc (fun b H2 s2 hnb hb2=>?_)))
  have hf2:=s2 _ _ hfl'
  have hsn:=xko (M.nd j) he
  have hle:=xgb (M.nd j) (innL h0 r) (i + 1)
  have hj1:j + 1 - 1=j:=rfl
  rw [hj1] at hlen hf2
  refine (xbb fl b _ _ rfl rfl hf2 hb2 ?_ ?_)
  ·rw [hsn,zLA] at hle
   rw [zLM,zLM]
   omega
  ·refine (jEAA _ rfl (fun b' o hb' ne=>?_) ?_)
   ·rw [xba ne]
    exact s2 _ _ (sm _ _ hb' ne)
   ·rw [hj1,hsn,zAP]
    exact ups
 rintro σ H' ⟨o2,rfl,sm,hfl'⟩
 rw [zTL (by omega)] at hfl'
 refine hR _ _ (xag fun R2 hR2=>?_)
 have haX:=tb sm _ _ ha
 have key:∀ o2 o3 o4 HX,SameBut fl H1 HX->HX fl=some (.lst ((M.nd m (.tup (.str h0 :: r))).map V.str))->R2 [some (.ref l),some (.ref fl),o2,o3,o4] HX:=fun o2 o3 o4 HX sX hX=>hR2 _ _ (jEA _ rfl (q fl HX (tb sX) hfl hX))
 refine (xaa _ rfl l _ _ _ rfl rfl (SqT.of haX) at0 (jAEA rfl _ rfl ?_))
 by_cases hcs:h0=S "case"
 ·subst hcs
  obtain ⟨a0,rs,rfl,hrl,hrs⟩:=hcase rfl
  rw [if_pos rfl] at hnd hlen
  obtain ⟨va,_,rfl,ra,vr,_,rfl,⟨ca,ws,rfl,hca,hws⟩,rfl⟩:=hrest
  refine iteKT (by walk_at "k") ?_
  have hwl:=hws.length
  rw [zLM] at hwl
  have hcaX:=tb sm _ _ hca
  have hfe:(rs.map dArm).flatMap (xls (M.nd (m - 1)))=rs.flatMap fun r=>(M.nd (m - 1) r.2.2).filter fun z=>!decide (V.str z=V.str r.2.1):=by
   rw [List.flatMap_map]
   simp [xls,dArm]
  have hes:esL [a0,.tup (rs.map dArm)]=rs.map dArm:=rfl
  rw [hes,hfe] at hnd hlen
  refine (xaa _ rfl l _ _ _ rfl rfl (SqT.of haX) rfl (jEAA ca rfl ⟨_,SqT.of hcaX⟩ ?_))
  refine xcq (xs:=ws) (fun i σ HX=>∃ o2 o3 o4,σ=[some (.ref l),some (.ref fl),o2,o3,o4]/\SameBut fl H1 HX/\HX fl=some (.lst ((((innL (S "case") [a0,.tup (rs.map dArm)]).flatMap (M.nd (m - 1))++(rs.take i).flatMap fun r=>(M.nd (m - 1) r.2.2).filter fun z=>!decide (V.str z=V.str r.2.1))).map V.str))) (xeg _ _ _ rfl sm (by simpa using hfl')) (fun i σ HX _ p=>?_) ?_ ?_
  ·obtain ⟨_,_,_,_,sX,_⟩:=p
   exact SqT.of (tb sX _ _ hca)
  ·rintro i v σ HX hv' ⟨o2,o3,o4,rfl,sX,hflX⟩
   obtain ⟨e,he,re⟩:=hws.get hv'
   rw [zGM] at he
   obtain ⟨⟨tg,x,e'⟩,he',rfl⟩:=zMS he
   obtain ⟨j,rfl,hj⟩:=hrs _ (zMG he')
   have D':=hspc j rfl
   subst D'
   obtain ⟨b1,_,rfl,hb1,_,_,rfl,rfl,_,_,rfl,rfl,vi,_,rfl,ri,rfl⟩:=re
   refine (xak b1 _ rfl (SqT.of (tb sX _ _ hb1)) rfl _ _ rfl _ (xbe _ rfl _ _ rfl rfl ?_))
   refine (jEAA _ rfl (.inl (jAE rfl _ (SqL.of hflX))) ?_)
   refine (xb3 _ rfl vi e' c rfl (ri.same (tb sX) _) hj hc (fun b H2 s2 hnb hb2=>?_))
   have hl1:((M.nd j e').length:Int)<=c:=xdn _ _ _ hj
   refine (jEAA b rfl ⟨_,SqL.of hb2⟩ ?_)
   refine xdu (xs:=(M.nd j e').map V.str) (fun i ys H'=>H'=H2/\ys=(((M.nd j e').take i).filter fun z=>!decide (V.str z=V.str x)).map V.str) ⟨rfl,rfl⟩ (xa7 (by rw [zLM]; omega)) (fun i ys H' _ p=>by obtain ⟨rfl,_⟩:=p; exact SqL.of hb2) ?_ ?_
   ·rintro i2 y ys H' hy hi2 hly ⟨rfl,rfl⟩
    rw [zGM] at hy
    obtain ⟨z,hz,rfl⟩:=zMS hy
    have hsn:=xhm (fun z=>!decide (V.str z=V.str x)) hz
    refine ⟨xd5 rfl,?_⟩
    refine (xd0 _ rfl _ rfl rfl _ rfl ?_)
    by_cases hzx:z=x
    ·show if (!decide (V.str z=V.str x))=true then _ else _
     rw [if_neg (by rw [hzx]; simp)]
     refine nxtN hi2 hly ⟨rfl,?_⟩
     rw [hsn,if_neg (by rw [hzx]; simp),List.append_nil]
    ·have hne:(!decide (V.str z=V.str x))=true:=by simpa using hzx
     show if (!decide (V.str z=V.str x))=true then _ else _
     rw [if_pos hne]
     refine (jEA _ rfl (nxtG hi2 hly ⟨rfl,?_⟩))
     rw [hsn,if_pos hne,zAP]
     rfl
   rintro ys H3 hly ⟨rfl,rfl⟩ D hD
   rw [zLM,zTL (Nat.le_refl _)]
   have sD:=Same.new hD (.lst (((M.nd j e').filter fun z=>!decide (V.str z=V.str x)).map V.str))
   have hf2:=sD _ _ (s2 _ _ hflX)
   have hsn:=xko (fun r:Str×Str×M.D=>(M.nd j r.2.2).filter fun z=>!decide (V.str z=V.str r.2.1)) he'
   have hle:=xgb (fun r:Str×Str×M.D=>(M.nd j r.2.2).filter fun z=>!decide (V.str z=V.str r.2.1)) rs (i + 1)
   have hj1:j + 1 - 1=j:=rfl
   rw [hj1] at hlen hf2
   dsimp only at hsn hle
   refine (xbb fl D _ _ rfl rfl hf2 ups ?_ ?_)
   ·rw [hsn,zLA] at hle
    rw [zLM,zLA,zLM]
    omega
   ·refine (xeg _ _ _ rfl (fun b' o hb' ne=>?_) ?_)
    ·rw [xba ne]
     exact sD _ _ (s2 _ _ (sX _ _ hb' ne))
    ·refine ups.trans ?_
     rw [hj1,hsn,<- List.append_assoc]
     simp only [zAP]
  ·rintro σ HX ⟨o2,o3,o4,rfl,sX,hflX⟩
   refine key _ _ _ HX sX ?_
   rw [hnd]
   rw [zTL (by omega)] at hflX
   exact hflX
 ·refine iteKF (zDF fun z=>hcs (V.str.inj z)) ?_
  refine key _ _ _ H' sm ?_
  rw [hnd,if_neg hcs,List.append_nil]
  exact hfl'
theorem xlo (T:Tx K mg) (D_needed:DefIs P w K mg base n "needed" qac (spNd m)):DefIs P w K mg base (n + 1) "boxes_in" qac (spBx m):=by
 refine DefIs.of T.d_boxes_in xlh ?_ ?_ <;> walk_at "i"
 ·obtain ⟨_,_,_,_,rfl,_⟩:=h
  rfl
 obtain ⟨tv,d,c,B,rfl,hv,hN,hc,hB,hnB,q⟩:=h
 refine (jEA _ (po (xae (xns rfl rfl T.z_sorted rfl T.z_set (pd D_needed hr (pc (pv 0) pN zsn))))) ?_)
 have hl:=xdn _ _ _ hN
 exact (xb3 _ rfl tv d c rfl hv hN hc (fun l H1 s1 _ hl'=>(xeh l _ rfl hl' (by omega) (jEA B hB hnB) (fun l2 ms hl2 h1 h2 h3=>q l2 ms _ (s1.trans (Same.new hl2 _)) ups h1 h2 h3))))
theorem xj8 (T:Tx K mg):∀ m,DefIs P w K mg base (m + 2) "needed" qac (spNd m)
 | 0=>xj2 (n:=1) T (fun _ _ _ _=>False) (xez T) (DefIs.none T.d_needed fun _ _ _ _ h=>h) (fun j e=>by cases e)
 | m + 1=>xj2 (n:=m + 2) T (spNd m) (xez T) (xj8 T m) (fun j e=>by cases e; rfl)
end
theorem RelDs.rev {H:Hp}:∀ {vs:List V} {ds:List D},RelDs H vs ds->RelDs H vs.reverse ds.reverse
 | vs,[],h=>by rw [show vs=[] from h]; rfl
 | vs,d :: ds,⟨v,r,e,h1,h2⟩=>by
  subst e
  rw [List.reverse_cons,List.reverse_cons]
  exact (RelDs.rev h2).append (xav v ([]) rfl h1 rfl)
theorem xj5 {α:Type} {l:List α} (h:l.Nodup):l.reverse.Nodup:=List.pairwise_reverse.mpr (h.imp fun h=>Ne.symm h)
theorem xpf {H H':Hp} {p:Addr} (s:Same H H') (hp:H p=none) (o:HO):Same H (upd H' p o):=fun b u q=>by
 rw [xba (neN q hp)]
 exact s b u q
def bKV (bs:List (Str×Str)):List (Key×V):=bs.map fun b=>(Sum.inr b.1,.str b.2)
theorem xeo {H:Hp}:∀ {us:List V} {bs:List (Str×Str)},RelDs H us (bs.map xek)->PairsV H us (bKV bs)
 | us,[],h=>by rw [show us=[] from h]; trivial
 | us,b :: bs,⟨v,r,e,h1,h2⟩=>by
  subst e
  obtain ⟨a,ws,rfl,ha,_,_,rfl,rfl,_,_,rfl,rfl,rfl⟩:=h1
  exact ⟨(jEA a rfl ha),xeo h2⟩
theorem xn5 {a b c d r:V} {i j:Int} (h:i=j):[a,b,c,d,r,V.int i]=[a,b,c,d,r,V.int j]:=by rw [h]
theorem xhe {ks:List Kn} (wf:KWf ks) {k:Kn} (h:k∈ks) {p:Str×Str} (hp:p∈k.parts):KIn ks 6 p.2:=by
 obtain ⟨i,hi,e⟩:=zMI h
 have:=wf.few
 exact KIn.mono (n:=i) (wf.ref i k (by rw [<- e]; exact zGA hi) p hp) (by omega)
def spTw (c:Nat):Sp:=fun vs H Q _=>∃ (f:Addr) (kv bv:V) (ks:List Kn) (bs:List (Str×Str)) (x:Str) (room:Int) (m j:Nat),vs=[.ref f,kv,bv,.str x,.int room,.int (m:Int)]/\c=7 * m + j/\j<=6/\TIn H f kv bv ks bs (m + 1)/\m<=7/\KIn ks j x/\smK ks x<=room/\∀ a d H',Fed f H H'->RelD H' (.ref a) d->TmB ks (c + 1) bs d x/\Tc (c + 1) d room->Q (.ref a) H'
def xq8 (c:Nat):Sp:=fun vs H Q E=>∃ c',c' < c/\spTw c' vs H Q E
def xo2:Sp:=fun vs H Q _=>∃ (f l:Addr) (p q:Int) (zs:List Str),vs=[.ref f,.ref l]/\H f=some (.lst [.int p,.int q])/\H l=some (.lst (zs.map V.str))/\zs≠[]/\zs.length<=100/\l≠f/\∀ z t H',z∈zs->Fed f H H'->RelD H' (.ref t) (tBox z)->Q (.ref t) H'
def xlf (m:Nat):Sp:=fun vs H Q _=>∃ (f:Addr) (kv bv pvv:V) (ks:List Kn) (bs ps:List (Str×Str)) (x:Str) (room:Int),vs=[.ref f,kv,bv,pvv,.str x,.int room,.int ((m + 1:Nat):Int)]/\TIn H f kv bv ks bs (m + 2)/\m < 7/\RelD H pvv (xdd ps)/\ps≠[]/\ps.length<=5/\(ps.map (·.1)).Nodup/\(∀ p∈ps,KIn ks 6 p.2)/\KIn ks 6 x/\smK ks x * (ps.length:Int)<=room ∧
 ∀ (u:V) (rs:List (Str×Str×D)) (H':Hp),Fed f H H'->RelD H' u (.tup (rs.map dArm))->rs.length=ps.length->(∀ r∈rs,∃ p∈ps,p.1=r.1)->(rs.map (·.1)).Nodup->(∀ p∈ps,∃ z e,(p.1,z,e)∈rs/\(∀ q∈bs,q.1≠z)/\ArmN ks z/\TmB ks (7 * m + 7) (bs++[(z,p.2)]) e x)->(∀ r∈rs,Tc (7 * m + 7) r.2.2 (room / (ps.length:Int)))->Q u H'
section
variable {P:Program} {w:World} {K:PySem.W.Frag} {mg:Str->Option Value} {base:Heap} {n m:Nat}
theorem xpl (T:Tx K mg) (Dl_take:DefIs P w K mg base n "_law_take" qab xcy):DefIs P w K mg base (n + 1) "_law_boxed" qas xo2:=by
 refine DefIs.of T.dl_boxed xo6 ?_ ?_ <;> walk_at "i"
 ·obtain ⟨_,_,_,_,_,rfl,_⟩:=h
  rfl
 obtain ⟨f',l,p,q0,zs,rfl,hf,hl,hne,h100,lf,q⟩:=h
 refine (jEA _ (po (xae (xar (pc pS (pc (xaj iL (pv 1) (pd Dl_take hr (pc (pv 0) (pc (xax xao rfl T.z_len PySem.boot_len (pc (pv 1) pN zsn)) pN zsc) zsn)) (fun _ _=>rfl)) pN zss) zso)))) ?_)
 have hzp:0 < zs.length:=List.length_pos_iff.mpr hne
 have zl:(zs.map V.str).length=zs.length:=zLM _
 refine (xbm _ rfl _ rfl _ rfl l _ rfl (.inl (SqL.of hl)) (xay f' p q0 _ rfl hf (by rw [zl]; omega) (by rw [zl]; omega) (fun r H4 r0 r1 f4=>?_)))
 rw [zl] at r1
 obtain ⟨i,rfl⟩:∃ i:Nat,r=(i:Int):=⟨r.toNat,by omega⟩
 have hi':i < zs.length:=by omega
 refine (xbb l _ _ (.str zs[i]) rfl rfl (SqL.of (f4.1 _ _ hl lf)) (xaz (by rw [zGM,zGA hi']; rfl)) (by walk_at "s") (fun t ht=>?_))
 have st:=Same.new ht (.tup [.str (S "box"),.str zs[i]])
 exact q zs[i] t _ (List.getElem_mem hi') (f4.same st) (xad t _ rfl ups _ _ rfl rfl _ (jEAA _ rfl rfl rfl))
theorem xrq (T:Tx K mg) {c:Nat} (hc:7 * m + 6 < c) (Dl_take:DefIs P w K mg base n "_law_take" qab xcy) (Dl_term:DefIs P w K mg base n "_law_term" qaf (xq8 c)):DefIs P w K mg base (n + 1) "_law_arms" qa6 (xlf m):=by
 refine DefIs.of T.dl_arms scl_arms ?_ ?_ <;> walk_at "i"
 ·obtain ⟨_,_,_,_,_,_,_,_,_,rfl,_⟩:=h
  rfl
 obtain ⟨f',kv,bv,pvv,ks,bs,ps,x,room,rfl,ti,m8,hps,hpe,h5,hnd,hpn,hxin,hroom,q⟩:=h
 have nd:=scl_arms.nd
 have hu:=xfn hr
 refine ⟨_,(zpn (xal (i:=7) nd rfl (by walk_at "o") (xb6 pN))
   (zpn (xal (i:=8) nd rfl (by walk_at "o") (xaq xb9 (pv 5) (xax xao rfl T.z_len PySem.boot_len (pc (pv 3) pN zsn))))
   (zpn (xcf PassesOwn.never rfl (xbi (pv 3)) (xbr rfl (xac (xab (i:=9) nd rfl (by walk_at "o")) (xac (xab (i:=10) nd rfl (by walk_at "o")) xa0)))
   (zpn (xal (i:=11) nd rfl (by walk_at "o") (xaq xep pS (xaj xm4 pS (pv 6) (fun _ _=>rfl))))
   (po (xck (xfe PySem.F.plainAttrs_list PySem.F.slot_list_append PySem.F.type_list_append xcn (pv 7) (pc (xar (pc (pv 9) (pc (pv 11) (pc (pd Dl_term hr (pc (pv 0) (pc (pv 1) (pc (xaq xh8 (pv 2) (xb6 (pc (xar (pc (pv 11) (pc (pv 10) pN zsn) zsn)) pN sT))) (pc (pv 4) (pc (pv 8) (pc (xaq xcm (pv 6) pI) pN xa8) zsn) zsn) xa8) zsn) zsn)) pN zsc) zsn) zsn)) pN sT))))))
   (zpn (xa1 (pR xa4 (pd Dl_take hr (pc (pv 0) (pc pI pN zso) zsn)) pI (nM _)) (po (xck (xsm PySem.F.plainAttrs_list PySem.F.slot_list_reverse PySem.F.type_list_reverse xia (pv 7)))) pQ)
   (po (xae (xat xa2 rfl T.z_tuple PyProof.Rows.boot_tuple (pc (pv 7) pN zsn)))))))),xag fun R1 hR1=>?_⟩
 refine ⟨(by walk_at "s"),fun al hal=>?_⟩
 have s0:=Same.new hal (.lst [])
 obtain ⟨p0,q0,hf⟩:=ti.fd
 have alf:al≠f':=Ne.symm (neN hf hal)
 obtain ⟨pa,us,rfl,hpa,hus⟩:=hps
 have hl:=hus.length
 rw [zLM] at hl
 have hpos:0 < ps.length:=List.length_pos_iff.mpr hpe
 have hpos':(0:Int) < (us.length:Int):=by omega
 have hj1:(((m + 1:Nat):Int)) - 1=(m:Int):=by omega
 have heach:smK ks x<=room / (us.length:Int):=by
  refine (Int.le_ediv_iff_mul_le hpos').mpr ?_
  rw [hl]
  exact hroom
 refine hR1 _ _ (xag fun R2 hR2=>?_)
 refine (xbf _ rfl _ rfl pa _ rfl (.inr (SqT.of (s0 _ _ hpa))) _ (xc1 _ rfl rfl ⟨by omega,by omega⟩ ?_))
 refine hR2 _ _ (xag fun R3 hR3=>?_)
 refine (xa9 _ rfl pa rfl ⟨_,SqT.of (s0 _ _ hpa)⟩ ?_)
 refine xcq (xs:=us) (fun i σ H'=>∃ (ws:List V) (rs:List (Str×Str×D)) (o8 o9 o10:Option V),σ=[some (.ref f'),some kv,some bv,some (.ref pa),some (.str x),some (.int room),some (.int ((m + 1:Nat):Int)),some (.ref al),some (.int (room / (us.length:Int))),o8,o9,o10]/\Fed f' H H'/\H' al=some (.lst ws)/\RelDs H' ws (rs.map dArm)/\rs.map (·.1)=(ps.take i).map (·.1)/\(∀ p∈ps.take i,∃ z e,(p.1,z,e)∈rs/\(∀ q∈bs,q.1≠z)/\ArmN ks z/\TmB ks (7 * m + 7) (bs++[(z,p.2)]) e x)/\∀ r∈rs,Tc (7 * m + 7) r.2.2 (room / (ps.length:Int)))
  (xam ([]) ([]) none none none rfl ((Fed.refl hf).same s0) ups rfl rfl ⟨(fun p hp=>by rw [List.take_zero] at hp; exact nomatch hp),fun r hr=>nomatch hr⟩) (fun i σ H' _ p=>?_) ?_ ?_
 ·obtain ⟨_,_,_,_,_,_,fm,_⟩:=p
  exact SqT.of (xah ti.fd fm _ _ hpa)
 ·rintro i vv σ H1 hvv ⟨ws,rs,o8,o9,o10,rfl,fm,hws,rws,hrn,hrs,hrc⟩
  have tp:=xah ti.fd fm
  obtain ⟨d,hd,rd⟩:=hus.get hvv
  rw [zGM] at hd
  obtain ⟨pr,hpr,rfl⟩:=zMS hd
  obtain ⟨b,wz,rfl,hb,_,_,rfl,rfl,_,_,rfl,rfl,rfl⟩:=rd
  have hpm:=zMG hpr
  have hi':i < us.length:=(zES hvv).1
  have hwl:=rws.length
  have hrl:rs.length<=5:=by
   have:=congrArg List.length hrn
   rw [zLM,zLM,List.length_take] at this
   omega
  rw [zLM] at hwl
  refine (xak b _ rfl (SqT.of (tp _ _ hb)) rfl _ _ rfl _ (jEAA _ rfl rfl (xag fun R4 hR4=>?_)))
  have e2:(Str.ofString "by").length=2:=by walk_at "k"
  refine (xb3 _ rfl _ _ _ rfl rfl (by walk_at "k") (xr8 (i:=m + 1) (by omega)) (xcp _ _ rfl rfl (fits (by rw [e2]; show 2 + 1<=_; decide)) ?_))
  rw [show Str.ofString "by"++(⟨#[97 + (m + 1)]⟩:Str)=byN (m + 1) from xse (m + 1)]
  have hy:∀ b∈bs,b.1≠byN (m + 1):=fun b hb=>ti.fr b hb (m + 1) (by omega)
  have hyf:∀ j,j < m + 1->byN (m + 1)≠byN j:=fun j hj e=>by have:=xuh e; omega
  have t3:=ti.fed fm
  obtain ⟨bl3,ub3,e3,hbl3,hub3,blf3⟩:=t3.bx
  cases e3
  obtain ⟨p3,q3,h3⟩:=fm.2
  refine hR4 _ _ ?_
  refine (xan _ rfl (.inl (jAE rfl _ (SqL.of hws))) _ rfl (xap _ rfl _ rfl _ rfl _ rfl _ rfl (jEAA _ rfl (by walk_at "s") (fun t1 ht1=>⟨(by walk_at "s"),fun l1 hl1=>?_⟩))))
  have y1:=Same.new ht1 (.tup [.str (byN (m + 1)),.str pr.2])
  have y2:=Same.new hl1 (.lst [.ref t1])
  have hul3:=hub3.length
  rw [zLM] at hul3
  have hbl30:=ti.bl
  refine (xbb _ l1 _ _ rfl rfl ((y1.trans y2) _ _ hbl3) ups (fits (by show _ + 1<=_; omega)) (fun l2 hl2=>?_))
  have y3:=Same.new hl2 (.lst (ub3++[.ref t1]))
  have y13:=y1.trans (y2.trans y3)
  have t4:=t3.same y13
  have l2f:l2≠f':=Ne.symm (neN ((y1.trans y2) _ _ h3) hl2)
  refine (xbm _ rfl _ rfl _ rfl _ _ rfl rfl (xbo (7 * m + 6) hc f' kv (.ref l2) ks (xam (bs++[((byN (m + 1)),pr.2)]) x (room / (us.length:Int)) m 6 (xn5 hj1) rfl (by decide) ⟨t4.fd,t4.kd,t4.wf,t4.nb,(xcp l2 _ rfl ups ?_ l2f),?_,?_,?_,?_⟩ (by omega) (jAA hxin heach (fun u dd H6 f6 ru htm=>?_)))))
  ·rw [zAP]
   exact (hub3.same y13 _).append (xav _ ([]) rfl (xad t1 _ rfl ((y2.trans y3) _ _ ups) _ _ rfl rfl _ (jEAA _ rfl rfl rfl)) rfl)
  ·rw [zAP]
   exact xlq ti.nd fun hm=>by
    obtain ⟨b',hb',e'⟩:=zMP hm
    exact hy b' hb' e'
  ·rw [zLA,List.length_singleton]
   omega
  ·intro b' hb' j hj
   rcases zMA hb' with hb' | hb'
   ·exact ti.fr b' hb' j (by omega)
   ·rw [zMO hb']
    exact hyf j hj
  ·intro b' hb'
   rcases zMA hb' with hb' | hb'
   ·exact ti.kn b' hb'
   ·rw [zMO hb']
    exact hpn pr hpm
  refine ⟨(by walk_at "s"),fun t6 ht6=>?_⟩
  have F6:Fed f' H1 H6:=((Fed.refl h3).same y13).trans f6
  have st:=Same.new ht6 (.tup [.str pr.1,.str (byN (m + 1)),.ref u])
  have hw6:=st _ _ (F6.1 _ _ hws alf)
  have rw6:=(rws.tups (xah fm.2 F6) _).same st _
  refine (xdt al ws _ rfl rfl hw6 (xa7 (by omega)) _ (rs++[(pr.1,(byN (m + 1)),dd)]) (xct _ _ _ rfl (Fed.put ((fm.trans F6).same st) hal alf _) ups ?_ ?_ (fun p hp=>?_) (fun r hr=>?_)))
  ·rw [zAP]
   exact (rw6.tups (xbc hw6 _) _).append (xav _ ([]) rfl (xad t6 _ rfl (xbc hw6 _ _ _ ups) _ _ rfl rfl _ (xb4 _ rfl rfl _ _ rfl ((ru.same st _).tups (xbc hw6 _) _) rfl)) rfl)
  ·rw [zAP,hrn,zTA,hpr,zAP]
   rfl
  ·rw [zTA,hpr] at hp
   rcases zMA hp with hp | hp
   ·obtain ⟨z,e,g1,g2,g3⟩:=hrs p hp
    exact (xav z e (List.mem_append_left _ g1) g2 g3)
   ·have ep:p=pr:=by simpa using hp
    rw [ep]
    exact (xcp (byN (m + 1)) dd (List.mem_append_right _ (by simp)) hy (.inl ⟨m + 1,rfl⟩) htm.1)
  ·rcases zMA hr with hr | hr
   ·exact hrc r hr
   ·rw [zMO hr,<- hl]
    exact htm.2
 ·rintro σ H1 ⟨ws,rs,o8,o9,o10,rfl,fm,hws,rws,hrn,hrs,hrc⟩
  rw [zTL (by omega)] at hrn hrs
  have hrl:rs.length=ps.length:=by
   have:=congrArg List.length hrn
   rwa [zLM,zLM] at this
  have hsub:∀ r∈rs,∃ p∈ps,p.1=r.1:=fun r hr=>by
   have:r.1∈rs.map (·.1):=List.mem_map_of_mem hr
   rw [hrn] at this
   obtain ⟨p,hp,e⟩:=zMP this
   exact (jEA p hp e)
  obtain ⟨p1,q1,h1⟩:=fm.2
  refine hR3 _ _ (xag fun R5 hR5=>?_)
  refine (xaa _ rfl f' p1 q1 _ rfl h1 (by decide) (by decide) (fun r H2 r0 r1 f2=>(jAEA rfl _ rfl (ite2 (fun c=>?_) (fun c=>?_)))))
  ·have hw2:=f2.1 _ _ hws alf
   have rw2:=rws.tups (xah fm.2 f2) _
   refine (xfl _ rfl (.inl (jAE rfl _ (SqL.of hw2))) al ws rfl rfl hw2 ?_)
   refine hR5 _ _ ?_
   refine (xei _ rfl al _ rfl (.inl ⟨SqL.of ups,fun t ht=>?_⟩))
   have st:=Same.new ht (.tup ws.reverse)
   refine q _ rs.reverse _ ((Fed.put (fm.trans f2) hal alf _).same st) (xav t _ rfl ups ?_) (by rw [List.length_reverse]; exact hrl) (fun r hr=>hsub r (List.mem_reverse.mp hr)) ?_ (fun p hp=>?_) fun r hr=>hrc r (List.mem_reverse.mp hr)
   ·rw [List.map_reverse]
    exact (RelDs.rev (rw2.tups (xbc hw2 _) _)).same st _
   ·rw [List.map_reverse]
    exact xj5 (by rw [hrn]; exact hnd)
   ·obtain ⟨z,e,h1,h2,h3⟩:=hrs p hp
    exact (xav z e (List.mem_reverse.mpr h1) h2 h3)
  ·refine hR5 _ _ ?_
   refine (xei _ rfl al _ rfl (.inl ⟨SqL.of (f2.1 _ _ hws alf),fun t ht=>?_⟩))
   have st:=Same.new ht (.tup ws)
   exact q _ rs _ ((fm.trans f2).same st) (xav t _ rfl ups ((rws.tups (xah fm.2 f2) _).same st _)) hrl hsub (by rw [hrn]; exact hnd) hrs hrc
end
def PtAt (H:Hp) (ks:List Kn) (k:Kn) (room:Int) (w:V):Prop:=∃ (b:Addr) (p:Str×Str),w=.ref b/\H b=some (.tup [.str p.1,.str p.2])/\p∈k.parts/\smK ks p.2 < room
theorem PtAt.tups {H H':Hp} {ks:List Kn} {k:Kn} {room:Int} {w:V} (h:PtAt H ks k room w) (s:∀ b us,H b=some (.tup us)->H' b=some (.tup us)):PtAt H' ks k room w:=by
 obtain ⟨b,p,e,hb,r⟩:=h
 exact (xav b p e (s _ _ hb) r)
theorem xtk {r:Int} (h0:0<=r) (h:r < 5):∃ c,atI (S "+-*<=").cps.toList r=some c/\Sg ⟨#[c]⟩:=by
 obtain ⟨i,rfl⟩:∃ i:Nat,r=(i:Int):=⟨r.toNat,by omega⟩
 have hi:i=0\/i=1\/i=2\/i=3\/i=4:=by omega
 rcases hi with rfl | rfl | rfl | rfl | rfl
 ·exact (jEA 43 (xaz (by walk_at "k")) (.inl (by walk_at "k")))
 ·exact (jEA 45 (xaz (by walk_at "k")) (.inr (.inl (by walk_at "k"))))
 ·exact (jEA 42 (xaz (by walk_at "k")) (.inr (.inr (.inl (by walk_at "k")))))
 ·exact (jEA 60 (xaz (by walk_at "k")) (.inr (.inr (.inr (.inl (by walk_at "k"))))))
 ·exact (jEA 61 (xaz (by walk_at "k")) (.inr (.inr (.inr (.inr (by walk_at "k"))))))
theorem xht {α β:Type} {R:α->β->Prop}:∀ {as:List α} {bs:List β} {a:α} {b:β},All2 R as bs->R a b->All2 R (as++[a]) (bs++[b])
 | _,_,_,_,.nil,h=>.cons h .nil
 | _,_,_,_,.cons h t,k=>.cons h (xht t k)
theorem xsz {ks:List Kn}:∀ (n:Nat) (env:En) (d v:D),Evs ks n env d v->Evs ks (n + 1) env d v
 | 0,_,_,_,h=>.inl h
 | n + 1,env,d,v,h=>by
  rcases h with h | ⟨h,g⟩
  ·exact .inl h
  ·exact .inr ⟨h.mono (xsz n),g⟩
theorem xv4 {ks:List Kn} {n m:Nat} (l:n<=m) {env:En} {d v:D} (h:Evs ks n env d v):Evs ks m env d v:=by
 obtain ⟨k,rfl⟩:∃ k,m=n + k:=⟨m - n,by omega⟩
 clear l
 induction k with
 | zero=>exact h
 | succ k ih=>exact xsz _ _ _ _ ih
theorem TmB.le {ks:List Kn} {n m:Nat} {bs:List (Str×Str)} {d:D} {x:Str} (h:TmB ks n bs d x) (l:n<=m):TmB ks m bs d x:=⟨fun env hf=>by
 obtain ⟨v,h1,h2⟩:=h.1 env hf
 exact (jEA v (xv4 l h1) h2),fun env hf=>xvu l (h.2 env hf)⟩
theorem xop {α:Type} {f:α->Int} {q:Int}:∀ {l:List α},(l.map fun p=>f p + q).sum=(l.map f).sum + (l.length:Int) * q
 | []=>by simp
 | a :: l=>by
  have ih:=xop (f:=f) (q:=q) (l:=l)
  rw [List.map_cons,List.map_cons,List.sum_cons,List.sum_cons,ih,List.length_cons]
  have:((l.length + 1:Nat):Int) * q=(l.length:Int) * q + q:=by rw [Int.natCast_add,Int.add_mul]; simp
  omega
theorem xq6 {ks:List Kn} {ps:List (Str×Str)} {x:Str} {n:Nat} {room:Int} (hl:n=ps.length) (hr:smK ks x<=room) (es:smK ks x=1 + (ps.map fun p=>smK ks p.2).sum):(ps.map fun p=>smK ks p.2 + (room - smK ks x) / (n:Int)).sum<=room:=by
 subst hl
 rw [xop]
 by_cases h0:ps.length=0
 ·rw [h0]
  simp
  omega
 ·have:=Int.mul_ediv_self_le (x:=room - smK ks x) (k:=(ps.length:Int)) (by omega)
  omega
section
variable {P:Program} {w:World} {K:PySem.W.Frag} {mg:Str->Option Value} {base:Heap} {n m:Nat}
theorem xhx (T:Tx K mg) {c:Nat} (Dl_sort_of:DefIs P w K mg base n "_law_sort_of" qaa xdw) (Dl_take:DefIs P w K mg base n "_law_take" qab xcy) (Dl_number:DefIs P w K mg base n "_law_number" qar xoy) (Dl_small:DefIs P w K mg base n "_law_small" qaa (spSm smK 6)) (Dl_term:DefIs P w K mg base n "_law_term" qaf (xq8 c)) :
  DefIs P w K mg base (n + 1) "_law_whole_term" qaf (spTw c):=by
 refine DefIs.of T.dl_whole_term scl_whole_term ?_ ?_ <;> walk_at "i"
 ·obtain ⟨_,_,_,_,_,_,_,_,_,rfl,_⟩:=h
  rfl
 obtain ⟨f',kv,bv,ks,bs,x,room,m,j,rfl,hcm,hj6,ti,m8,hxj,hroom,q⟩:=h
 have nd:=scl_whole_term.nd
 have wf:=ti.wf
 have hxin:KIn ks 6 x:=hxj.mono hj6
 refine ⟨_,(zpn (xcz (pd Dl_sort_of hr (pc (pv 1) (pc (pv 3) pN zsn) zsn)) (xbr rfl (xac (xab (i:=6) nd rfl (by walk_at "o")) (xac (xab (i:=7) nd rfl (by walk_at "o")) xa0))))
   (zpn (xa1 (pR xa4 (pv 6) pS (nM _)) (zpn (xa1 (PW.pt (xli (pR xnv (pv 4) pI (nM _)) (xli (pR xa4 (pv 5) pI (nM _)) (xh5 (pR xa4 (pd Dl_take hr (pc (pv 0) (pc pI pN zso) zsn)) pI (nM _)))))) (po (xae (xar (pc pS (pc (pd Dl_number hr (pc (pv 0) pN zsn)) pN zsc) zso)))) pQ)
   (zpn (xal (i:=8) nd rfl (by walk_at "o") (pd Dl_term hr (pc (pv 0) (pc (pv 1) (pc (pv 2) (pc pS (pc (xaq xb9 (xaq xcm (pv 4) pI) pI) (pc (xaq xcm (pv 5) pI) pN xa8) xa8) zso) zsn) zsn) zsn)))
   (zpn (xal (i:=9) nd rfl (by walk_at "o") (pd Dl_term hr (pc (pv 0) (pc (pv 1) (pc (pv 2) (pc pS (pc (xaq xb9 (xaq xcm (pv 4) pI) pI) (pc (xaq xcm (pv 5) pI) pN xa8) xa8) zso) zsn) zsn) zsn)))
   (po (xae (xar (pc pS (pc (xaj xm4 pS (pd Dl_take hr (pc (pv 0) (pc pI pN zso) zsn)) (fun _ _=>rfl)) (pc (pv 8) (pc (pv 9) pN zsn) zsn) zss) zso))))))) pQ)
   (zpn (xa1 (pR xa4 (pv 6) pS (nM _)) (zpn (xb1 (i:=10) ["_law_part","_law_room","_law_kinds_here"] [none,some 4,some 1] rfl (by kernel_rfl) nd rfl (by walk_at "o") (xbi (pv 7)) (fun _ _ _ _=>(xab (i:=0) (by show List.Nodup (["_law_part","_law_room","_law_kinds_here"]:List Str); decide +kernel) rfl (Or.inl rfl))) (fun _ _ _ _=>(xc9 (pR xnv (pd Dl_small hr (pc (pv 2) (pc (xaj (xcu (K:=K) rfl) (pv 0) pI (fun _ _=>rfl)) pN zss) zsn)) (pv 1) (nM _)))) (fun _ _ _ _=>(pv 0)))
   (zpn (xcz (xaj iL (pv 10) (pd Dl_take hr (pc (pv 0) (pc (xax xao rfl T.z_len PySem.boot_len (pc (pv 10) pN zsn)) pN zsc) zsn)) (fun _ _=>rfl)) (xbr rfl (xac (xab (i:=11) nd rfl (by walk_at "o")) (xac (xab (i:=12) nd rfl (by walk_at "o")) xa0))))
   (po (xae (xar (pc pS (pc (pv 3) (pc (pv 11) (pc (pd Dl_term hr (pc (pv 0) (pc (pv 1) (pc (pv 2) (pc (pv 12) (pc (xaq xcm (pv 4) pI) (pc (pv 5) pN zsn) xa8) zsn) zsn) zsn) zsn)) pN zsc) zsn) zsn) zso)))))) pQ)
   (zpn (xal (i:=13) nd rfl (by walk_at "o") (xaq xcm (pv 4) (pd Dl_small hr (pc (pv 1) (pc (pv 3) pN zsn) zsn))))
   (zpn (xal (i:=14) nd rfl (by walk_at "o") (xb6 pN))
   (zpn (xcf PassesOwn.never rfl (xbi (pv 7)) (xbr rfl (xac (xab (i:=15) nd rfl (by walk_at "o")) (xac (xab (i:=12) nd rfl (by walk_at "o")) xa0)))
   (po (xck (xfe PySem.F.plainAttrs_list PySem.F.slot_list_append PySem.F.type_list_append xcn (pv 14) (pc (pd Dl_term hr (pc (pv 0) (pc (pv 1) (pc (pv 2) (pc (pv 12) (pc (xaq xbt (pd Dl_small hr (pc (pv 1) (pc (pv 12) pN zsn) zsn)) (xaq xb9 (pv 13) (xax xao rfl T.z_len PySem.boot_len (pc (pv 7) pN zsn)))) (pc (pv 5) pN zsn) xa8) zsn) zsn) zsn) zsn)) pN zsc)))))
   (po (xae (xar (pc pS (pc (pv 3) (pc (xat xa2 rfl T.z_tuple PyProof.Rows.boot_tuple (pc (pv 14) pN zsn)) pN zsc) zsn) zso)))))))))),xag fun R1 hR1=>?_⟩
 refine (xbh _ rfl _ rfl kv ks x rfl ((wf.ksAt ti.kd).seq) (fun t pv' H1 s1 ht rp=>?_))
 refine (xak t _ rfl (SqT.of ht) rfl _ _ rfl _ (jEAA _ rfl rfl ?_))
 refine hR1 _ _ (xag fun R2 hR2=>?_)
 have t1:=ti.same s1
 obtain ⟨p1,q1,h1⟩:=t1.fd
 obtain ⟨p0,q0,hf⟩:=ti.fd
 have F1:Fed f' H H1:=(Fed.refl hf).same s1
 rcases hxj.look wf with ⟨rfl,hkx⟩ | ⟨j',k,hjj,hkx,hn,hkm,hkp⟩
 ·refine (xan _ rfl rfl _ rfl (iteKT (zDT (by rw [hkx]; rfl)) ?_))
  have RN:∀ (H2:Hp) (f2:Fed f' H1 H2),∀ (i:Int) (H3:Hp),Nm i->Fed f' H2 H3->∀ t,H3 t=none->Q (.ref t) (upd H3 t (.tup [.str (S "num"),.int i])):=fun H2 f2 i H3 hi f3 t ht=>by
   have st:=Same.new ht (.tup [.str (S "num"),.int i])
   exact q _ (tNum i) _ (((F1.trans f2).trans f3).same st) (xad t _ rfl ups _ _ rfl rfl _ (jEAA _ rfl rfl rfl)) ⟨xom hi,xoj (by rw [(xg3 wf).1] at hroom; omega)⟩
  refine (xbk _ rfl _ _ rfl rfl _ rfl (ite2 (fun c1=>?_) (fun c1=>?_)))
  ·exact iteT (xcw _ rfl f' p1 q1 rfl h1 (fun i H3 hi f3=>⟨(by walk_at "s"),fun t ht=>RN H1 (Fed.refl h1) i H3 hi f3 t ht⟩))
  refine (xan _ rfl rfl _ rfl (ite2 (fun c2=>?_) (fun c2=>?_)))
  ·exact iteT (xcw _ rfl f' p1 q1 rfl h1 (fun i H3 hi f3=>⟨(by walk_at "s"),fun t ht=>RN H1 (Fed.refl h1) i H3 hi f3 t ht⟩))
  have c1':¬ room < 3:=fun z=>c1 (zDT z)
  have c2':¬ (m:Int)=0:=fun z=>c2 (zDT (congrArg V.int z))
  obtain ⟨m',rfl⟩:∃ m',m=m' + 1:=⟨m - 1,by omega⟩
  have hj1:(((m' + 1:Nat):Int)) - 1=(m':Int):=by omega
  refine (xaa _ rfl f' p1 q1 _ rfl h1 (by decide) (by decide) (fun r H2 r0 r1 f2=>(jAEA rfl _ rfl (ite2 (fun c3=>?_) (fun c3=>?_)))))
  ·obtain ⟨p2,q2,h2⟩:=f2.2
   exact (xcw _ rfl f' p2 q2 rfl h2 (fun i H3 hi f3=>⟨(by walk_at "s"),fun t ht=>RN H2 f2 i H3 hi f3 t ht⟩))
  have t2:=t1.fed f2
  have hs1:=(xg3 wf).1
  have hrm:smK ks (S "num")<=(room - 1) / 2:=by rw [hs1]; omega
  refine (xc6 _ rfl _ rfl _ rfl _ rfl _ (xfl _ rfl rfl _ _ rfl rfl ⟨by decide,by decide⟩ (xbe _ rfl _ _ rfl rfl ?_)))
  refine (xbo (7 * m') (by omega) f' kv bv ks (xam bs (S "num") ((room - 1) / 2) m' 0 (xn5 hj1) rfl (by decide) (t2.down (by omega)) (by omega) (jAA (.inl rfl) hrm (fun u1 d1 H3 f3 ru1 ht1=>?_))))
  have t3:=t2.fed f3
  refine (xc6 _ rfl _ rfl _ rfl _ rfl _ (xfl _ rfl rfl _ _ rfl rfl ⟨by decide,by decide⟩ (xbe _ rfl _ _ rfl rfl ?_)))
  refine (xbo (7 * m') (by omega) f' kv bv ks (xam bs (S "num") ((room - 1) / 2) m' 0 (xn5 hj1) rfl (by decide) (t3.down (by omega)) (by omega) (jAA (.inl rfl) hrm (fun u2 d2 H4 f4 ru2 ht2=>?_))))
  have t4:=t3.fed f4
  obtain ⟨p4,q4,h4⟩:=t4.fd
  refine (xaa _ rfl f' p4 q4 _ rfl h4 (by decide) (by decide) (fun r' H5 r0' r1' f5=>?_))
  obtain ⟨ch,hch,hsg⟩:=xtk r0' r1'
  refine (xbd _ _ ch rfl rfl (by walk_at "k") hch (xa9 _ rfl _ rfl (by walk_at "s") (fun t' ht'=>?_)))
  have st:=Same.new ht' (.tup [.str (S "op"),.str ⟨#[ch]⟩,.ref u1,.ref u2])
  exact q _ (tOpD ⟨#[ch]⟩ d1 d2) _ (((((F1.trans f2).trans f3).trans f4).trans f5).same st) ⟨t',_,rfl,ups,_,_,rfl,rfl,_,_,rfl,rfl,_,_,rfl,((ru1.tups (xah t3.fd f4) _).tups (xah t4.fd f5) _).same st _,_,_,rfl,(ru2.tups (xah t4.fd f5) _).same st _,rfl⟩ ⟨TmB.le (xwi wf hsg ht1.1 ht2.1) (by omega),xhw (n:=7 * m' + 2) (by omega) (.inr (.inl ⟨_,_,_,_,_,ht1.2,ht2.2,by omega,rfl⟩))⟩
 ·subst hjj
  rw [hkx] at rp
  obtain ⟨a,us,rfl,ha,hus⟩:=rp
  have hl:=hus.length
  rw [zLM] at hl
  have h5:=wf.pts k hkm
  have hss:xed (kAt ks x)=k.sort:=by rw [hkx]; rfl
  have es:=(xtj wf hkx).1
  unfold smS at es
  cases hc:k.rc with
  | false=>
   rw [if_neg (by rw [hc]; decide)] at es
   refine (xan _ rfl rfl _ rfl (iteKF (zDF (by rw [hss,xcr hc]; decide +kernel)) ?_))
   refine hR2 _ _ (xag fun R3 hR3=>?_)
   refine (xan _ rfl rfl _ rfl (iteKT (zDT (by rw [hss,xcr hc]; rfl)) ?_))
   refine (xa9 _ rfl a rfl ⟨_,SqT.of ha⟩ ?_)
   refine xbn (xs:=us) (fun i ys H'=>Same H1 H'/\(∀ z∈ys,PtAt H' ks k room z)/\(1<=i->ys≠[])) (jAA (Same.refl _) (fun _ h=>nomatch h) (fun h=>absurd h (by decide))) (xa7 (by omega)) (fun i ys H' _ p=>SqT.of (p.1 _ _ ha)) ?_ ?_
   ·rintro i y ys H' hy hi2 hly ⟨sm2,hys,hne⟩
    obtain ⟨d',hd2,rd2⟩:=hus.get hy
    rw [zGM] at hd2
    obtain ⟨pr,hpr,rfl⟩:=zMS hd2
    obtain ⟨b,ws',rfl,hb,_,_,rfl,rfl,_,_,rfl,rfl,rfl⟩:=rd2
    have hpm:=zMG hpr
    have first:i=0->smK ks pr.2 < room:=fun e0=>by
     subst e0
     cases hpp:k.parts with
     | nil=>rw [hpp] at hpr; simp at hpr
     | cons p r=>
      rw [hpp] at hpr es
      simp at hpr
      subst hpr
      have es':smK ks x=1 + smK ks p.2:=es
      omega
    refine ⟨xd5 rfl,?_⟩
    refine (xa6 _ rfl _ rfl b _ _ (xd3 _ rfl rfl (SqT.of (sm2 _ _ hb)) rfl kv ks pr.2 rfl (t1.kd.same sm2 _) (jAA wf (xhe wf hkm hpm) (fun H3 s3=>(xbk _ rfl _ _ rfl rfl _ rfl (ite2 (fun c1=>?_) (fun c1=>?_)))))))
    ·refine (jEA _ rfl (nxtG hi2 hly (jAA (sm2.trans s3) (fun z hz=>?_) (fun _=>by simp))))
     rcases zMA hz with hz | hz
     ·exact (hys z hz).tups fun b us q=>s3 _ _ q
     ·rw [zMO hz]
      exact (xcp b pr rfl (s3 _ _ (sm2 _ _ hb)) hpm (of_decide_eq_true c1))
    ·refine nxtN hi2 hly (jAA (sm2.trans s3) (fun z hz=>(hys z hz).tups fun b us q=>s3 _ _ q) (fun _=>?_))
     by_cases e0:i=0
     ·exact absurd (zDT (first e0)) c1
     ·exact hne (by omega)
   ·rintro ys H2 hly ⟨sm2,hys,hne⟩ D hD
    have hnl:k.parts.length≠0:=fun e=>wf.alt k hkm hc (List.length_eq_zero_iff.mp e)
    have hyne:=hne (by omega)
    have hyp:0 < ys.length:=Nat.pos_of_ne_zero fun e=>hyne (List.length_eq_zero_iff.mp e)
    have sD:=Same.new hD (.lst ys)
    have s12:=sm2.trans sD
    have Df:D≠f':=Ne.symm (neN (sm2 _ _ h1) hD)
    refine (xbm _ rfl _ rfl _ rfl D _ rfl (.inl (SqL.of ups)) (xay f' p1 q1 _ rfl (s12 _ _ h1) (by omega) (by omega) (fun r H5 r0 r1 f5=>?_)))
    obtain ⟨i,rfl⟩:∃ i:Nat,r=(i:Int):=⟨r.toNat,by omega⟩
    have hi':i < ys.length:=by omega
    have t2:=t1.same s12
    have tp5:=xah t2.fd f5
    obtain ⟨b,p,eb,hb,hpm,hsm⟩:=((hys ys[i] (List.getElem_mem hi')).tups fun b us q=>sD _ _ q).tups tp5
    have hat:atI ys (i:Int)=some (.ref b):=xaz (by rw [zGA hi',eb])
    refine (xds D _ _ _ rfl rfl (SqL.of (f5.1 _ _ ups Df)) hat b (xd2 _ rfl (SqT.of hb) rfl _ _ rfl _ _ rfl ⟨rfl,?_⟩))
    have t5:=t2.fed f5
    refine (xap _ rfl _ rfl _ rfl _ rfl _ rfl (xbl _ rfl _ rfl _ _ rfl rfl _ rfl ?_))
    refine (xbo (7 * m + j') (by omega) f' kv bv ks (xam bs p.2 (room - 1) m j' rfl rfl (by omega) t5 m8 (jAA (hkp p hpm) (by omega) (fun u du H7 f7 ru htu=>⟨(by walk_at "s"),fun t' ht'=>?_⟩))))
    have st:=Same.new ht' (.tup [.str (S "tag"),.str x,.str p.1,.ref u])
    exact q _ (tTag x p.1 du) _ ((((F1.same s12).trans f5).trans f7).same st) (xad t' _ rfl ups _ _ rfl rfl _ (xd1 _ rfl rfl _ _ rfl rfl _ _ rfl ⟨ru.same st _,rfl⟩)) ⟨TmB.le (xok wf hkx hc hpm htu.1) (by omega),xhw (n:=7 * m + j' + 2) (by omega) (.inr (.inr (.inr (.inr (.inl (jEE _ _ (jEA _ (xca _ _ _ _ (by omega) htu.2) rfl)))))))⟩
  | true=>
   rw [if_pos hc] at es
   refine (xan _ rfl rfl _ rfl (iteKF (zDF (by rw [hss,xcj hc]; decide +kernel)) ?_))
   refine hR2 _ _ (xag fun R3 hR3=>?_)
   refine (xan _ rfl rfl _ rfl (iteKF (zDF (by rw [hss,xcj hc]; decide +kernel)) ?_))
   refine hR3 _ _ (xag fun R4 hR4=>?_)
   refine (xc0 _ rfl _ rfl _ rfl kv ks (xc3 x rfl t1.kd wf hxin (fun H2 s2=>(xav _ _ rfl rfl ?_))))
   refine hR4 _ _ (xag fun R5 hR5=>?_)
   refine ⟨(by walk_at "s"),fun tl htl=>?_⟩
   refine hR5 _ _ (xag fun R6 hR6=>?_)
   have s12:=s2.trans (Same.new htl (.lst []))
   have htl1:=xdh s2 htl
   have tlf:tl≠f':=Ne.symm (neN h1 htl1)
   refine (xa9 _ rfl a rfl ⟨_,SqT.of (s12 _ _ ha)⟩ ?_)
   refine xcq (xs:=us) (fun i σ H'=>∃ (ws:List V) (ds:List D) (o12 o15:Option V),σ=[some (.ref f'),some kv,some bv,some (.str x),some (.int room),some (.int (m:Int)),some (.str (xed (kAt ks x))),some (.ref a),none,none,none,none,o12,some (.int (room - smK ks x)),some (.ref tl),o15]/\Fed f' H1 H'/\H' tl=some (.lst ws)/\RelDs H' ws ds/\All2 (fun e (p:Str×Str)=>TmB ks (7 * m + j' + 1) bs e p.2) ds (k.parts.take i)/\All2 (Tc (7 * m + j' + 1)) ds ((k.parts.take i).map fun p=>smK ks p.2 + (room - smK ks x) / (us.length:Int))) (xbb ([]) ([]) none none rfl ((Fed.refl h1).same s12) ups rfl (by rw [List.take_zero]; exact .nil) (by rw [List.take_zero]; exact .nil)) (fun i σ H' _ p=>?_) ?_ ?_
   ·obtain ⟨_,_,_,_,_,fm,_⟩:=p
    exact SqT.of (xah t1.fd fm _ _ ha)
   ·rintro i vv σ H3 hvv ⟨ws,ds,o12,o15,rfl,fm,hws,rws,hall,hcnt⟩
    have tp:=xah t1.fd fm
    obtain ⟨d',hd2,rd2⟩:=hus.get hvv
    rw [zGM] at hd2
    obtain ⟨pr,hpr,rfl⟩:=zMS hd2
    obtain ⟨b,ws',rfl,hb,_,_,rfl,rfl,_,_,rfl,rfl,rfl⟩:=rd2
    have hpm:=zMG hpr
    have t3:=t1.fed fm
    have hwl:=rws.length
    have hal:=hall.length
    rw [List.length_take] at hal
    have hi':i < us.length:=(zES hvv).1
    refine (xak b _ rfl (SqT.of (tp _ _ hb)) rfl _ _ rfl _ (jEAA _ rfl rfl ?_))
    refine (xan _ rfl (.inl (jAE rfl _ (SqL.of hws))) _ rfl (xap _ rfl _ rfl _ rfl _ rfl _ rfl (xbd kv ks pr.2 rfl t3.kd wf (xhe wf hkm hpm) (fun H4 s4=>?_))))
    have hdv:0<=(room - smK ks x) / (us.length:Int):=Int.ediv_nonneg (by omega) (by omega)
    refine (xbf _ rfl _ rfl a _ rfl (.inr (SqT.of (s4 _ _ (tp _ _ ha)))) _ (xc1 _ rfl rfl ⟨by omega,by omega⟩ (xav _ _ rfl rfl (jEA _ rfl ?_))))
    have t4:=t3.same s4
    refine (xbo (7 * m + j') (by omega) f' kv bv ks (xam bs pr.2 (smK ks pr.2 + (room - smK ks x) / (us.length:Int)) m j' rfl rfl (by omega) t4 m8 (jAA (hkp pr hpm) (by omega) (fun u du H5 f5 ru htu=>?_))))
    have hw5:=f5.1 _ _ (s4 _ _ hws) tlf
    have rw5:=(rws.same s4 _).tups (xah t4.fd f5) _
    refine (xdt tl ws _ rfl rfl hw5 (xa7 (by omega)) _ (ds++[du]) (xa5 _ _ rfl (Fed.put ((fm.same s4).trans f5) htl1 tlf _) ups ((rw5.tups (xbc hw5 _) _).append (xav (.ref u) ([]) rfl (ru.tups (xbc hw5 _) _) rfl)) ?_ ?_))
    ·rw [zTA,hpr]
     exact xht hall htu.1
    ·rw [zTA,hpr,zAP]
     exact xht hcnt htu.2
   ·rintro σ H3 ⟨ws,ds,o12,o15,rfl,fm,hws,rws,hall,hcnt⟩
    rw [zTL (by omega)] at hall hcnt
    refine hR6 _ _ ?_
    refine (jEA _ rfl (xei _ rfl tl ws rfl (.inl ⟨SqL.of hws,fun t2 ht2=>⟨(by walk_at "s"),fun t3 ht3=>?_⟩⟩)))
    have y2:=Same.new ht2 (.tup ws)
    have y3:=Same.new ht3 (.tup [.str (S "rec"),.str x,.ref t2])
    exact q _ (tRec x ds) _ ((F1.trans fm).same (y2.trans y3)) (xad t3 _ rfl ups _ _ rfl rfl _ (xb4 _ rfl rfl _ _ rfl (xav t2 ws rfl (y3 _ _ ups) (rws.same (y2.trans y3) _)) rfl)) ⟨TmB.le (xol hkx hc (by omega) hall) (by omega),xhw (n:=7 * m + j' + 2) (by omega) (.inr (.inr (.inl (xe8 _ _ _ hcnt (xq6 hl (by omega) es) (by have:=hall.length; omega) rfl))))⟩
end
structure Hold (R:Prop):Prop where
 go:R
theorem xm0 {R A:Prop} (h:Hold R->A) (r:R):A:=h ⟨r⟩
theorem DefIs.anyP {P:Program} {w:World} {K:PySem.W.Frag} {mg:Str->Option Value} {base:Heap} {n:Nat} {x:Str} {st:Stmt} {ps:List Str} {Pr:Nat->Prop} {sps:Nat->Sp} (T:DefTx K mg x st ps) (D:∀ m,Pr m->DefIs P w K mg base n x ps (sps m)):DefIs P w K mg base n x ps (fun vs H Q E=>∃ m,Pr m/\sps m vs H Q E):=by
 by_cases hP:∃ m,Pr m
 ·obtain ⟨m0,h0⟩:=hP
  obtain ⟨f,fd,F,b,k,mm,l⟩:=(D m0 h0).ex
  refine ⟨f,(xc3 fd ⟨?_,?_⟩ b k mm l)⟩
  ·rintro vs H Q E ⟨m,hm,h⟩
   obtain ⟨f2,fd2,F2,_⟩:=(D m hm).ex
   exact F2.1 vs H Q E h
  ·rintro A outer s H args us vs Q E h1 h2 h3 h4 ⟨m,hm,h⟩
   obtain ⟨f2,fd2,F2,b2,k2,mm2,l2⟩:=(D m hm).ex
   rw [mm] at mm2
   cases mm2
   obtain ⟨oc,od,osl,l⟩:=l
   obtain ⟨_,_,_,l2⟩:=l2
   rw [l] at l2
   cases l2
   exact F2.2 A outer s H args us vs Q E h1 h2 h3 h4 h
 ·exact DefIs.none T fun vs H Q E h=>hP ⟨h.choose,h.choose_spec.1⟩
def xti (c:Nat):Sp:=fun vs H Q E=>∃ m,7 * m + 6 < c/\xlf m vs H Q E
theorem xk7 {z:Str}:∀ {bs:List (Str×Str)},(∀ b∈bs,b.1≠z)->∀ acc,valV (xaw acc (bKV bs)) (Sum.inr z)=valV acc (Sum.inr z)
 | [],_,acc=>rfl
 | b :: bs,h,acc=>by
  have:=xk7 (bs:=bs) (fun b' hb=>h b' (by simp [hb])) (putK acc (Sum.inr b.1) (.str b.2))
  show valV (xaw (putK acc (Sum.inr b.1) (.str b.2)) (bKV bs)) (Sum.inr z)=_
  rw [this,xfc,if_neg]
  intro e
  exact h b (by simp) (Sum.inr.inj e).symm
theorem xod {z k:Str}:∀ {bs:List (Str×Str)},(bs.map (·.1)).Nodup->(z,k)∈bs->∀ acc,valV (xaw acc (bKV bs)) (Sum.inr z)=some (.str k)
 | b :: bs,nd,h,acc=>by
  rw [List.map_cons,List.nodup_cons] at nd
  show valV (xaw (putK acc (Sum.inr b.1) (.str b.2)) (bKV bs)) (Sum.inr z)=_
  rcases zMC h with h | h
  ·subst h
   rw [xk7 (bs:=bs) (fun b' hb e=>nd.1 (List.mem_map.mpr (jEA b' hb e))),xfc,if_pos rfl]
  ·exact xod nd.2 h _
theorem xp1 {ks:List Kn} (wf:KWf ks) {y:Str} (h:KIn ks 6 y) {H:Hp} {v:V} (rp:RelD H v (xmu (kAt ks y))):∃ ps,RelD H v (xdd ps)/\ps.length<=5/\(xed (kAt ks y)=S "rec"->∃ k,kAt ks y=some k/\k.rc=true/\k.parts=ps)/\(xed (kAt ks y)=S "alt"->∃ k,kAt ks y=some k/\k.rc=false/\k.parts=ps):=by
 rcases h.look wf with ⟨rfl,e⟩ | ⟨j,k,hj,e,hn,hm,hp⟩
 ·rw [e] at rp ⊢
  exact (xc1 ([]) rp (by decide) (fun z=>absurd z (by walk_at "k")) (fun z=>absurd z (by walk_at "k")))
 ·rw [e] at rp ⊢
  refine (xc1 k.parts rp (by have:=wf.pts k hm; omega) (fun z=>(jEAA k rfl ?_ rfl)) (fun z=>(jEAA k rfl ?_ rfl)))
  ·cases hc:k.rc with
   | true=>rfl
   | false=>
    have z':k.sort=S "rec":=z
    rw [xcr hc] at z'
    exact absurd z' (by walk_at "k")
  ·cases hc:k.rc with
   | false=>rfl
   | true=>
    have z':k.sort=S "alt":=z
    rw [xcj hc] at z'
    exact absurd z' (by walk_at "k")
def HdAt (H:Hp) (ks:List Kn) (bs:List (Str×Str)) (x:Str) (w:V):Prop:=∃ (b:Addr) (z g y:Str) (k:Kn),w=.ref b/\H b=some (.tup [.str z,.str g])/\(z,y)∈bs/\kAt ks y=some k/\k.rc=true/\(g,x)∈k.parts
theorem HdAt.tups {H H':Hp} {ks:List Kn} {bs:List (Str×Str)} {x:Str} {w:V} (h:HdAt H ks bs x w) (s:∀ b us,H b=some (.tup us)->H' b=some (.tup us)):HdAt H' ks bs x w:=by
 obtain ⟨b,z,g,y,k,e,hb,r⟩:=h
 exact (xas b z g y k (jAA e (s _ _ hb) r))
def TgOk (ks:List Kn) (bs:List (Str×Str)) (z:Str):Prop:=∃ (y:Str) (k:Kn),(z,y)∈bs/\kAt ks y=some k/\k.rc=false
section
variable {P:Program} {w:World} {K:PySem.W.Frag} {mg:Str->Option Value} {base:Heap} {n m:Nat}
theorem xrm (T:Tx K mg) {c:Nat} (Dl_take:DefIs P w K mg base n "_law_take" qab xcy) (Dl_boxed:DefIs P w K mg base n "_law_boxed" qas xo2) (Dl_small:DefIs P w K mg base n "_law_small" qaa (spSm smK 6)) (Dl_sort_of:DefIs P w K mg base n "_law_sort_of" qaa xdw) (Dl_term:DefIs P w K mg base n "_law_term" qaf (xq8 c)) (Dl_arms:DefIs P w K mg base n "_law_arms" qa6 (xti c)) (Dl_whole_term:DefIs P w K mg base n "_law_whole_term" qaf (spTw c)) :
  DefIs P w K mg base (n + 1) "_law_term" qaf (spTw c):=by
 refine DefIs.of T.dl_term scl_term ?_ ?_ <;> walk_at "i"
 ·obtain ⟨_,_,_,_,_,_,_,_,_,rfl,_⟩:=h
  rfl
 obtain ⟨f',kv,bv,ks,bs,x,room,m,j,rfl,hcm,hj6,ti,m8,hxj,hroom,q⟩:=h
 have nd:=scl_term.nd
 have hu:=xfn hr
 have wf:=ti.wf
 have hxin:KIn ks 6 x:=hxj.mono hj6
 have hsb:=xfd wf x
 refine ⟨_,(zpn (xb1 (i:=6) qa8 [none,none,some 3] rfl (by kernel_rfl) nd rfl (by walk_at "o") (xdk (pv 2)) (fun _ _ _ _=>(xcs (K:=K) (n:=2) rfl rfl (xac (xab (i:=0) (by show List.Nodup (qa8:List Str); decide +kernel) rfl (Or.inl rfl)) (xac (xab (i:=1) (by show List.Nodup (qa8:List Str); decide +kernel) rfl (Or.inl rfl)) xa0)))) (fun _ _ _ _=>(xc9 (pR xa4 (pv 1) (pv 2) (nM _)))) (fun _ _ _ _=>(pv 0)))
   (zpn (xal (i:=7) nd rfl (by walk_at "o") (pd Dl_take hr (pc (pv 0) (pc pI pN zso) zsn)))
   (zpn (xa1 (PW.pt (xd6 (pR xe6 (xax xao rfl T.z_len PySem.boot_len (pc (pv 6) pN zsn)) pI (nM _)) (xc8 (pR xnv (pv 7) pI (nM _))))) (po (xae (pd Dl_boxed hr (pc (pv 0) (pc (pv 6) pN zsn) zsn)))) pQ)
   (zpn (xal (i:=8) nd rfl (by walk_at "o") (pd Dl_small hr (pc (pv 1) (pc (pv 3) pN zsn) zsn)))
   (zpn (xa1 (PW.pt (xd6 (pR xa4 (pv 7) pI (nM _)) (xd6 (pR xe6 (pv 5) pI (nM _)) (xc8 (pR xe6 (pv 4) (xaq xbt (xaq xdp pI (pv 8)) pI) (nM _)))))) (zpn (xal (i:=9) nd rfl (by walk_at "o") (xaq xb9 (xaq xcm (xaq xcm (pv 4) pI) (xaq xdp pI (pv 8))) pI))
   (zpn (xal (i:=10) nd rfl (by walk_at "o") (pd Dl_term hr (pc (pv 0) (pc (pv 1) (pc (pv 2) (pc pS (pc (xaq xbt pI (pv 9)) (pc (xaq xcm (pv 5) pI) pN xa8) xa8) zso) zsn) zsn) zsn)))
   (zpn (xal (i:=11) nd rfl (by walk_at "o") (pd Dl_term hr (pc (pv 0) (pc (pv 1) (pc (pv 2) (pc (pv 3) (pc (xaq xbt (pv 8) (pv 9)) (pc (xaq xcm (pv 5) pI) pN xa8) xa8) zsn) zsn) zsn) zsn)))
   (po (xae (xar (pc pS (pc (pv 10) (pc (pv 11) (pc (pd Dl_term hr (pc (pv 0) (pc (pv 1) (pc (pv 2) (pc (pv 3) (pc (xaq xbt (pv 8) (pv 9)) (pc (xaq xcm (pv 5) pI) pN xa8) xa8) zsn) zsn) zsn) zsn)) pN zsc) zsn) zsn) zso))))))) pQ)
   (zpn (xa1 (PW.pt (xd6 (pR xa4 (pv 7) pI (nM _)) (xc8 (pR xe6 (pv 4) pI (nM _))))) (zpn (xal (i:=12) nd rfl (by walk_at "o") (xb6 pN))
   (zpn (xcf PassesOwn.never rfl (xdk (pv 2)) (xbr rfl (xac (xab (i:=13) nd rfl (by walk_at "o")) (xac (xab (i:=14) nd rfl (by walk_at "o")) xa0)))
   (zpn (xcz (pd Dl_sort_of hr (pc (pv 1) (pc (pv 14) pN zsn) zsn)) (xbr rfl (xac (xab (i:=15) nd rfl (by walk_at "o")) (xac (xab (i:=16) nd rfl (by walk_at "o")) xa0))))
   (po (xal (i:=12) nd rfl (by walk_at "o") (xaq xh8 (pv 12) (xbu qa9 [none,none,some 13,some 15,some 3] rfl (by kernel_rfl) (xbi (pv 16)) (fun _ _ _ _=>(xcs (K:=K) (n:=2) rfl rfl (xac (xab (i:=0) (by show List.Nodup (qa9:List Str); decide +kernel) rfl (Or.inl rfl)) (xac (xab (i:=1) (by show List.Nodup (qa9:List Str); decide +kernel) rfl (Or.inl rfl)) xa0)))) (fun _ _ _ _=>(xc9 (PW.pt (xd6 (pR xa4 (pv 3) pS (nM _)) (xc8 (pR xa4 (pv 1) (pv 4) (nM _))))))) (fun _ _ _ _=>(xar (pc (pv 2) (pc (pv 0) pN zsn) zsn)))))))))
   (po (xa1 (pR xe6 (xax xao rfl T.z_len PySem.boot_len (pc (pv 12) pN zsn)) pI (nM _)) (zpn (xcz (xaj iL (pv 12) (pd Dl_take hr (pc (pv 0) (pc (xax xao rfl T.z_len PySem.boot_len (pc (pv 12) pN zsn)) pN zsc) zsn)) (fun _ _=>rfl)) (xbr rfl (xac (xab (i:=13) nd rfl (by walk_at "o")) (xac (xab (i:=17) nd rfl (by walk_at "o")) xa0))))
   (po (xae (xar (pc pS (pc (xar (pc pS (pc (pv 13) pN zsn) zso)) (pc (pv 17) pN zsn) sT) zso))))) pQ)))) pQ)
   (zpn (xa1 (PW.pt (xd6 (pR xa4 (pv 7) pI (nM _)) (xc8 (pR xe6 (pv 5) pI (nM _))))) (zpn (xb1 (i:=18) qba [none,none,some 1] rfl (by kernel_rfl) nd rfl (by walk_at "o") (xdk (pv 2)) (fun _ _ _ _=>(xcs (K:=K) (n:=2) rfl rfl (xac (xab (i:=0) (by show List.Nodup (qba:List Str); decide +kernel) rfl (Or.inl rfl)) (xac (xab (i:=1) (by show List.Nodup (qba:List Str); decide +kernel) rfl (Or.inl rfl)) xa0)))) (fun _ _ _ _=>(xc9 (pR xa4 (xaj (xcu (K:=K) rfl) (pd Dl_sort_of hr (pc (pv 2) (pc (pv 1) pN zsn) zsn)) pI (fun _ _=>rfl)) pS (nM _)))) (fun _ _ _ _=>(pv 0)))
   (po (xa1 (pR xe6 (xax xao rfl T.z_len PySem.boot_len (pc (pv 18) pN zsn)) pI (nM _)) (zpn (xal (i:=13) nd rfl (by walk_at "o") (xaj iL (pv 18) (pd Dl_take hr (pc (pv 0) (pc (xax xao rfl T.z_len PySem.boot_len (pc (pv 18) pN zsn)) pN zsc) zsn)) (fun _ _=>rfl)))
   (zpn (xal (i:=16) nd rfl (by walk_at "o") (xaj xai (pd Dl_sort_of hr (pc (pv 1) (pc (xcl hu (xat (xf6 rfl) rfl T.z_dict PyProof.Rows.boot_dict (pc (pv 2) pN zsn)) (pv 13) (fun _ _=>rfl)) pN zss) zsn)) pI (fun _ _=>rfl)))
   (po (xa1 (pR xvi (xaq xcm (pv 4) pI) (xaq xdp (pv 8) (xax xao rfl T.z_len PySem.boot_len (pc (pv 16) pN zsn))) (nM _)) (po (xae (xar (pc pS (pc (xar (pc pS (pc (pv 13) pN zsn) zso)) (pc (pd Dl_arms hr (pc (pv 0) (pc (pv 1) (pc (pv 2) (pc (pv 16) (pc (pv 3) (pc (xaq xcm (pv 4) pI) (pc (pv 5) pN zsn) xa8) zsn) zsn) zsn) zsn) zsn)) pN zsc) sT) zso)))) pQ)))) pQ))) pQ)
   (po (xae (pd Dl_whole_term hr (pc (pv 0) (pc (pv 1) (pc (pv 2) (pc (pv 3) (pc (pv 4) (pc (pv 5) pN zsn) zsn) zsn) zsn) zsn) zsn))))))))))),?_⟩
 refine xag fun R1 hR1=>?_
 obtain ⟨p0,q0,hf⟩:=ti.fd
 have hbx:=ti.bx
 obtain ⟨bl,ub,rfl,hbl,hub,blf⟩:=hbx
 have hul:=hub.length
 rw [zLM] at hul
 have hbl30:=ti.bl
 refine (xa9 _ rfl bl rfl ⟨_,SqL.of hbl⟩ ?_)
 refine xdu (xs:=ub) (fun i ys H'=>H'=H/\∃ zs:List Str,ys=zs.map V.str/\(∀ z∈zs,(z,x)∈bs)/\zs.length<=i) (xhg rfl ([]) rfl (fun _ h=>nomatch h) (Nat.le_refl _)) (xa7 (by omega)) (fun i ys H' _ p=>by obtain ⟨rfl,_⟩:=p; exact SqL.of hbl) ?_ ?_
 ·rintro i y ys H' hy hi2 hly ⟨rfl,zs,rfl,hzs,hzl⟩
  obtain ⟨d',hd2,rd2⟩:=hub.get hy
  rw [zGM] at hd2
  obtain ⟨pr,hpr,rfl⟩:=zMS hd2
  obtain ⟨b,ws',rfl,hb,_,_,rfl,rfl,_,_,rfl,rfl,rfl⟩:=rd2
  refine (xak b _ rfl (SqT.of hb) rfl _ _ rfl _ (xc1 _ rfl rfl (ext2 rfl rfl) ?_))
  refine (xd0 _ rfl _ rfl rfl _ rfl ?_)
  by_cases hpx:pr.2=x
  ·refine iteKT (zDT (by rw [hpx])) (jEA _ rfl (nxtG hi2 hly (xhg rfl (zs++[pr.1]) (by rw [zAP]; rfl) (fun z hz=>?_) (by rw [zLA,List.length_singleton]; omega))))
   rcases zMA hz with hz | hz
   ·exact hzs z hz
   ·rw [zMO hz,<- hpx]
    exact zMG hpr
  ·exact iteKF (zDF fun z=>hpx (V.str.inj z)) (nxtN hi2 hly (xhg rfl zs rfl hzs (by omega)))
 rintro ys H2 hly ⟨rfl,zs,rfl,hzs,hzl⟩ D hD
 have sD:=Same.new hD (.lst (zs.map V.str))
 have t1:=ti.same sD
 have F1:=(Fed.refl hf).same sD
 have Df:D≠f':=Ne.symm (neN hf hD)
 refine hR1 _ _ (xag fun R2 hR2=>?_)
 refine (xaa _ rfl f' p0 q0 _ rfl (sD _ _ hf) (by decide) (by decide) (fun fm H1 m0 m1 f1=>?_))
 have t2:=t1.fed f1
 have F2:=F1.trans f1
 obtain ⟨p2,q2,h2⟩:=t2.fd
 have hD2:=f1.1 _ _ ups Df
 have zl:(zs.map V.str).length=zs.length:=zLM _
 refine hR2 _ _ (xag fun R3 hR3=>?_)
 apply xm0
 ·intro key
  refine (xcd _ rfl D _ rfl (.inl (SqL.of hD2)) _ _ rfl rfl (jEA _ rfl (ite2 (fun c1=>?_) (fun c1=>?_))))
  ·refine (xbk _ rfl _ _ rfl rfl _ rfl (ite2 (fun c2=>?_) (fun c2=>?_)))
   ·have hzp:=of_decide_eq_true c1
    rw [zl] at hzp
    exact (xa6 _ rfl _ rfl f' D p2 (xa5 q2 zs rfl h2 hD2 (List.length_pos_iff.mp (by omega)) (by omega) ⟨Df,fun z t H' hz fz rz=>q t (tBox z) H' (F2.trans fz) rz ⟨xjc (hzs z hz),xjb (by have:=(xfd wf x).1; omega)⟩⟩))
   ·exact key.go
  ·exact iteF key.go
 refine hR3 _ _ (xag fun R4 hR4=>?_)
 refine (xce _ rfl _ rfl kv ks x rfl t2.kd wf ⟨hxin,fun H3 s3=>?_⟩)
 have t3:=t2.same s3
 have F3:=F2.same s3
 obtain ⟨p3,q3,h3⟩:=t3.fd
 have hbx3:=t3.bx
 obtain ⟨bl3,ub3,e3b,hbl3,hub3,blf3⟩:=hbx3
 cases e3b
 have hul3:=hub3.length
 rw [zLM] at hul3
 refine hR4 _ _ (xag fun R5 hR5=>?_)
 by_cases e3:fm=3
 ·refine (xan _ rfl rfl _ rfl (iteKT (zDT (by rw [e3])) ?_))
  apply xm0
  ·intro key
   refine (xbk _ rfl _ _ rfl rfl _ rfl (ite2 (fun c2=>?_) (fun c2=>iteF key.go)))
   refine (xb0 _ rfl _ rfl _ _ rfl rfl (jAE (.inr ⟨by omega,by omega⟩) _ (xb4 _ rfl rfl _ _ rfl rfl (jEA _ rfl (ite2 (fun c3=>?_) (fun c3=>key.go))))))
   have c2':(0:Int) < (m:Int):=of_decide_eq_true c2
   have c3':2 * smK ks x + 1 < room:=of_decide_eq_true c3
   obtain ⟨m',rfl⟩:∃ m',m=m' + 1:=⟨m - 1,by omega⟩
   have hj1:(((m' + 1:Nat):Int)) - 1=(m':Int):=by omega
   refine (xbk _ rfl _ _ rfl rfl _ rfl (xcp _ _ rfl rfl (.inr ⟨by omega,by omega⟩) (xav _ _ rfl rfl (xcp _ _ rfl rfl ⟨by decide,by decide⟩ ?_))))
   have hm0:0<=(room - 2 - 2 * smK ks x) / 3:=Int.ediv_nonneg (by omega) (by decide)
   refine (xc6 _ rfl _ rfl _ rfl _ rfl _ (xan _ rfl rfl _ rfl (xav _ _ rfl rfl ?_)))
   refine (xbo (7 * m') (by omega) f' kv (.ref bl) ks (xam bs (S "num") (1 + (room - 2 - 2 * smK ks x) / 3) m' 0 (xn5 hj1) rfl (by decide) (t3.down (by omega)) (by omega) (jAA (.inl rfl) (by rw [(xg3 wf).1]; omega) (fun u1 d1 H5 f5 ru1 ht1=>?_))))
   have t5:=t3.fed f5
   refine (xap _ rfl _ rfl _ rfl _ rfl _ rfl (xbk _ rfl _ _ rfl rfl _ rfl (xav _ _ rfl rfl ?_)))
   refine (xbo (7 * m' + j) (by omega) f' kv (.ref bl) ks (xam bs x (smK ks x + (room - 2 - 2 * smK ks x) / 3) m' j (xn5 hj1) rfl hj6 (t5.down (by omega)) (by omega) (jAA hxj (by omega) (fun u2 d2 H6 f6 ru2 ht2=>?_))))
   have t6:=t5.fed f6
   refine (xap _ rfl _ rfl _ rfl _ rfl _ rfl (xbm _ rfl _ rfl _ rfl _ _ rfl rfl (xbe _ rfl _ _ rfl rfl ?_)))
   refine (xbo (7 * m' + j) (by omega) f' kv (.ref bl) ks (xam bs x (smK ks x + (room - 2 - 2 * smK ks x) / 3) m' j (xn5 hj1) rfl hj6 (t6.down (by omega)) (by omega) (jAA hxj (by omega) (fun u3 d3 H7 f7 ru3 ht3=>⟨(by walk_at "s"),fun t ht=>?_⟩))))
   have st:=Same.new ht (.tup [.str (S "if"),.ref u1,.ref u2,.ref u3])
   exact q _ (tIfD d1 d2 d3) _ ((((F3.trans f5).trans f6).trans f7).same st) (xad t _ rfl ups _ _ rfl rfl _ (xd1 _ rfl (((ru1.tups (xah t5.fd f6) _).tups (xah t6.fd f7) _).same st _) _ _ rfl ((ru2.tups (xah t6.fd f7) _).same st _) _ _ rfl ⟨ru3.same st _,rfl⟩)) ⟨TmB.le (xwj wf (TmB.le ht1.1 (by omega)) ht2.1 ht3.1) (by omega),xhw (n:=7 * m' + j + 2) (by omega) (.inr (.inr (.inr (.inr (.inr (.inr (xas _ _ _ _ _ (xc3 _ (xhw (by omega) ht1.2) ht2.2 ht3.2 (by omega) rfl))))))))⟩
  refine hR5 _ _ (xag fun R6 hR6=>?_)
  refine (xan _ rfl rfl _ rfl (iteKF (zDF fun z=>absurd (V.int.inj z) (by omega)) (iteF ?_)))
  refine hR6 _ _ (xag fun R7 hR7=>?_)
  refine (xan _ rfl rfl _ rfl (iteKF (zDF fun z=>absurd (V.int.inj z) (by omega)) (iteF ?_)))
  refine hR7 _ _ ?_
  exact (xap _ rfl _ rfl _ rfl _ rfl _ rfl (xbo _ rfl f' kv (.ref bl) ks (xam bs x room m j rfl hcm hj6 t3 m8 (jAA hxj hroom (fun a d H' fd ra ha=>q a d H' (F3.trans fd) ra ha)))))
 refine (xan _ rfl rfl _ rfl (iteKF (zDF fun z=>e3 (V.int.inj z)) (iteF ?_)))
 refine hR5 _ _ (xag fun R6 hR6=>?_)
 by_cases e4:fm=4
 ·refine (xan _ rfl rfl _ rfl (iteKT (zDT (by rw [e4])) ?_))
  refine (xbk _ rfl _ _ rfl rfl _ rfl (ite2 (fun c2=>?_) (fun c2=>?_)))
  ·refine ⟨(by walk_at "s"),fun hd hhd=>?_⟩
   have s4:=Same.new hhd (.lst [])
   refine (xa9 _ rfl bl rfl ⟨_,SqL.of (s4 _ _ hbl3)⟩ ?_)
   refine xm8 (xs:=ub3) (fun i σ H'=>∃ (ha:Addr) (ws:List V) (o13 o14 o15 o16:Option V),σ=[some (.ref f'),some kv,some (.ref bl),some (.str x),some (.int room),some (.int (m:Int)),some (.ref D),some (.int fm),some (.int (smK ks x)),none,none,none,some (.ref ha),o13,o14,o15,o16,none,none]/\Same H3 H'/\H' ha=some (.lst ws)/\ha≠f'/\(∀ w∈ws,HdAt H' ks bs x w)/\ws.length<=5 * i)
    (xas hd ([]) none none none (xdl none rfl s4 ups (Ne.symm (neN h3 hhd)) (fun _ h=>nomatch h) (Nat.zero_le _))) (fun i σ H' _ p=>?_) ?_ ?_
   ·obtain ⟨_,_,_,_,_,_,_,sm,_⟩:=p
    exact SqL.of (sm _ _ hbl3)
   ·rintro i vv σ H4 hvv ⟨ha,ws,o13,o14,o15,o16,rfl,sm,hws,haf,hall,hwl⟩
    obtain ⟨d',hd2,rd2⟩:=hub3.get hvv
    rw [zGM] at hd2
    obtain ⟨pr,hpr,rfl⟩:=zMS hd2
    obtain ⟨b,ws',rfl,hb,_,_,rfl,rfl,_,_,rfl,rfl,rfl⟩:=rd2
    have hpm:=zMG hpr
    have hi':i < ub3.length:=(zES hvv).1
    refine (xak b _ rfl (SqT.of (sm _ _ hb)) rfl _ _ rfl _ (jEAA _ rfl rfl ?_))
    refine (xbh _ rfl _ rfl kv ks pr.2 rfl ((wf.ksAt (t3.kd.same sm _)).seq) (fun t pv' H5 s5 ht rp=>?_))
    refine (xak t _ rfl (SqT.of ht) rfl _ _ rfl _ (jEAA _ rfl rfl ?_))
    obtain ⟨ps,rps,h5,hrec,halt⟩:=xp1 wf (t3.kn pr hpm) rp
    obtain ⟨a,us,rfl,hpa,hus⟩:=rps
    have hl:=hus.length
    rw [zLM] at hl
    refine (xcx _ rfl _ rfl a rfl ⟨_,SqT.of hpa⟩ ?_)
    refine xbn (xs:=us) (fun i ys H'=>Same H5 H'/\(∀ w∈ys,HdAt H' ks bs x w)/\ys.length<=i) (jAA (Same.refl _) (fun _ h=>nomatch h) (Nat.le_refl _)) (xa7 (by omega)) (fun i ys H' _ p=>SqT.of (p.1 _ _ hpa)) ?_ ?_
    ·rintro i2 y ys H' hy hi2 hly ⟨sm2,hys,hyl⟩
     obtain ⟨d',hd2,rd2⟩:=hus.get hy
     rw [zGM] at hd2
     obtain ⟨pt,hpt,rfl⟩:=zMS hd2
     obtain ⟨b2,ws2,rfl,hb2,_,_,rfl,rfl,_,_,rfl,rfl,rfl⟩:=rd2
     refine (xak b2 _ rfl (SqT.of (sm2 _ _ hb2)) rfl _ _ rfl _ (xc1 _ rfl rfl (ext2 rfl rfl) ?_))
     refine (xan _ rfl rfl _ rfl ?_)
     by_cases hs:xed (kAt ks pr.2)=S "rec"
     ·refine iteKT (zDT (congrArg V.str hs)) ?_
      refine (xd0 _ rfl _ rfl rfl _ rfl ?_)
      by_cases hpx:pt.2=x
      ·refine iteKT (zDT (by rw [hpx])) (xa9 _ rfl _ rfl (by walk_at "s") (fun t2 ht2=>nxtG hi2 hly (jAA (sm2.trans (Same.new ht2 _)) (fun z hz=>?_) (by rw [zLA,List.length_singleton]; omega))))
       rcases zMA hz with hz | hz
       ·exact (hys z hz).tups fun b us q=>Same.new ht2 _ _ _ q
       ·obtain ⟨k,hk,hrc,hkp⟩:=hrec hs
        rw [zMO hz]
        exact (xam t2 pr.1 pt.1 pr.2 k rfl ups hpm hk hrc (by rw [hkp,<- hpx]; exact zMG hpt))
      ·exact iteKF (zDF fun z=>hpx (V.str.inj z)) (nxtN hi2 hly (jAA sm2 hys (by omega)))
     ·exact iteKF (zDF fun z=>hs (V.str.inj z)) (iteF (nxtN hi2 hly (jAA sm2 hys (by omega))))
    ·rintro ys H6 hly ⟨sm2,hys,hyl⟩ D2 hD2'
     have sD2:=Same.new hD2' (.lst ys)
     have s56:=s5.trans (sm2.trans sD2)
     refine (xbb ha D2 _ _ rfl rfl (s56 _ _ hws) ups (fits (by omega)) (fun l3 hl3=>?_))
     have sl:=Same.new hl3 (.lst (ws++ys))
     refine (xas l3 (ws++ys) _ _ _ (xdl _ rfl (sm.trans (s56.trans sl)) ups (Ne.symm (neN ((sm.trans s56) _ _ h3) hl3)) (fun z hz=>?_) (by rw [zLA]; omega)))
     rcases zMA hz with hz | hz
     ·exact (hall z hz).tups fun b us q=>(s56.trans sl) _ _ q
     ·exact (hys z hz).tups fun b us q=>(sD2.trans sl) _ _ q
   ·rintro σ H4 ⟨ha,ws,o13,o14,o15,o16,rfl,sm,hws,haf,hall,hwl⟩
    have t4:=t3.same sm
    have F4:=F3.same sm
    refine (xcd _ rfl ha _ rfl (.inl (SqL.of hws)) _ _ rfl rfl (jEA _ rfl (ite2 (fun c3=>?_) (fun c3=>?_))))
    ·have hwp:=of_decide_eq_true c3
     refine (xbm _ rfl _ rfl _ rfl ha _ rfl (.inl (SqL.of hws)) (xay f' p3 q3 _ rfl (sm _ _ h3) (by omega) (by omega) (fun r H6 r0 r1 f6=>?_)))
     obtain ⟨i,rfl⟩:∃ i:Nat,r=(i:Int):=⟨r.toNat,by omega⟩
     have hi':i < ws.length:=by omega
     obtain ⟨b,z,g,y,k,eb,hb,hz,hk,hrc,hg⟩:=(hall ws[i] (List.getElem_mem hi')).tups (xah t4.fd f6)
     have hat:atI ws (i:Int)=some (.ref b):=xaz (by rw [zGA hi',eb])
     refine (xds ha _ _ _ rfl rfl (SqL.of (f6.1 _ _ hws haf)) hat b (xd2 _ rfl (SqT.of hb) rfl _ _ rfl _ _ rfl ⟨rfl,?_⟩))
     refine (jEAA _ rfl (by walk_at "s") (fun t1 ht1=>(jEAA _ rfl (by walk_at "s") (fun t2 ht2=>?_))))
     have y1:=Same.new ht1 (.tup [.str (S "box"),.str z])
     have y2:=Same.new ht2 (.tup [.str (S "get"),.ref t1,.str g])
     exact q _ (tGet (tBox z) g) _ ((F4.trans f6).same (y1.trans y2)) (xad t2 _ rfl ups _ _ rfl rfl _ (xb4 _ rfl (xad t1 _ rfl (y2 _ _ ups) _ _ rfl rfl _ (jEAA _ rfl rfl rfl)) _ _ rfl rfl rfl)) ⟨xur (p:=(g,x)) wf hk hrc hg (xjc hz),.inr (.inr (.inr (.inl (jEEA _ _ (xjb (by have:=(xfd wf x).1; omega)) rfl))))⟩
    ·refine hR6 _ _ (xag fun R7 hR7=>?_)
     refine (xan _ rfl rfl _ rfl (iteKF (zDF fun z=>absurd (V.int.inj z) (by omega)) (iteF ?_)))
     refine hR7 _ _ ?_
     exact (xap _ rfl _ rfl _ rfl _ rfl _ rfl (xbo _ rfl f' kv (.ref bl) ks (xam bs x room m j rfl hcm hj6 t4 m8 (jAA hxj hroom (fun a d H' fd ra ha=>q a d H' (F4.trans fd) ra ha)))))
  ·refine hR6 _ _ (xag fun R7 hR7=>?_)
   refine (xan _ rfl rfl _ rfl (iteKF (zDF fun z=>absurd (V.int.inj z) (by omega)) (iteF ?_)))
   refine hR7 _ _ ?_
   exact (xap _ rfl _ rfl _ rfl _ rfl _ rfl (xbo _ rfl f' kv (.ref bl) ks (xam bs x room m j rfl hcm hj6 t3 m8 (jAA hxj hroom (fun a d H' fd ra ha=>q a d H' (F3.trans fd) ra ha)))))
 refine (xan _ rfl rfl _ rfl (iteKF (zDF fun z=>e4 (V.int.inj z)) (iteF ?_)))
 refine hR6 _ _ (xag fun R7 hR7=>?_)
 by_cases e5:fm=5
 ·refine (xan _ rfl rfl _ rfl (iteKT (zDT (by rw [e5])) ?_))
  refine (xbk _ rfl _ _ rfl rfl _ rfl (ite2 (fun c2=>?_) (fun c2=>?_)))
  ·have c2':(0:Int) < (m:Int):=of_decide_eq_true c2
   refine (xa9 _ rfl bl rfl ⟨_,SqL.of hbl3⟩ ?_)
   refine xdu (xs:=ub3) (fun i ys H'=>Same H3 H'/\∃ zs:List Str,ys=zs.map V.str/\(∀ z∈zs,TgOk ks bs z)/\zs.length<=i) (xhg (Same.refl _) ([]) rfl (fun _ h=>nomatch h) (Nat.le_refl _)) (xa7 (by omega)) (fun i ys H' _ p=>SqL.of (p.1 _ _ hbl3)) ?_ ?_
   ·rintro i y ys H' hy hi2 hly ⟨sm,zs,rfl,hzs,hzl⟩
    obtain ⟨d',hd2,rd2⟩:=hub3.get hy
    rw [zGM] at hd2
    obtain ⟨pr,hpr,rfl⟩:=zMS hd2
    obtain ⟨b,ws',rfl,hb,_,_,rfl,rfl,_,_,rfl,rfl,rfl⟩:=rd2
    have hpm:=zMG hpr
    refine (xak b _ rfl (SqT.of (sm _ _ hb)) rfl _ _ rfl _ (xc1 _ rfl rfl (ext2 rfl rfl) ?_))
    refine (xbh _ rfl _ rfl kv ks pr.2 rfl ((wf.ksAt (t3.kd.same sm _)).seq) (fun t pv' H5 s5 ht rp=>(xbb t _ _ _ rfl rfl (SqT.of ht) rfl rfl (jEA _ rfl ?_))))
    obtain ⟨ps,rps,h5,hrec,halt⟩:=xp1 wf (t3.kn pr hpm) rp
    by_cases hs:xed (kAt ks pr.2)=S "alt"
    ·refine iteKT (zDT (congrArg V.str hs)) (jEA _ rfl (nxtG hi2 hly (xhg (sm.trans s5) (zs++[pr.1]) (by rw [zAP]; rfl) (fun z hz=>?_) (by rw [zLA,List.length_singleton]; omega))))
     rcases zMA hz with hz | hz
     ·exact hzs z hz
     ·obtain ⟨k,hk,hrc,_⟩:=halt hs
      rw [zMO hz]
      exact (xav pr.2 k hpm hk hrc)
    ·exact iteKF (zDF fun z=>hs (V.str.inj z)) (nxtN hi2 hly (xhg (sm.trans s5) zs rfl hzs (by omega)))
   rintro ys H4 hly ⟨sm,tgs,rfl,htg,htl⟩ G hG
   have sG:=Same.new hG (.lst (tgs.map V.str))
   have s4:=sm.trans sG
   have t4:=t3.same s4
   have F4:=F3.same s4
   have Gf:G≠f':=Ne.symm (neN (sm _ _ h3) hG)
   have gl:(tgs.map V.str).length=tgs.length:=zLM _
   refine (xcd _ rfl G _ rfl (.inl (SqL.of ups)) _ _ rfl rfl (jEA _ rfl (ite2 (fun c3=>?_) (fun c3=>?_))))
   ·have hgp:=of_decide_eq_true c3
    rw [gl] at hgp
    refine (xbm _ rfl _ rfl _ rfl G _ rfl (.inl (SqL.of ups)) (xay f' p3 q3 _ rfl (s4 _ _ h3) (by rw [gl]; omega) (by rw [gl]; omega) (fun r H6 r0 r1 f6=>?_)))
    rw [gl] at r1
    obtain ⟨i,rfl⟩:∃ i:Nat,r=(i:Int):=⟨r.toNat,by omega⟩
    have hi':i < tgs.length:=by omega
    obtain ⟨y,k,hzy,hk,hrc⟩:=htg tgs[i] (List.getElem_mem hi')
    have hkm:=zMF hk
    have t6:=t4.fed f6
    have F6:=F4.trans f6
    have hbx6:=t6.bx
    obtain ⟨bl6,ub6,e6b,hbl6,hub6,blf6⟩:=hbx6
    cases e6b
    refine (xay G _ _ (.str tgs[i]) rfl rfl (SqL.of (f6.1 _ _ ups Gf)) (xaz (by rw [zGM,zGA hi']; rfl)) ?_)
    refine (xce _ rfl _ rfl bl ub6 (bKV bs) rfl hbl6 (xeo hub6) (fun p hp=>?_))
    have sp:=Same.new hp (.dK (xaw [] (bKV bs)))
    have hdg:=DGet.rd (H:=upd H6 p (.dK (xaw [] (bKV bs)))) (a:=p) (kvs:=xaw [] (bKV bs)) (k:=(Sum.inr tgs[i]:Key)) (Or.inl ups)
    rw [xod ti.nd hzy] at hdg
    refine (xbe _ rfl p (.str y) rfl hdg ?_)
    have t7:=t6.same sp
    refine (xeg kv ks y rfl ((wf.ksAt t7.kd).seq) (fun t pv' H8 s8 ht rp=>(xay t _ _ _ rfl rfl (SqT.of ht) rfl ?_)))
    have t8:=t7.same s8
    have F8:=F6.same (sp.trans s8)
    rw [hk] at rp
    have rp':=rp
    obtain ⟨a,us,rfl,hpa,hus⟩:=rp
    have hl:=hus.length
    rw [zLM] at hl
    have h5:=wf.pts k hkm
    refine (xbk _ rfl _ _ rfl rfl _ rfl (xcd _ rfl a _ rfl (.inr (SqT.of hpa)) _ _ rfl rfl (jAE (.inl ⟨by omega,by omega⟩) _ (xan _ rfl rfl _ rfl (ite2 (fun c4=>?_) (fun c4=>?_))))))
    ·have c4':smK ks x * (us.length:Int)<=room - 2:=of_decide_eq_true c4
     rw [hl] at c4'
     obtain ⟨m',rfl⟩:∃ m',m=m' + 1:=⟨m - 1,by omega⟩
     refine (jEAA _ rfl (by walk_at "s") (fun t1 ht1=>?_))
     have y1:=Same.new ht1 (.tup [.str (S "box"),.str tgs[i]])
     refine (xap _ rfl _ rfl _ rfl _ rfl _ rfl (xbk _ rfl _ _ rfl rfl _ rfl (xbo m' (by omega) f' kv (.ref bl) (.ref a) (xam ks bs k.parts x (room - 2) rfl (t8.same y1) (by omega) (rp'.same y1 _) (wf.alt k hkm hrc) (xhy h5 (wf.pnd k hkm) (fun p hp=>xhe wf hkm hp) hxin ⟨c4',fun u rs H9 f9 ru hlen hsub hnd hrs hrct=>⟨(by walk_at "s"),fun t2 ht2=>?_⟩⟩)))))
     have y2:=Same.new ht2 (.tup [.str (S "case"),.ref t1,u])
     have hb9:=xah (t8.same y1).fd f9 _ _ ups
     refine q _ (xik (tBox tgs[i]) rs) _ (((F8.same y1).trans f9).same y2) (xad t2 _ rfl ups _ _ rfl rfl _ (xb4 _ rfl (xad t1 _ rfl (y2 _ _ hb9) _ _ rfl rfl _ (jEAA _ rfl rfl rfl)) _ _ rfl (ru.same y2 _) rfl)) ⟨TmB.le (xtb wf hk hrc (xjc hzy) (by omega) hnd hlen hsub hrs) (by omega),xhw (n:=7 * m' + 8) (by omega) (.inr (.inr (.inr (.inr (.inr (.inl (xbb _ _ 1 ((room - 2) / (k.parts.length:Int)) (xjb (by decide)) hrct ?_ ?_ (by omega) rfl)))))))⟩
     ·exact Int.ediv_nonneg (by have:=(xfd wf x).1; have:0<=smK ks x * (k.parts.length:Int):=Int.mul_nonneg (by omega) (by omega); omega) (by omega)
     ·have hp0:(k.parts.length:Int)≠0:=fun e=>wf.alt k hkm hrc (List.length_eq_zero_iff.mp (by omega))
      have:=Int.mul_ediv_self_le (x:=room - 2) (k:=(k.parts.length:Int)) hp0
      rw [hlen]
      omega
    ·refine hR7 _ _ ?_
     exact (xap _ rfl _ rfl _ rfl _ rfl _ rfl (xbo _ rfl f' kv (.ref bl) ks (xam bs x room m j rfl hcm hj6 t8 m8 (jAA hxj hroom (fun a d H' fd ra ha=>q a d H' (F8.trans fd) ra ha)))))
   ·refine hR7 _ _ ?_
    exact (xap _ rfl _ rfl _ rfl _ rfl _ rfl (xbo _ rfl f' kv (.ref bl) ks (xam bs x room m j rfl hcm hj6 t4 m8 (jAA hxj hroom (fun a d H' fd ra ha=>q a d H' (F4.trans fd) ra ha)))))
  ·refine hR7 _ _ ?_
   exact (xap _ rfl _ rfl _ rfl _ rfl _ rfl (xbo _ rfl f' kv (.ref bl) ks (xam bs x room m j rfl hcm hj6 t3 m8 (jAA hxj hroom (fun a d H' fd ra ha=>q a d H' (F3.trans fd) ra ha)))))
 refine (xan _ rfl rfl _ rfl (iteKF (zDF fun z=>e5 (V.int.inj z)) (iteF ?_)))
 refine hR7 _ _ ?_
 exact (xap _ rfl _ rfl _ rfl _ rfl _ rfl (xbo _ rfl f' kv (.ref bl) ks (xam bs x room m j rfl hcm hj6 t3 m8 (jAA hxj hroom (fun a d H' fd ra ha=>q a d H' (F3.trans fd) ra ha)))))
theorem xs9 (T:Tx K mg):∀ c,DefIs P w K mg base (3 * c + 10) "_law_term" qaf (spTw c):=by
 intro c
 induction c using Nat.strongRecOn with
 | _ c ih=>
  have take:∀ k,DefIs P w K mg base (k + 1) "_law_take" qab xcy:=fun k=>xdx T
  have sml:∀ k,8<=k->DefIs P w K mg base k "_law_small" qaa (spSm smK 6):=fun k hk=>(xin T 6).mono hk
  have tlt:DefIs P w K mg base (3 * c + 7) "_law_term" qaf (xq8 c):=DefIs.anyP (Pr:=fun c'=>c' < c) (sps:=spTw) T.dl_term fun c' h=>(ih c' h).mono (by omega)
  exact xrm (n:=3 * c + 9) T (take _) (xpl (n:=3 * c + 8) T (take _)) (sml _ (by omega)) (xbj T) (tlt.mono (by omega)) (DefIs.anyP (Pr:=fun m=>7 * m + 6 < c) (sps:=xlf) T.dl_arms fun m hm=>xrq (n:=3 * c + 8) T hm (take _) (tlt.mono (by omega))) (xhx (n:=3 * c + 8) T (xbj T) (take _) (xfx T (take _)) (sml _ (by omega)) (tlt.mono (by omega)))
def xov:Sp:=fun vs H Q _=>∃ (f:Addr) (kv bv:V) (ks:List Kn) (bs:List (Str×Str)) (x:Str),vs=[.ref f,kv,bv,.str x]/\TIn H f kv bv ks bs 3/\KIn ks 6 x/\∀ a d H',Fed f H H'->RelD H' (.ref a) d->TmB ks 21 bs d x/\Tc 21 d (smK ks x + 9)->Q (.ref a) H'
def spTC:Sp:=fun vs H Q E=>∃ c,c<=20/\spTw c vs H Q E
theorem xjz (T:Tx K mg) (Dl_take:DefIs P w K mg base n "_law_take" qab xcy) (Dl_small:DefIs P w K mg base n "_law_small" qaa (spSm smK 6)) (Dl_term:DefIs P w K mg base n "_law_term" qaf spTC) :
  DefIs P w K mg base (n + 1) "_law_new_term" qap xov:=by
 refine DefIs.of T.dl_new_term xjq ?_ ?_ <;> walk_at "i"
 ·obtain ⟨_,_,_,_,_,_,rfl,_⟩:=h
  rfl
 obtain ⟨f',kv,bv,ks,bs,x,rfl,ti,hxin,q⟩:=h
 refine (jEA _ (po (xae (pd Dl_term hr (pc (pv 0) (pc (pv 1) (pc (pv 2) (pc (pv 3) (pc (xaq xbt (pd Dl_small hr (pc (pv 1) (pc (pv 3) pN zsn) zsn)) (pd Dl_take hr (pc (pv 0) (pc pI pN zso) zsn))) (pc pI pN zso) xa8) zsn) zsn) zsn) zsn)))) ?_)
 refine (xap _ rfl _ rfl _ rfl _ rfl _ rfl (xb3 _ rfl kv ks x rfl ti.kd ti.wf hxin (fun H1 s1=>?_)))
 have t1:=ti.same s1
 obtain ⟨p0,q0,hf⟩:=ti.fd
 obtain ⟨p1,q1,h1⟩:=t1.fd
 refine (xaa _ rfl f' p1 q1 _ rfl h1 (by decide) (by decide) (fun r H2 r0 r1 f2=>?_))
 refine (xav _ _ rfl rfl (xbo 20 (Nat.le_refl _) f' kv bv ks (xam bs x _ 2 6 rfl rfl (by decide) (t1.fed f2) (by decide) (jAA hxin (by omega) (fun a d H' fd ra ha=>q a d H' ((((Fed.refl hf).same s1).trans f2).trans fd) ra ⟨ha.1,xca _ _ _ _ (by omega) ha.2⟩)))))
theorem xlp (T:Tx K mg):DefIs P w K mg base 80 "_law_new_term" qap xov:=
 xjz (n:=79) T (xdx T) ((xin T 6).mono (by omega)) (DefIs.anyP (Pr:=fun c=>c<=20) (sps:=spTw) T.dl_term fun c hc=>(xs9 T c).mono (by omega))
end
abbrev RW:=List Kn->En->D->D->Prop
def xec (R:RW) (m:Nat):Sp:=fun vs H Q _=>∃ kv tv p ks d env val,vs=[kv,tv,.ref p]/\KsAt H kv ks/\RelD H tv d/\EnAt H p m env/\R ks env d val/\∀ u H',Same H H'->RelD H' u val->Q u H'
def xjk:Sp:=fun vs H Q _=>∃ s x y,vs=[.str s,.int x,.int y]/\Nm x/\Nm y/\Q (.int (opV s x y)) H
section
variable {P:Program} {w:World} {K:PySem.W.Frag} {mg:Str->Option Value} {base:Heap} {n m:Nat}
theorem xln (T:Tx K mg):DefIs P w K mg base (n + 1) "op_worth" qaq xjk:=by
 refine DefIs.of T.d_op_worth xlg ?_ ?_ <;> walk_at "i"
 ·obtain ⟨_,_,_,rfl,_⟩:=h
  rfl
 obtain ⟨s,x,y,rfl,hx,hy,q⟩:=h
 refine ⟨_,(zpn (xa1 (pR xa4 (pv 0) pS (nM _)) (po (xae (xaq xcg (xaq xbt (pv 1) (pv 2)) (xlk T.g_WIDE)))) pQ)
   (zpn (xa1 (pR xa4 (pv 0) pS (nM _)) (po (xae (xaq xcg (xaq xcm (pv 1) (pv 2)) (xlk T.g_WIDE)))) pQ)
   (zpn (xa1 (pR xa4 (pv 0) pS (nM _)) (po (xae (xaq xcg (xaq xdp (pv 1) (pv 2)) (xlk T.g_WIDE)))) pQ)
   (zpn (xa1 (pR xa4 (pv 0) pS (nM _)) (po (xae (xiq (pR xnv (pv 1) (pv 2) (nM _)) pI pI))) pQ)
   (po (xae (xiq (pR xa4 (pv 1) (pv 2) (nM _)) pI pI))))))),?_⟩
 have pos:(0:Int) < 4294967296:=by decide
 unfold opV at q
 refine (xan _ rfl rfl _ rfl (ite2 (fun c=>?_) (fun c=>?_)))
 ·rw [if_pos (show s=S "+" from V.str.inj (of_decide_eq_true c))] at q
  exact (xbf _ rfl _ rfl _ _ rfl rfl _ (xc1 _ rfl rfl pos q))
 rw [if_neg (show ¬ s=S "+" from fun z=>c (zDT (congrArg V.str z)))] at q
 refine (xan _ rfl rfl _ rfl (ite2 (fun c=>?_) (fun c=>?_)))
 ·rw [if_pos (show s=S "-" from V.str.inj (of_decide_eq_true c))] at q
  exact (xbf _ rfl _ rfl _ _ rfl rfl _ (xc1 _ rfl rfl pos q))
 rw [if_neg (show ¬ s=S "-" from fun z=>c (zDT (congrArg V.str z)))] at q
 refine (xan _ rfl rfl _ rfl (ite2 (fun c=>?_) (fun c=>?_)))
 ·rw [if_pos (show s=S "*" from V.str.inj (of_decide_eq_true c))] at q
  obtain ⟨x0,x1⟩:=hx
  exact (xb0 _ rfl _ rfl _ _ rfl rfl (jAE (.inl ⟨by omega,by omega⟩) _ (xc1 _ rfl rfl pos q)))
 rw [if_neg (show ¬ s=S "*" from fun z=>c (zDT (congrArg V.str z)))] at q
 refine (xan _ rfl rfl _ rfl (ite2 (fun c=>?_) (fun c=>?_)))
 ·rw [if_pos (show s=S "<" from V.str.inj (of_decide_eq_true c))] at q
  refine (xbl _ rfl _ rfl _ _ rfl rfl _ rfl (ite2 (fun c2=>?_) (fun c2=>?_)))
  ·rw [if_pos (of_decide_eq_true c2)] at q
   exact q
  ·rw [if_neg (fun z=>c2 (zDT z))] at q
   exact q
 rw [if_neg (show ¬ s=S "<" from fun z=>c (zDT (congrArg V.str z)))] at q
 refine (xd0 _ rfl _ rfl rfl _ rfl (ite2 (fun c2=>?_) (fun c2=>?_)))
 ·rw [if_pos (V.int.inj (of_decide_eq_true c2))] at q
  exact q
 ·rw [if_neg (fun z=>c2 (zDT (congrArg V.int z)))] at q
  exact q
def xji (m:Nat):Sp:=fun vs H Q _=>∃ p x v d env,vs=[.ref p,.str x,v]/\EnAt H p m env/\RelD H v d/\m<=1000/\∀ p' H',Same H H'->EnAt H' p' (m + 1) (env.put x d)->Q (.ref p') H'
theorem xlm (T:Tx K mg):DefIs P w K mg base (n + 1) "with_box" qaz (xji m):=by
 refine DefIs.of T.d_with_box sc_with_box ?_ ?_ <;> walk_at "i"
 ·obtain ⟨_,_,_,_,_,rfl,_⟩:=h
  rfl
 obtain ⟨p,x,v,d,env,rfl,⟨kvs,hp,hl,he⟩,hv,hm,q⟩:=h
 have nd:=sc_with_box.nd
 have hu:=xfn hr
 refine ⟨_,(zpn (xal (i:=3) nd rfl (by walk_at "o") (xat xig rfl T.z_dict PyProof.Rows.boot_dict (pc (pv 0) pN zsn)))
   (zpn (xlj hu (pv 3) (pv 1) (pv 2) rfl)
   (po (xae (pv 3))))),?_⟩
 refine (xbe _ rfl p kvs rfl hp (fun c hc=>?_))
 have s1:=Same.new hc (.dK kvs)
 refine (xbm _ rfl _ rfl _ rfl c _ rfl (DPut.k (k:=Sum.inr x) ups (xa7 (by omega))) (jEA _ rfl ?_))
 have s2:=Same.new2 hc (.dK kvs) (.dK (putK kvs (Sum.inr x) v))
 exact q c _ s2 (EnAt.put hp hl he s2 (hv.same s2 _) ups)
def xo1:Sp:=fun vs H Q _=>∃ kv vv ks k kn ws f i d,vs=[kv,vv,.str f]/\KsAt H kv ks/\RelD H vv (.tup [.str k,.tup ws])/\kAt ks k=some kn/\(kn.parts.map (·.1)).findIdx? (fun z=>decide (z=f))=some i/\ws[i]?=some d/\∀ u H',Same H H'->RelD H' u d->Q u H'
theorem xrs (T:Tx K mg) (D_parts_of:DefIs P w K mg base n "parts_of" qad xc7):DefIs P w K mg base (n + 1) "field" qa1 xo1:=by
 refine DefIs.of T.d_field sc_field ?_ ?_ <;> walk_at "i"
 ·obtain ⟨_,_,_,_,_,_,_,_,_,rfl,_⟩:=h
  rfl
 obtain ⟨kv,vv,ks,k,kn,ws,f',i,d,rfl,hk,hv,hkn,hi,hw,q⟩:=h
 have nd:=sc_field.nd
 refine ⟨_,(zpn (xb1 (i:=3) ["part"] [none] rfl (by kernel_rfl) nd rfl (by walk_at "o") (xbi (pd D_parts_of hr (pc (pv 0) (pc (xaj xai (pv 1) pI (fun _ _=>rfl)) pN zss) zsn))) (fun _ _ _ _=>(xab (i:=0) (by show List.Nodup (["part"]:List Str); decide +kernel) rfl (Or.inl rfl))) (fun _ _ _ _=>xbz) (fun _ _ _ _=>(xaj (xcu (K:=K) rfl) (pv 0) pI (fun _ _=>rfl))))
   (po (xae (xaj xai (xaj xai (pv 1) pI (fun _ _=>rfl)) (xfe PySem.F.plainAttrs_list PySem.F.slot_list_index PySem.F.type_list_index xrz (pv 3) (pc (pv 2) pN zsn)) (fun _ _=>rfl))))),?_⟩
 obtain ⟨l,us,rfl,ha,_,_,rfl,rfl,vw,_,rfl,rw',rfl⟩:=hv
 obtain ⟨c,zs,rfl,hc,hzs⟩:=rw'
 refine (xa6 _ rfl _ rfl l _ _ (xd3 _ rfl rfl (SqT.of ha) rfl _ ks k rfl hk (fun u H1 s1 r1=>?_)))
 rw [hkn] at r1
 obtain ⟨e,ps,rfl,he,hps⟩:=r1
 have hl:=hps.length
 rw [zLM] at hl
 have hkm:kn.parts.length<=100:=hk.2.2 kn (zMF hkn)
 refine (jEAA e rfl ⟨_,SqT.of he⟩ ?_)
 refine xgs (j:=0) (xs:=ps) (fun i ys H'=>H'=H1/\ys=((kn.parts.take i).map (·.1)).map V.str) (by rfl) ⟨rfl,rfl⟩ (xa7 (by omega)) (fun i ys H' _ p=>by obtain ⟨rfl,_⟩:=p; exact SqT.of he) ?_ ?_
 ·rintro i x ys H' hx hly ⟨rfl,rfl⟩
  obtain ⟨d',hd',rd'⟩:=hps.get hx
  rw [zGM] at hd'
  obtain ⟨pt,hpt,rfl⟩:=zMS hd'
  obtain ⟨b,ws',rfl,hb,_,_,rfl,rfl,_,_,rfl,rfl,rfl⟩:=rd'
  have hi:i < ps.length:=(zES hx).1
  refine (xaa _ rfl b _ _ _ rfl rfl (SqT.of hb) rfl (nxt hi hly ⟨rfl,?_⟩))
  rw [zTA,hpt]
  simp
 ·rintro ys H' hly ⟨rfl,rfl⟩ D hD
  rw [zTL (by omega)]
  rw [zTL (by omega)] at hly
  have sD:=Same.new hD (.lst ((kn.parts.map (·.1)).map V.str))
  have sHD:=s1.trans sD
  have hwi:∃ v,zs[i]?=some v/\RelD H v d:=by
   have hil:i < ws.length:=(zES hw).1
   have hzl:=hzs.length
   obtain ⟨d',hd',rd'⟩:=hzs.get (i:=i) (v:=zs[i]) (zGA (by omega))
   rw [hw] at hd'
   cases hd'
   exact (jEA (zs[i]) (zGA (by omega)) rd')
  obtain ⟨v,hv,rv⟩:=hwi
  refine (xaa _ rfl l _ _ _ rfl rfl (SqT.of (sHD _ _ ha)) rfl ?_)
  refine (xan _ rfl (.inl (jAE rfl _ (SqL.of ups))) _ rfl (xay D _ f' i rfl rfl ups hi ?_))
  exact (xay c _ _ v rfl rfl (SqT.of (sHD _ _ hc)) (xaz hv) (q _ _ sHD (rv.same sHD _)))
def xg2 (R:RW) (m:Nat):Sp:=fun vs H Q _=>∃ kv tv p ks env a rs k t x y e val,vs=[kv,tv,.ref p]/\KsAt H kv ks/\RelD H tv (xik a rs)/\EnAt H p m env/\rs.length<=1000/\R ks env a (.tup [.str k,.str t,x])/\rs.find? (fun r=>decide (r.1=t))=some (t,y,e)/\R ks (env.put y x) e val ∧
 ∀ u H',Same H H'->RelD H' u val->Q u H'
theorem xiu (T:Tx K mg) (R:RW) (hm:m<=1000) (D_worth:DefIs P w K mg base n "worth" qae (xec R (m + 1))) (D_with_box:DefIs P w K mg base n "with_box" qaz (xji m)):DefIs P w K mg base (n + 1) "case_worth" qae (xg2 R m):=by
 refine DefIs.of T.d_case_worth sc_case_worth ?_ ?_ <;> walk_at "i"
 ·obtain ⟨_,_,_,_,_,_,_,_,_,_,_,_,_,rfl,_⟩:=h
  rfl
 obtain ⟨kv,tv,p,ks,env,a,rs,k,t,x,y,e,val,rfl,hk,hv,he,hl,h1,hf,h2,q⟩:=h
 have nd:=sc_case_worth.nd
 refine ⟨_,(zpn (xal (i:=3) nd rfl (by walk_at "o") (pd D_worth hr (pc (pv 0) (pc (xaj xai (pv 1) pI (fun _ _=>rfl)) (pc (pv 2) pN zsn) zss) zsn)))
   (zpn (xal (i:=4) nd rfl (by walk_at "o") (xaj iL (xbu ["each","value"] [none,some 3] rfl (by kernel_rfl) (xbi (xaj xai (pv 1) pI (fun _ _=>rfl))) (fun _ _ _ _=>(xab (i:=0) (by show List.Nodup (["each","value"]:List Str); decide +kernel) rfl (Or.inl rfl))) (fun _ _ _ _=>(xc9 (pR xa4 (xaj (xcu (K:=K) rfl) (pv 0) pI (fun _ _=>rfl)) (xaj (xcu (K:=K) rfl) (pv 1) pI (fun _ _=>rfl)) (nM _)))) (fun _ _ _ _=>(pv 0))) pI (fun _ _=>rfl)))
   (po (xae (pd D_worth hr (pc (pv 0) (pc (xaj xai (pv 4) pI (fun _ _=>rfl)) (pc (pd D_with_box hr (pc (pv 2) (pc (xaj xai (pv 4) pI (fun _ _=>rfl)) (pc (xaj xai (pv 3) pI (fun _ _=>rfl)) pN zss) zss) zsn)) pN zsc) zss) zsn)))))),?_⟩
 obtain ⟨b,us,rfl,hb,_,_,rfl,rfl,va,_,rfl,ra,vr,_,rfl,rr,rfl⟩:=hv
 obtain ⟨c,ws,rfl,hc,hws⟩:=rr
 refine (xa6 _ rfl _ rfl b _ _ (xc3 _ rfl rfl (SqT.of hb) rfl (jEA _ rfl ?_)))
 refine (xas _ _ _ ks _ (xa5 env _ rfl hk ra (he.mono (by omega)) h1 (fun u H1 s1 r1=>?_)))
 obtain ⟨g,zs,rfl,hg,_,_,rfl,rfl,_,_,rfl,rfl,vx,_,rfl,rx,rfl⟩:=r1
 refine (xaa _ rfl b _ _ _ rfl rfl (SqT.of (s1 _ _ hb)) rfl (jEAA c rfl ⟨_,SqT.of (s1 _ _ hc)⟩ ?_))
 have hln:=hws.length
 rw [zLM] at hln
 refine xbn (xs:=ws) (fun i ys H'=>H'=H1/\∃ ds:List (Str×Str×D),ds=(rs.take i).filter (fun r=>decide (r.1=t))/\RelDs H1 ys (ds.map dArm)) (jAEA rfl ([]) rfl rfl) (xa7 (by omega)) (fun i ys H' _ p=>by obtain ⟨rfl,_⟩:=p; exact SqT.of (s1 _ _ hc)) ?_ ?_
 ·rintro i z ys H' hz hi hly ⟨rfl,ds,rfl,hds⟩
  obtain ⟨d,hd,rd⟩:=(hws.same s1 _).get hz
  rw [zGM] at hd
  obtain ⟨r,hr',rfl⟩:=zMS hd
  have rd':=rd
  obtain ⟨l,zs,rfl,hl',_,_,rfl,rfl,_,_,rfl,rfl,_,_,rfl,re,rfl⟩:=rd
  refine ⟨xd5 rfl,?_⟩
  refine (xaa _ rfl l _ _ _ rfl rfl (SqT.of hl') rfl (xaa _ rfl g _ _ _ rfl rfl (SqT.of hg) rfl (jAEA rfl _ rfl (ite2 (fun cc=>?_) (fun cc=>?_)))))
  ·have ee:r.1=t:=V.str.inj (of_decide_eq_true cc)
   refine (jEA _ rfl (nxtG hi hly (jAEA rfl _ rfl ?_)))
   rw [zTA,hr',List.filter_append,zAP]
   refine hds.append ?_
   simp only [Option.toList,List.filter_cons,zDT ee,if_true,List.filter_nil,List.map_cons,List.map_nil]
   exact (xav _ ([]) rfl rd' rfl)
  ·have ee:¬ r.1=t:=fun z=>cc (zDT (congrArg V.str z))
   refine nxtN hi hly (jAEA rfl _ rfl ?_)
   rw [zTA,hr',List.filter_append,zAP]
   simp only [Option.toList,List.filter_cons,zDF ee,Bool.false_eq_true,if_false,List.filter_nil,List.map_nil,List.append_nil]
   exact hds
 ·rintro ys H' hly ⟨rfl,ds,rfl,hds⟩ D hD
  rw [zTL (by omega)] at hds
  have hh:(rs.filter (fun r=>decide (r.1=t))).head?=some (t,y,e):=by rw [List.head?_filter,hf]
  obtain ⟨rest,hrest⟩:∃ rest,rs.filter (fun r=>decide (r.1=t))=(t,y,e) :: rest:=by
   cases hq:rs.filter (fun r=>decide (r.1=t)) with
   | nil=>rw [hq] at hh; cases hh
   | cons z zs=>rw [hq] at hh; exact ⟨zs,by rw [Option.some.inj hh]⟩
  rw [hrest] at hds
  obtain ⟨va',rest',rfl,r0,_⟩:=hds
  have sD:=Same.new hD (.lst (va' :: rest'))
  refine (xay D _ 0 va' rfl rfl (SqL.of ups) (xaz (j:=0) rfl) ?_)
  obtain ⟨l,zs,rfl,hl',_,_,rfl,rfl,_,_,rfl,rfl,ve,_,rfl,re,rfl⟩:=r0
  have sHD:=s1.trans sD
  have hSl:SqT K (upd H' D (.lst (.ref l :: rest'))) l [.str t,.str y,ve]:=SqT.of (sD _ _ hl')
  refine (xa6 _ rfl _ rfl l _ _ (xc3 _ rfl rfl hSl rfl (xa6 _ rfl _ rfl l _ _ (xc3 _ rfl rfl hSl rfl (xaa _ rfl g _ _ _ rfl rfl (SqT.of (sD _ _ hg)) rfl ?_)))))
  refine (xas p y vx x env (xhy rfl (he.same sHD) (rx.same sD _) hm (fun p' H2 s2 he2=>?_)))
  exact (xas _ _ _ ks _ (xa5 _ _ rfl (hk.same (sHD.trans s2)) (re.same (sD.trans s2) _) he2 h2 (fun u H3 s3 r3=>q u H3 (sHD.trans (s2.trans s3)) r3)))
theorem xrr (T:Tx K mg) (R:RW) (D_worth:DefIs P w K mg base n "worth" qae (xec R m)) (D_op_worth:DefIs P w K mg base n "op_worth" qaq xjk)
  (D_field:DefIs P w K mg base n "field" qa1 xo1) (D_case_worth:DefIs P w K mg base n "case_worth" qae (xg2 R m)) :
  DefIs P w K mg base (n + 1) "worth" qae (xec (fun ks env d v=>xel env d v\/NodeEv ks (R ks) env d v) m):=by
 refine DefIs.of T.d_worth sc_worth ?_ ?_ <;> walk_at "i"
 ·obtain ⟨_,_,_,_,_,_,_,rfl,_⟩:=h
  rfl
 obtain ⟨kv,tv,p,ks,d,env,val,rfl,hk,hv,he,hR,q⟩:=h
 have nd:=sc_worth.nd
 have hu:=xfn hr
 refine ⟨_,(zpn (xal (i:=3) nd rfl (by walk_at "o") (xaj xai (pv 1) pI (fun _ _=>rfl)))
   (zpn (xa1 (pR xa4 (pv 3) pS (nM _)) (po (xae (xaj xai (pv 1) pI (fun _ _=>rfl)))) pQ)
   (zpn (xa1 (pR xa4 (pv 3) pS (nM _)) (po (xae (xcl hu (pv 2) (xaj xai (pv 1) pI (fun _ _=>rfl)) (fun _ _=>rfl)))) pQ)
   (zpn (xa1 (pR xa4 (pv 3) pS (nM _)) (po (xae (pd D_op_worth hr (pc (xaj xai (pv 1) pI (fun _ _=>rfl)) (pc (pd D_worth hr (pc (pv 0) (pc (xaj xai (pv 1) pI (fun _ _=>rfl)) (pc (pv 2) pN zsn) zss) zsn)) (pc (pd D_worth hr (pc (pv 0) (pc (xaj xai (pv 1) pI (fun _ _=>rfl)) (pc (pv 2) pN zsn) zss) zsn)) pN zsc) zsc) zss)))) pQ)
   (zpn (xa1 (pR xa4 (pv 3) pS (nM _)) (po (xae (xar (pc (xaj xai (pv 1) pI (fun _ _=>rfl)) (pc (xat xa2 rfl T.z_tuple PyProof.Rows.boot_tuple (pc (xbu ["inner","kinds","boxes"] [none,some 0,some 2] rfl (by kernel_rfl) (xbi (xaj xai (pv 1) pI (fun _ _=>rfl))) (fun _ _ _ _=>(xab (i:=0) (by show List.Nodup (["inner","kinds","boxes"]:List Str); decide +kernel) rfl (Or.inl rfl))) (fun _ _ _ _=>xbz) (fun _ _ _ _=>(pd D_worth hr (pc (pv 1) (pc (pv 0) (pc (pv 2) pN zsn) zsn) zsn)))) pN xby)) pN zsc) zss)))) pQ)
   (zpn (xa1 (pR xa4 (pv 3) pS (nM _)) (po (xae (pd D_field hr (pc (pv 0) (pc (pd D_worth hr (pc (pv 0) (pc (xaj xai (pv 1) pI (fun _ _=>rfl)) (pc (pv 2) pN zsn) zss) zsn)) (pc (xaj xai (pv 1) pI (fun _ _=>rfl)) pN zss) zsc) zsn)))) pQ)
   (zpn (xa1 (pR xa4 (pv 3) pS (nM _)) (po (xae (xar (pc (xaj xai (pv 1) pI (fun _ _=>rfl)) (pc (xaj xai (pv 1) pI (fun _ _=>rfl)) (pc (pd D_worth hr (pc (pv 0) (pc (xaj xai (pv 1) pI (fun _ _=>rfl)) (pc (pv 2) pN zsn) zss) zsn)) pN zsc) zss) zss)))) pQ)
   (zpn (xa1 (pR xa4 (pv 3) pS (nM _)) (po (xae (pd D_case_worth hr (pc (pv 0) (pc (pv 1) (pc (pv 2) pN zsn) zsn) zsn)))) pQ)
   (zpn (xal (i:=4) nd rfl (by walk_at "o") (xiq (pR xa4 (pd D_worth hr (pc (pv 0) (pc (xaj xai (pv 1) pI (fun _ _=>rfl)) (pc (pv 2) pN zsn) zss) zsn)) pI (nM _)) (xaj xai (pv 1) pI (fun _ _=>rfl)) (xaj xai (pv 1) pI (fun _ _=>rfl))))
   (po (xae (pd D_worth hr (pc (pv 0) (pc (pv 4) (pc (pv 2) pN zsn) zsn) zsn))))))))))))),?_⟩
 rcases hR with (⟨i,rfl,rfl⟩ | ⟨x,hx,rfl⟩) | ⟨sg,a,b,x,y,h1,h2,nx,ny,rfl,rfl⟩ | ⟨k,es,ws,hl,h1,rfl,rfl⟩ | ⟨a,k,ws,f',kn,i,h1,hk1,hi,hw,rfl⟩ | ⟨k,t,a,x,h1,rfl,rfl⟩ | ⟨a,rs,k,t,x,y,e,hl,h1,hf,h2,rfl⟩ | ⟨a,b,c,x,h1,h2,rfl⟩
 ·obtain ⟨a,us,rfl,ha,_,_,rfl,rfl,_,_,rfl,rfl,rfl⟩:=hv
  have hS:SqT K H a [.str (S "num"),.int i]:=SqT.of ha
  walk_at "rd"
  exact q _ _ (Same.refl _) rfl
 ·obtain ⟨a,us,rfl,ha,_,_,rfl,rfl,_,_,rfl,rfl,rfl⟩:=hv
  have hS:SqT K H a [.str (S "box"),.str x]:=SqT.of ha
  obtain ⟨kvs,hp,hl,hh⟩:=he
  obtain ⟨v,hv,rv⟩:=(hh x).2 _ hx
  walk_at "rd"
  exact (xav p v rfl (hv ▸ DGet.k (k:=Sum.inr x) hp) (q _ _ (Same.refl _) rv))
 ·obtain ⟨l,us,rfl,ha,_,_,rfl,rfl,_,_,rfl,rfl,va,_,rfl,ra,vb,_,rfl,rb,rfl⟩:=hv
  have hS:SqT K H l [.str (S "op"),.str sg,va,vb]:=SqT.of ha
  walk_at "rd"
  refine (xas _ _ _ ks _ (xa5 env _ rfl hk ra he h1 (fun u H1 s1 r1=>?_)))
  obtain rfl:u=.int x:=r1
  have hS1:SqT K H1 l [.str (S "op"),.str sg,va,vb]:=SqT.of (s1 _ _ ha)
  refine (xa6 _ rfl _ rfl l _ _ (xc3 _ rfl rfl hS1 rfl (jEA _ rfl ?_)))
  refine (xas _ _ _ ks _ (xa5 env _ rfl (hk.same s1) (rb.same s1 _) (he.same s1) h2 (fun u H2 s2 r2=>?_)))
  obtain rfl:u=.int y:=r2
  exact (xe8 sg x y rfl nx ny (q _ _ (s1.trans s2) rfl))
 ·obtain ⟨l,us,rfl,ha,_,_,rfl,rfl,_,_,rfl,rfl,va,_,rfl,ra,rfl⟩:=hv
  obtain ⟨c,vs',rfl,hc,hvs⟩:=ra
  have hS:SqT K H l [.str (S "rec"),.str k,.ref c]:=SqT.of ha
  walk_at "rd"
  refine ⟨⟨_,SqT.of hc⟩,?_⟩
  have l1:=hvs.length
  have l2:=h1.length
  refine xgs (j:=0) (xs:=vs') (fun i ys H'=>Same H H'/\RelDs H' ys (ws.take i)) (by rfl) ⟨Same.refl _,rfl⟩ (xa7 (by omega)) (fun i ys H' _ p=>SqT.of (p.1 _ _ hc)) ?_ ?_
  ·rintro i x ys H' hx hly ⟨sm,hys⟩
   obtain ⟨d',hd',rd'⟩:=hvs.get hx
   obtain ⟨v',hv',rv'⟩:=h1.get hd'
   have hi:i < vs'.length:=(zES hx).1
   refine (xc0 _ rfl _ rfl _ rfl _ _ (xam _ ks _ env _ rfl (hk.same sm) (rd'.same sm _) (he.same sm) rv' (fun u H2 s2 r2=>nxt hi hly ⟨sm.trans s2,?_⟩)))
   rw [zTA,hv']
   exact (hys.same s2 _).append (xav u ([]) rfl r2 rfl)
  ·rintro ys H' hly ⟨sm,hys⟩ D hD
   rw [zTL (by omega)] at hys
   refine (jEEA D ys rfl (.inl ⟨SqL.of ups,fun l' hl'=>?_⟩))
   have s1:=Same.new hD (.lst ys)
   have s2:=Same.new hl' (.tup ys)
   refine ⟨(by walk_at "s"),fun t ht=>?_⟩
   have s3:=Same.new ht (.tup [.str k,.ref l'])
   exact q _ _ (sm.trans (s1.trans (s2.trans s3))) (xad t _ rfl ups _ _ rfl rfl _ (jEAA _ rfl (xav l' ys rfl (s3 _ _ ups) (hys.same (s1.trans (s2.trans s3)) _)) rfl))
 ·obtain ⟨l,us,rfl,ha,_,_,rfl,rfl,va,_,rfl,ra,_,_,rfl,rfl,rfl⟩:=hv
  have hS:SqT K H l [.str (S "get"),va,.str f']:=SqT.of ha
  walk_at "rd"
  refine (xas _ _ _ ks _ (xa5 env _ rfl hk ra he h1 (fun u H1 s1 r1=>?_)))
  have hS1:SqT K H1 l [.str (S "get"),va,.str f']:=SqT.of (s1 _ _ ha)
  refine (xaa _ rfl l _ _ _ rfl rfl hS1 rfl ?_)
  exact (xas _ _ ks k kn (xcb ws f' i val rfl (hk.same s1) r1 hk1 hi hw (fun u H2 s2 r2=>q _ _ (s1.trans s2) r2)))
 ·obtain ⟨l,us,rfl,ha,_,_,rfl,rfl,_,_,rfl,rfl,_,_,rfl,rfl,va,_,rfl,ra,rfl⟩:=hv
  have hS:SqT K H l [.str (S "tag"),.str k,.str t,va]:=SqT.of ha
  walk_at "rd"
  refine (xas _ _ _ ks _ (xa5 env _ rfl hk ra he h1 (fun u H1 s1 r1=>?_)))
  refine ⟨(by walk_at "s"),fun c hc=>?_⟩
  have s2:=Same.new hc (.tup [.str k,.str t,u])
  exact q _ _ (s1.trans s2) (xad c _ rfl ups _ _ rfl rfl _ (xb4 _ rfl rfl _ _ rfl (r1.same s2 _) rfl))
 ·have hv':=hv
  obtain ⟨l,us,rfl,ha,_,_,rfl,rfl,va,_,rfl,ra,vr,_,rfl,rr,rfl⟩:=hv
  have hS:SqT K H l [.str (S "case"),va,vr]:=SqT.of ha
  walk_at "rd"
  exact (xas _ _ p ks env (xas a rs k t x (xct y e val rfl hk hv' he hl h1 (jAA hf h2 q))))
 ·obtain ⟨l,us,rfl,ha,_,_,rfl,rfl,va,_,rfl,ra,vb,_,rfl,rb,vc,_,rfl,rc,rfl⟩:=hv
  have hS:SqT K H l [.str (S "if"),va,vb,vc]:=SqT.of ha
  walk_at "rd"
  refine (xas _ _ _ ks _ (xa5 env _ rfl hk ra he h1 (fun u H1 s1 r1=>?_)))
  obtain rfl:u=.int x:=r1
  have hS1:SqT K H1 l [.str (S "if"),va,vb,vc]:=SqT.of (s1 _ _ ha)
  refine (jAEA rfl _ rfl (ite2 (fun c'=>?_) (fun c'=>?_)))
  ·have e:x=0:=V.int.inj (of_decide_eq_true c')
   rw [if_pos e] at h2
   refine (xaa _ rfl l _ _ _ rfl rfl hS1 rfl (jEA _ rfl (jEA _ rfl (jEA _ rfl ?_))))
   exact (xas _ _ _ ks _ (xa5 env _ rfl (hk.same s1) (rc.same s1 _) (he.same s1) h2 (fun u H2 s2 r2=>q _ _ (s1.trans s2) r2)))
  ·have e:¬ x=0:=fun z=>c' (zDT (congrArg V.int z))
   rw [if_neg e] at h2
   refine (xaa _ rfl l _ _ _ rfl rfl hS1 rfl (jEA _ rfl (jEA _ rfl (jEA _ rfl ?_))))
   exact (xas _ _ _ ks _ (xa5 env _ rfl (hk.same s1) (rb.same s1 _) (he.same s1) h2 (fun u H2 s2 r2=>q _ _ (s1.trans s2) r2)))
theorem xh0 (T:Tx K mg) (R:RW) (hm:m<=1000) (D:DefIs P w K mg base (n + 1) "worth" qae (xec R (m + 1))):DefIs P w K mg base (n + 3) "worth" qae (xec (fun ks env d v=>xel env d v\/NodeEv ks (R ks) env d v) m):=by
 have D':DefIs P w K mg base (n + 1) "worth" qae (xec R m):=D.imp (by
  rintro vs H Q E ⟨kv,tv,p,ks,d,env,val,h1,h2,h3,h4,h5,h6⟩
  exact (xas kv tv p ks d (xa5 env val h1 h2 h3 (h4.mono (by omega)) h5 h6)))
 exact xrr T R (D'.mono (by omega)) (xln T) (xrs T (xbv T)) (xiu T R hm D (xlm T))
theorem xih (T:Tx K mg):∀ n m,n + m<=1000->DefIs P w K mg base (2 * n + 3) "worth" qae (xec (fun ks=>Ev ks n) m)
 | 0,m,h=>by
  refine (xh0 (P:=P) (w:=w) (base:=base) (n:=0) (m:=m) T (fun _ _ _ _=>False) (by omega) (DefIs.none T.d_worth ?_)).imp ?_
  ·rintro vs H Q E ⟨_,_,_,_,_,_,_,_,_,_,_,h,_⟩
   exact h
  ·rintro vs H Q E ⟨kv,tv,p,ks,d,env,k,h1,h2,h3,h4,h5,h6⟩
   exact (xas kv tv p ks d (xa5 env k h1 h2 h3 h4 (.inl h5) h6))
 | n + 1,m,h=>xh0 (n:=2 * n + 2) (m:=m) T (fun ks=>Ev ks n) (by omega) (xih T n (m + 1) (by omega))
end
theorem xgq (x:Str):∀ ys:List Str,inV (.str x) (ys.map V.str)=decide (x∈ys)
 | []=>rfl
 | y :: ys=>by
  show ((y == x) || inV (.str x) (ys.map V.str))=_
  rw [xgq x ys]
  by_cases h:y=x
  ·subst h; simp
  ·have h':¬ x=y:=fun e=>h e.symm
   simp [h,h']
theorem xej:∀ ys:List Str,(ys.map V.str).all xgi=true
 | []=>rfl
 | y :: ys=>by
  show (xgi (.str y) && (ys.map V.str).all xgi)=true
  rw [xej ys]
  rfl
def xh2:Sp:=fun vs H Q _=>∃ kv ks k kn f k2,vs=[kv,.str k,.str f]/\KsAt H kv ks/\kAt ks k=some kn/\xh6 kn f=some k2/\∀ H',Same H H'->Q (.str k2) H'
section
variable {P:Program} {w:World} {K:PySem.W.Frag} {mg:Str->Option Value} {base:Heap} {n m:Nat}
theorem xga (T:Tx K mg) (D_parts_of:DefIs P w K mg base n "parts_of" qad xc7):DefIs P w K mg base (n + 1) "part_kind" qay xh2:=by
 refine DefIs.of T.d_part_kind sc_part_kind ?_ ?_ <;> walk_at "i"
 ·obtain ⟨_,_,_,_,_,_,rfl,_⟩:=h
  rfl
 obtain ⟨kv,ks,k,kn,f',k2,rfl,hk,hkn,hp,q⟩:=h
 have nd:=sc_part_kind.nd
 refine ⟨_,(zpn (xcf PassesOwn.never rfl (xbi (pd D_parts_of hr (pc (pv 0) (pc (pv 1) pN zsn) zsn))) (xab (i:=3) nd rfl (by walk_at "o"))
   (po (xa1 (pR xa4 (xaj xai (pv 3) pI (fun _ _=>rfl)) (pv 2) (nM _)) (po (xae (xaj xai (pv 3) pI (fun _ _=>rfl)))) pQ)))
   (po xrf)),?_⟩
 refine (xbh _ rfl _ rfl _ ks k rfl hk (fun u H1 s1 r1=>?_))
 rw [hkn] at r1
 obtain ⟨e,ps,rfl,he,hps⟩:=r1
 have hl:=hps.length
 rw [zLM] at hl
 refine (jEAA e rfl ⟨_,SqT.of he⟩ ?_)
 obtain ⟨pt,hpt,rfl⟩:=zMS hp
 refine xcq (xs:=ps) (fun i σ H'=>∃ o3,σ=[some kv,some (.str k),some (.str f'),o3]/\H'=H1/\(kn.parts.take i).find? (fun p=>decide (p.1=f'))=none) (jEAA none rfl rfl rfl) (fun i σ H' _ p=>?_) ?_ ?_
 ·obtain ⟨_,_,rfl,_⟩:=p
  exact SqT.of he
 ·rintro i v σ H' hv ⟨o3,rfl,rfl,hn⟩
  obtain ⟨d,hd,rd⟩:=hps.get hv
  rw [zGM] at hd
  obtain ⟨p,hp',rfl⟩:=zMS hd
  obtain ⟨b,ws,rfl,hb,_,_,rfl,rfl,_,_,rfl,rfl,rfl⟩:=rd
  refine (xaa _ rfl b _ _ _ rfl rfl (SqT.of hb) rfl (xan _ rfl rfl _ rfl (ite2 (fun c=>?_) (fun c=>?_))))
  ·have e':p.1=f':=V.str.inj (of_decide_eq_true c)
   have e2:=(xc2 hn hp').1 (zDT e')
   rw [hpt] at e2
   cases e2
   exact (xaa _ rfl b _ _ _ rfl rfl (SqT.of hb) rfl (q _ s1))
  ·have e':¬ p.1=f':=fun z=>c (zDT (congrArg V.str z))
   exact (jEAA _ rfl rfl ((xc2 hn hp').2 (zDF e')))
 ·rintro σ H' ⟨o3,rfl,rfl,hn⟩
  rw [zTL (by omega),hpt] at hn
  cases hn
end
theorem xnw {X:Cx} {K:PySem.W.Frag} (hK:X.K=K):OpR X (compareOp .In) (rIn K false):=by subst hK; exact xff
theorem xmp {H:Hp}:∀ {vs:List V} {ds:List D} (n:Nat),RelDs H vs ds->RelDs H (vs.take n) (ds.take n)
 | vs,[],n,h=>by
  rw [show vs=[] from h,List.take_nil,List.take_nil]
  rfl
 | vs,d :: ds,0,_=>by
  rw [List.take_zero,List.take_zero]
  rfl
 | vs,d :: ds,n + 1,⟨v,r,e,h1,h2⟩=>by
  subst e
  exact (xav v _ rfl h1 (xmp n h2))
theorem xo9 {H:Hp} {w:V} {e:D} (hw:RelD H w e):∀ {vs:List V} {ds:List D} (n:Nat),RelDs H vs ds->RelDs H (vs.set n w) (ds.set n e)
 | vs,[],n,h=>by
  rw [show vs=[] from h]
  rfl
 | vs,d :: ds,0,⟨v,r,e',h1,h2⟩=>by
  subst e'
  exact (xav w r rfl hw h2)
 | vs,d :: ds,n + 1,⟨v,r,e',h1,h2⟩=>by
  subst e'
  exact (xav v _ rfl h1 (xo9 hw n h2))
theorem xjs {H:Hp}:∀ {vs:List V} {ds:List D} (n:Nat),RelDs H vs ds->RelDs H (vs.eraseIdx n) (ds.eraseIdx n)
 | vs,[],n,h=>by
  rw [show vs=[] from h]
  rfl
 | vs,d :: ds,0,⟨v,r,e',h1,h2⟩=>by
  subst e'
  exact h2
 | vs,d :: ds,n + 1,⟨v,r,e',h1,h2⟩=>by
  subst e'
  exact (xav v _ rfl h1 (xjs n h2))
theorem xlv {α β:Type} (f:α->β):∀ (l:List α) (n:Nat) (a:α),(l.set n a).map f=(l.map f).set n (f a)
 | [],_,_=>rfl
 | b :: l,0,a=>rfl
 | b :: l,n + 1,a=>by
  show f b :: (l.set n a).map f=f b :: (l.map f).set n (f a)
  rw [xlv f l n a]
theorem xka {α β:Type} (f:α->β):∀ (l:List α) (n:Nat),(l.eraseIdx n).map f=(l.map f).eraseIdx n
 | [],_=>rfl
 | b :: l,0=>rfl
 | b :: l,n + 1=>by
  show f b :: (l.eraseIdx n).map f=f b :: (l.map f).eraseIdx n
  rw [xka f l n]
theorem cut0 (us:List V) (k:Nat):cutV us none (some (k:Int))=us.take k:=by
 unfold cutV
 rw [show HT.sIx us.length 0 none=0 from rfl,List.drop_zero,Nat.sub_zero,HT.sIx_nat]
 by_cases h:k<=us.length
 ·rw [Nat.min_eq_left h]
 ·rw [Nat.min_eq_right (by omega),List.take_length,zTL (by omega)]
theorem xri {X:Cx} {K:PySem.W.Frag} {tg:Expr} (hK:X.K=K) {l:Expr} {tl:TE} (hl:PE X l tl):PI X tg l (xv0 K tl):=by subst hK; exact xdk hl
theorem xst (Pq:Addr->Hp->Prop) {R:Addr->Hp->Prop} {A:Prop} (h:(∀ a H,Pq a H->R a H)->A) (r:∀ a H,Pq a H->R a H):A:=h r
structure BP (ks:List Kn) (ns:List Str) (n7:Str) (qs:List (Str×Str)):Prop where
 len:qs.length<=4
 nd:(qs.map (·.1)).Nodup
 nm:∀ p∈qs,p.1∈ns\/p.1=n7
 kn:∀ p∈qs,KIn ks ks.length p.2
def spBP:Sp:=fun vs H Q _=>∃ (f l nb:Addr) (srt:Str) (pv:V) (p q:Int) (ws:List V) (ks:List Kn) (ps:List (Str×Str)) (nms:List Str) (n7:Str),vs=[.ref f,.ref l,.str srt,pv,.ref nb]/\H f=some (.lst [.int p,.int q])/\H l=some (.lst ws)/\RelDs H ws (ks.map Kn.d)/\KWf ks ∧
 RelD H pv (xdd ps)/\ps.length<=4/\(ps.map (·.1)).Nodup/\H nb=some (.lst (nms.map V.str))/\nms[7]?=some n7/\n7 ∉ ps.map (·.1)/\l≠f/\nb≠f ∧
 ∀ v qs (H':Hp),Fed f H H'->RelD H' v (xdd qs)->BP ks (ps.map (·.1)) n7 qs->(srt=S "alt"->qs≠[])->Q v H'
def StA (H:Hp) (f:Addr) (qok:List (Str×Str)->Prop) (pl:Addr) (H':Hp):Prop:=Fed f H H'/\pl≠f/\H pl=none/\∃ us qs,H' pl=some (.lst us)/\RelDs H' us (qs.map xek)/\qok qs
def okA (ks:List Kn) (ps:List (Str×Str)) (qs:List (Str×Str)):Prop:=qs.length<=4/\(qs.map (·.1)).Sublist (ps.map (·.1))/\∀ p∈qs,KIn ks ks.length p.2
section
variable {P:Program} {w:World} {K:PySem.W.Frag} {mg:Str->Option Value} {base:Heap} {n m:Nat}
theorem xgg (T:Tx K mg) (Dl_take:DefIs P w K mg base n "_law_take" qab xcy) (Dl_any_kind:DefIs P w K mg base n "_law_any_kind" qak xq9):DefIs P w K mg base (n + 1) "_law_beside_parts" qa7 spBP:=by
 refine DefIs.of T.dl_beside_parts scl_beside_parts ?_ ?_ <;> walk_at "i"
 ·obtain ⟨_,_,_,_,_,_,_,_,_,_,_,_,rfl,_⟩:=h
  rfl
 obtain ⟨f',l,nb,srt,pv',p0,q0,ws,ks,ps,nms,n7,rfl,hf,hl,hws,wf,hpv,hps4,hpnd,hnb,hn7,hn7n,lf,nf,q⟩:=h
 have nd:=scl_beside_parts.nd
 have hfew:=wf.few
 have hwl:=hws.length
 rw [zLM] at hwl
 refine ⟨_,(zpn (xal (i:=5) nd rfl (by walk_at "o") (pd Dl_take hr (pc (pv 0) (pc pI pN zso) zsn)))
   (zpn (xb1 (i:=3) qai [none,none,some 1] rfl (by kernel_rfl) nd rfl (by walk_at "o") (xbi (pv 3)) (fun _ _ _ _=>(xcs (K:=K) (n:=2) rfl rfl (xac (xab (i:=0) (by show List.Nodup (qai:List Str); decide +kernel) rfl (Or.inl rfl)) (xac (xab (i:=1) (by show List.Nodup (qai:List Str); decide +kernel) rfl (Or.inl rfl)) xa0)))) (fun _ _ _ _=>(xc9 (PW.pt (xli (pR xa4 (pv 1) pS (nM _)) (xh5 (pR (xnw (K:=K) rfl) (pv 1) (xbu ["_law_row"] [none] rfl (by kernel_rfl) (xri (K:=K) rfl (pv 2)) (fun _ _ _ _=>(xab (i:=0) (by show List.Nodup (["_law_row"]:List Str); decide +kernel) rfl (Or.inl rfl))) (fun _ _ _ _=>xbz) (fun _ _ _ _=>(xaj (xcu (K:=K) rfl) (pv 0) pI (fun _ _=>rfl)))) (by with_unfolding_all rfl))))))) (fun _ _ _ _=>(xar (pc (pv 0) (pc (pv 1) pN zsn) zsn))))
   (zpn (xa1 (PW.pt (xd6 (pR xa4 (pv 5) pI (nM _)) (xc8 (pR xe6 (xax xao rfl T.z_len PySem.boot_len (pc (pv 3) pN zsn)) pI (nM _))))) (po (xck (xfe PySem.F.plainAttrs_list PySem.F.slot_list_pop PySem.F.type_list_pop xry (pv 3) (pc (pd Dl_take hr (pc (pv 0) (pc (xax xao rfl T.z_len PySem.boot_len (pc (pv 3) pN zsn)) pN zsc) zsn)) pN zsc)))) pQ)
   (zpn (xa1 (PW.pt (xli (pR xa4 (pv 5) pI (nM _)) (xh5 (PW.pt (xd6 (pR xa4 (xax xao rfl T.z_len PySem.boot_len (pc (pv 3) pN zsn)) pI (nM _)) (xc8 (pR xa4 (pv 2) pS (nM _)))))))) (po (xal (i:=3) nd rfl (by walk_at "o") (xaq xh8 (xc4 xg4 (pv 3) xe5 (xda pI)) (xb6 (pc (xar (pc (xaj iL (pv 4) pI (fun _ _=>rfl)) (pc (pd Dl_any_kind hr (pc (pv 0) (pc (pv 1) pN zsn) zsn)) pN zsc) zss)) pN sT))))) pQ)
   (zpn (xa1 (pR xa4 (pv 5) pI (nM _)) (po (xck (xsm PySem.F.plainAttrs_list PySem.F.slot_list_reverse PySem.F.type_list_reverse xia (pv 3)))) pQ)
   (zpn (xa1 (PW.pt (xd6 (pR xa4 (pv 5) pI (nM _)) (xc8 (pR xe6 (xax xao rfl T.z_len PySem.boot_len (pc (pv 3) pN zsn)) pI (nM _))))) (zpn (xal (i:=6) nd rfl (by walk_at "o") (pd Dl_take hr (pc (pv 0) (pc (xax xao rfl T.z_len PySem.boot_len (pc (pv 3) pN zsn)) pN zsc) zsn)))
   (po (xcz (xar (pc (xaj xai (xaj iL (pv 3) (pv 6) (fun _ _=>rfl)) pI (fun _ _=>rfl)) (pc (pd Dl_any_kind hr (pc (pv 0) (pc (pv 1) pN zsn) zsn)) pN zsc) zss)) (xms (pv 3) (pv 6) xgn)))) pQ)
   (po (xae (xat xa2 rfl T.z_tuple PyProof.Rows.boot_tuple (pc (pv 3) pN zsn)))))))))),?_⟩
 refine (xaa _ rfl f' p0 q0 _ rfl hf (by decide) (by decide) (fun fm H1 m0 m1 f1=>?_))
 have tp1:=xah (jEE p0 q0 hf) f1
 obtain ⟨p1,q1,h1⟩:=f1.2
 have hl1:=f1.1 _ _ hl lf
 have hws1:=hws.tups tp1 _
 obtain ⟨pa,us,rfl,hpa,hus⟩:=hpv
 have hpa1:=tp1 _ _ hpa
 have hus1:=hus.tups tp1 _
 have hul:=hus.length
 rw [zLM] at hul
 apply xst (StA H f' (okA ks ps))
 ·intro key
  refine (xa9 _ rfl pa rfl ⟨_,SqT.of hpa1⟩ ?_)
  refine xbn (xs:=us) (fun i ys H'=>Same H1 H'/\∃ qs:List (Str×Str),qs.Sublist (ps.take i)/\RelDs H' ys (qs.map xek)/\∀ p∈qs,KIn ks ks.length p.2) (xhg (Same.refl _) ([]) (List.nil_sublist _) rfl (fun _ h=>nomatch h)) (xa7 (by omega)) (fun i ys H' _ p=>SqT.of (p.1 _ _ hpa1)) ?_ ?_
  ·rintro i y ys H' hy hi2 hly ⟨sm,qs,hsub,rqs,hqk⟩
   obtain ⟨d',hd2,rd2⟩:=hus1.get hy
   rw [zGM] at hd2
   obtain ⟨pr,hpr,rfl⟩:=zMS hd2
   obtain ⟨b,ws',rfl,hb,_,_,rfl,rfl,_,_,rfl,rfl,rfl⟩:=rd2
   have etk:ps.take (i + 1)=ps.take i++[pr]:=by rw [zTA,hpr]; rfl
   have keep:∀ (H2:Hp) (t:Addr),Same H' H2->H2 t=none->KIn ks ks.length pr.2->Same H1 (upd H2 t (.tup [.str pr.1,.str pr.2]))/\∃ qs':List (Str×Str),qs'.Sublist (ps.take (i + 1))/\RelDs (upd H2 t (.tup [.str pr.1,.str pr.2])) (ys++[.ref t]) (qs'.map xek)/\∀ p∈qs',KIn ks ks.length p.2:=fun H2 t s2 ht hk=>by
    have st:=Same.new ht (.tup [.str pr.1,.str pr.2])
    refine (xhg (sm.trans (s2.trans st)) (qs++[pr]) (by rw [etk]; exact hsub.append (List.Sublist.refl _)) ?_ (fun z hz=>?_))
    ·rw [zAP]
     exact (rqs.same (s2.trans st) _).append (xav _ ([]) rfl (xad t _ rfl ups _ _ rfl rfl _ (jEAA _ rfl rfl rfl)) rfl)
    ·rcases zMA hz with hz | hz
     ·exact hqk z hz
     ·rw [zMO hz]; exact hk
   refine (xak b _ rfl (SqT.of (sm _ _ hb)) rfl _ _ rfl _ (xc1 _ rfl rfl (ext2 rfl rfl) ?_))
   refine (xan _ rfl rfl _ rfl ?_)
   by_cases hnum:pr.2=S "num"
   ·exact iteKT (zDT (congrArg V.str hnum)) (iteT (xa9 _ rfl _ rfl (by walk_at "s") (fun t ht=>nxtG hi2 hly (keep _ t (Same.refl _) ht (.inl hnum)))))
   ·refine iteKF (zDF fun z=>hnum (V.str.inj z)) ?_
    refine (xcx _ rfl _ rfl l rfl ⟨_,SqL.of (sm _ _ hl1)⟩ ?_)
    refine xhq (j:=0) (xs:=ws) (fun i2 ys2 H2=>Same H' H2/\ys2=((ks.take i2).map Kn.name).map V.str) (by rfl) ⟨Same.refl _,rfl⟩ (xa7 (by omega)) (fun i2 ys2 H2 _ p=>SqL.of (p.1 _ _ (sm _ _ hl1))) ?_ ?_
    ·rintro i' x ys2 H2 hx hly2 ⟨s2,rfl⟩
     obtain ⟨d,hd,rd⟩:=(hws1.same (sm.trans s2) _).get hx
     rw [zGM] at hd
     obtain ⟨k',hk',rfl⟩:=zMS hd
     obtain ⟨b3,vs',rfl,hb3,_,_,rfl,rfl,_,_,rfl,rfl,v3,_,rfl,r3,rfl⟩:=rd
     have hi':i' < ws.length:=(zES hx).1
     refine (xaa _ rfl b3 _ _ _ rfl rfl (SqT.of hb3) rfl (nxt hi' hly2 ⟨s2,?_⟩))
     rw [zTA,hk']
     simp
    rintro ys2 H2 hly2 ⟨s2,rfl⟩ D2 hD2
    rw [zTL (by omega)]
    have sD:=Same.new hD2 (.lst ((ks.map Kn.name).map V.str))
    refine (xco D2 _ rfl (.inl (SqL.of ups)) rfl (xej _) _ rfl ?_)
    rw [if_neg (by decide),xgq]
    by_cases hin:pr.2∈ks.map Kn.name
    ·refine xr2 (zDT hin) (xa9 _ rfl _ rfl (by walk_at "s") (fun t ht=>nxtG hi2 hly (keep _ t (s2.trans sD) ht (KIn.of (.inr ?_)))))
     obtain ⟨k',h1',h2'⟩:=zMP hin
     exact (jEA k' h1' h2')
    ·exact xn2 (zDF hin) (nxtN hi2 hly (xhg (sm.trans (s2.trans sD)) qs (by rw [etk]; exact hsub.trans (List.sublist_append_left _ _)) (rqs.same (s2.trans sD) _) hqk))
  rintro ys H2 hly ⟨sm,qs,hsub,rqs,hqk⟩ pl hpl
  have sP:=Same.new hpl (.lst ys)
  have hsub':qs.Sublist ps:=hsub.trans (List.take_sublist _ _)
  have plf:pl≠f':=Ne.symm (neN (sm _ _ h1) hpl)
  have hpl0:H pl=none:=by
   cases h:H pl with
   | none=>rfl
   | some o=>
    have:=(f1.same sm).1 _ _ h plf
    rw [hpl] at this
    cases this
  have st0:StA H f' (okA ks ps) pl (upd H2 pl (.lst ys)):=(jAAA (f1.same (sm.trans sP)) plf hpl0 (xeh ys qs ups (rqs.same sP _) (Nat.le_trans hsub'.length_le hps4) (hsub'.map _) hqk))
  clear hsub hsub' rqs hqk hly
  generalize upd H2 pl (.lst ys)=H3 at st0 ⊢
  clear sP sm hpl plf hpl0 ys qs
  refine (xan _ rfl rfl _ rfl (ite2 (fun c1=>?_) (fun c1=>iteF (key _ _ st0))))
  obtain ⟨F,plf,hpl0,us3,qs,hpl3,rqs,hq4,hqs,hqk⟩:=id st0
  refine (xcd _ rfl pl _ rfl (.inl (SqL.of hpl3)) _ _ rfl rfl (jEA _ rfl (ite2 (fun c2=>?_) (fun c2=>key _ _ st0))))
  obtain ⟨p3,q3,h3⟩:=F.2
  have hrl:=rqs.length
  rw [zLM] at hrl
  refine (xan _ rfl (.inl (jAE rfl _ (SqL.of hpl3))) _ rfl (xbe _ rfl pl _ rfl (.inl (SqL.of hpl3)) (xay f' p3 q3 _ rfl h3 (by have:=of_decide_eq_true c2; omega) (by omega) (fun r H4 r0 r1 f4=>?_))))
  have hpl4:=f4.1 _ _ hpl3 plf
  obtain ⟨i,rfl⟩:∃ i:Nat,r=(i:Int):=⟨r.toNat,by omega⟩
  have hi':i < us3.length:=by omega
  refine (xam pl us3 _ i (us3[i]) rfl rfl hpl4 (by omega) (by omega) (jAA ?_ (zGA hi') ?_))
  ·exact PySem.StrLaws.seqIndex_nonneg (by omega) (by omega)
  have rq4:=rqs.tups (xah F.2 f4) _
  have st1:StA H f' (okA ks ps) pl (upd H4 pl (.lst (us3.eraseIdx i))):=by
   refine (jAAA (Fed.put (F.trans f4) hpl0 plf _) plf hpl0 (xeh (us3.eraseIdx i) (qs.eraseIdx i) ups ?_ (Nat.le_trans (List.eraseIdx_sublist _ _).length_le hq4) (((List.eraseIdx_sublist _ _).map _).trans hqs) (fun p hp=>hqk p ((List.eraseIdx_sublist _ _).subset hp))))
   rw [xka]
   exact (xjs i rq4).tups (xbc hpl4 _) _
  generalize upd H4 pl (.lst (us3.eraseIdx i))=H5 at st1 ⊢
  exact key _ _ st1
 apply xst (StA H f' (fun qs=>BP ks (ps.map (·.1)) n7 qs/\(srt=S "alt"->qs≠[])))
 ·intro key pl H3 st0
  obtain ⟨F,plf,hpl0,us3,qs,hpl3,rqs,hq4,hqs,hqk⟩:=id st0
  have hrl:=rqs.length
  rw [zLM] at hrl
  obtain ⟨p3,q3,h3⟩:=F.2
  have stay:(srt=S "alt"->qs≠[])->StA H f' (fun qs=>BP ks (ps.map (·.1)) n7 qs/\(srt=S "alt"->qs≠[])) pl H3:=fun ha=>(jAAA F plf hpl0 (xcp us3 qs hpl3 rqs ⟨hq4,hpnd.sublist hqs,fun p hp=>.inl (hqs.subset (List.mem_map_of_mem hp)),hqk⟩ ha))
  apply xm0
  ·intro body
   refine (xan _ rfl rfl _ rfl (ite2 (fun c1=>iteT body.go) (fun c1=>?_)))
   refine (xbe _ rfl pl _ rfl (.inl (SqL.of hpl3)) (jAEA rfl _ rfl (ite2 (fun c2=>?_) (fun c2=>iteF (key _ _ (stay fun _ e=>?_))))))
   ·refine (xan _ rfl rfl _ rfl (ite2 (fun c3=>body.go) (fun c3=>key _ _ (stay fun e=>?_))))
    exact absurd (zDT (by rw [e]; rfl)) c3
   ·refine c2 (zDT ?_)
    rw [e] at hrl
    rw [hrl]
    rfl
  have hl3:=F.1 _ _ hl lf
  have hws3:=hws.tups (xah (jEE p0 q0 hf) F) _
  have hnb3:=F.1 _ _ hnb nf
  refine (xb0 _ rfl _ rfl pl us3 rfl (SqL.of hpl3) (fun c2 hc2=>?_))
  rw [show ((3:Int))=((3:Nat):Int) from rfl,cut0]
  have sc:=Same.new hc2 (.lst (us3.take 3))
  have c2f:c2≠f':=Ne.symm (neN h3 hc2)
  have hat:atI (nms.map V.str) 7=some (.str n7):=xaz (j:=7) (by rw [zGM,hn7]; rfl)
  refine (xaa _ rfl nb _ _ _ rfl rfl (SqL.of (sc _ _ hnb3)) hat (xa6 _ rfl _ rfl f' l p3 (xef q3 ws ks rfl (sc _ _ h3) (.inl (sc _ _ hl3)) (hws3.same sc _) hfew (fun x H5 hx f5=>?_))))
  refine ⟨(by walk_at "s"),fun t ht=>⟨(by walk_at "s"),fun l1 hl1=>?_⟩⟩
  have y1:=Same.new ht (.tup [.str n7,.str x])
  have y2:=Same.new hl1 (.lst [.ref t])
  have hc5:=f5.1 _ _ ups c2f
  refine (xbb c2 l1 _ _ rfl rfl ((y1.trans y2) _ _ hc5) ups (fits (by rw [List.length_take]; show _ + 1<=_; omega)) (fun l3 hl3'=>?_))
  have y3:=Same.new hl3' (.lst (us3.take 3++[.ref t]))
  have y13:=y1.trans (y2.trans y3)
  have F5:Fed f' H H5:=(F.same sc).trans f5
  have rq5:=((rqs.same sc _).tups (xah (jEE p3 q3 (sc _ _ h3)) f5) _).same y13 _
  obtain ⟨p5,q5,h5⟩:=F5.2
  have l3f:l3≠f':=Ne.symm (neN ((y1.trans y2) _ _ h5) hl3')
  have st1:StA H f' (fun qs=>BP ks (ps.map (·.1)) n7 qs/\(srt=S "alt"->qs≠[])) l3 (upd (upd (upd H5 t (.tup [.str n7,.str x])) l1 (.lst [.ref t])) l3 (.lst (us3.take 3++[.ref t]))):=by
   refine (jAAA (F5.same y13) l3f ?_ (xcp (us3.take 3++[.ref t]) (qs.take 3++[(n7,x)]) ups ?_ ⟨?_,?_,fun p hp=>?_,fun p hp=>?_⟩ (fun _=>by simp)))
   ·cases h:H l3 with
    | none=>rfl
    | some o=>
     have:=(F5.same (y1.trans y2)).1 _ _ h l3f
     rw [hl3'] at this
     cases this
   ·rw [zAP,List.map_take]
    exact (xmp 3 rq5).append (xav _ ([]) rfl (xad t _ rfl ((y2.trans y3) _ _ ups) _ _ rfl rfl _ (jEAA _ rfl rfl rfl)) rfl)
   ·rw [zLA,List.length_take,List.length_singleton]
    omega
   ·rw [zAP]
    refine List.nodup_append.mpr (jAA ((hpnd.sublist hqs).sublist ((List.take_sublist _ _).map _)) (by simp) (fun a ha b hb e=>?_))
    have hb':b=n7:=by simpa using hb
    rw [e,hb'] at ha
    exact hn7n (hqs.subset (((List.take_sublist _ _).map _).subset ha))
   ·rcases zMA hp with hp | hp
    ·exact .inl (hqs.subset (List.mem_map_of_mem (List.mem_of_mem_take hp)))
    ·rw [zMO hp]; exact .inr rfl
   ·rcases zMA hp with hp | hp
    ·exact hqk p (List.mem_of_mem_take hp)
    ·rw [zMO hp]; exact hx
  generalize upd (upd (upd H5 t (.tup [.str n7,.str x])) l1 (.lst [.ref t])) l3 (.lst (us3.take 3++[.ref t]))=H7 at st1 ⊢
  exact key _ _ st1
 intro pl H3 st0
 obtain ⟨F,plf,hpl0,us3,qs,hpl3,rqs,hbp,hne⟩:=st0
 have hrl:=rqs.length
 rw [zLM] at hrl
 have hq4:=hbp.len
 obtain ⟨p3,q3,h3⟩:=F.2
 by_cases e3:fm=3
 ·refine (xan _ rfl rfl _ rfl (iteKT (zDT (by rw [e3])) ?_))
  refine (xfl _ rfl (.inl (jAE rfl _ (SqL.of hpl3))) pl us3 rfl rfl hpl3 ?_)
  refine (xan _ rfl rfl _ rfl (iteKF (zDF fun z=>absurd (V.int.inj z) (by omega)) (iteF ?_)))
  refine (xei _ rfl pl _ rfl (.inl ⟨SqL.of ups,fun t ht=>?_⟩))
  have st:=Same.new ht (.tup us3.reverse)
  refine q _ qs.reverse _ ((Fed.put F hpl0 plf _).same st) (xav t _ rfl ups ?_) ⟨by rw [List.length_reverse]; exact hq4,by rw [List.map_reverse]; exact xj5 hbp.nd,fun p hp=>hbp.nm p (List.mem_reverse.mp hp),fun p hp=>hbp.kn p (List.mem_reverse.mp hp)⟩ fun ha e=>hne ha (List.reverse_eq_nil_iff.mp e)
  rw [List.map_reverse]
  exact ((RelDs.rev rqs).tups (xbc hpl3 _) _).same st _
 refine (xan _ rfl rfl _ rfl (iteKF (zDF fun z=>e3 (V.int.inj z)) ?_))
 apply xm0
 ·intro key
  refine (xan _ rfl rfl _ rfl (ite2 (fun c1=>?_) (fun c1=>iteF key.go)))
  refine (xcd _ rfl pl _ rfl (.inl (SqL.of hpl3)) _ _ rfl rfl (jEA _ rfl (ite2 (fun c2=>?_) (fun c2=>key.go))))
  refine (xbf _ rfl _ rfl pl _ rfl (.inl (SqL.of hpl3)) f' (xbd p3 q3 _ rfl h3 (by have:=of_decide_eq_true c2; omega) (by omega) (fun r H4 r0 r1 f4=>?_)))
  have hpl4:=f4.1 _ _ hpl3 plf
  have F4:=F.trans f4
  obtain ⟨p4,q4,h4⟩:=F4.2
  obtain ⟨i,rfl⟩:∃ i:Nat,r=(i:Int):=⟨r.toNat,by omega⟩
  have hi':i < us3.length:=by omega
  have rq4:=rqs.tups (xah F.2 f4) _
  obtain ⟨di,hdi,rdi⟩:=rq4.get (zGA hi')
  rw [zGM] at hdi
  obtain ⟨pi,hpi,rfl⟩:=zMS hdi
  obtain ⟨b,ws',eb,hb,_,_,rfl,rfl,_,_,rfl,rfl,rfl⟩:=rdi
  have hl4:=F4.1 _ _ hl lf
  have hws4:=hws.tups (xah (jEE p0 q0 hf) F4) _
  have hat:atI us3 (i:Int)=some (.ref b):=xaz (by rw [zGA hi',eb])
  refine (xa6 _ rfl _ rfl pl _ _ (xdc _ rfl rfl (SqL.of hpl4) hat b _ _ _ rfl (jAAA rfl (SqT.of hb) rfl ?_)))
  refine (xa6 _ rfl _ rfl f' l p4 (xef q4 ws ks rfl h4 (.inl hl4) hws4 hfew (fun x H5 hx f5=>⟨(by walk_at "s"),fun t ht=>?_⟩)))
  have y1:=Same.new ht (.tup [.str pi.1,.str x])
  have hpl5:=y1 _ _ (f5.1 _ _ hpl4 plf)
  have rq5:=(rq4.tups (xah (jEE p4 q4 h4) f5) _).same y1 _
  have hix:ixN us3.length (i:Int)=some i:=by
   unfold ixN
   rw [if_pos (by omega),if_pos (by omega)]
   simp
  refine (xa6 _ rfl _ rfl pl us3 _ (xc3 i rfl rfl hpl5 hix ?_))
  have hrl5:(us3.set i (V.ref t)).length=us3.length:=List.length_set
  refine (xei _ rfl pl _ rfl (.inl ⟨SqL.of ups,fun t2 ht2=>?_⟩))
  have st:=Same.new ht2 (.tup (us3.set i (.ref t)))
  refine q _ (qs.set i (pi.1,x)) _ ((Fed.put ((F4.trans f5).same y1) hpl0 plf _).same st) (xav t2 _ rfl ups ?_) ⟨by rw [List.length_set]; exact hq4,?_,fun p hp=>?_,fun p hp=>?_⟩ fun ha e=>?_
  ·rw [xlv]
   exact ((xo9 (e:=xek (pi.1,x)) (xad t _ rfl ups _ _ rfl rfl _ (jEAA _ rfl rfl rfl)) i rq5).tups (xbc hpl5 _) _).same st _
  ·rw [xlv]
   have:(qs.map (·.1)).set i pi.1=qs.map (·.1):=by
    refine List.ext_getElem? fun j=>?_
    rw [List.getElem?_set]
    by_cases hij:i=j
    ·subst hij
     rw [if_pos rfl,zGM,hpi,if_pos (by rw [zLM]; omega)]
     rfl
    ·rw [if_neg hij]
   rw [this]
   exact hbp.nd
  ·rcases List.mem_or_eq_of_mem_set hp with hp | rfl
   ·exact hbp.nm p hp
   ·exact hbp.nm pi (zMG hpi)
  ·rcases List.mem_or_eq_of_mem_set hp with hp | rfl
   ·exact hbp.kn p hp
   ·exact hx
  ·have h0:qs.length=0:=by
    have:=congrArg List.length e
    rwa [List.length_set] at this
   omega
 refine (xei _ rfl pl _ rfl (.inl ⟨SqL.of hpl3,fun t ht=>?_⟩))
 have st:=Same.new ht (.tup us3)
 exact q _ qs _ (F.same st) (xav t _ rfl ups (rqs.same st _)) hbp hne
end
theorem xss (Pq:V->V->Hp->Prop) {R:V->V->Hp->Prop} {A:Prop} (h:(∀ a b H,Pq a b H->R a b H)->A) (r:∀ a b H,Pq a b H->R a b H):A:=h r
theorem xpy {ks:List Kn} (nd:(ks.map Kn.name).Nodup) {i j:Nat} {k k':Kn} (hi:ks[i]?=some k) (hj:ks[j]?=some k') (e:k.name=k'.name):i=j:=by
 have h1:(ks.map Kn.name)[i]?=some k.name:=by rw [zGM,hi]; rfl
 have h2:(ks.map Kn.name)[j]?=some k.name:=by rw [zGM,hj,e]; rfl
 have hl:=(zES hi).1
 exact (List.getElem?_inj (by rw [zLM]; exact hl) nd).mp (h1.trans h2.symm)
theorem xpp {nms:List Str} (nd:nms.Nodup) {h7:7 < nms.length} (h:nms[7]∈nms.drop 8):False:=by
 obtain ⟨j,hj,e⟩:=zMI h
 rw [List.getElem_drop] at e
 rw [List.length_drop] at hj
 have h1:nms[8 + j]?=nms[7]?:=by rw [zGA (by omega),zGA h7,e]
 have:=(List.getElem?_inj (by omega) nd).mp h1
 omega
structure QOk (ks2:List Kn) (nms:List Str) (srt:Str) (qs:List (Str×Str)):Prop where
 len:qs.length<=4
 nd:(qs.map (·.1)).Nodup
 nm:∀ p∈qs,p.1∈nms
 kn:∀ p∈qs,KIn ks2 ks2.length p.2
 ne:srt=S "alt"->qs≠[]
 st:srt=S "rec"\/srt=S "alt"
def KBes (nms:List Str) (ks2:List Kn):Prop:=KWf ks2/\ks2.length<=4/\∀ k∈ks2,∀ p∈k.parts,p.1∈nms
theorem xo3 {x srt:Str} {ps:List (Str×Str)} (h:srt=S "rec"\/srt=S "alt"):(Kn.mk x (decide (srt=S "rec")) ps).sort=srt:=by
 unfold Kn.sort
 rcases h with rfl | rfl
 ·rfl
 ·show (if decide (S "alt"=S "rec")=true then _ else _)=_
  rw [if_neg (by walk_at "k")]
theorem QOk.wf {ks2:List Kn} {nms:List Str} {srt x:Str} {qs:List (Str×Str)} (h:QOk ks2 nms srt qs) (w:KWf ks2) (l:ks2.length < 6) (hok:xmc nms) (hx:x∈nms) (hn:x ∉ ks2.map Kn.name):KWf (ks2++[Kn.mk x (decide (srt=S "rec")) qs]):=by
 refine w.snoc hn (hok.2.2 _ hx) h.kn (fun hrc=>h.ne ?_) l (by show qs.length<=5; have:=h.len; omega) h.nd (fun z hz=>hok.2.2 _ (h.nm z hz))
 rcases h.st with e | e
 ·exact absurd hrc (by show ¬ decide (srt=S "rec")=false; rw [e]; decide +kernel)
 ·exact e
theorem QOk.nums {ks2:List Kn} {nms:List Str} {srt:Str} {qs:List (Str×Str)} (h:QOk ks2 nms srt qs):QOk ks2 nms srt (qs.map fun p=>(p.1,S "num")):=by
 refine ⟨by rw [zLM]; exact h.len,by rw [List.map_map]; exact h.nd,fun p hp=>?_,fun p hp=>?_,fun e z=>h.ne e (List.map_eq_nil_iff.mp z),h.st⟩
 ·obtain ⟨p',hp',rfl⟩:=zMP hp
  exact h.nm p' hp'
 ·obtain ⟨p',hp',rfl⟩:=zMP hp
  exact .inl rfl
def xth:Sp:=fun vs H Q _=>∃ (f nb:Addr) (kv:V) (p q:Int) (ks:List Kn) (nms:List Str),vs=[.ref f,kv,.ref nb]/\H f=some (.lst [.int p,.int q])/\RelD H kv (xb8 ks)/\xsf nms ks/\H nb=some (.lst (nms.map V.str))/\xmc nms/\nb≠f ∧
 ∀ v ks2 (H':Hp),Fed f H H'->RelD H' v (xb8 ks2)->KBes nms ks2->Q v H'
section
variable {P:Program} {w:World} {K:PySem.W.Frag} {mg:Str->Option Value} {base:Heap} {n m:Nat}
theorem xnx (T:Tx K mg) (Dl_take:DefIs P w K mg base n "_law_take" qab xcy) (Dl_beside_parts:DefIs P w K mg base n "_law_beside_parts" qa7 spBP) (Dl_parts:DefIs P w K mg base n "_law_parts" qao xim) (Dl_size:DefIs P w K mg base n "_law_size" qaa (xg1 6)):DefIs P w K mg base (n + 1) "_law_beside" qat xth:=by
 refine DefIs.of T.dl_beside scl_beside ?_ ?_ <;> walk_at "i"
 ·obtain ⟨_,_,_,_,_,_,_,rfl,_⟩:=h
  rfl
 obtain ⟨f',nb,kv,p0,q0,ks,nms,rfl,hf,hkv,hKo,hnb,hok,nf,q⟩:=h
 obtain ⟨wf,hk4,hkn,hkp⟩:=hKo
 have nd:=scl_beside.nd
 have hlen:=hok.1
 obtain ⟨ka,kus,rfl,hka,hku⟩:=hkv
 have hkl:=hku.length
 rw [zLM] at hkl
 have h7:7 < nms.length:=by omega
 have hn7:nms[7]?=some nms[7]:=zGA h7
 refine ⟨_,(zpn (xal (i:=3) nd rfl (by walk_at "o") (xb6 pN))
   (zpn (xcf PassesOwn.never rfl (xbi (pv 1)) (xbr rfl (xac (xab (i:=4) nd rfl (by walk_at "o")) (xac (xab (i:=5) nd rfl (by walk_at "o")) (xac (xab (i:=6) nd rfl (by walk_at "o")) xa0))))
   (zpn (xal (i:=7) nd rfl (by walk_at "o") (pd Dl_take hr (pc (pv 0) (pc pI pN zso) zsn)))
   (zpn (xal (i:=8) nd rfl (by walk_at "o") (pd Dl_beside_parts hr (pc (pv 0) (pc (pv 3) (pc (pv 5) (pc (pv 6) (pc (pv 2) pN zsn) zsn) zsn) zsn) zsn)))
   (zpn (xa1 (pR xa4 (pv 7) pI (nM _)) (zpn (xal (i:=8) nd rfl (by walk_at "o") (pd Dl_parts hr (pc (pv 0) (pc (pv 3) (pc (xaj iL (xb6 (pc pS (pc pS pN zso) zso)) (xat xfs rfl T.z_int PyProof.Rows.boot_int (pc (xg5 xa4 (pv 5) pS (nM _)) pN xil)) (fun _ _=>rfl)) (pc (xc4 xg4 (pv 2) (xda pI) (xda pI)) pN zss) zss) zsn) zsn)))
   (po (xal (i:=5) nd rfl (by walk_at "o") (xaj iL (xb6 (pc pS (pc pS pN zso) zso)) (xat xfs rfl T.z_int PyProof.Rows.boot_int (pc (xg5 xa4 (pv 5) pS (nM _)) pN xil)) (fun _ _=>rfl))))) pQ)
   (zpn (xa1 (pR xe6 (pd Dl_size hr (pc (xaq xh8 (pv 3) (xb6 (pc (xar (pc (pv 4) (pc (pv 5) (pc (pv 8) pN zsn) zsn) zsn)) pN sT))) (pc (pv 4) pN zsn) xa8)) pI (nM _)) (po (xal (i:=8) nd rfl (by walk_at "o") (xat xa2 rfl T.z_tuple PyProof.Rows.boot_tuple (pc (xbu ["_law_part","_law_kind"] [none,none] rfl (by kernel_rfl) (xbi (pv 8)) (fun _ _ _ _=>(xcs (K:=K) (n:=2) rfl rfl (xac (xab (i:=0) (by show List.Nodup (["_law_part","_law_kind"]:List Str); decide +kernel) rfl (Or.inl rfl)) (xac (xab (i:=1) (by show List.Nodup (["_law_part","_law_kind"]:List Str); decide +kernel) rfl (Or.inl rfl)) xa0)))) (fun _ _ _ _=>xbz) (fun _ _ _ _=>(xar (pc (pv 0) (pc pS pN zso) zsn)))) pN xby)))) pQ)
   (po (xa1 (pR xjw (pv 7) pI (nM _)) (po (xck (xfe PySem.F.plainAttrs_list PySem.F.slot_list_append PySem.F.type_list_append xcn (pv 3) (pc (xar (pc (pv 4) (pc (pv 5) (pc (pv 8) pN zsn) zsn) zsn)) pN sT)))) pQ)))))))
   (po (xae (xat xa2 rfl T.z_tuple PyProof.Rows.boot_tuple (pc (pv 3) pN zsn)))))),?_⟩
 refine ⟨(by walk_at "s"),fun fl hfl=>?_⟩
 have s0:=Same.new hfl (.lst [])
 have flf:fl≠f':=Ne.symm (neN hf hfl)
 refine (xa9 _ rfl ka rfl ⟨_,SqT.of (s0 _ _ hka)⟩ ?_)
 refine xcq (xs:=kus) (fun i σ H'=>∃ (ws:List V) (ks2:List Kn) (o4 o5 o6 o7 o8:Option V),σ=[some (.ref f'),some (.ref ka),some (.ref nb),some (.ref fl),o4,o5,o6,o7,o8]/\Fed f' H H'/\H' fl=some (.lst ws)/\RelDs H' ws (ks2.map Kn.d)/\KWf ks2/\ks2.length<=i/\(∀ k∈ks2,∃ j k0,j < i/\ks[j]?=some k0/\k0.name=k.name)/\∀ k∈ks2,∀ p∈k.parts,p.1∈nms)
  (xas ([]) ([]) none none none (xa5 none none rfl ((Fed.refl hf).same s0) ups rfl KWf.nil (jAA (Nat.le_refl _) (fun _ h=>nomatch h) (fun _ h=>nomatch h)))) (fun i σ H' _ p=>?_) ?_ ?_
 ·obtain ⟨_,_,_,_,_,_,_,_,F,_⟩:=p
  exact SqT.of (xah (jEE p0 q0 hf) F _ _ hka)
 ·rintro i vv σ H1 hvv ⟨ws,ks2,o4,o5,o6,o7,o8,rfl,F,hws,rws,wf2,hl2,hbef,hpn⟩
  have tp:=xah (jEE p0 q0 hf) F
  obtain ⟨d,hd,rd⟩:=(hku.tups tp _).get hvv
  rw [zGM] at hd
  obtain ⟨k,hk,rfl⟩:=zMS hd
  obtain ⟨b,_,rfl,hb,_,_,rfl,rfl,v2,_,rfl,e2,v3,_,rfl,r3,rfl⟩:=rd
  have e2':v2=.str k.sort:=e2
  have hi:i < ks.length:=(zES hk).1
  have hkm:=zMG hk
  obtain ⟨hp4,hpnm⟩:=hkp k hkm
  have hwl:=rws.length
  rw [zLM] at hwl
  have hst:k.sort=S "rec"\/k.sort=S "alt":=by
   unfold Kn.sort
   cases k.rc
   ·exact .inr rfl
   ·exact .inl rfl
  have hkin:k.name∈nms:=by
   have h1:k.name∈ks.map Kn.name:=List.mem_map_of_mem hkm
   rw [hkn] at h1
   exact List.mem_of_mem_take h1
  have hknew:k.name ∉ ks2.map Kn.name:=fun hm=>by
   obtain ⟨k',hk',e'⟩:=zMP hm
   obtain ⟨j,k0,hj,hk0,e0⟩:=hbef k' hk'
   have:=xpy wf.nd hk0 hk (e0.trans e')
   omega
  have hn8:∀ z∈k.parts.map (·.1),z∈nms.drop 8:=fun z hz=>by
   rw [hpnm] at hz
   exact List.mem_of_mem_take (List.mem_of_mem_take hz)
  have hn7n:nms[7] ∉ k.parts.map (·.1):=fun hm=>xpp hok.2.1 (hn8 _ hm)
  have hpar:∀ p∈k.parts,p.1∈nms:=fun p hp=>List.mem_of_mem_drop (hn8 _ (List.mem_map_of_mem hp))
  obtain ⟨p1,q1,h1⟩:=F.2
  refine (xak b _ rfl (SqT.of hb) rfl _ _ rfl _ (xbe _ rfl _ _ rfl rfl ?_))
  refine (xaa _ rfl f' p1 q1 _ rfl h1 (by decide) (by decide) (fun fm H2 m0 m1 f2=>?_))
  have F2:=F.trans f2
  have tp2:=xah F.2 f2
  obtain ⟨p2,q2,h2⟩:=F2.2
  have hws2:=f2.1 _ _ hws flf
  have rws2:=rws.tups tp2 _
  have r32:=r3.tups tp2 _
  apply xss (fun v s H'=>∃ (srt:Str) (qs:List (Str×Str)),s=.str srt/\Fed f' H H'/\H' fl=some (.lst ws)/\RelDs H' ws (ks2.map Kn.d)/\RelD H' v (xdd qs)/\QOk ks2 nms srt qs)
  ·intro key
   generalize ew:v2=w2
   have ew2:w2=.str k.sort:=ew.symm.trans e2'
   refine (xap _ rfl _ rfl _ rfl _ rfl _ rfl (xas f' fl nb k.sort v3 (xas p2 q2 ws ks2 k.parts (xcc nms (nms[7]) (by rw [ew2]; rfl) h2 hws2 rws2 wf2 r32 hp4 (wf.pnd k hkm) (xhy (F2.1 _ _ hnb nf) hn7 hn7n flf ⟨nf,fun v1 qs1 H3 f3 rv1 hbp hne1=>?_⟩)))))
   have F3:=F2.trans f3
   have tp3:=xah F2.2 f3
   obtain ⟨p3,q3,h3⟩:=F3.2
   have hws3:=f3.1 _ _ hws2 flf
   have rws3:=rws2.tups tp3 _
   have q1k:QOk ks2 nms k.sort qs1:=⟨hbp.len,hbp.nd,fun p hp=>by
    rcases hbp.nm p hp with z | z
    ·exact List.mem_of_mem_drop (hn8 _ z)
    ·rw [z]; exact List.getElem_mem h7,hbp.kn,hne1,hst⟩
   refine (xan _ rfl rfl _ rfl (ite2 (fun c1=>?_) (fun c1=>key _ _ _ (xa5 k.sort qs1 ew2 F3 hws3 rws3 rv1 q1k))))
   have flip:∃ so:Str,∃ cB:Bool,decide (w2=V.str (S "rec"))=cB/\atI [V.str (S "rec"),V.str (S "alt")] (if cB=true then 1 else 0)=some (.str so)/\(so=S "rec"\/so=S "alt"):=by
    rw [ew2]
    rcases hst with e | e
    ·exact (xav (S "alt") true (by rw [e]; decide +kernel) rfl (.inr rfl))
    ·exact (xav (S "rec") false (by rw [e]; decide +kernel) rfl (.inl rfl))
   obtain ⟨so,cB,eB,hat,hso⟩:=flip
   have hn3:=F3.1 _ _ hnb nf
   refine (xa9 _ rfl _ rfl (by walk_at "s") (fun l1 hl1=>?_))
   have y1:=Same.new hl1 (.lst [.str (S "rec"),.str (S "alt")])
   refine (jEAA _ rfl (by rw [ew2]; rfl) (.inr (xaa cB (congrArg (fun b=>[V.bl b]) eB) l1 _ _ _ rfl rfl (SqL.of ups) hat ?_)))
   refine (xbm _ rfl _ rfl _ rfl nb _ rfl (SqL.of (y1 _ _ hn3)) (fun c hc=>?_))
   rw [xs2 hlen]
   have sc:=Same.new hc (.lst (((nms.drop 8).take 4).map V.str))
   have y1c:=y1.trans sc
   have cf:c≠f':=Ne.symm (neN (y1 _ _ h3) hc)
   refine (xas f' fl c so p3 (xcb q3 ws ks2 ((nms.drop 8).take 4) rfl (y1c _ _ h3) (y1c _ _ hws3) (rws3.same y1c _) wf2 ups (xhy (by rw [List.length_take,List.length_drop,hlen]; rfl) hso flf cf (fun v ps H4 f4 rv h4 hpn4 halt hpin hsum=>?_))))
   have F4:=(F3.same y1c).trans f4
   have hws4:=f4.1 _ _ (y1c _ _ hws3) flf
   have rws4:=(rws3.same y1c _).tups (xah (jEE p3 q3 (y1c _ _ h3)) f4) _
   refine ⟨(by walk_at "s"),fun l2 hl2=>?_⟩
   have y2:=Same.new hl2 (.lst [.str (S "rec"),.str (S "alt")])
   refine (jEAA _ rfl (by rw [ew2]; rfl) (.inr (xaa cB (congrArg (fun b=>[V.bl b]) eB) l2 _ _ _ rfl rfl (SqL.of ups) hat ?_)))
   have hn4:∀ z∈ps.map (·.1),z∈nms:=fun z hz=>by
    rw [hpn4] at hz
    exact List.mem_of_mem_drop (List.mem_of_mem_take (List.mem_of_mem_take hz))
   have q2k:QOk ks2 nms so ps:=⟨h4,by rw [hpn4]; exact (xvg hok ps.length).1,fun p hp=>hn4 _ (List.mem_map_of_mem hp),hpin,halt,hso⟩
   have hP:∃ (srt:Str) (qs:List (Str×Str)),V.str so=.str srt/\Fed f' H (upd H4 l2 (.lst [.str (Str.ofString "rec"),.str (Str.ofString "alt")]))/\upd H4 l2 (.lst [.str (Str.ofString "rec"),.str (Str.ofString "alt")]) fl=some (.lst ws)/\RelDs (upd H4 l2 (.lst [.str (Str.ofString "rec"),.str (Str.ofString "alt")])) ws (ks2.map Kn.d)/\RelD (upd H4 l2 (.lst [.str (Str.ofString "rec"),.str (Str.ofString "alt")])) v (xdd qs)/\QOk ks2 nms srt qs:=(xa5 so ps rfl (F4.same y2) (y2 _ _ hws4) (rws4.same y2 _) (rv.same y2 _) q2k)
   generalize upd H4 l2 (.lst [.str (Str.ofString "rec"),.str (Str.ofString "alt")])=H5 at hP ⊢
   generalize V.str so=vso at hP ⊢
   exact key _ _ _ hP
  apply xss (fun v s H'=>∃ (srt:Str) (qs:List (Str×Str)),s=.str srt/\Fed f' H H'/\H' fl=some (.lst ws)/\RelDs H' ws (ks2.map Kn.d)/\RelD H' v (xdd qs)/\QOk ks2 nms srt qs)
  ·intro key v s H3 hP
   obtain ⟨srt,qs,es,F3,hws3,rws3,rv,hq⟩:=id hP
   have wf3:=hq.wf wf2 (by omega) hok hkin hknew
   refine (jEA _ rfl (xcx _ rfl _ rfl _ rfl (by walk_at "s") (fun t ht=>⟨(by walk_at "s"),fun l1 hl1=>?_⟩)))
   have y1:=Same.new ht (.tup [.str k.name,s,v])
   have y2:=Same.new hl1 (.lst [.ref t])
   refine (xbb fl l1 _ _ rfl rfl ((y1.trans y2) _ _ hws3) ups (fits (by show _ + 1<=_; omega)) (fun l3 hl3=>?_))
   have y3:=Same.new hl3 (.lst (ws++[.ref t]))
   have y13:=y1.trans (y2.trans y3)
   have seq3:KsSeq (upd (upd (upd H3 t (.tup [.str k.name,s,v])) l1 (.lst [.ref t])) l3 (.lst (ws++[.ref t]))) (.ref l3) (ks2++[Kn.mk k.name (decide (srt=S "rec")) qs]):=by
    refine (xav l3 _ rfl (.inl ups) ?_)
    rw [zAP]
    refine (rws3.same y13 _).append (xav _ ([]) rfl (xad t _ rfl ((y2.trans y3) _ _ ups) _ _ rfl rfl _ (xb4 _ rfl ?_ _ _ rfl (rv.same y13 _) rfl)) rfl)
    rw [es]
    show V.str srt=V.str _
    rw [xo3 hq.st]
   refine (xb3 _ rfl (.ref l3) _ k.name rfl seq3 wf3 ?_ (fun H5 s5=>(xav _ _ rfl rfl (jEA _ rfl (ite2 (fun c1=>?_) (fun c1=>key _ _ _ (xa5 srt qs es (F3.same (y13.trans s5)) ((y13.trans s5) _ _ hws3) (rws3.same (y13.trans s5) _) (rv.same (y13.trans s5) _) hq)))))))
   ·refine (KIn.of (.inr (jEA (Kn.mk k.name (decide (srt=S "rec")) qs) (by simp) rfl))).mono ?_
    rw [zLA,List.length_singleton]
    omega
   ·have y15:=y13.trans s5
    obtain ⟨a,us,rfl,ha,hus⟩:=rv
    have hul:=hus.length
    rw [zLM] at hul
    have hql:=hq.len
    have ha5:=y15 _ _ ha
    have hus5:=hus.same y15 _
    refine (xa9 _ rfl a rfl ⟨_,SqT.of ha5⟩ ?_)
    refine xbn (xs:=us) (fun i ys H'=>Same H5 H'/\RelDs H' ys ((qs.take i).map fun p=>xek (p.1,S "num"))) ⟨Same.refl _,rfl⟩ (xa7 (by omega)) (fun i ys H' _ p=>SqT.of (p.1 _ _ ha5)) ?_ ?_
    ·rintro i2 y ys H' hy hi2 hly ⟨sm,rys⟩
     obtain ⟨d',hd2,rd2⟩:=hus5.get hy
     rw [zGM] at hd2
     obtain ⟨pr,hpr,rfl⟩:=zMS hd2
     obtain ⟨b2,ws',rfl,hb2,_,_,rfl,rfl,_,_,rfl,rfl,rfl⟩:=rd2
     refine (xak b2 _ rfl (SqT.of (sm _ _ hb2)) rfl _ _ rfl _ (xc1 _ rfl rfl (ext2 rfl rfl) (xf7 ?_)))
     refine (jEAA _ rfl (by walk_at "s") (fun t2 ht2=>nxtG hi2 hly ⟨sm.trans (Same.new ht2 _),?_⟩))
     rw [zTA,hpr]
     show RelDs _ _ ((qs.take i2++[pr]).map _)
     rw [zAP]
     exact (rys.same (Same.new ht2 _) _).append (xav _ ([]) rfl (xad t2 _ rfl ups _ _ rfl rfl _ (jEAA _ rfl rfl rfl)) rfl)
    ·rintro ys H6 hly ⟨sm,rys⟩ D hD
     rw [zTL (by omega)] at rys
     have z1:=Same.new hD (.lst ys)
     refine (jEEA D ys rfl (.inl ⟨SqL.of ups,fun t2 ht2=>?_⟩))
     have z2:=Same.new ht2 (.tup ys)
     have z:=y15.trans (sm.trans (z1.trans z2))
     have hP2:∃ (srt:Str) (qs:List (Str×Str)),s=.str srt/\Fed f' H (upd (upd H6 D (.lst ys)) t2 (.tup ys))/\upd (upd H6 D (.lst ys)) t2 (.tup ys) fl=some (.lst ws)/\RelDs (upd (upd H6 D (.lst ys)) t2 (.tup ys)) ws (ks2.map Kn.d)/\RelD (upd (upd H6 D (.lst ys)) t2 (.tup ys)) (.ref t2) (xdd qs)/\QOk ks2 nms srt qs:=by
      refine (xa5 srt (qs.map fun p=>(p.1,S "num")) es (F3.same z) (z _ _ hws3) (rws3.same z _) (xav t2 ys rfl ups ?_) hq.nums)
      rw [List.map_map]
      exact rys.same (z1.trans z2) _
     generalize upd (upd H6 D (.lst ys)) t2 (.tup ys)=H7 at hP2 ⊢
     generalize V.ref t2=v7 at hP2 ⊢
     exact key _ _ _ hP2
  intro v s H3 hP
  obtain ⟨srt,qs,rfl,F3,hws3,rws3,rv,hq⟩:=hP
  have wf3:=hq.wf wf2 (by omega) hok hkin hknew
  refine (xan _ rfl rfl _ rfl (ite2 (fun c1=>?_) (fun c1=>?_)))
  ·refine (xan _ rfl (.inl (jAE rfl _ (SqL.of hws3))) _ rfl (xa9 _ rfl _ rfl (by walk_at "s") (fun t ht=>?_)))
   have y1:=Same.new ht (.tup [.str k.name,.str srt,v])
   have hw4:=y1 _ _ hws3
   refine (xbd fl ws _ rfl rfl hw4 (xa7 (by omega)) ?_)
   refine (xas _ (ks2++[Kn.mk k.name (decide (srt=S "rec")) qs]) _ _ _ (xa5 _ _ rfl (Fed.put (F3.same y1) hfl flf _) ups ?_ wf3 (jAA (by rw [zLA,List.length_singleton]; omega) (fun k' hk'=>?_) (fun k' hk'=>?_))))
   ·rw [zAP]
    refine RelDs.append ((rws3.same y1 _).tups (xbc hw4 _) _) (xav _ ([]) rfl (xad t _ rfl (xbc hw4 _ _ _ ups) _ _ rfl rfl _ (xb4 _ rfl ?_ _ _ rfl ((rv.same y1 _).tups (xbc hw4 _) _) rfl)) rfl)
    show V.str srt=V.str _
    rw [xo3 hq.st]
   ·rcases zMA hk' with h | h
    ·obtain ⟨j,k0,hj,h'⟩:=hbef k' h
     exact (jEEA j k0 (by omega) h')
    ·rw [zMO h]
     exact (xav i k (by omega) hk rfl)
   ·rcases zMA hk' with h | h
    ·exact hpn k' h
    ·rw [zMO h]
     exact hq.nm
  ·refine (xas ws ks2 _ _ _ (xa5 _ _ rfl F3 hws3 rws3 wf2 (jAA (by omega) (fun k' hk'=>?_) hpn)))
   obtain ⟨j,k0,hj,h'⟩:=hbef k' hk'
   exact (jEEA j k0 (by omega) h')
 ·rintro σ H1 ⟨ws,ks2,o4,o5,o6,o7,o8,rfl,F,hws,rws,wf2,hl2,hbef,hpn⟩
  refine (xei _ rfl fl ws rfl (.inl ⟨SqL.of hws,fun t ht=>?_⟩))
  have st:=Same.new ht (.tup ws)
  exact q _ ks2 _ (F.same st) (xav t ws rfl ups (rws.same st _)) (jAA wf2 (by omega) hpn)
end
theorem xoc {olds:List (Str×Str)} (nd:(olds.map (·.1)).Nodup) (x:Str):valV (xaw [] (bKV olds)) (Sum.inr x)=(xd7 olds x).map V.str:=by
 cases h:xd7 olds x with
 | some k=>exact xod nd (xmv h) []
 | none=>
  rw [xk7]
  ·rfl
  ·intro b hb e
   have:=xvh nd hb
   rw [e,h] at this
   cases this
theorem xhb {H H1:Hp} {c:Addr} (s:Same H H1) (n:H1 c=none):H c=none:=xdh s n
theorem xip {H H1:Hp} {c:Addr} (s:Same H H1) (n:H c=none) (o:HO):Same H (upd H1 c o):=xpf s n o
theorem xnb {H:Hp} {p:Addr} {kvs:List (Key×V)} (h:H p=some (.dK kvs)) (o:HO):∀ b vs,H b=some (.tup vs)->upd H p o b=some (.tup vs):=fun b vs hb=>by
 rw [xba fun e=>by rw [e,h] at hb; cases hb]
 exact hb
theorem xpa {k:Key} {v:V}:∀ {kvs:List (Key×V)},valV kvs k=none->putK kvs k v=kvs++[(k,v)]:=fun {kvs} h=>by
 unfold putK
 rw [if_neg fun z=>?_]
 obtain ⟨e,he,ek⟩:=List.any_eq_true.mp z
 unfold valV at h
 have:=List.find?_eq_none.mp (Option.map_eq_none_iff.mp h) e he
 exact this ek
theorem xrd (o:Option Str) (x:Str):scal (optV o) (.str x)=true:=by cases o <;> rfl
theorem xo7 (o:Option Str) (x:Str):scal (.str x) (optV o)=true:=by cases o <;> rfl
theorem optV_eq {o:Option Str} {x:Str}:(optV o=V.str x) ↔ o=some x:=by
 cases o with
 | none=>exact ⟨(fun h=>by cases h),(fun h=>by cases h)⟩
 | some z=>exact ⟨(fun h=>by rw [V.str.inj h]),(fun h=>by rw [Option.some.inj h]; rfl)⟩
theorem xt5 {c:Prop} [Decidable c] {A B:Prop} (h:¬ c) (a:A):if (!decide c)=true then A else B:=by
 rw [zDF h]
 exact a
theorem xvy {c:Prop} [Decidable c] {A B:Prop} (h:c) (b:B):if (!decide c)=true then A else B:=by
 rw [zDT h]
 exact b
theorem xk8 {H:Hp} {u:V} {ds:List D} (h:RelD H u (.tup ds)):∃ b,u=.ref b:=by
 obtain ⟨b,_,e,_⟩:=h
 exact ⟨b,e⟩
theorem xt8 {H:Hp} {u:V} {ks2:List Kn} {ys:List Wy} {k:Kn} {d:D} (h:xde ks2 ys k=some d) (r:RelD H u d):∃ b,u=.ref b:=by
 unfold xde at h
 split at h
 ·cases h
 ·split at h
  ·split at h
   ·split at h
    ·cases h
     exact xk8 r
    ·cases h
   ·split at h
    ·cases h
     exact xk8 r
    ·cases h
  ·cases h
theorem xvm {H:Hp} {u:V} {ks:List Kn} (wf:KWf ks) {m:Nat} {x:Str} (h:KIn ks m x) (r:RelD H u (nuT (m + 1) ks x)):∃ b,u=.ref b:=by
 rcases h.nu wf with ⟨rfl,_,e,_⟩ | ⟨j,k,ej,hk,hn,hm,hp,_,⟨hc,e,_⟩ | ⟨hc,p,rr,er,e,_⟩⟩ <;> (rw [e] at r; exact xk8 r)
def optD (H:Hp) (u:V):Option D->Prop
 | none=>u=.non
 | some d=>RelD H u d
def xjl:Sp:=fun vs H Q _=>∃ (a:Addr) (ys:List Wy) (x:Str),vs=[.ref a,.str x]/\WaysAt H a ys/\Q (optV (xau ys x)) H
def spNu (F:Nat->List Kn->Str->D) (m:Nat):Sp:=fun vs H Q _=>∃ v ks x,vs=[v,.str x]/\RelD H v (xb8 ks)/\KWf ks/\KIn ks m x/\∀ u H',Same H H'->RelD H' u (F (m + 1) ks x)->Q u H'
def xij (ks2:List Kn) (ys:List Wy) (olds news:List (Str×Str)):Option D:=if news.all (okQ ys olds)=true then some (.tup (news.map (tmQ ks2 olds))) else none
def xon (ys:List Wy) (k k2:Kn):Option D:=if k.parts.all (okT ys k2.parts)=true then some (xq2 k) else none
def xjj:Sp:=fun vs H Q _=>∃ (kv:V) (wa:Addr) (ov nv:V) (ks2:List Kn) (ys:List Wy) (os ps:List (Str×Str)),vs=[kv,.ref wa,ov,nv]/\RelD H kv (xb8 ks2)/\KWf ks2/\WaysAt H wa ys/\RelD H ov (xdd os)/\RelD H nv (xdd ps)/\(os.map (·.1)).Nodup/\os.length<=100/\ps.length<=100/\(∀ p∈ps,KIn ks2 6 p.2)/\∀ u H',Same H H'->optD H' u (xij ks2 ys os ps)->Q u H'
def xmn:Sp:=fun vs H Q _=>∃ (kv:V) (wa:Addr) (dv:V) (ks2:List Kn) (ys:List Wy) (k k2:Kn),vs=[kv,.ref wa,dv]/\KsAt H kv ks2/\WaysAt H wa ys/\RelD H dv k.d/\kAt ks2 k.name=some k2/\(k2.parts.map (·.1)).Nodup/\k2.parts.length<=100/\k.parts.length<=100 ∧
 ∀ u H',Same H H'->optD H' u (xon ys k k2)->Q u H'
def xuz:Sp:=fun vs H Q _=>∃ (kv:V) (wa:Addr) (dv:V) (ks2:List Kn) (ys:List Wy) (k:Kn),vs=[kv,.ref wa,dv]/\RelD H kv (xb8 ks2)/\KWf ks2/\WaysAt H wa ys/\RelD H dv k.d/\(k.parts.map (·.1)).Nodup/\k.parts.length<=100/\∀ u H',Same H H'->optD H' u (xde ks2 ys k)->Q u H'
def xmo:Sp:=fun vs H Q _=>∃ (fa sa ta:Addr) (kv1 kv2:V) (r1 r2:List V) (ks ks2:List Kn) (tkv:List (Key×V)) (told:List Wy),vs=[.ref fa,.ref sa,.ref ta]/\H fa=some (.tup (kv1 :: r1))/\H sa=some (.tup (kv2 :: r2))/\H ta=some (.dK tkv)/\WAll H tkv told/\told.length<=100/\RelD H kv1 (xb8 ks)/\KWf ks/\RelD H kv2 (xb8 ks2)/\KWf ks2 ∧
 ∀ r wa la kvs (ls:List Str) H',Same H H'->H r=none->H wa=none->H la=none->H' r=some (.tup [.ref wa,.ref la])->H' wa=some (.dK kvs)->WAll H' kvs (xbp ks2 ks told)->H' la=some (.lst (ls.map V.str))->ls.length<=100->Q (.ref r) H'
section
variable {P:Program} {w:World} {K:PySem.W.Frag} {mg:Str->Option Value} {base:Heap} {n m:Nat}
theorem xeq (T:Tx K mg):DefIs P w K mg base (n + 1) "goes_to" qah xjl:=by
 refine DefIs.of T.d_goes_to sc_goes_to ?_ ?_ <;> walk_at "i"
 ·obtain ⟨_,_,_,rfl,_⟩:=h
  rfl
 obtain ⟨a,ys,x,rfl,⟨kvs,hd,hw⟩,q⟩:=h
 have nd:=sc_goes_to.nd
 have hu:=xfn hr
 refine ⟨_,(zpn (xa1 (pR xa4 (pv 1) pS (nM _)) (po (xae pS)) pQ)
   (zpn (xa1 (xmr (xvf hu (pv 1) (pv 0))) (po (xae (xaj xai (xcl hu (pv 0) (pv 1) (fun _ _=>rfl)) pI (fun _ _=>rfl)))) pQ)
   (po (xae xee)))),?_⟩
 unfold xau at q
 refine (xan _ rfl rfl _ rfl (ite2 (fun c=>?_) (fun c=>?_)))
 ·have e:x=S "num":=V.str.inj (of_decide_eq_true c)
  rw [if_pos e] at q
  exact q
 ·have e:¬ x=S "num":=fun z=>c (zDT (congrArg V.str z))
  rw [if_neg e] at q
  have hv:=hw.val (x:=x)
  cases hy:wyAt ys x with
  | none=>
   rw [hy] at q
   have h0:=hv.1 hy
   refine (xbl _ rfl _ rfl a _ rfl (DGet.rd (k:=Sum.inr x) hd) _ rfl (xn2 (by rw [h0]; rfl) ?_))
   exact q
  | some y=>
   rw [hy] at q
   obtain ⟨v,h1,h2⟩:=hv.2 y hy
   refine (xbl _ rfl _ rfl a _ rfl (DGet.rd (k:=Sum.inr x) hd) _ rfl (xr2 (by rw [h1]; rfl) ?_))
   obtain ⟨b,us,rfl,hb,v0,_,rfl,r0,v1,_,rfl,r1,rfl⟩:=h2
   obtain rfl:v0=.str y.2.1:=r0
   have g:DGet H a (.str x) (some (.ref b)):=by
    have:=DGet.rd (k:=Sum.inr x) hd
    rw [h1] at this
    exact this
   exact (xbf _ rfl _ rfl a _ rfl g b (xbd _ _ _ rfl rfl (SqT.of hb) rfl q))
theorem xey (T:Tx K mg) (spc:Sp) (D_parts_of:DefIs P w K mg base n "parts_of" qad xc7) (D_sort_of:DefIs P w K mg base n "sort_of" qad xgl) (D_nought_term:DefIs P w K mg base n "nought_term" qam spc) (hspc:∀ j,m=j + 1->spc=spNu nuT j) :
  DefIs P w K mg base (n + 1) "nought_term" qam (spNu nuT m):=by
 refine DefIs.of T.d_nought_term sc_nought_term ?_ ?_ <;> walk_at "i"
 ·obtain ⟨_,_,_,rfl,_⟩:=h
  rfl
 obtain ⟨v,ks,x,rfl,hk,wf,hin,q⟩:=h
 have nd:=sc_nought_term.nd
 refine ⟨_,(zpn (xa1 (pR xa4 (pv 1) pS (nM _)) (po (xae (xar (pc pS (pc pI pN zso) zso)))) pQ)
   (zpn (xal (i:=2) nd rfl (by walk_at "o") (pd D_parts_of hr (pc (pv 0) (pc (pv 1) pN zsn) zsn)))
   (zpn (xa1 (pR xa4 (pd D_sort_of hr (pc (pv 0) (pc (pv 1) pN zsn) zsn)) pS (nM _)) (po (xae (xar (pc pS (pc (pv 1) (pc (xat xa2 rfl T.z_tuple PyProof.Rows.boot_tuple (pc (xbu ["part","kinds"] [none,some 0] rfl (by kernel_rfl) (xbi (pv 2)) (fun _ _ _ _=>(xab (i:=0) (by show List.Nodup (["part","kinds"]:List Str); decide +kernel) rfl (Or.inl rfl))) (fun _ _ _ _=>xbz) (fun _ _ _ _=>(pd D_nought_term hr (pc (pv 1) (pc (xaj (xcu (K:=K) rfl) (pv 0) pI (fun _ _=>rfl)) pN zss) zsn)))) pN xby)) pN zsc) zsn) zso)))) pQ)
   (po (xae (xar (pc pS (pc (pv 1) (pc (xaj xai (xaj xai (pv 2) pI (fun _ _=>rfl)) pI (fun _ _=>rfl)) (pc (pd D_nought_term hr (pc (pv 0) (pc (xaj xai (xaj xai (pv 2) pI (fun _ _=>rfl)) pI (fun _ _=>rfl)) pN zss) zsn)) pN zsc) zss) zsn) zso))))))),?_⟩
 rcases hin.nu wf with ⟨rfl,_,e,_⟩ | ⟨j,k,rfl,hkx,hn,hm,hp,hne,hcase⟩
 ·refine (xan _ rfl rfl _ rfl (iteKT (by walk_at "k") ?_))
  refine ⟨(by walk_at "s"),fun t ht=>?_⟩
  rw [e] at q
  exact q _ _ (Same.new ht _) (xad t _ rfl ups _ _ rfl rfl _ (jEAA _ rfl rfl rfl))
 ·have D':=hspc j rfl
  subst D'
  refine (xan _ rfl rfl _ rfl (iteKF (zDF fun z=>hne (V.str.inj z)) ?_))
  refine (xbh _ rfl _ rfl v ks x rfl (wf.ksAt hk) (fun u H1 s1 r1=>?_))
  rw [hkx] at r1
  obtain ⟨a,us,rfl,ha,hus⟩:=r1
  have hl:=hus.length
  rw [zLM] at hl
  have h5:=wf.pts k hm
  refine (xbh _ rfl _ rfl v ks x rfl (wf.ksAt (hk.same s1 _)) ?_)
  rw [hkx]
  rcases hcase with ⟨hc,e,_⟩ | ⟨hc,p,r,er,e,_⟩
  ·refine (jAEA rfl _ rfl (iteKT (zDT (by show V.str k.sort=_; rw [xcj hc]; rfl)) ?_))
   refine (xcx _ rfl _ rfl a rfl ⟨_,SqT.of ha⟩ ?_)
   refine xgs (j:=0) (xs:=us) (fun i ys H'=>Same H1 H'/\RelDs H' ys ((k.parts.take i).map fun p=>nuT (j + 1) ks p.2)) (by rfl) ⟨Same.refl _,rfl⟩ (xa7 (by omega)) (fun i ys H' _ p=>SqT.of (p.1 _ _ ha)) ?_ ?_
   ·rintro i y ys H' hy hly ⟨sm,hys⟩
    obtain ⟨d,hd,rd⟩:=hus.get hy
    rw [zGM] at hd
    obtain ⟨p,hp',rfl⟩:=zMS hd
    obtain ⟨b,ws,rfl,hb,_,_,rfl,rfl,_,_,rfl,rfl,rfl⟩:=rd
    have hi:i < us.length:=(zES hy).1
    refine (xa6 _ rfl _ rfl b _ _ (xd3 _ rfl rfl (SqT.of (sm _ _ hb)) rfl _ ks p.2 rfl (hk.same (s1.trans sm) _) (jAA wf (hp p (zMG hp')) (fun u H2 s2 r2=>nxt hi hly ⟨sm.trans s2,?_⟩))))
    rw [zTA,hp',zAP]
    exact (hys.same s2 _).append (xav u ([]) rfl r2 rfl)
   ·rintro ys H' hly ⟨sm,hys⟩ D hD
    rw [zTL (by omega)] at hys
    refine (jEEA D ys rfl (.inl ⟨SqL.of ups,fun l' hl'=>⟨(by walk_at "s"),fun t ht=>?_⟩⟩))
    have s2:=Same.new hD (.lst ys)
    have s3:=Same.new hl' (.tup ys)
    have s4:=Same.new ht (.tup [.str (S "rec"),.str x,.ref l'])
    rw [e] at q
    exact q _ _ (s1.trans (sm.trans (s2.trans (s3.trans s4)))) (xad t _ rfl ups _ _ rfl rfl _ (xb4 _ rfl rfl _ _ rfl (xav l' ys rfl (s4 _ _ ups) (hys.same (s2.trans (s3.trans s4)) _)) rfl))
  ·refine (jAEA rfl _ rfl (iteKF (zDF (by show ¬ V.str k.sort=_; rw [xcr hc]; decide +kernel)) ?_))
   rw [er] at hus
   obtain ⟨vp,rest,rfl,rp,_⟩:=hus
   obtain ⟨b,ws,rfl,hb,_,_,rfl,rfl,_,_,rfl,rfl,rfl⟩:=rp
   have hSa:SqT K H1 a (.ref b :: rest):=SqT.of ha
   have at0:atI (V.ref b :: rest) 0=some (.ref b):=xaz (j:=0) rfl
   refine (xa6 _ rfl _ rfl a _ _ (xdc _ rfl rfl hSa at0 b _ _ _ rfl (jAAA rfl (SqT.of hb) rfl ?_)))
   refine (xa6 _ rfl _ rfl a _ _ (xdc _ rfl rfl hSa at0 b _ _ _ rfl (jAAA rfl (SqT.of hb) rfl ?_)))
   refine (xbd _ ks p.2 rfl (hk.same s1 _) wf (hp p (by rw [er]; simp)) (fun u H2 s2 r2=>⟨(by walk_at "s"),fun t ht=>?_⟩))
   have s3:=Same.new ht (.tup [.str (S "tag"),.str x,.str p.1,u])
   rw [e] at q
   exact q _ _ (s1.trans (s2.trans s3)) (xad t _ rfl ups _ _ rfl rfl _ (xd1 _ rfl rfl _ _ rfl rfl _ _ rfl ⟨r2.same s3 _,rfl⟩))
theorem xj4 (T:Tx K mg):∀ m,DefIs P w K mg base (m + 2) "nought_term" qam (spNu nuT m)
 | 0=>xey (n:=1) T (fun _ _ _ _=>False) (xbv T) (xdq T) (DefIs.none T.d_nought_term fun _ _ _ _ h=>h) (fun j e=>by cases e)
 | m + 1=>xey (n:=m + 2) T (spNu nuT m) (xbv T) (xdq T) (xj4 T m) (fun j e=>by cases e; rfl)
theorem xfy (T:Tx K mg) (D_goes_to:DefIs P w K mg base n "goes_to" qah xjl) (D_nought_term:DefIs P w K mg base n "nought_term" qam (spNu nuT 6)):DefIs P w K mg base (n + 1) "terms_by_rules" qa0 xjj:=by
 refine DefIs.of T.d_terms_by_rules sc_terms_by_rules ?_ ?_ <;> walk_at "i"
 ·obtain ⟨_,_,_,_,_,_,_,_,rfl,_⟩:=h
  rfl
 obtain ⟨kv,wa,ov,nv,ks2,ys,os,ps,rfl,hkv,wf2,hw,ho,hv,hnd,hl,hl2,hin,q⟩:=h
 have nd:=sc_terms_by_rules.nd
 have hu:=xfn hr
 obtain ⟨oa,ous,rfl,hoa,hou⟩:=ho
 obtain ⟨na,nus,rfl,hna,hnu⟩:=hv
 have hnl:=hnu.length
 rw [zLM] at hnl
 refine ⟨_,(zpn (xal (i:=4) nd rfl (by walk_at "o") (xat (xdv rfl) rfl T.z_dict PyProof.Rows.boot_dict (pc (pv 2) pN zsn)))
   (zpn (xal (i:=5) nd rfl (by walk_at "o") (xb6 pN))
   (zpn (xcf PassesOwn.never rfl (xbi (pv 3)) (xbr rfl (xac (xab (i:=6) nd rfl (by walk_at "o")) (xac (xab (i:=7) nd rfl (by walk_at "o")) xa0)))
   (po (xa1 (xmr (xg6 hu (pv 6) (pv 4))) (po (xck (xfe PySem.F.plainAttrs_list PySem.F.slot_list_append PySem.F.type_list_append xcn (pv 5) (pc (pd D_nought_term hr (pc (pv 0) (pc (pv 7) pN zsn) zsn)) pN zsc)))) (po (xa1 (pR xa4 (pd D_goes_to hr (pc (pv 1) (pc (xcl hu (pv 4) (pv 6) (fun _ _=>rfl)) pN zss) zsn)) (pv 7) (nM _)) (po (xck (xfe PySem.F.plainAttrs_list PySem.F.slot_list_append PySem.F.type_list_append xcn (pv 5) (pc (xar (pc pS (pc (pv 6) pN zsn) zso)) pN sT)))) (po (xae xee)))))))
   (po (xae (xat xa2 rfl T.z_tuple PyProof.Rows.boot_tuple (pc (pv 5) pN zsn))))))),?_⟩
 refine (xfk _ rfl oa ous (bKV os) rfl hoa (xeo hou) (fun dp hdp=>?_))
 have y1:=Same.new hdp (.dK (xaw [] (bKV os)))
 refine ⟨(by walk_at "s"),fun l hl'=>?_⟩
 have y2:=Same.new hl' (.lst [])
 have ne1:dp≠l:=neN ups hl'
 have nl:H l=none:=xhb (y1) hl'
 refine (xa9 _ rfl na rfl ⟨_,SqT.of (y2 _ _ (y1 _ _ hna))⟩ ?_)
 refine xcq (xs:=nus) (fun i σ H'=>∃ o6 o7 us,σ=[some kv,some (.ref wa),some (.ref oa),some (.ref na),some (.ref dp),some (.ref l),o6,o7]/\Same H H'/\H' dp=some (.dK (xaw [] (bKV os)))/\H' l=some (.lst us)/\RelDs H' us ((ps.take i).map (tmQ ks2 os))/\(ps.take i).all (okQ ys os)=true) (xef none none ([]) rfl (y1.trans y2) (y2 _ _ ups) ups rfl rfl) (fun i σ H' _ p=>?_) ?_ ?_
 ·obtain ⟨_,_,_,_,sm,_⟩:=p
  exact SqT.of (sm _ _ hna)
 ·rintro i v σ H' hv ⟨o6,o7,us,rfl,sm,hd,hll,hus,hall⟩
  obtain ⟨d,hd',rd⟩:=(hnu.same sm _).get hv
  rw [zGM] at hd'
  obtain ⟨pr,hpr,rfl⟩:=zMS hd'
  obtain ⟨b,ws,rfl,hb,_,_,rfl,rfl,_,_,rfl,rfl,rfl⟩:=rd
  have hpm:=zMG hpr
  have hval:=xoc hnd pr.1
  have hlen:=hus.length
  rw [zLM,List.length_take] at hlen
  have g:DGet H' dp (.str pr.1) ((xd7 os pr.1).map V.str):=by
   have:=DGet.k (H:=H') (a:=dp) (k:=Sum.inr pr.1) hd
   rw [hval] at this
   exact this
  have fin:∀ (z:Addr) (dz:D) (H3:Hp),Same H' H3->RelD H3 (.ref z) dz->okQ ys os pr=true->tmQ ks2 os pr=dz->∃ o6 o7 us',[some kv,some (.ref wa),some (.ref oa),some (.ref na),some (.ref dp),some (.ref l),some (.str pr.1),some (.str pr.2)]=[some kv,some (.ref wa),some (.ref oa),some (.ref na),some (.ref dp),some (.ref l),o6,o7]/\Same H (upd H3 l (.lst (us++[.ref z])))/\upd H3 l (.lst (us++[.ref z])) dp=some (.dK (xaw [] (bKV os)))/\upd H3 l (.lst (us++[.ref z])) l=some (.lst us')/\RelDs (upd H3 l (.lst (us++[.ref z]))) us' ((ps.take (i + 1)).map (tmQ ks2 os))/\(ps.take (i + 1)).all (okQ ys os)=true:=by
   intro z dz H3 s3 rz hok htm
   have tp:=xbc (s3 _ _ hll) (.lst (us++[.ref z]))
   refine (xef _ _ (us++[.ref z]) rfl (xip (sm.trans s3) nl _) (by rw [xba ne1]; exact s3 _ _ hd) ups ?_ ?_)
   ·rw [zTA,hpr]
    show RelDs _ _ ((ps.take i++[pr]).map _)
    rw [zAP]
    have hb1:RelDs H3 [.ref z] [tmQ ks2 os pr]:=(xav _ ([]) rfl (by rw [htm]; exact rz) rfl)
    exact ((hus.same s3 _).append hb1).tups tp _
   ·rw [zTA,hpr]
    show (ps.take i++[pr]).all _=true
    rw [List.all_append,hall,List.all_cons,hok]
    rfl
  refine (xak b _ rfl (SqT.of hb) rfl _ _ rfl _ (jEAA _ rfl rfl ?_))
  cases hown:xd7 os pr.1 with
  | none=>
   rw [hown] at g
   refine (xbl _ rfl _ rfl dp _ rfl g _ rfl (iteT ?_))
   refine (xan _ rfl (.inl (jAE rfl _ (SqL.of hll))) _ rfl (xb3 _ rfl kv ks2 pr.2 rfl (hkv.same sm _) wf2 (hin pr hpm) (fun u H3 s3 ru=>?_)))
   obtain ⟨z,rfl⟩:∃ z,u=.ref z:=xvm wf2 (hin pr hpm) ru
   refine (xbd l us _ rfl rfl (s3 _ _ hll) (xa7 (by omega)) ?_)
   exact fin z _ H3 s3 ru (by unfold okQ; rw [hown]) (by unfold tmQ; rw [hown])
  | some k=>
   rw [hown] at g
   refine (xbl _ rfl _ rfl dp _ rfl g _ rfl (iteF ?_))
   refine (xbm _ rfl _ rfl _ rfl dp _ rfl g (xeg wa ys k rfl (hw.same sm) ?_))
   refine (xan _ rfl (xrd _ _) _ rfl ?_)
   by_cases hg:xau ys k=some pr.2
   ·refine iteKT (zDT (optV_eq.mpr hg)) ?_
    refine (xan _ rfl (.inl (jAE rfl _ (SqL.of hll))) _ rfl ⟨(by walk_at "s"),fun t ht=>(xbd l us _ rfl rfl ((Same.new ht _) _ _ hll) (xa7 (by omega)) ?_)⟩)
    exact fin t (tBox pr.1) _ (Same.new ht _) (xad t _ rfl ups _ _ rfl rfl _ (jEAA _ rfl rfl rfl)) (by unfold okQ; rw [hown]; exact zDT hg) (by unfold tmQ; rw [hown])
   ·refine iteKF (zDF fun z=>hg (optV_eq.mp z)) ?_
    refine q _ _ sm ?_
    unfold xij
    rw [if_neg]
    ·rfl
    ·intro z
     have:=List.all_eq_true.mp z pr hpm
     unfold okQ at this
     rw [hown] at this
     exact hg (of_decide_eq_true this)
 ·rintro σ H' ⟨o6,o7,us,rfl,sm,hd,hll,hus,hall⟩
  rw [zTL (by omega)] at hus hall
  refine (xei _ rfl l us rfl (.inl ⟨SqL.of hll,fun t ht=>?_⟩))
  have y3:=Same.new ht (.tup us)
  refine q _ _ (sm.trans y3) ?_
  unfold xij
  rw [if_pos hall]
  exact (xav t us rfl ups (hus.same y3 _))
theorem xgh (T:Tx K mg) (D_goes_to:DefIs P w K mg base n "goes_to" qah xjl) (D_parts_of:DefIs P w K mg base n "parts_of" qad xc7):DefIs P w K mg base (n + 1) "tags_by_rules" qag xmn:=by
 refine DefIs.of T.d_tags_by_rules sc_tags_by_rules ?_ ?_ <;> walk_at "i"
 ·obtain ⟨_,_,_,_,_,_,_,rfl,_⟩:=h
  rfl
 obtain ⟨kv,wa,dv,ks2,ys,k,k2,rfl,hk,hw,hdv,hkx,hnd,hl2,hl,q⟩:=h
 have nd:=sc_tags_by_rules.nd
 have hu:=xfn hr
 obtain ⟨da,_,rfl,hda,_,_,rfl,rfl,_,_,rfl,rfl,pv',_,rfl,⟨pa,pus,rfl,hpa,hpu⟩,rfl⟩:=hdv
 have hpl:=hpu.length
 rw [zLM] at hpl
 refine ⟨_,(zpn (xal (i:=3) nd rfl (by walk_at "o") (xaj xai (pv 2) pI (fun _ _=>rfl)))
   (zpn (xal (i:=4) nd rfl (by walk_at "o") (xat (xdv rfl) rfl T.z_dict PyProof.Rows.boot_dict (pc (pd D_parts_of hr (pc (pv 0) (pc (pv 3) pN zsn) zsn)) pN zsc)))
   (zpn (xcf PassesOwn.never rfl (xbi (xaj xai (pv 2) pI (fun _ _=>rfl))) (xbr rfl (xac (xab (i:=5) nd rfl (by walk_at "o")) (xac (xab (i:=6) nd rfl (by walk_at "o")) xa0)))
   (po (xa1 (PW.pt (xli (xmr (xg6 hu (pv 5) (pv 4))) (xh5 (pR xjw (xcl hu (pv 4) (pv 5) (fun _ _=>rfl)) (pd D_goes_to hr (pc (pv 1) (pc (pv 6) pN zsn) zsn)) (nM _))))) (po (xae xee)) pQ)))
   (po (xae (xat xa2 rfl T.z_tuple PyProof.Rows.boot_tuple (pc (xbu ["tag","inner","K"] [none,none,some 3] rfl (by kernel_rfl) (xbi (xaj xai (pv 2) pI (fun _ _=>rfl))) (fun _ _ _ _=>(xcs (K:=K) (n:=2) rfl rfl (xac (xab (i:=0) (by show List.Nodup (["tag","inner","K"]:List Str); decide +kernel) rfl (Or.inl rfl)) (xac (xab (i:=1) (by show List.Nodup (["tag","inner","K"]:List Str); decide +kernel) rfl (Or.inl rfl)) xa0)))) (fun _ _ _ _=>xbz) (fun _ _ _ _=>(xar (pc (pv 0) (pc (xar (pc pS (pc (pv 2) (pc (pv 0) (pc (xar (pc pS (pc pS pN zso) zso)) pN sT) zsn) zsn) zso)) pN sT) zsn)))) pN xby))))))),?_⟩
 refine (xaa _ rfl da _ _ _ rfl rfl (SqT.of hda) rfl ?_)
 refine (xbh _ rfl _ rfl kv ks2 k.name rfl hk (fun u H1 s1 ru=>?_))
 rw [hkx] at ru
 obtain ⟨ta,tus,rfl,hta,htu⟩:=ru
 refine (xe8 ta tus (bKV k2.parts) rfl hta (xeo htu) (fun dp hdp=>?_))
 have y1:=Same.new hdp (.dK (xaw [] (bKV k2.parts)))
 have s2:=s1.trans y1
 have hda2:=s2 _ _ hda
 have hpa2:=s2 _ _ hpa
 have hd2:upd H1 dp (.dK (xaw [] (bKV k2.parts))) dp=some (.dK (xaw [] (bKV k2.parts))):=ups
 have hpu2:=hpu.same s2 _
 have hw2:=hw.same s2
 generalize upd H1 dp (.dK (xaw [] (bKV k2.parts)))=H2 at s2 hda2 hpa2 hd2 hpu2 hw2 ⊢
 refine (xaa _ rfl da _ _ _ rfl rfl (SqT.of hda2) rfl (jEAA pa rfl ⟨_,SqT.of hpa2⟩ ?_))
 refine xcq (xs:=pus) (fun i σ H'=>∃ o5 o6,σ=[some kv,some (.ref wa),some (.ref da),some (.str k.name),some (.ref dp),o5,o6]/\H'=H2/\(k.parts.take i).all (okT ys k2.parts)=true) (xav none none rfl rfl rfl) (fun i σ H' _ p=>by obtain ⟨_,_,_,rfl,_⟩:=p; exact SqT.of hpa2) ?_ ?_
 ·rintro i v σ H' hv ⟨o5,o6,rfl,rfl,hall⟩
  obtain ⟨d,hd',rd⟩:=hpu2.get hv
  rw [zGM] at hd'
  obtain ⟨pr,hpr,rfl⟩:=zMS hd'
  obtain ⟨b,ws,rfl,hb,_,_,rfl,rfl,_,_,rfl,rfl,rfl⟩:=rd
  have hpm:=zMG hpr
  have hval:=xoc hnd pr.1
  have g:DGet H' dp (.str pr.1) ((xd7 k2.parts pr.1).map V.str):=by
   have:=DGet.k (H:=H') (a:=dp) (k:=Sum.inr pr.1) hd2
   rw [hval] at this
   exact this
  have bad:okT ys k2.parts pr=false->Q .non H':=fun hb0=>by
   refine q _ _ s2 ?_
   unfold xon
   rw [if_neg]
   ·rfl
   ·intro z
    have:=List.all_eq_true.mp z pr hpm
    rw [hb0] at this
    cases this
  refine (xak b _ rfl (SqT.of hb) rfl _ _ rfl _ (jEAA _ rfl rfl ?_))
  cases hown:xd7 k2.parts pr.1 with
  | none=>
   rw [hown] at g
   refine (xbl _ rfl _ rfl dp _ rfl g _ rfl (iteT ?_))
   exact iteT (bad (by unfold okT; rw [hown]))
  | some gk=>
   rw [hown] at g
   refine (xbl _ rfl _ rfl dp _ rfl g _ rfl (iteF ?_))
   refine (xbl _ rfl _ rfl dp _ rfl g _ rfl (xcw _ rfl wa ys pr.2 rfl hw2 ?_))
   refine (jAEA (xo7 _ _) _ rfl ?_)
   by_cases hg:xau ys pr.2=some gk
   ·refine xvy (by rw [hg]; rfl) (xav _ _ rfl rfl ?_)
    rw [zTA,hpr]
    show (k.parts.take i++[pr]).all _=true
    rw [List.all_append,hall,List.all_cons]
    have:okT ys k2.parts pr=true:=by unfold okT; rw [hown]; exact zDT hg
    rw [this]
    rfl
   ·refine xt5 (fun z=>hg (optV_eq.mp z.symm)) (bad ?_)
    unfold okT
    rw [hown]
    exact zDF hg
 ·rintro σ H' ⟨o5,o6,rfl,rfl,hall⟩
  rw [zTL (by omega)] at hall
  refine (xaa _ rfl da _ _ _ rfl rfl (SqT.of hda2) rfl (jEAA pa rfl ⟨_,SqT.of hpa2⟩ ?_))
  refine xbn (xs:=pus) (fun i zs H3=>Same H' H3/\zs.length=i/\RelDs H3 zs ((k.parts.take i).map fun p=>.tup [.str p.1,tTag k.name p.1 (tBox (S "it"))])) (jAA (Same.refl _) rfl rfl) (xa7 (by omega)) (fun i zs H3 _ p=>SqT.of (p.1 _ _ hpa2)) ?_ ?_
  ·rintro i y zs H3 hy hi hly ⟨sm,hzl,hzs⟩
   obtain ⟨d,hd',rd⟩:=(hpu2.same sm _).get hy
   rw [zGM] at hd'
   obtain ⟨pr,hpr,rfl⟩:=zMS hd'
   obtain ⟨b,ws,rfl,hb,_,_,rfl,rfl,_,_,rfl,rfl,rfl⟩:=rd
   refine (xak b _ rfl (SqT.of hb) rfl _ _ rfl _ (xc1 _ rfl rfl (ext2 rfl rfl) (xf7 ?_)))
   refine (xcx _ rfl _ rfl _ rfl (by walk_at "s") (fun t1 ht1=>⟨(by walk_at "s"),fun t2 ht2=>⟨(by walk_at "s"),fun t3 ht3=>?_⟩⟩))
   have y1:=Same.new ht1 (.tup [.str (S "box"),.str (S "it")])
   have y2:=Same.new ht2 (.tup [.str (S "tag"),.str k.name,.str pr.1,.ref t1])
   have y3:=Same.new ht3 (.tup [.str pr.1,.ref t2])
   have y23:=y2.trans y3
   have y:=y1.trans y23
   refine nxtG hi hly (jAA (sm.trans y) (by rw [zLA,List.length_singleton,hzl]) ?_)
   rw [zTA,hpr]
   show RelDs _ _ ((k.parts.take i++[pr]).map _)
   rw [zAP]
   exact (hzs.same y _).append (xav _ ([]) rfl (xad t3 _ rfl ups _ _ rfl rfl _ (jEAA _ rfl (xad t2 _ rfl (y3 _ _ ups) _ _ rfl rfl _ (xd1 _ rfl rfl _ _ rfl rfl _ _ rfl ⟨(xad t1 _ rfl (y23 _ _ ups) _ _ rfl rfl _ (jEAA _ rfl rfl rfl)),rfl⟩)) rfl)) rfl)
  ·rintro zs H3 hly ⟨sm,hzl,hzs⟩ D hD
   rw [zTL (by omega)] at hzs
   have y1:=Same.new hD (.lst zs)
   refine (jEEA D zs rfl (.inl ⟨SqL.of ups,fun t ht=>?_⟩))
   have y2:=Same.new ht (.tup zs)
   have y:=y1.trans y2
   refine q _ _ (s2.trans (sm.trans y)) ?_
   unfold xon
   rw [if_pos hall]
   exact (xav t zs rfl ups (hzs.same y _))
theorem xha (T:Tx K mg) (D_sort_of:DefIs P w K mg base n "sort_of" qad xgl) (D_parts_of:DefIs P w K mg base n "parts_of" qad xc7) (D_tags_by_rules:DefIs P w K mg base n "tags_by_rules" qag xmn) (D_terms_by_rules:DefIs P w K mg base n "terms_by_rules" qa0 xjj):DefIs P w K mg base (n + 1) "how_by_rules" qag xuz:=by
 refine DefIs.of T.d_how_by_rules sc_how_by_rules ?_ ?_ <;> walk_at "i"
 ·obtain ⟨_,_,_,_,_,_,rfl,_⟩:=h
  rfl
 obtain ⟨kv,wa,dv,ks2,ys,k,rfl,hkv,wf2,hw,hdv,hnd,hl,q⟩:=h
 have nd:=sc_how_by_rules.nd
 have hk:=wf2.ksAt hkv
 have hdv':=hdv
 obtain ⟨da,_,rfl,hda,_,_,rfl,rfl,_,_,rfl,rfl,pv',_,rfl,hpv,rfl⟩:=hdv'
 refine ⟨_,(zpn (xal (i:=3) nd rfl (by walk_at "o") (xaj xai (pv 2) pI (fun _ _=>rfl)))
   (zpn (xa1 (pR xjw (pd D_sort_of hr (pc (pv 0) (pc (pv 3) pN zsn) zsn)) (xaj xai (pv 2) pI (fun _ _=>rfl)) (nM _)) (po (xae xee)) pQ)
   (zpn (xa1 (pR xa4 (xaj xai (pv 2) pI (fun _ _=>rfl)) pS (nM _)) (po (xae (pd D_tags_by_rules hr (pc (pv 0) (pc (pv 1) (pc (pv 2) pN zsn) zsn) zsn)))) pQ)
   (zpn (xal (i:=4) nd rfl (by walk_at "o") (pd D_terms_by_rules hr (pc (pv 0) (pc (pv 1) (pc (xaj xai (pv 2) pI (fun _ _=>rfl)) (pc (pd D_parts_of hr (pc (pv 0) (pc (pv 3) pN zsn) zsn)) pN zsc) zss) zsn) zsn)))
   (zpn (xa1 (pR xsp (pv 4) xee (nM _)) (po (xae xee)) pQ)
   (po (xae (xar (pc pS (pc (pv 3) (pc (pv 4) pN zsn) zsn) zso))))))))),?_⟩
 refine (xaa _ rfl da _ _ _ rfl rfl (SqT.of hda) rfl ?_)
 refine (xbh _ rfl _ rfl kv ks2 k.name rfl hk ?_)
 unfold xde at q
 cases hkx:kAt ks2 k.name with
 | none=>
  rw [hkx] at q
  exact (xaa _ rfl da _ _ _ rfl rfl (SqT.of hda) rfl (jAEA rfl _ rfl (xt5 (fun z=>by cases z) (q _ _ (Same.refl _) rfl))))
 | some k2=>
  rw [hkx] at q
  have hm2:=zMF hkx
  have h52:=wf2.pts k2 hm2
  by_cases hrc:k2.rc=k.rc
  ·have hss:k2.sort=k.sort:=by unfold Kn.sort; rw [hrc]
   refine (xaa _ rfl da _ _ _ rfl rfl (SqT.of hda) rfl (jAEA rfl _ rfl (xvy (by show V.str k2.sort=V.str k.sort; rw [hss]) ?_)))
   change ∀ u H',Same H H'->optD H' u (if k2.rc=k.rc then _ else _)->Q u H' at q
   rw [if_pos hrc] at q
   cases hc:k.rc with
   | false=>
    rw [if_neg (by rw [hc]; decide)] at q
    refine (xaa _ rfl da _ _ _ rfl rfl (SqT.of hda) rfl (jAEA rfl _ rfl (iteKT (zDT (by rw [xcr hc]; rfl)) ?_)))
    exact (xc0 _ rfl _ rfl _ rfl kv wa (xam _ ks2 ys k k2 rfl hk hw hdv hkx (jAAA (wf2.pnd k2 hm2) (by omega) hl q)))
   | true=>
    rw [if_pos hc] at q
    refine (xaa _ rfl da _ _ _ rfl rfl (SqT.of hda) rfl (jAEA rfl _ rfl (iteKF (zDF (by rw [xcj hc]; decide +kernel)) ?_)))
    refine (xc0 _ rfl _ rfl _ rfl da _ (xco _ _ rfl rfl (SqT.of hda) rfl _ rfl (xcw _ rfl kv ks2 k.name rfl hk (fun u H1 s1 ru=>?_))))
    rw [hkx] at ru
    refine (xas kv wa _ u ks2 (xct ys k.parts k2.parts rfl (hkv.same s1 _) wf2 (hw.same s1) (hpv.same s1 _) ru (xhy hnd hl (by omega) (fun p hp=>xp5 wf2 hm2 hp) (fun u2 H2 s2 ru2=>?_))))
    unfold xij at ru2
    by_cases ha:k2.parts.all (okQ ys k.parts)=true
    ·rw [if_pos ha] at q ru2
     obtain ⟨b,us,rfl,hb,hus⟩:=id ru2
     refine (xan _ rfl rfl _ rfl (iteF ?_))
     refine (xa9 _ rfl _ rfl (by walk_at "s") (fun t ht=>?_))
     have y:=Same.new ht (.tup [.str (S "rec"),.str k.name,.ref b])
     exact q _ _ (s1.trans (s2.trans y)) (xad t _ rfl ups _ _ rfl rfl _ (xb4 _ rfl rfl _ _ rfl ((show RelD H2 _ (D.tup (k2.parts.map (tmQ ks2 k.parts))) from ru2).same y _) rfl))
    ·rw [if_neg ha] at q ru2
     obtain rfl:u2=.non:=ru2
     exact (xan _ rfl rfl _ rfl (iteT (q _ _ (s1.trans s2) rfl)))
  ·have hss:¬ k2.sort=k.sort:=fun z=>hrc (by
    unfold Kn.sort at z
    cases h1:k2.rc <;> cases h2:k.rc
    ·rfl
    ·rw [h1,h2] at z; exact absurd z (by walk_at "k")
    ·rw [h1,h2] at z; exact absurd z (by walk_at "k")
    ·rfl)
   change ∀ u H',Same H H'->optD H' u (if k2.rc=k.rc then _ else _)->Q u H' at q
   rw [if_neg hrc] at q
   exact (xaa _ rfl da _ _ _ rfl rfl (SqT.of hda) rfl (jAEA rfl _ rfl (xt5 (fun z=>hss (V.str.inj z)) (q _ _ (Same.refl _) rfl))))
theorem xj3 (T:Tx K mg) (D_how_by_rules:DefIs P w K mg base n "how_by_rules" qag xuz):DefIs P w K mg base (n + 1) "made_ways" qan xmo:=by
 refine DefIs.of T.d_made_ways sc_made_ways ?_ ?_ <;> walk_at "i"
 ·obtain ⟨_,_,_,_,_,_,_,_,_,_,_,rfl,_⟩:=h
  rfl
 obtain ⟨fa,sa,ta,kv1,kv2,r1,r2,ks,ks2,tkv,told,rfl,hfa,hsa,hta,htw,htl,hk1,wf,hk2,wf2,q⟩:=h
 have nd:=sc_made_ways.nd
 have hu:=xfn hr
 have hk1':=hk1
 obtain ⟨ka,kus,rfl,hka,hku⟩:=hk1'
 have hkl:=hku.length
 rw [zLM] at hkl
 have hfew:=wf.few
 refine ⟨_,(zpn (xal (i:=3) nd rfl (by walk_at "o") (xat xig rfl T.z_dict PyProof.Rows.boot_dict (pc (pv 2) pN zsn)))
   (zpn (xal (i:=4) nd rfl (by walk_at "o") (xb6 pN))
   (zpn (xcf PassesOwn.never rfl (xbi (xaj xai (pv 0) pI (fun _ _=>rfl))) (xab (i:=5) nd rfl (by walk_at "o"))
   (zpn (xal (i:=6) nd rfl (by walk_at "o") (xaj xai (pv 5) pI (fun _ _=>rfl)))
   (po (xa1 (xmr (xg6 hu (pv 6) (pv 3))) (zpn (xal (i:=7) nd rfl (by walk_at "o") (pd D_how_by_rules hr (pc (xaj xai (pv 1) pI (fun _ _=>rfl)) (pc (pv 3) (pc (pv 5) pN zsn) zsn) zss)))
   (po (xa1 (pR xsp (pv 7) xee (nM _)) (po (xck (xfe PySem.F.plainAttrs_list PySem.F.slot_list_append PySem.F.type_list_append xcn (pv 4) (pc (pv 6) pN zsn)))) (po (xlj hu (pv 3) (pv 6) (xar (pc (pv 6) (pc (pv 7) pN zsn) zsn)) rfl))))) pQ))))
   (po (xae (xar (pc (pv 3) (pc (pv 4) pN zsn) zsn))))))),?_⟩
 refine (xbe _ rfl ta tkv rfl hta (fun wa hwa=>?_))
 have y1:=Same.new hwa (.dK tkv)
 refine ⟨(by walk_at "s"),fun la hla=>?_⟩
 have y2:=Same.new hla (.lst [])
 have wl:wa≠la:=neN ups hla
 have nla:H la=none:=xhb y1 hla
 have y12:=y1.trans y2
 refine (xaa _ rfl fa _ _ _ rfl rfl (SqT.of (y12 _ _ hfa)) (xaz (j:=0) rfl) (jEAA ka rfl ⟨_,SqT.of (y12 _ _ hka)⟩ ?_))
 refine xcq (xs:=kus) (fun i σ H'=>∃ o5 o6 o7 kvs,∃ ls:List Str,σ=[some (.ref fa),some (.ref sa),some (.ref ta),some (.ref wa),some (.ref la),o5,o6,o7]/\Same H H'/\H' wa=some (.dK kvs)/\WAll H' kvs (xbp ks2 (ks.take i) told)/\H' la=some (.lst (ls.map V.str))/\ls.length<=i)
  (xam none none none tkv ([]) rfl y12 (y2 _ _ ups) (htw.tups fun b us e=>y12 _ _ e) ups (Nat.le_refl _)) (fun i σ H' _ p=>?_) ?_ ?_
 ·obtain ⟨_,_,_,_,_,_,sm,_⟩:=p
  exact SqT.of (sm _ _ hka)
 ·rintro i v σ H' hv ⟨o5,o6,o7,kvs,ls,rfl,sm,hw,hwl,hll,hlsl⟩
  obtain ⟨d,hd',rd⟩:=(hku.same sm _).get hv
  rw [zGM] at hd'
  obtain ⟨k,hk,rfl⟩:=zMS hd'
  have hkm:=zMG hk
  have rd':=rd
  obtain ⟨da,_,rfl,hda,_,_,rfl,rfl,_,_,rfl,rfl,pv',_,rfl,hpv,rfl⟩:=rd'
  have hil:i < ks.length:=(zES hk).1
  have hlen:=hwl.len
  have hwn:kvs.length<=200:=by
   have h1:=xix (ks2:=ks2) (ks:=ks.take i) (ys:=told)
   rw [List.length_take] at h1
   omega
  rw [xjd hk,xfu]
  refine (xaa _ rfl da _ _ _ rfl rfl (SqT.of hda) rfl ?_)
  have hv':=hwl.val (x:=k.name)
  unfold xe2
  cases hny:wyAt (xbp ks2 (ks.take i) told) k.name with
  | some y=>
   obtain ⟨v,h1,h2⟩:=hv'.2 y hny
   have g0:DGet H' wa (.str k.name) (some v):=by
    have:=DGet.k (H:=H') (a:=wa) (k:=Sum.inr k.name) hw
    rw [h1] at this
    exact this
   exact (xbl _ rfl _ rfl wa _ rfl g0 _ rfl (iteF (xam _ _ _ kvs ls rfl sm hw hwl hll (by omega))))
  | none=>
   have hnv:valV kvs (Sum.inr k.name:Key)=none:=hv'.1 hny
   have g0:DGet H' wa (.str k.name) none:=by
    have:=DGet.k (H:=H') (a:=wa) (k:=Sum.inr k.name) hw
    rw [hnv] at this
    exact this
   refine (xbl _ rfl _ rfl wa _ rfl g0 _ rfl (iteT ?_))
   refine (xaa _ rfl sa _ _ _ rfl rfl (SqT.of (sm _ _ hsa)) (xaz (j:=0) rfl) (xa6 _ rfl _ rfl kv2 wa _ (xct ks2 _ k rfl (hk2.same sm _) wf2 (jEA kvs (.inl hw) hwl) rd (wf.pnd k hkm) ⟨by have:=wf.pts k hkm; omega,fun u H1 s1 ru=>?_⟩)))
   cases hb:xde ks2 (xbp ks2 (ks.take i) told) k with
   | none=>
    rw [hb] at ru
    obtain rfl:u=.non:=ru
    refine (xan _ rfl rfl _ rfl (iteT ?_))
    have hll1:=s1 _ _ hll
    refine (xan _ rfl (.inl (jAE rfl _ (SqL.of hll1))) _ rfl (xbd la _ _ rfl rfl hll1 (xa7 (by rw [zLM]; omega)) ?_))
    have tp:=xbc hll1 (.lst (ls.map V.str++[.str k.name]))
    refine (xam _ _ _ kvs (ls++[k.name]) rfl (xip (sm.trans s1) nla _) (by rw [xba wl]; exact s1 _ _ hw) ((hwl.tups fun b us e=>s1 _ _ e).tups tp) (by rw [zAP]; exact ups) (by rw [zLA,List.length_singleton]; omega))
   | some d=>
    rw [hb] at ru
    have ru':RelD H1 u d:=ru
    obtain ⟨hb',rfl⟩:∃ b,u=.ref b:=xt8 hb ru'
    refine (xan _ rfl rfl _ rfl (iteF ?_))
    refine (xa9 _ rfl _ rfl (by walk_at "s") (fun t ht=>?_))
    have y:=Same.new ht (.tup [.str k.name,.ref hb'])
    have s3:=s1.trans y
    have hw3:=s3 _ _ hw
    refine (xb0 _ rfl _ rfl wa _ rfl (DPut.k (k:=Sum.inr k.name) hw3 (xa7 (by omega))) ?_)
    rw [xpa hnv]
    have tp:=xnb hw3 (.dK (kvs++[(Sum.inr k.name,.ref t)]))
    have hway:RelD (upd H1 t (.tup [.str k.name,.ref hb'])) (.ref t) (wyD (k.name,k.name,d)):=(xad t _ rfl ups _ _ rfl rfl _ (jEAA _ rfl (ru'.same y _) rfl))
    refine (xam _ _ _ _ ls rfl (xip (sm.trans s3) hwa _) ups (((hwl.tups fun b us e=>s3 _ _ e).snoc (kv:=(Sum.inr k.name,.ref t)) (y:=(k.name,k.name,d)) ⟨rfl,hway⟩).tups tp) ?_ (by omega))
    rw [xba (Ne.symm wl)]
    exact s3 _ _ hll
 ·rintro σ H' ⟨o5,o6,o7,kvs,ls,rfl,sm,hw,hwl,hll,hlsl⟩
  rw [zTL (by omega)] at hwl
  refine (xa9 _ rfl _ rfl (by walk_at "s") (fun r hr'=>?_))
  have y:=Same.new hr' (.tup [.ref wa,.ref la])
  exact q r wa la kvs ls _ (sm.trans y) (xhb sm hr') hwa nla ups (y _ _ hw) (hwl.tups fun b us e=>y _ _ e) (y _ _ hll) (by omega)
theorem xt3 (T:Tx K mg):DefIs P w K mg base 30 "made_ways" qan xmo:=
 xj3 (n:=29) T (xha (n:=28) T (xdq T) (xbv T) (xgh (n:=27) T (xeq T) (xbv T)) (xfy (n:=27) T (xeq T) ((xj4 T 6).mono (by omega))))
end
theorem xu6 {H H':Hp} {f a:Addr} {p q:Int} {u:List (Key×V)} (hf:H f=some (.lst [.int p,.int q])) (h:Rd H a (.dK u)) (F:Fed f H H'):Rd H' a (.dK u):=by
 rcases h with h | ⟨o,h⟩
 ·exact .inl (F.1 _ _ h fun e=>by rw [e,hf] at h; cases h)
 ·exact .inr ⟨o,F.1 _ _ h fun e=>by rw [e,hf] at h; cases h⟩
theorem xmf {H H':Hp} {f a:Addr} {p q:Int} {ys:List Wy} (hf:H f=some (.lst [.int p,.int q])) (h:WaysAt H a ys) (F:Fed f H H'):WaysAt H' a ys:=by
 obtain ⟨kvs,h1,h2⟩:=h
 exact (jEA kvs (xu6 hf h1 F) (h2.tups (xah (jEE p q hf) F)))
theorem xju {ys:List Wy} {ps:List (Str×Str)} {p:Str×Str}:xb7 ys (ps++[p])=xb7 ys ps++(match xau ys p.2 with | some g=>[(p.1,g)] | none=>[]):=by
 unfold xb7
 rw [List.filterMap_append]
 congr 1
 rw [List.filterMap_cons]
 cases xau ys p.2 <;> rfl
theorem xw7 (j:Nat):S "it"≠byN j:=fun e=>by
 have:=congrArg L e
 unfold byN at this
 rw [xd9,show L (S "it")=[105,116] by walk_at "k"] at this
 simp at this
theorem xs3 {H:Hp} {f:Addr} {p q:Int} {kv:V} {bl:Addr} {us:List V} {ks2:List Kn} {bs:List (Str×Str)} (hf:H f=some (.lst [.int p,.int q])) (hk:RelD H kv (xb8 ks2)) (wf:KWf ks2) (nb:PNB ks2) (hbl:H bl=some (.lst us)) (hus:RelDs H us (bs.map xek)) (nd:(bs.map (·.1)).Nodup) (hl:bs.length<=20) (hn:∀ b∈bs,NoBy b.1) (hg:∀ b∈bs,KIn ks2 6 b.2):TIn H f kv (.ref bl) ks2 bs 3:=
 ⟨(jEE p q hf),hk,wf,nb,⟨bl,us,rfl,hbl,hus,fun e=>by
  rw [e,hf] at hbl
  have e2:=Option.some.inj hbl
  injection e2 with e3
  rw [<- e3] at hus
  cases bs with
  | nil=>
   have:[V.int p,V.int q]=[]:=hus
   cases this
  | cons b bs=>
   obtain ⟨v,r,e4,h1,_⟩:=hus
   injection e4 with e5 _
   rw [<- e5] at h1
   obtain ⟨_,_,e6,_⟩:=h1
   cases e6⟩,nd,by omega,fun b hb j _=>hn b hb j,hg⟩
def xtg:Sp:=fun vs H Q _=>∃ (f fa wa:Addr) (kv1 kv2:V) (r1:List V) (p q:Int) (ks ks2:List Kn) (ys:List Wy) (k:Kn),vs=[.ref f,.ref fa,kv2,.ref wa,.str k.name]/\H f=some (.lst [.int p,.int q])/\H fa=some (.tup (kv1 :: r1))/\RelD H kv1 (xb8 ks)/\KWf ks/\RelD H kv2 (xb8 ks2)/\KWf ks2/\PNB ks2/\WaysAt H wa ys/\kAt ks k.name=some k/\(∀ p∈k.parts,NoBy p.1)/\(∀ x g,xau ys x=some g->KIn ks2 6 g) ∧
 ∀ t g d H',Fed f H H'->RelD H' (.ref t) (.tup [.str g,d])->KIn ks2 6 g->HowOk ks2 ys k g d->CntE k.rc d (smK ks2 g + 9)->Q (.ref t) H'
section
variable {P:Program} {w:World} {K:PySem.W.Frag} {mg:Str->Option Value} {base:Heap} {n m:Nat}
theorem xts (T:Tx K mg) (Dl_sort_of:DefIs P w K mg base n "_law_sort_of" qaa xdw) (Dl_any_kind:DefIs P w K mg base n "_law_any_kind" qak xq9) (D_goes_to:DefIs P w K mg base n "goes_to" qah xjl) (Dl_new_term:DefIs P w K mg base n "_law_new_term" qap xov):DefIs P w K mg base (n + 1) "_law_way" qau xtg:=by
 refine DefIs.of T.dl_way scl_way ?_ ?_ <;> walk_at "i"
 ·obtain ⟨_,_,_,_,_,_,_,_,_,_,_,_,rfl,_⟩:=h
  rfl
 obtain ⟨f',fa,wa,kv1,kv2,r1,p0,q0,ks,ks2,ys,k,rfl,hf,hfa,hk1,wf,hk2,wf2,pnb,hw,hkx,hnb,hgo,q⟩:=h
 have nd:=scl_way.nd
 have hkm:=zMF hkx
 have h5:=wf.pts k hkm
 have hpnd:=wf.pnd k hkm
 refine ⟨_,(zpn (xcz (pd Dl_sort_of hr (pc (xaj xai (pv 1) pI (fun _ _=>rfl)) (pc (pv 4) pN zsn) zss)) (xbr rfl (xac (xab (i:=5) nd rfl (by walk_at "o")) (xac (xab (i:=6) nd rfl (by walk_at "o")) xa0))))
   (zpn (xal (i:=7) nd rfl (by walk_at "o") (pd Dl_any_kind hr (pc (pv 0) (pc (pv 2) pN zsn) zsn)))
   (zpn (xa1 (pR xa4 (pv 5) pS (nM _)) (zpn (xb1 (i:=8) qbb [none,none,some 3] rfl (by kernel_rfl) nd rfl (by walk_at "o") (xbi (pv 6)) (fun _ _ _ _=>(xcs (K:=K) (n:=2) rfl rfl (xac (xab (i:=0) (by show List.Nodup (qbb:List Str); decide +kernel) rfl (Or.inl rfl)) (xac (xab (i:=1) (by show List.Nodup (qbb:List Str); decide +kernel) rfl (Or.inl rfl)) xa0)))) (fun _ _ _ _=>(xc9 (pR xll (pd D_goes_to hr (pc (pv 2) (pc (pv 1) pN zsn) zsn)) xee (nM _)))) (fun _ _ _ _=>(xar (pc (pv 0) (pc (pd D_goes_to hr (pc (pv 2) (pc (pv 1) pN zsn) zsn)) pN zsc) zsn))))
   (po (xae (xar (pc (pv 7) (pc (pd Dl_new_term hr (pc (pv 0) (pc (pv 2) (pc (pv 8) (pc (pv 7) pN zsn) zsn) zsn) zsn)) pN zsc) zsn))))) pQ)
   (zpn (xal (i:=9) nd rfl (by walk_at "o") (xb6 pN))
   (zpn (xcf PassesOwn.never rfl (xbi (pv 6)) (xbr rfl (xac (xab (i:=10) nd rfl (by walk_at "o")) (xac (xab (i:=11) nd rfl (by walk_at "o")) xa0)))
   (zpn (xb1 (i:=8) ["_law_goes"] [none] rfl (by kernel_rfl) nd rfl (by walk_at "o") (xdk (xb6 (pc (pd D_goes_to hr (pc (pv 3) (pc (pv 11) pN zsn) zsn)) pN zsc))) (fun _ _ _ _=>(xab (i:=0) (by show List.Nodup (["_law_goes"]:List Str); decide +kernel) rfl (Or.inl rfl))) (fun _ _ _ _=>(xc9 (pR xll (pv 0) xee (nM _)))) (fun _ _ _ _=>(xar (pc pS (pc (pv 0) pN zsn) zso))))
   (po (xck (xfe PySem.F.plainAttrs_list PySem.F.slot_list_append PySem.F.type_list_append xcn (pv 9) (pc (xar (pc (pv 10) (pc (pd Dl_new_term hr (pc (pv 0) (pc (pv 2) (pc (pv 8) (pc (pv 7) pN zsn) zsn) zsn) zsn)) pN zsc) zsn)) pN sT))))))
   (po (xae (xar (pc (pv 7) (pc (xat xa2 rfl T.z_tuple PyProof.Rows.boot_tuple (pc (pv 9) pN zsn)) pN zsc) zsn))))))))),xag fun R1 hR1=>?_⟩
 refine (xaa _ rfl fa _ _ _ rfl rfl (SqT.of hfa) (xaz (j:=0) rfl) (xcw _ rfl kv1 ks k.name rfl ((wf.ksAt hk1).seq) (fun t pv' H1 s1 ht rp=>?_)))
 refine (xak t _ rfl (SqT.of ht) rfl _ _ rfl _ (jEAA _ rfl rfl ?_))
 refine hR1 _ _ (xag fun R2 hR2=>?_)
 rw [hkx] at rp
 obtain ⟨pa,pus,rfl,hpa,hpu⟩:=rp
 have hpl:=hpu.length
 rw [zLM] at hpl
 obtain ⟨ka2,kus2,rfl,hka2,hku2⟩:=id hk2
 have hss:xed (kAt ks k.name)=k.sort:=by rw [hkx]; rfl
 refine (xa6 _ rfl _ rfl f' ka2 p0 (xef q0 kus2 ks2 rfl (s1 _ _ hf) (.inr (s1 _ _ hka2)) (hku2.same s1 _) wf2.few (fun g H2 hg f2=>?_)))
 have hg6:=hg.mono wf2.few
 have F2:Fed f' H H2:=((Fed.refl hf).same s1).trans f2
 have tp2:=xah (jEE p0 q0 (s1 _ _ hf)) f2
 have hpa2:=tp2 _ _ hpa
 have hpu2:=hpu.tups tp2 _
 have hw2:=xmf (s1 _ _ hf) (hw.same s1) f2
 have hk22:=(hk2.same s1 _).tups tp2 _
 obtain ⟨p2,q2,h2⟩:=F2.2
 refine hR2 _ _ (xag fun R3 hR3=>?_)
 cases hc:k.rc with
 | true=>
  refine (xan _ rfl rfl _ rfl (iteKT (zDT (by rw [hss,xcj hc]; rfl)) ?_))
  refine xag fun R4 hR4=>?_
  refine (xa9 _ rfl pa rfl ⟨_,SqT.of hpa2⟩ ?_)
  refine xbn (xs:=pus) (fun i zs H3=>Same H2 H3/\RelDs H3 zs ((xb7 ys (k.parts.take i)).map xek)) ⟨Same.refl _,rfl⟩ (xa7 (by omega)) (fun i zs H3 _ p=>SqT.of (p.1 _ _ hpa2)) ?_ ?_
  ·rintro i y zs H3 hy hi hly ⟨sm,hzs⟩
   obtain ⟨d,hd',rd⟩:=(hpu2.same sm _).get hy
   rw [zGM] at hd'
   obtain ⟨pr,hpr,rfl⟩:=zMS hd'
   obtain ⟨b,ws,rfl,hb,_,_,rfl,rfl,_,_,rfl,rfl,rfl⟩:=rd
   have etk:xb7 ys (k.parts.take (i + 1))=xb7 ys (k.parts.take i)++(match xau ys pr.2 with | some g=>[(pr.1,g)] | none=>[]):=by
    rw [zTA,hpr]
    exact xju
   refine (xak b _ rfl (SqT.of hb) rfl _ _ rfl _ (xc1 _ rfl rfl (ext2 rfl rfl) ?_))
   refine (xbh _ rfl _ rfl wa ys pr.2 rfl (hw2.same sm) ?_)
   cases hgp:xau ys pr.2 with
   | none=>
    rw [hgp] at etk
    refine (jAEA rfl _ rfl (iteF (nxtN hi hly ⟨sm,?_⟩)))
    rw [etk,List.append_nil]
    exact hzs
   | some g'=>
    rw [hgp] at etk
    refine (jAEA rfl _ rfl (iteT ?_))
    refine (xc0 _ rfl _ rfl _ rfl wa ys (jEAA pr.2 rfl (hw2.same sm) ?_))
    rw [hgp]
    refine ⟨(by walk_at "s"),fun t2 ht2=>?_⟩
    have y1:=Same.new ht2 (.tup [.str pr.1,.str g'])
    refine nxtG hi hly ⟨sm.trans y1,?_⟩
    rw [etk,zAP]
    exact (hzs.same y1 _).append (xav _ ([]) rfl (xad t2 _ rfl ups _ _ rfl rfl _ (jEAA _ rfl rfl rfl)) rfl)
  rintro zs H3 hly ⟨sm,hzs⟩ D hD
  rw [zTL (by omega)] at hzs
  have sD:=Same.new hD (.lst zs)
  have s3:=sm.trans sD
  have hol:=xmw (ys:=ys) (ps:=k.parts)
  refine hR4 _ _ ?_
  refine (xap _ rfl _ rfl _ rfl _ rfl _ rfl (xas f' (.ref ka2) (.ref D) ks2 (xb7 ys k.parts) (xc1 g rfl (xs3 (s3 _ _ h2) (hk22.same s3 _) wf2 pnb ups (hzs.same sD _) (xpg hpnd) (by omega) (fun b hb=>?_) (fun b hb=>?_)) hg6 (fun a d H4 f4 ra hb=>⟨(by walk_at "s"),fun t4 ht4=>?_⟩))))
  ·obtain ⟨p,hp,e,_⟩:=xg8 hb
   rw [<- e]
   exact hnb p hp
  ·obtain ⟨p,hp,_,e⟩:=xg8 hb
   exact hgo _ _ e
  have st:=Same.new ht4 (.tup [.str g,.ref a])
  exact q _ g d _ (((F2.same s3).trans f4).same st) (xad t4 _ rfl ups _ _ rfl rfl _ (jEAA _ rfl (ra.same st _) rfl)) hg6 (.inl ⟨hc,hb.1.up (by omega)⟩) (.inl ⟨hc,xhw (by omega) hb.2⟩)
 | false=>
  refine (xan _ rfl rfl _ rfl (iteKF (zDF (by rw [hss,xcr hc]; decide +kernel)) ?_))
  refine hR3 _ _ (xag fun R5 hR5=>?_)
  refine ⟨(by walk_at "s"),fun al hal=>?_⟩
  refine hR5 _ _ (xag fun R6 hR6=>?_)
  have s3:=Same.new hal (.lst [])
  have alf:al≠f':=Ne.symm (neN h2 hal)
  have hpa3:=s3 _ _ hpa2
  have F3:=F2.same s3
  have hw3:=hw2.same s3
  have hk23:=hk22.same s3 _
  have h3:=s3 _ _ h2
  have hpu3:=hpu2.same s3 _
  have hal3:upd H2 al (.lst []) al=some (.lst []):=ups
  generalize upd H2 al (.lst [])=H3 at s3 hpa3 F3 hw3 hk23 h3 hpu3 hal3 ⊢
  refine (xa9 _ rfl pa rfl ⟨_,SqT.of hpa3⟩ ?_)
  refine xcq (xs:=pus) (fun i σ H'=>∃ (ws:List V) (es:List (Str×D)) (o8 o10 o11:Option V),σ=[some (.ref f'),some (.ref fa),some (.ref ka2),some (.ref wa),some (.str k.name),some (.str (xed (kAt ks k.name))),some (.ref pa),some (.str g),o8,some (.ref al),o10,o11]/\Fed f' H2 H'/\H' al=some (.lst ws)/\RelDs H' ws (es.map dPr)/\es.map (·.1)=(k.parts.take i).map (·.1)/\∀ (j:Nat) e p,es[j]?=some e->k.parts[j]?=some p->TmB ks2 22 (xb7 ys [(S "it",p.2)]) e.2 g/\Tc 22 e.2 (smK ks2 g + 9))
   (xam ([]) ([]) none none none rfl ((Fed.refl h2).same s3) hal3 rfl rfl (fun j e p he=>by simp at he)) (fun i σ H' _ p=>?_) ?_ ?_
  ·obtain ⟨_,_,_,_,_,_,F,_⟩:=p
   exact SqT.of (xah (jEE p2 q2 h2) F _ _ hpa2)
  ·rintro i vv σ H4 hvv ⟨ws,es,o8,o10,o11,rfl,F4,hws,rws,hes,hall⟩
   have tp4:=xah (jEE p2 q2 h2) F4
   obtain ⟨d,hd',rd⟩:=(hpu2.tups tp4 _).get hvv
   rw [zGM] at hd'
   obtain ⟨pr,hpr,rfl⟩:=zMS hd'
   obtain ⟨b,wz,rfl,hb,_,_,rfl,rfl,_,_,rfl,rfl,rfl⟩:=rd
   have hi:i < k.parts.length:=(zES hpr).1
   have hel:es.length=i:=by
    have:=congrArg List.length hes
    rw [zLM,zLM,List.length_take] at this
    omega
   have hwl:=rws.length
   rw [zLM] at hwl
   have hw4:=xmf h2 hw2 F4
   obtain ⟨p4,q4,h4⟩:=F4.2
   refine (xak b _ rfl (SqT.of hb) rfl _ _ rfl _ (jEAA _ rfl rfl (xag fun R7 hR7=>?_)))
   refine (xce _ rfl _ rfl wa ys pr.2 rfl hw4 (by walk_at "s") (fun l0 hl0=>?_))
   have y0:=Same.new hl0 (.lst [optV (xau ys pr.2)])
   refine (jEAA l0 rfl ⟨_,SqL.of ups⟩ ?_)
   have hl0':upd H4 l0 (.lst [optV (xau ys pr.2)]) l0=some (.lst [optV (xau ys pr.2)]):=ups
   generalize upd H4 l0 (.lst [optV (xau ys pr.2)])=H40 at y0 hl0' ⊢
   refine xdu (xs:=[optV (xau ys pr.2)]) (fun i2 zs H5=>Same H40 H5/\RelDs H5 zs ((xb7 ys ([(S "it",pr.2)].take i2)).map xek)) ⟨Same.refl _,rfl⟩ (xa7 (by show 1<=4000000; decide)) (fun i2 zs H5 _ p=>SqL.of (p.1 _ _ hl0')) ?_ ?_
   ·rintro i2 y zs H5 hy hi2 hly ⟨sm,hzs⟩
    have h0:i2=0:=by
     have:i2 < 1:=hi2
     omega
    subst h0
    have ey:y=optV (xau ys pr.2):=by
     simp at hy
     exact hy.symm
    subst ey
    obtain rfl:zs=[]:=hzs
    refine ⟨xd5 rfl,?_⟩
    have etk:xb7 ys ([(S "it",pr.2)].take (0 + 1))=(match xau ys pr.2 with | some g=>[(S "it",g)] | none=>[]):=by
     have:=xju (ys:=ys) (ps:=[]) (p:=(S "it",pr.2))
     rw [List.nil_append] at this
     exact this
    cases hgp:xau ys pr.2 with
    | none=>
     rw [hgp] at etk
     refine (xan _ rfl rfl _ rfl (iteF (nxtN hi2 hly ⟨sm,?_⟩)))
     rw [etk]
     rfl
    | some g'=>
     rw [hgp] at etk
     refine (xan _ rfl rfl _ rfl (iteT ?_))
     refine (jEAA _ rfl (by walk_at "s") (fun t2 ht2=>?_))
     have y1:=Same.new ht2 (.tup [.str (S "it"),.str g'])
     refine nxtG hi2 hly ⟨sm.trans y1,?_⟩
     rw [etk]
     exact (xav _ ([]) rfl (xad t2 _ rfl ups _ _ rfl rfl _ (jEAA _ rfl rfl rfl)) rfl)
   rintro zs H5 hly ⟨sm,hzs⟩ D hD
   have hzs':RelDs H5 zs ((xb7 ys [(S "it",pr.2)]).map xek):=hzs
   have sD:=Same.new hD (.lst zs)
   have s5:=y0.trans (sm.trans sD)
   have hol:=xmw (ys:=ys) (ps:=[(S "it",pr.2)])
   refine hR7 _ _ ?_
   refine (xan _ rfl (.inl (jAE rfl _ (SqL.of (s5 _ _ hws)))) _ rfl (xc6 _ rfl _ rfl _ rfl _ rfl f' (xas (.ref ka2) (.ref D) ks2 (xb7 ys [(S "it",pr.2)]) g (jAAA rfl (xs3 (s5 _ _ h4) ((hk22.tups tp4 _).same s5 _) wf2 pnb ups (hzs'.same sD _) (xpg (by simp)) (by simp at hol; omega) (fun b hb=>?_) (fun b hb=>?_)) hg6 (fun a d H6 f6 ra hb=>⟨(by walk_at "s"),fun t4 ht4=>?_⟩)))))
   ·obtain ⟨p,hp,e,_⟩:=xg8 hb
    rw [<- e,zMO hp]
    exact xw7
   ·obtain ⟨p,hp,_,e⟩:=xg8 hb
    exact hgo _ _ e
   have st:=Same.new ht4 (.tup [.str pr.1,.ref a])
   have hws6:=st _ _ (f6.1 _ _ (s5 _ _ hws) alf)
   have rws6:=((rws.same s5 _).tups (xah (jEE p4 q4 (s5 _ _ h4)) f6) _).same st _
   refine (xbd al ws _ rfl rfl hws6 (xa7 (by omega)) ?_)
   refine (xam _ (es++[(pr.1,d)]) _ _ _ rfl ?_ ups ?_ ?_ (fun j e p he hp=>?_))
   ·exact Fed.put ((F4.same s5).trans (f6.same st)) hal alf _
   ·rw [zAP]
    exact (rws6.tups (xbc hws6 _) _).append (xav _ ([]) rfl (xad t4 _ rfl (xbc hws6 _ _ _ ups) _ _ rfl rfl _ (jEAA _ rfl ((ra.same st _).tups (xbc hws6 _) _) rfl)) rfl)
   ·rw [zAP,hes,zTA,hpr,zAP]
    rfl
   ·rw [List.getElem?_append] at he
    split at he
    ·exact hall j e p he hp
    ·have hj:j=i:=by
      have:=(zES he).1
      simp at this
      omega
     subst hj
     rw [hel,Nat.sub_self] at he
     cases he
     rw [hpr] at hp
     cases hp
     exact ⟨hb.1.up (by omega),xhw (by omega) hb.2⟩
  ·rintro σ H4 ⟨ws,es,o8,o10,o11,rfl,F4,hws,rws,hes,hall⟩
   rw [zTL (by omega)] at hes
   refine hR6 _ _ ?_
   refine (jEA _ rfl (xei _ rfl al ws rfl (.inl ⟨SqL.of hws,fun t4 ht4=>⟨(by walk_at "s"),fun t5 ht5=>?_⟩⟩)))
   have y1:=Same.new ht4 (.tup ws)
   have y2:=Same.new ht5 (.tup [.str g,.ref t4])
   exact q _ g (.tup (es.map dPr)) _ ((F2.trans F4).same (y1.trans y2)) (xad t5 _ rfl ups _ _ rfl rfl _ (jEAA _ rfl (xav t4 ws rfl (y2 _ _ ups) (rws.same (y1.trans y2) _)) rfl)) hg6 (.inr (xhg hc es rfl hes (fun i e p he hp=>(hall i e p he hp).1))) (.inr ⟨hc,es,rfl,fun e he=>by
    obtain ⟨j,hj,ej⟩:=zMI he
    have hl9:=congrArg List.length hes
    rw [zLM,zLM] at hl9
    exact (hall j e (k.parts[j]'(by omega)) (by rw [<- ej]; exact zGA hj) (zGA (by omega))).2⟩)
end
theorem xsu (Pq:Hp->Prop) {R:Hp->Prop} {A:Prop} (h:(∀ H,Pq H->R H)->A) (r:∀ H,Pq H->R H):A:=h r
def xou:Sp:=fun vs H Q _=>∃ (f fa:Addr) (kv1 kv2:V) (r1:List V) (p q:Int) (ks ks2:List Kn),vs=[.ref f,.ref fa,kv2]/\H f=some (.lst [.int p,.int q])/\H fa=some (.tup (kv1 :: r1))/\RelD H kv1 (xb8 ks)/\KWf ks/\PNB ks/\RelD H kv2 (xb8 ks2)/\KWf ks2/\PNB ks2 ∧
 ∀ r ta wa tkv kvs told H',Fed f H H'->H' r=some (.tup [.ref ta,.ref wa])->H' ta=some (.dK tkv)->WAll H' tkv told->H' wa=some (.dK kvs)->WAll H' kvs (xbp ks2 ks told)->xhv ks ks2 told->(told.map (·.1)).Nodup->told.length<=6/\(∀ y∈told,∀ k,kAt ks y.1=some k->CntE k.rc y.2.2 (smK ks2 y.2.1 + 9))->Q (.ref r) H'
section
variable {P:Program} {w:World} {K:PySem.W.Frag} {mg:Str->Option Value} {base:Heap} {n m:Nat}
theorem xrl (T:Tx K mg) (Dl_take:DefIs P w K mg base n "_law_take" qab xcy) (D_made_ways:DefIs P w K mg base n "made_ways" qan xmo) (Dl_way:DefIs P w K mg base n "_law_way" qau xtg):DefIs P w K mg base (n + 1) "_law_told" qav xou:=by
 refine DefIs.of T.dl_told scl_told ?_ ?_ <;> walk_at "i"
 ·obtain ⟨_,_,_,_,_,_,_,_,_,rfl,_⟩:=h
  rfl
 obtain ⟨f',fa,kv1,kv2,r1,p0,q0,ks,ks2,rfl,hf,hfa,hk1,wf,pnb1,hk2,wf2,pnb2,q⟩:=h
 have nd:=scl_told.nd
 have hu:=xfn hr
 have hfew:=wf.few
 obtain ⟨ka,kus,rfl,hka,hku⟩:=id hk1
 have hkl:=hku.length
 rw [zLM] at hkl
 refine ⟨_,(zpn (xal (i:=3) nd rfl (by walk_at "o") xrj)
   (zpn (xcf PassesOwn.never rfl (xbi (xaj xai (pv 1) pI (fun _ _=>rfl))) (xbr rfl (xac (xab (i:=4) nd rfl (by walk_at "o")) (xac (xab (i:=5) nd rfl (by walk_at "o")) (xac (xab (i:=6) nd rfl (by walk_at "o")) xa0))))
   (zpn (xcz (pd D_made_ways hr (pc (pv 1) (pc (xar (pc (pv 2) (pc (xar pN) (pc (xar pN) pN sT) sT) zsn)) (pc (pv 3) pN zsn) sT) zsn)) (xbr rfl (xac (xab (i:=7) nd rfl (by walk_at "o")) (xac (xab (i:=8) nd rfl (by walk_at "o")) xa0))))
   (po (xa1 (PW.pt (xli (PW.pt (xd6 (pR xff (pv 4) (pv 8) (by with_unfolding_all rfl)) (xc8 (pR xa4 (pd Dl_take hr (pc (pv 0) (pc pI pN zso) zsn)) pI (nM _))))) (xh5 (pR xa4 (pd Dl_take hr (pc (pv 0) (pc pI pN zso) zsn)) pI (nM _))))) (po (xlj hu (pv 3) (pv 4) (pd Dl_way hr (pc (pv 0) (pc (pv 1) (pc (pv 2) (pc (pv 7) (pc (pv 4) pN zsn) zsn) zsn) zsn) zsn)) rfl)) pQ))))
   (po (xae (xar (pc (pv 3) (pc (xaj xai (pd D_made_ways hr (pc (pv 1) (pc (xar (pc (pv 2) (pc (xar pN) (pc (xar pN) pN sT) sT) zsn)) (pc (pv 3) pN zsn) sT) zsn)) pI (fun _ _=>rfl)) pN zss) zsn)))))),xag fun R1 hR1=>?_⟩
 refine fun ta hta=>?_
 refine hR1 _ _ (xag fun R2 hR2=>?_)
 have s0:=Same.new hta (.dK [])
 have taf:ta≠f':=Ne.symm (neN hf hta)
 refine (xaa _ rfl fa _ _ _ rfl rfl (SqT.of (s0 _ _ hfa)) (xaz (j:=0) rfl) (jEAA ka rfl ⟨_,SqT.of (s0 _ _ hka)⟩ ?_))
 refine xcq (xs:=kus) (fun i σ H'=>∃ (tkv:List (Key×V)) (told:List Wy) (o4 o5 o6 o7 o8:Option V),σ=[some (.ref f'),some (.ref fa),some kv2,some (.ref ta),o4,o5,o6,o7,o8]/\Fed f' H H'/\H' ta=some (.dK tkv)/\WAll H' tkv told/\xhv ks ks2 told/\(∀ z∈told,∃ j k,j < i/\ks[j]?=some k/\k.name=z.1)/\(told.map (·.1)).Nodup/\told.length<=i/\∀ y∈told,∀ k,kAt ks y.1=some k->CntE k.rc y.2.2 (smK ks2 y.2.1 + 9))
  (xas ([]) ([]) none none none (xcc none none rfl ((Fed.refl hf).same s0) ups trivial (fun _ h=>nomatch h) (fun _ h=>nomatch h) List.nodup_nil (Nat.le_refl _) (fun _ h=>nomatch h))) (fun i σ H' _ p=>?_) ?_ ?_
 ·obtain ⟨_,_,_,_,_,_,_,_,F,_⟩:=p
  exact SqT.of (xah (jEE p0 q0 hf) F _ _ hka)
 ·rintro i vv σ H1 hvv ⟨tkv,told,o4,o5,o6,o7,o8,rfl,F,hta1,htw,htok,hbef,hnd,htl,hct⟩
  have tp:=xah (jEE p0 q0 hf) F
  obtain ⟨d,hd,rd⟩:=(hku.tups tp _).get hvv
  rw [zGM] at hd
  obtain ⟨k,hk,rfl⟩:=zMS hd
  obtain ⟨b,_,rfl,hb,_,_,rfl,rfl,v2,_,rfl,e2,v3,_,rfl,r3,rfl⟩:=rd
  have hi:i < ks.length:=(zES hk).1
  have hkm:=zMG hk
  refine (xak b _ rfl (SqT.of hb) rfl _ _ rfl _ (xbe _ rfl _ _ rfl rfl (xag fun R3 hR3=>?_)))
  obtain ⟨p1,q1,h1⟩:=F.2
  have hfa1:=tp _ _ hfa
  have hk11:=hk1.tups tp _
  have hk21:=hk2.tups tp _
  refine (xa9 _ rfl _ rfl (by walk_at "s") (fun e1 he1=>⟨(by walk_at "s"),fun e2' he2=>⟨(by walk_at "s"),fun sa hsa=>?_⟩⟩))
  have y:=(Same.new he1 (.tup [])).trans ((Same.new he2 (.tup [])).trans (Same.new hsa (.tup [kv2,.ref e1,.ref e2'])))
  refine (xbo _ rfl fa sa ta (.ref ka) (xas kv2 r1 ([.ref e1,.ref e2']) ks ks2 (xcc tkv told rfl (y _ _ hfa1) ups (y _ _ hta1) (htw.tups fun b us e=>y _ _ e) (by omega) (hk11.same y _) wf (jAA (hk21.same y _) wf2 (fun r wa la kvs ls H3 s3 nr nwa nla hr3 hwa3 hww hla3 hls=>?_)))))
  refine (xak r _ rfl (SqT.of hr3) rfl _ _ rfl _ (jEAA _ rfl rfl ?_))
  refine hR3 _ _ ?_
  have s13:=y.trans s3
  have F3:=F.same s13
  have hta3:=s13 _ _ hta1
  have htw3:=htw.tups fun b us e=>s13 _ _ e
  have h3:=s13 _ _ h1
  have right:=xfz wf wf2 htok
  have stay:∀ H',Fed f' H3 H'->Fed f' H H'/\H' ta=some (.dK tkv)/\WAll H' tkv told/\xhv ks ks2 told/\(∀ z∈told,∃ j k,j < i + 1/\ks[j]?=some k/\k.name=z.1)/\(told.map (·.1)).Nodup/\told.length<=i + 1:=fun H' f'=>⟨F3.trans f',f'.1 _ _ hta3 taf,htw3.tups (xah (jEE p1 q1 h3) f'),htok,fun z hz=>by
   obtain ⟨j,k,hj,h'⟩:=hbef z hz
   exact (jEEA j k (by omega) h'),hnd,by omega⟩
  apply xsu (Fed f' H3)
  ·intro key
   apply xsu (Fed f' H3)
   ·intro key2
    refine (xb0 _ rfl _ rfl la _ rfl (.inl (SqL.of hla3)) (jAA rfl (xej _) (jEA _ rfl ?_)))
    rw [if_neg (by decide)]
    refine ite2 (fun c1=>?_) (fun c1=>iteF ?_)
    ·refine (xaa _ rfl f' p1 q1 _ rfl h3 (by decide) (by decide) (fun ra H4 ra0 ra1 f4=>(jAEA rfl _ rfl (ite2 (fun c2=>iteT (key H4 f4)) (fun c2=>key2 H4 f4)))))
    ·generalize eH:H3=H4
     exact key2 H4 (by rw [<- eH]; exact Fed.refl h3)
   intro H4 f4
   obtain ⟨p4,q4,h4⟩:=f4.2
   refine (xaa _ rfl f' p4 q4 _ rfl h4 (by decide) (by decide) (fun ra H5 ra0 ra1 f5=>(jAEA rfl _ rfl (ite2 (fun c2=>key H5 (f4.trans f5)) (fun c2=>?_)))))
   obtain ⟨g1,g2,g3,g4,g5,g6,g7⟩:=stay H5 (f4.trans f5)
   exact (xas tkv told _ _ _ (xcc _ _ rfl g1 g2 g3 g4 g5 g6 g7 hct))
  intro H4 f4
  obtain ⟨p4,q4,h4⟩:=f4.2
  obtain ⟨F4,hta4,htw4,_,_,_,_⟩:=stay H4 f4
  have tp4:=xah (jEE p0 q0 hf) F4
  have hwa4:H4 wa=some (.dK kvs):=f4.1 _ _ hwa3 fun e=>by rw [e,h3] at hwa3; cases hwa3
  have hww4:=hww.tups (xah (jEE p1 q1 h3) f4)
  refine (xap _ rfl _ rfl _ rfl _ rfl _ rfl (xas f' fa wa (.ref ka) kv2 (xas r1 p4 q4 ks ks2 (xcc (xbp ks2 ks told) k rfl h4 (tp4 _ _ hfa) (hk1.tups tp4 _) wf (hk2.tups tp4 _) wf2 pnb2 (xhy (jEA kvs (.inl hwa4) hww4) (xdz wf.nd hkm) (pnb1 k hkm) (fun x g hg=>xn3 right hg) (fun t g d' H5 f5 rt hg hh hcn=>?_))))))
  have hta5:=f5.1 _ _ hta4 taf
  have htw5:=htw4.tups (xah (jEE p4 q4 h4) f5)
  have hlen:=htw.len
  have hnone:wyAt told k.name=none:=by
   unfold wyAt
   refine List.find?_eq_none.mpr fun z hz c=>?_
   obtain ⟨j,k',hj,hk',e⟩:=hbef z hz
   have:=xfh wf.nd hk' hk (e.trans (of_decide_eq_true c))
   omega
  have hnv:valV tkv (Sum.inr k.name:Key)=none:=(htw5.val (x:=k.name)).1 hnone
  refine (xb0 _ rfl _ rfl ta _ rfl (DPut.k (k:=Sum.inr k.name) hta5 (xa7 (by omega))) ?_)
  rw [xpa hnv]
  have tpD:=xnb hta5 (.dK (tkv++[(Sum.inr k.name,.ref t)]))
  refine (xas _ (told++[(k.name,g,d')]) _ _ _ (xcc _ _ rfl (Fed.put (F4.trans f5) hta taf _) ups ?_ (xi9 wf hk rfl htok hbef ⟨hg,hh⟩) (fun z hz=>?_) ?_ (by rw [zLA,List.length_singleton]; omega) (fun z hz kz hkz=>?_)))
  ·exact (htw5.snoc (kv:=(Sum.inr k.name,.ref t)) (y:=(k.name,g,d')) ⟨rfl,rt⟩).tups tpD
  ·rcases zMA hz with hz | hz
   ·obtain ⟨j,k',hj,h'⟩:=hbef z hz
    exact (jEEA j k' (by omega) h')
   ·rw [zMO hz]
    exact (xav i k (by omega) hk rfl)
  ·rw [zAP]
   refine List.nodup_append.mpr (jAA hnd (by simp) (fun a ha b hb e=>?_))
   obtain ⟨z,hz,rfl⟩:=zMP ha
   have hb':b=k.name:=by simpa using hb
   exact xi5 hnone z hz (by rw [e,hb'])
  ·rcases zMA hz with hz | hz
   ·exact hct z hz kz hkz
   ·rw [zMO hz] at hkz ⊢
    rw [xdz wf.nd hkm] at hkz
    cases hkz
    exact hcn
 ·rintro σ H1 ⟨tkv,told,o4,o5,o6,o7,o8,rfl,F,hta1,htw,htok,hbef,hnd,htl,hct⟩
  have tp:=xah (jEE p0 q0 hf) F
  refine hR2 _ _ ?_
  refine (xcx _ rfl _ rfl _ rfl (by walk_at "s") (fun e1 he1=>⟨(by walk_at "s"),fun e2' he2=>⟨(by walk_at "s"),fun sa hsa=>?_⟩⟩))
  have y:=(Same.new he1 (.tup [])).trans ((Same.new he2 (.tup [])).trans (Same.new hsa (.tup [kv2,.ref e1,.ref e2'])))
  refine (xbo _ rfl fa sa ta (.ref ka) (xas kv2 r1 ([.ref e1,.ref e2']) ks ks2 (xcc tkv told rfl (y _ _ (tp _ _ hfa)) ups (y _ _ hta1) (htw.tups fun b us e=>y _ _ e) (by omega) ((hk1.tups tp _).same y _) wf (jAA ((hk2.tups tp _).same y _) wf2 (fun r wa la kvs ls H3 s3 nr nwa nla hr3 hwa3 hww hla3 hls=>?_)))))
  refine (xbb r _ _ _ rfl rfl (SqT.of hr3) (xaz (j:=0) rfl) (by walk_at "s") (fun t ht=>?_))
  have z:=Same.new ht (.tup [.ref ta,.ref wa])
  have s13:=y.trans (s3.trans z)
  exact q t ta wa tkv kvs told _ (F.same s13) ups (s13 _ _ hta1) (htw.tups fun b us e=>s13 _ _ e) (z _ _ hwa3) (hww.tups fun b us e=>z _ _ e) htok hnd ⟨by omega,hct⟩
end
def vKV (bs:List (Str×V)):List (Key×V):=bs.map fun b=>(Sum.inr b.1,b.2)
def NV (H:Hp):List (Str×V)->List (Str×D)->Prop
 | [],[]=>True
 | b :: bs,q :: ds=>(b.1=q.1/\RelD H b.2 q.2)/\NV H bs ds
 | _,_=>False
theorem xfv {y:Str}:∀ (bs:List (Str×V)) (acc:List (Key×V)),(∀ b∈bs,b.1≠y)->valV (xaw acc (vKV bs)) (Sum.inr y)=valV acc (Sum.inr y)
 | [],acc,_=>rfl
 | b :: bs,acc,h=>by
  show valV (xaw (putK acc (Sum.inr b.1) b.2) (vKV bs)) (Sum.inr y)=_
  rw [xfv bs _ fun c hc=>h c (by simp [hc]),xfc,if_neg fun e=>h b (by simp) (Sum.inr.inj e).symm]
theorem xea:∀ (bs:List (Str×V)) (acc:List (Key×V)),(bs.map (·.1)).Nodup->∀ p∈bs,valV (xaw acc (vKV bs)) (Sum.inr p.1)=some p.2
 | [],acc,_,p,hp=>nomatch hp
 | b :: bs,acc,nd,p,hp=>by
  rw [List.map_cons,List.nodup_cons] at nd
  show valV (xaw (putK acc (Sum.inr b.1) b.2) (vKV bs)) (Sum.inr p.1)=_
  rcases zMC hp with rfl | hp
  ·rw [xfv bs _ fun c hc e=>nd.1 (by rw [<- e]; exact List.mem_map_of_mem hc),xfc,if_pos rfl]
  ·exact xea bs _ nd.2 p hp
theorem NV.names {H:Hp}:∀ {bs:List (Str×V)} {ds:List (Str×D)},NV H bs ds->bs.map (·.1)=ds.map (·.1)
 | [],[],_=>rfl
 | b :: bs,q :: ds,h=>by rw [List.map_cons,List.map_cons,h.1.1,NV.names h.2]
theorem NV.of {H:Hp}:∀ {bs:List (Str×V)} {ds:List (Str×D)},NV H bs ds->∀ q∈ds,∃ b∈bs,b.1=q.1/\RelD H b.2 q.2
 | [],[],_,q,hq=>nomatch hq
 | b :: bs,q' :: ds,h,q,hq=>by
  rcases zMC hq with rfl | hq
  ·exact (jEA b (by simp) h.1)
  ·obtain ⟨c,hc,e⟩:=NV.of h.2 q hq
   exact (jEA c (by simp [hc]) e)
theorem NV.tups {H H':Hp} (s:∀ b us,H b=some (.tup us)->H' b=some (.tup us)):∀ {bs:List (Str×V)} {ds:List (Str×D)},NV H bs ds->NV H' bs ds
 | [],[],_=>trivial
 | b :: bs,q :: ds,h=>⟨⟨h.1.1,h.1.2.tups s _⟩,NV.tups s h.2⟩
theorem xgo {H:Hp}:∀ {us:List V} {ds:List (Str×D)},RelDs H us (ds.map dPr)->∃ bs,PairsV H us (vKV bs)/\NV H bs ds
 | us,[],h=>by rw [show us=[] from h]; exact (jEA ([]) trivial trivial)
 | us,q :: ds,⟨v,r,e,h1,h2⟩=>by
  subst e
  obtain ⟨a,ws,rfl,ha,v0,_,rfl,r0,v1,_,rfl,r1,rfl⟩:=h1
  obtain rfl:v0=.str q.1:=r0
  obtain ⟨bs,g1,g2⟩:=xgo h2
  exact ⟨(q.1,v1) :: bs,⟨⟨a,rfl,ha⟩,g1⟩,⟨rfl,r1⟩,g2⟩
theorem xpn {H:Hp} {bs:List (Str×V)} {ds:List (Str×D)} (h:NV H bs ds) (nd:(ds.map (·.1)).Nodup) {q:Str×D} (hq:q∈ds):∃ v,valV (xaw [] (vKV bs)) (Sum.inr q.1:Key)=some v/\RelD H v q.2:=by
 obtain ⟨b,hb,e1,e2⟩:=h.of q hq
 refine (jEA b.2 ?_ e2)
 rw [<- e1]
 exact xea bs [] (by rw [h.names]; exact nd) b hb
theorem xw0 {H:Hp} {dp:Addr} {bs:List (Str×V)} {ds:List (Str×D)} (h:NV H bs ds) (nd:(ds.map (·.1)).Nodup) (hp:H dp=some (.dK (xaw [] (vKV bs)))):EnAt H dp ds.length (envP ds):=by
 refine (jEAA _ hp ?_ (fun y=>⟨fun e=>?_,fun d e=>?_⟩))
 ·have h1:=xb2 (vKV bs) []
  have h2:=congrArg List.length h.names
  rw [zLM,zLM] at h2
  unfold vKV at h1 ⊢
  rw [zLM] at h1
  simp at h1
  omega
 ·unfold envP at e
  have h':=List.find?_eq_none.mp (Option.map_eq_none_iff.mp e)
  rw [xfv bs [] fun b hb z=>?_]
  ·rfl
  ·have hm:b.1∈ds.map (·.1):=by rw [<- h.names]; exact List.mem_map_of_mem hb
   obtain ⟨q,hq,eq⟩:=zMP hm
   exact absurd (zDT (eq.trans z)) (h' q hq)
 ·unfold envP at e
  obtain ⟨q,hq,rfl⟩:=zMS e
  have h1:q.1=y:=by
   have:=List.find?_some hq
   exact of_decide_eq_true this
  rw [<- h1]
  exact xpn h nd (zMF hq)
structure TC (H:Hp) (fa sa wa:Addr) (kv1 kv2:V) (r1 r2:List V) (ks ks2:List Kn) (ys:List Wy):Prop where
 f:H fa=some (.tup (kv1 :: r1))
 s:H sa=some (.tup (kv2 :: r2))
 k1:RelD H kv1 (xb8 ks)
 wf:KWf ks
 k2:RelD H kv2 (xb8 ks2)
 wf2:KWf ks2
 w:WaysAt H wa ys
theorem TC.same {H H':Hp} {fa sa wa:Addr} {kv1 kv2:V} {r1 r2:List V} {ks ks2:List Kn} {ys:List Wy} (h:TC H fa sa wa kv1 kv2 r1 r2 ks ks2 ys) (y:Same H H'):TC H' fa sa wa kv1 kv2 r1 r2 ks ks2 ys:=⟨y _ _ h.f,y _ _ h.s,h.k1.same y _,h.wf,h.k2.same y _,h.wf2,h.w.same y⟩
def spTd (m:Nat):Sp:=fun vs H Q _=>∃ (fa sa wa:Addr) (kv1 kv2:V) (r1 r2:List V) (ks ks2:List Kn) (ys:List Wy) (x:Str) (v:V) (d d':D),vs=[.ref fa,.ref sa,.ref wa,.str x,v]/\TC H fa sa wa kv1 kv2 r1 r2 ks ks2 ys/\RelD H v d/\Tn ks ks2 ys m x d d'/\∀ u H',Same H H'->RelD H' u d'->Q u H'
def spTB (m:Nat):Sp:=fun vs H Q _=>∃ (fa sa wa:Addr) (kv1 kv2:V) (r1 r2:List V) (ks ks2:List Kn) (ys:List Wy) (pa da:Addr) (us:List V) (es:List ((Str×Str)×D)) (ds:List (Str×D)) (kvs:List (Key×V)),vs=[.ref fa,.ref sa,.ref wa,.ref pa,.ref da]/\TC H fa sa wa kv1 kv2 r1 r2 ks ks2 ys/\H pa=some (.tup us)/\RelDs H us (es.map fun e=>xek e.1)/\(es.map fun e=>e.1.1).Nodup/\es.length<=100 ∧
 H da=some (.dK kvs)/\(∀ e∈es,∃ v,valV kvs (Sum.inr e.1.1:Key)=some v/\RelD H v e.2)/\All2 (TnE (Tn ks ks2 ys m)) (goF ys es) ds/\∀ dp H',Same H H'->EnAt H' dp es.length (envP ds)->Q (.ref dp) H'
theorem xuk {ks ks2:List Kn} (wf:KWf ks) {ys:List Wy} {m:Nat} {d d':D} (h:Tn ks ks2 ys m (S "num") d d'):d'=d:=by
 cases m with
 | zero=>exact h.2
 | succ m=>
  rcases h with h | ⟨k,_,_,hk,_⟩
  ·exact h.2
  ·rw [wf.num] at hk
   cases hk
theorem xua {ys:List Wy} {es:List ((Str×Str)×D)} {i:Nat} {e:(Str×Str)×D} (he:es[i]?=some e):goF ys (es.take (i + 1))=goF ys (es.take i)++(if (xau ys e.1.2).isSome=true then [e] else []):=by
 unfold goF
 rw [zTA,he]
 show (es.take i++[e]).filter _=_
 rw [List.filter_append,List.filter_cons]
 cases (xau ys e.1.2).isSome <;> rfl
section
variable {P:Program} {w:World} {K:PySem.W.Frag} {mg:Str->Option Value} {base:Heap} {n m:Nat}
theorem xg9 (T:Tx K mg) (D_goes_to:DefIs P w K mg base n "goes_to" qah xjl) (D_turned:DefIs P w K mg base n "turned" qaj (spTd m)):DefIs P w K mg base (n + 1) "turned_boxes" qa2 (spTB m):=by
 refine DefIs.of T.d_turned_boxes sc_turned_boxes ?_ ?_ <;> walk_at "i"
 ·obtain ⟨_,_,_,_,_,_,_,_,_,_,_,_,_,_,_,_,rfl,_⟩:=h
  rfl
 obtain ⟨fa,sa,wa,kv1,kv2,r1,r2,ks,ks2,ys,pa,da,us,es,ds,kvs,rfl,tc,hpa,hus,hnd,hl,hda,hval,hall,q⟩:=h
 have nd:=sc_turned_boxes.nd
 have hu:=xfn hr
 have hul:=hus.length
 rw [zLM] at hul
 refine ⟨_,(zpn (xb1 (i:=5) ["part","ways"] [none,some 2] rfl (by kernel_rfl) nd rfl (by walk_at "o") (xbi (pv 3)) (fun _ _ _ _=>(xab (i:=0) (by show List.Nodup (["part","ways"]:List Str); decide +kernel) rfl (Or.inl rfl))) (fun _ _ _ _=>(xc9 (pR xll (pd D_goes_to hr (pc (pv 1) (pc (xaj (xcu (K:=K) rfl) (pv 0) pI (fun _ _=>rfl)) pN zss) zsn)) xee (nM _)))) (fun _ _ _ _=>(pv 0)))
   (po (xae (xat (xf6 rfl) rfl T.z_dict PyProof.Rows.boot_dict (pc (xbu qbc [none,none,some 0,some 1,some 2,some 4] rfl (by kernel_rfl) (xdk (pv 5)) (fun _ _ _ _=>(xcs (K:=K) (n:=2) rfl rfl (xac (xab (i:=0) (by show List.Nodup (qbc:List Str); decide +kernel) rfl (Or.inl rfl)) (xac (xab (i:=1) (by show List.Nodup (qbc:List Str); decide +kernel) rfl (Or.inl rfl)) xa0)))) (fun _ _ _ _=>xbz) (fun _ _ _ _=>(xar (pc (pv 0) (pc (pd D_turned hr (pc (pv 2) (pc (pv 3) (pc (pv 4) (pc (pv 1) (pc (xcl hu (pv 5) (pv 0) (fun _ _=>rfl)) pN zss) zsn) zsn) zsn) zsn)) pN zsc) zsn)))) pN xby))))),?_⟩
 refine (xa9 _ rfl pa rfl ⟨_,SqT.of hpa⟩ ?_)
 refine xbn (xs:=us) (fun i zs H3=>H3=H/\RelDs H zs ((goF ys (es.take i)).map fun e=>xek e.1)) ⟨rfl,rfl⟩ (xa7 (by omega)) (fun i zs H3 _ p=>by obtain ⟨rfl,_⟩:=p; exact SqT.of hpa) ?_ ?_
 ·rintro i y zs H3 hy hi hly ⟨eH,hzs⟩
  subst eH
  obtain ⟨d,hd',rd⟩:=hus.get hy
  rw [zGM] at hd'
  obtain ⟨e,he,rfl⟩:=zMS hd'
  have rd0:=rd
  obtain ⟨b,ws,rfl,hb,_,_,rfl,rfl,_,_,rfl,rfl,rfl⟩:=rd
  have tk:goF ys (es.take (i + 1))=goF ys (es.take i)++(if (xau ys e.1.2).isSome=true then [e] else []):=xua he
  refine ⟨xd5 rfl,?_⟩
  refine (xa6 _ rfl _ rfl b _ _ (xd3 _ rfl rfl (SqT.of hb) rfl wa _ e.1.2 rfl tc.w ?_))
  cases hg:xau ys e.1.2 with
  | none=>
   refine (jAEA rfl _ rfl (iteF (nxtN hi hly ⟨rfl,?_⟩)))
   rw [tk,hg]
   show RelDs _ _ ((_++[]).map _)
   rw [List.append_nil]
   exact hzs
  | some g=>
   refine (jAEA rfl _ rfl (iteT (jEA _ rfl (nxtG hi hly ⟨rfl,?_⟩))))
   rw [tk,hg]
   show RelDs _ _ ((_++[e]).map _)
   rw [zAP]
   exact hzs.append (xav _ ([]) rfl rd0 rfl)
 rintro zs H3 hly ⟨eH,hzs⟩ L hL
 subst eH
 rw [zTL (by omega)] at hzs
 have hfl:(goF ys es).length<=es.length:=List.length_filter_le _ _
 have hef:∀ e∈goF ys es,e∈es:=fun e he=>(List.mem_filter.mp he).1
 have hfnd:((goF ys es).map fun e=>e.1.1).Nodup:=hnd.sublist (List.filter_sublist.map _)
 generalize goF ys es=es2 at hzs hfl hef hfnd hall
 have hzl:=hzs.length
 rw [zLM] at hzl
 have y0:=Same.new hL (.lst zs)
 have hdl:=hall.length
 refine (xa9 _ rfl L rfl ⟨_,SqL.of ups⟩ ?_)
 refine xdu (xs:=zs) (fun i ts H4=>Same (upd H3 L (.lst zs)) H4/\RelDs H4 ts ((ds.take i).map dPr)) ⟨Same.refl _,rfl⟩ (xa7 (by omega)) (fun i ts H4 _ p=>SqL.of (p.1 _ _ ups)) ?_ ?_
 ·rintro i y ts H4 hy hi hly ⟨sm,hts⟩
  have s04:=y0.trans sm
  obtain ⟨d,hd',rd⟩:=(hzs.same s04 _).get hy
  rw [zGM] at hd'
  obtain ⟨e,he,rfl⟩:=zMS hd'
  obtain ⟨q',hq',hqe,htn⟩:=hall.get he
  obtain ⟨b,ws,rfl,hb,_,_,rfl,rfl,_,_,rfl,rfl,rfl⟩:=rd
  obtain ⟨v,hv1,hv2⟩:=hval e (hef e (zMG he))
  have g:DGet H4 da (.str e.1.1) (some v):=by
   have:=DGet.k (H:=H4) (a:=da) (k:=Sum.inr e.1.1) (s04 _ _ hda)
   rw [hv1] at this
   exact this
  refine (xak b _ rfl (SqT.of hb) rfl _ _ rfl _ (xc1 _ rfl rfl (ext2 rfl rfl) (xf7 ?_)))
  refine (xap _ rfl _ rfl _ rfl _ rfl _ rfl (xb0 _ rfl _ rfl da _ rfl g ?_))
  refine (xas fa sa wa kv1 kv2 (xas r1 r2 ks ks2 ys (xay e.1.2 v e.2 q'.2 rfl (tc.same s04) (hv2.same s04 _) htn (fun u H5 s5 ru=>⟨(by walk_at "s"),fun t ht=>?_⟩))))
  have y6:=Same.new ht (.tup [.str e.1.1,u])
  refine nxtG hi hly ⟨sm.trans (s5.trans y6),?_⟩
  rw [zTA,hq',zAP,<- hqe]
  rw [<- hqe] at y6
  exact ((hts.same s5 _).same y6 _).append (xav _ ([]) rfl (xad t _ rfl ups _ _ rfl rfl _ (jEAA _ rfl (ru.same y6 _) rfl)) rfl)
 ·rintro ts H4 hly ⟨sm,hts⟩ D hD
  rw [zTL (by omega)] at hts
  have y1:=Same.new hD (.lst ts)
  obtain ⟨bs,hp,hn⟩:=xgo (hts.same y1 _)
  have hdnd:(ds.map (·.1)).Nodup:=by rw [xeb hall]; exact hfnd
  refine (xe8 D ts (vKV bs) rfl ups hp (fun dp hdp=>?_))
  have y2:=Same.new hdp (.dK (xaw [] (vKV bs)))
  have en:=xw0 (hn.tups fun b us e=>y2 _ _ e) hdnd ups
  exact q dp _ (y0.trans (sm.trans (y1.trans y2))) (en.mono (by omega))
theorem xj1 (T:Tx K mg) (spc:Sp) (D_sort_of:DefIs P w K mg base n "sort_of" qad xgl) (D_parts_of:DefIs P w K mg base n "parts_of" qad xc7) (D_part_kind:DefIs P w K mg base n "part_kind" qay xh2) (D_worth:DefIs P w K mg base n "worth" qae (xec (fun ks=>Ev ks 22) 100)) (D_turned_boxes:DefIs P w K mg base n "turned_boxes" qa2 spc) (hspc:∀ j,m=j + 1->spc=spTB j):DefIs P w K mg base (n + 1) "turned" qaj (spTd m):=by
 refine DefIs.of T.d_turned sc_turned ?_ ?_ <;> walk_at "i"
 ·obtain ⟨_,_,_,_,_,_,_,_,_,_,_,_,_,_,rfl,_⟩:=h
  rfl
 obtain ⟨fa,sa,wa,kv1,kv2,r1,r2,ks,ks2,ys,x,v,d,d',rfl,tc,hv,htn,q⟩:=h
 have nd:=sc_turned.nd
 have hu:=xfn hr
 have wf:=tc.wf
 refine ⟨_,(zpn (xa1 (pR xa4 (pv 3) pS (nM _)) (po (xae (pv 4))) pQ)
   (zpn (xal (i:=5) nd rfl (by walk_at "o") (xaj xai (xcl hu (pv 2) (pv 3) (fun _ _=>rfl)) pI (fun _ _=>rfl)))
   (zpn (xal (i:=6) nd rfl (by walk_at "o") (pd D_parts_of hr (pc (xaj xai (pv 0) pI (fun _ _=>rfl)) (pc (pv 3) pN zsn) zss)))
   (zpn (xa1 (pR xa4 (pd D_sort_of hr (pc (xaj xai (pv 0) pI (fun _ _=>rfl)) (pc (pv 3) pN zsn) zss)) pS (nM _)) (zpn (xal (i:=7) nd rfl (by walk_at "o") (xat (xf6 rfl) rfl T.z_dict PyProof.Rows.boot_dict (pc (xbu ["part","each"] [none,none] rfl (by kernel_rfl) (xsl rfl T.z_zip (pc (pv 6) (pc (xaj xai (pv 4) pI (fun _ _=>rfl)) pN zss) zsn)) (fun _ _ _ _=>(xcs (K:=K) (n:=2) rfl rfl (xac (xab (i:=0) (by show List.Nodup (["part","each"]:List Str); decide +kernel) rfl (Or.inl rfl)) (xac (xab (i:=1) (by show List.Nodup (["part","each"]:List Str); decide +kernel) rfl (Or.inl rfl)) xa0)))) (fun _ _ _ _=>xbz) (fun _ _ _ _=>(xar (pc (xaj (xcu (K:=K) rfl) (pv 0) pI (fun _ _=>rfl)) (pc (pv 1) pN zsn) zss)))) pN xby)))
   (po (xae (pd D_worth hr (pc (xaj xai (pv 1) pI (fun _ _=>rfl)) (pc (pv 5) (pc (pd D_turned_boxes hr (pc (pv 0) (pc (pv 1) (pc (pv 2) (pc (pv 6) (pc (pv 7) pN zsn) zsn) zsn) zsn) zsn)) pN zsc) zsn) zss))))) pQ)
   (zpn (xal (i:=8) nd rfl (by walk_at "o") (xaj xai (pv 4) pI (fun _ _=>rfl)))
   (zpn (xal (i:=9) nd rfl (by walk_at "o") (xar (pc pS (pc (pd D_part_kind hr (pc (xaj xai (pv 0) pI (fun _ _=>rfl)) (pc (pv 3) (pc (pv 8) pN zsn) zsn) zss)) pN zsc) zso)))
   (po (xae (pd D_worth hr (pc (xaj xai (pv 1) pI (fun _ _=>rfl)) (pc (xcl hu (xat (xdv rfl) rfl T.z_dict PyProof.Rows.boot_dict (pc (pv 5) pN zsn)) (pv 8) (fun _ _=>rfl)) (pc (pd D_turned_boxes hr (pc (pv 0) (pc (pv 1) (pc (pv 2) (pc (xar (pc (pv 9) pN zsn)) (pc (xtp (xrg pS (xaj xai (pv 4) pI (fun _ _=>rfl)) xtn) rfl rfl (fun z=>by cases z) (by decide)) pN xos) sT) zsn) zsn) zsn)) pN zsc) zss) zss)))))))))),xag fun R1 hR1=>?_⟩
 by_cases hx:x=S "num"
 ·subst hx
  rw [xuk wf htn] at q
  exact (xan _ rfl rfl _ rfl (iteKT (zDT rfl) (jEA _ rfl (q _ _ (Same.refl _) hv))))
 ·obtain ⟨j,rfl⟩:∃ j,m=j + 1:=by
   cases m with
   | zero=>exact absurd htn.1 hx
   | succ j=>exact ⟨j,rfl⟩
  have D':=hspc j rfl
  subst D'
  rcases htn with h | ⟨k,y,ds,hkx,hy,how⟩
  ·exact absurd h.1 hx
  have hm:=zMF hkx
  obtain rfl:=xlx hkx
  refine (xan _ rfl rfl _ rfl (iteKF (zDF fun z=>hx (V.str.inj z)) ?_))
  obtain ⟨kvs,hd,hwl⟩:=id tc.w
  obtain ⟨v',h1,h2⟩:=(hwl.val (x:=k.name)).2 y hy
  obtain ⟨b,_,rfl,hb,v0,_,rfl,r0,hv',_,rfl,hh,rfl⟩:=h2
  obtain rfl:v0=.str y.2.1:=r0
  change RelD H hv' y.2.2 at hh
  have g:DGet H wa (.str k.name) (some (.ref b)):=by
   have:=DGet.rd (k:=Sum.inr k.name) hd
   rw [h1] at this
   exact this
  have hnd:=wf.pnd k hm
  have h5:=wf.pts k hm
  refine hR1 _ _ (xag fun R2 hR2=>?_)
  refine (xbf _ rfl _ rfl wa _ rfl g b (xbd _ _ _ rfl rfl (SqT.of hb) rfl ?_))
  refine hR2 _ _ (xag fun R3 hR3=>?_)
  refine (xaa _ rfl fa _ _ _ rfl rfl (SqT.of tc.f) (xaz (j:=0) rfl) (xcw _ rfl kv1 ks k.name rfl (wf.ksAt tc.k1) (fun u H1 s1 ru=>?_)))
  rw [hkx] at ru
  obtain ⟨c,cs,rfl,hc,hcs⟩:=ru
  have hcl:=hcs.length
  rw [zLM] at hcl
  have tc1:=tc.same s1
  refine hR3 _ _ (xag fun R4 hR4=>?_)
  refine (xaa _ rfl fa _ _ _ rfl rfl (SqT.of tc1.f) (xaz (j:=0) rfl) (xcw _ rfl kv1 ks k.name rfl (wf.ksAt tc1.k1) ?_))
  rw [hkx]
  rcases how with ⟨hrc,ws,hwl',rfl,hall,hev⟩ | ⟨hrc,es,p0,d0,e0,ees,hes,hp0,he0,hn0,rfl,hall,hev⟩
  ·obtain ⟨a,_,rfl,ha,v0,_,rfl,r0,v1,_,rfl,⟨a1,us,rfl,hb1,hus⟩,rfl⟩:=hv
   have hul:=hus.length
   refine (jAEA rfl _ rfl (iteKT (zDT (by show V.str k.sort=_; rw [xcj hrc]; rfl)) ?_))
   refine (xa6 _ rfl _ rfl a _ _ (xc3 _ rfl rfl (SqT.of (s1 _ _ ha)) rfl (xcp c a1 rfl ⟨_,SqT.of hc⟩ ⟨_,SqT.of (s1 _ _ hb1)⟩ ?_)))
   refine xsb (xs:=cs) (zs:=us) (by omega) (fun i zs H'=>Same H1 H'/\zs.length=i/\RelDs H' zs (((k.parts.zip ws).take i).map fun e=>dPr (e.1.1,e.2))) (jAA (Same.refl _) rfl rfl) (xa7 (by omega)) (fun i zs H' _ p=>⟨SqT.of (p.1 _ _ hc),SqT.of (p.1 _ _ (s1 _ _ hb1))⟩) ?_ ?_
   ·rintro i y z zs H' pp hy hz hi hly ⟨sm,hzl,hzs⟩ hpp
    obtain ⟨d1,hd1,rd⟩:=hcs.get hy
    rw [zGM] at hd1
    obtain ⟨pr,hpr,rfl⟩:=zMS hd1
    obtain ⟨b2,_,rfl,hb2,_,_,rfl,rfl,_,_,rfl,rfl,rfl⟩:=rd
    obtain ⟨e,he,re⟩:=hus.get hz
    have sp:=Same.new hpp (.tup [.ref b2,z])
    have s3:=sm.trans sp
    refine (xak pp _ rfl (SqT.of ups) rfl _ _ rfl _ (xc1 _ rfl rfl (ext2 rfl rfl) (xf7 ?_)))
    refine (xaa _ rfl b2 _ _ _ rfl rfl (SqT.of (s3 _ _ hb2)) rfl (jEAA _ rfl (by walk_at "s") (fun t ht=>?_)))
    have y6:=Same.new ht (.tup [.str pr.1,z])
    refine nxtG hi hly (jAA (s3.trans y6) (by rw [zLA,List.length_singleton,hzl]) ?_)
    rw [zTA,show (k.parts.zip ws)[i]?=some (pr,e) from List.getElem?_zip_eq_some.mpr ⟨hpr,he⟩]
    show RelDs _ _ (((k.parts.zip ws).take i++[(pr,e)]).map _)
    rw [zAP]
    exact ((hzs.same sp _).same y6 _).append (xav _ ([]) rfl (xad t _ rfl ups _ _ rfl rfl _ (jEAA _ rfl (re.same (s1.trans (s3.trans y6)) _) rfl)) rfl)
   ·rintro zs H' hly ⟨sm,hzl,hzs⟩ LD hD
    have hzw:(k.parts.zip ws).length=k.parts.length:=by rw [List.length_zip]; omega
    rw [zTL (by omega)] at hzs
    have y1:=Same.new hD (.lst zs)
    have hzs':RelDs H' zs (((k.parts.zip ws).map fun e=>(e.1.1,e.2)).map dPr):=by rw [List.map_map]; exact hzs
    have hnd':(((k.parts.zip ws).map fun e=>(e.1.1,e.2)).map (·.1)).Nodup:=by
     rw [List.map_map]
     have:(k.parts.zip ws).map ((fun q:Str×D=>q.1) ∘ fun e=>(e.1.1,e.2))=((k.parts.zip ws).map (·.1)).map (·.1):=by rw [List.map_map]; rfl
     rw [this,xdj hwl'.symm]
     exact hnd
    obtain ⟨bs,hp',hnv⟩:=xgo (hzs'.same y1 _)
    refine (xe8 LD zs (vKV bs) rfl ups hp' (fun dp hdp=>?_))
    have y2:=Same.new hdp (.dK (xaw [] (vKV bs)))
    have hnv2:=hnv.tups fun b us e=>y2 _ _ e
    have s4:=sm.trans (y1.trans y2)
    have s14:=s1.trans s4
    have tc4:=tc.same s14
    have hc4:=s4 _ _ hc
    have hcs4:=hcs.same s4 _
    have hdp4:upd (upd H' LD (.lst zs)) dp (.dK (xaw [] (vKV bs))) dp=some (.dK (xaw [] (vKV bs))):=ups
    generalize upd (upd H' LD (.lst zs)) dp (.dK (xaw [] (vKV bs)))=H4 at s4 s14 tc4 hc4 hcs4 hdp4 hnv2 ⊢
    refine (xaa _ rfl sa _ _ _ rfl rfl (SqT.of tc4.s) (xaz (j:=0) rfl) (xap _ rfl _ rfl _ rfl _ rfl _ rfl (jEA _ rfl ?_)))
    refine (xas fa sa wa kv1 kv2 (xas r1 r2 ks ks2 ys (xas c dp cs (k.parts.zip ws) ds (xdl _ rfl tc4 hc4 ?_ ?_ (xhy (by omega) hdp4 (fun e he=>?_) hall (fun dp2 H5 s5 en=>?_))))))
    ·have:(k.parts.zip ws).map (fun e=>xek e.1)=((k.parts.zip ws).map (·.1)).map xek:=by rw [List.map_map]; rfl
     rw [this,xdj hwl'.symm]
     exact hcs4
    ·have:(k.parts.zip ws).map (fun e=>e.1.1)=((k.parts.zip ws).map (·.1)).map (·.1):=by rw [List.map_map]; rfl
     rw [this,xdj hwl'.symm]
     exact hnd
    ·exact xpn (q:=(e.1.1,e.2)) hnv2 hnd' (List.mem_map_of_mem (f:=fun e:(Str×Str)×D=>(e.1.1,e.2)) he)
    have s15:=s14.trans s5
    exact (xas kv2 hv' dp2 ks2 y.2.2 (xa5 (envP ds) d' rfl ((tc.wf2.ksAt tc4.k2).same s5) (hh.same s15 _) (en.mono (by omega)) hev (fun u H6 s6 ru=>q u _ (s15.trans s6) ru)))
  ·obtain ⟨a,_,rfl,ha,v0,_,rfl,r0,v1,_,rfl,r1',v2,_,rfl,r2',rfl⟩:=hv
   obtain rfl:v1=.str p0.1:=r1'
   refine (jAEA rfl _ rfl (iteKF (zDF (by show ¬ V.str k.sort=_; rw [xcr hrc]; decide +kernel)) ?_))
   refine hR4 _ _ (xag fun R5 hR5=>?_)
   refine (xaa _ rfl a _ _ _ rfl rfl (SqT.of (s1 _ _ ha)) rfl ?_)
   refine hR5 _ _ (xag fun R6 hR6=>?_)
   refine (xaa _ rfl fa _ _ _ rfl rfl (SqT.of tc1.f) (xaz (j:=0) rfl) (xa6 _ rfl _ rfl kv1 ks k.name (xbd k p0.1 p0.2 rfl (wf.ksAt tc1.k1) hkx (xir hnd hp0) (fun H2 s2=>⟨(by walk_at "s"),fun t ht=>?_⟩))))
   have y1:=Same.new ht (.tup [.str (Str.ofString "it"),.str p0.2])
   have s12:=s1.trans (s2.trans y1)
   have tc2:=tc.same s12
   have ht2:upd H2 t (.tup [.str (Str.ofString "it"),.str p0.2]) t=some (.tup [.str (Str.ofString "it"),.str p0.2]):=ups
   generalize upd H2 t (.tup [.str (Str.ofString "it"),.str p0.2])=H3 at s12 tc2 ht2 ⊢
   have hh3:=hh.same s12 _
   rw [ees] at hh3
   obtain ⟨ha0,hs,rfl,hha,hhs⟩:=hh3
   have hnd2:(es.map (·.1)).Nodup:=by rw [hes]; exact hnd
   obtain ⟨bs,hp',hnv⟩:=xgo hhs
   refine hR6 _ _ ?_
   refine (xaa _ rfl sa _ _ _ rfl rfl (SqT.of tc2.s) (xaz (j:=0) rfl) (xfk _ rfl ha0 hs (vKV bs) rfl hha hp' (fun dq hdq=>?_)))
   have y2:=Same.new hdq (.dK (xaw [] (vKV bs)))
   obtain ⟨tv,hv1,hv2⟩:=xpn (q:=e0) hnv hnd2 he0
   rw [hn0] at hv1
   have gq:DGet (upd H3 dq (.dK (xaw [] (vKV bs)))) dq (.str p0.1) (some tv):=by
    have:=DGet.k (H:=upd H3 dq (.dK (xaw [] (vKV bs)))) (a:=dq) (k:=Sum.inr p0.1) ups
    rw [hv1] at this
    exact this
   refine (xbk _ rfl dq _ rfl gq _ rfl (xcx _ rfl _ rfl _ rfl (by walk_at "s") (fun t4 ht4=>fun dv hdv=>?_)))
   have y3:=Same.new ht4 (.tup [.ref t])
   have y4:=Same.new hdv (.dK [])
   have s14:=s12.trans (y2.trans y3)
   refine (xaa _ rfl a _ _ _ rfl rfl (SqT.of (y4 _ _ (s14 _ _ ha))) rfl (xhg ups ([(Sum.inr (S "it"),v2)]) rfl (by simp) ?_))
   rw [xs6]
   have y5:=Same.new hdv (.dK (xaw [] [(Sum.inr (S "it"),v2)]))
   have s35:=y2.trans (y3.trans y5)
   have s15:=s12.trans s35
   refine (xas fa sa wa kv1 kv2 (xas r1 r2 ks ks2 ys (xas t4 dv ([.ref t]) ([((S "it",p0.2),d0)]) ds (xdl _ rfl (tc.same s15) (y5 _ _ ups) (xav _ ([]) rfl (xad t _ rfl (s35 _ _ ht2) _ _ rfl rfl _ (jEAA _ rfl rfl rfl)) rfl) (by simp) (xhy (by simp) ups (fun e he=>?_) hall (fun dp2 H6 s6 en=>?_))))))
   ·rw [zMO he]
    refine (jEA v2 ?_ (r2'.same s15 _))
    exact xea [(S "it",v2)] [] (by simp) (S "it",v2) (by simp)
   have s16:=s15.trans s6
   exact (xas kv2 tv dp2 ks2 _ (xa5 (envP ds) d' rfl (tc.wf2.ksAt (tc.same s16).k2) (hv2.same (s35.trans s6) _) (en.mono (by simp)) hev (fun u H7 s7 ru=>q u _ (s16.trans s7) ru)))
theorem xgw (T:Tx K mg):∀ m,DefIs P w K mg base (2 * m + 60) "turned" qaj (spTd m)
 | 0=>xj1 (n:=59) T (fun _ _ _ _=>False) (xdq T) (xbv T) (xga T (xbv T)) ((xih T 22 100 (by omega)).mono (by omega)) (DefIs.none T.d_turned_boxes fun _ _ _ _ h=>h) (fun j e=>by cases e)
 | m + 1=>xj1 (n:=2 * m + 61) T (spTB m) (xdq T) (xbv T) (xga T (xbv T)) ((xih T 22 100 (by omega)).mono (by omega)) (xg9 (n:=2 * m + 60) T (xeq T) (xgw T m)) (fun j e=>by cases e; rfl)
end
def xem (m:Nat):Sp:=fun vs H Q _=>∃ (f:Addr) (kv:V) (p q:Int) (ks:List Kn) (x:Str),vs=[.ref f,kv,.str x]/\H f=some (.lst [.int p,.int q])/\RelD H kv (xb8 ks)/\KWf ks/\KIn ks m x/\∀ u d H',Fed f H H'->RelD H' u d->Vk ks x d->Q u H'
section
variable {P:Program} {w:World} {K:PySem.W.Frag} {mg:Str->Option Value} {base:Heap} {n m:Nat}
theorem xjx (T:Tx K mg) (spc:Sp) (Dl_sort_of:DefIs P w K mg base n "_law_sort_of" qaa xdw) (Dl_take:DefIs P w K mg base n "_law_take" qab xcy) (Dl_number:DefIs P w K mg base n "_law_number" qar xoy) (Dl_value:DefIs P w K mg base n "_law_value" qal spc) (hspc:∀ j,m=j + 1->spc=xem j) :
  DefIs P w K mg base (n + 1) "_law_value" qal (xem m):=by
 refine DefIs.of T.dl_value scl_value ?_ ?_ <;> walk_at "i"
 ·obtain ⟨_,_,_,_,_,_,rfl,_⟩:=h
  rfl
 obtain ⟨f',kv,p,q0,ks,x,rfl,hf,hk,wf,hin,q⟩:=h
 have nd:=scl_value.nd
 refine ⟨_,(zpn (xcz (pd Dl_sort_of hr (pc (pv 1) (pc (pv 2) pN zsn) zsn)) (xbr rfl (xac (xab (i:=3) nd rfl (by walk_at "o")) (xac (xab (i:=4) nd rfl (by walk_at "o")) xa0))))
   (zpn (xa1 (pR xa4 (pv 3) pS (nM _)) (po (xae (pd Dl_number hr (pc (pv 0) pN zsn)))) pQ)
   (zpn (xa1 (pR xa4 (pv 3) pS (nM _)) (po (xae (xar (pc (pv 2) (pc (xat xa2 rfl T.z_tuple PyProof.Rows.boot_tuple (pc (xbu qbd [none,none,some 0,some 1] rfl (by kernel_rfl) (xbi (pv 4)) (fun _ _ _ _=>(xcs (K:=K) (n:=2) rfl rfl (xac (xab (i:=0) (by show List.Nodup (qbd:List Str); decide +kernel) rfl (Or.inl rfl)) (xac (xab (i:=1) (by show List.Nodup (qbd:List Str); decide +kernel) rfl (Or.inl rfl)) xa0)))) (fun _ _ _ _=>xbz) (fun _ _ _ _=>(pd Dl_value hr (pc (pv 2) (pc (pv 3) (pc (pv 1) pN zsn) zsn) zsn)))) pN xby)) pN zsc) zsn)))) pQ)
   (zpn (xcz (xaj xai (pv 4) (pd Dl_take hr (pc (pv 0) (pc (xax xao rfl T.z_len PySem.boot_len (pc (pv 4) pN zsn)) pN zsc) zsn)) (fun _ _=>rfl)) (xbr rfl (xac (xab (i:=5) nd rfl (by walk_at "o")) (xac (xab (i:=6) nd rfl (by walk_at "o")) xa0))))
   (po (xae (xar (pc (pv 2) (pc (pv 5) (pc (pd Dl_value hr (pc (pv 0) (pc (pv 1) (pc (pv 6) pN zsn) zsn) zsn)) pN zsc) zsn) zsn)))))))),?_⟩
 refine (xbh _ rfl _ rfl kv ks x rfl ((wf.ksAt hk).seq) (fun t pv' H1 s1 ht rp=>?_))
 refine (xak t _ rfl (SqT.of ht) rfl _ _ rfl _ (jEAA _ rfl rfl ?_))
 have hf1:=s1 _ _ hf
 have F1:Fed f' H H1:=(Fed.refl hf).same s1
 rcases hin.look wf with ⟨rfl,hkx⟩ | ⟨j,k,rfl,hkx,hn,hm,hp⟩
 ·refine (xan _ rfl rfl _ rfl (iteKT (zDT (by rw [hkx]; rfl)) ?_))
  refine (xcw _ rfl f' p q0 rfl hf1 (fun r H2 hr2 f2=>?_))
  exact q _ (.int r) _ (F1.trans f2) rfl (.num r hr2)
 ·have D':=hspc j rfl
  subst D'
  rw [hkx] at rp
  obtain ⟨a,us,rfl,ha,hus⟩:=rp
  have hl:=hus.length
  rw [zLM] at hl
  have h5:=wf.pts k hm
  have hss:xed (kAt ks x)=k.sort:=by rw [hkx]; rfl
  cases hc:k.rc with
  | false=>
   have hsA:k.sort=S "alt":=xcr hc
   refine (xan _ rfl rfl _ rfl (iteKF (zDF (by rw [hss,hsA]; decide +kernel)) ?_))
   refine (xan _ rfl rfl _ rfl (iteKF (zDF (by rw [hss,hsA]; decide +kernel)) ?_))
   have hne:k.parts.length≠0:=fun e=>wf.alt k hm hc (List.length_eq_zero_iff.mp e)
   refine (xbm _ rfl _ rfl _ rfl a _ rfl (.inr (SqT.of ha)) (xay f' p q0 _ rfl hf1 (by omega) (by omega) (fun r H2 r0 r1 f2=>?_)))
   have tp2:=xah (jEE p q0 hf1) f2
   obtain ⟨i,rfl⟩:∃ i:Nat,r=(i:Int):=⟨r.toNat,by omega⟩
   have hi:i < us.length:=by omega
   have g1:atI us (i:Int)=some us[i]:=xaz (zGA hi)
   obtain ⟨d,hd,rd⟩:=hus.get (zGA hi)
   rw [zGM] at hd
   obtain ⟨pr,hpr,rfl⟩:=zMS hd
   obtain ⟨b,ws,eu,hb,_,_,rfl,rfl,_,_,rfl,rfl,rfl⟩:=rd
   rw [eu] at g1
   have hmem:=zMG hpr
   obtain ⟨p2,q2,hf2⟩:=f2.2
   have hk2:=(hk.same s1 _).tups tp2 _
   refine (xds a _ _ _ rfl rfl (SqT.of (tp2 _ _ ha)) g1 b (xd2 _ rfl (SqT.of (tp2 _ _ hb)) rfl _ _ rfl _ _ rfl ⟨rfl,?_⟩))
   refine (xap _ rfl _ rfl _ rfl _ rfl _ rfl (xas f' kv p2 q2 ks (xdl pr.2 rfl hf2 hk2 wf (hp pr hmem) (fun u e H3 f3 ru he3=>⟨(by walk_at "s"),fun t3 ht3=>?_⟩))))
   have s4:=Same.new ht3 (.tup [.str x,.str pr.1,u])
   exact q _ (.tup [.str x,.str pr.1,e]) _ ((F1.trans (f2.trans f3)).same s4) (xad t3 _ rfl ups _ _ rfl rfl _ (xb4 _ rfl rfl _ _ rfl (ru.same s4 _) rfl)) (.al hkx hc hmem he3)
  | true=>
   have hsR:k.sort=S "rec":=xcj hc
   refine (xan _ rfl rfl _ rfl (iteKF (zDF (by rw [hss,hsR]; decide +kernel)) ?_))
   refine (xan _ rfl rfl _ rfl (iteKT (zDT (by rw [hss,hsR]; rfl)) ?_))
   refine (xcx _ rfl _ rfl a rfl ⟨_,SqT.of ha⟩ ?_)
   refine xbn (xs:=us) (fun i ys H'=>Fed f' H1 H'/\ys.length=i/\∃ ds:List D,RelDs H' ys ds/\ds.length=i/\∀ (i':Nat) w' p',ds[i']?=some w'->k.parts[i']?=some p'->Vk ks p'.2 w') (jAA (Fed.refl hf1) rfl (jEAA ([]) rfl rfl (fun i' w' p' h=>by simp at h))) (xa7 (by omega)) (fun i ys H' _ p'=>SqT.of (xah (jEE p q0 hf1) p'.1 _ _ ha)) ?_ ?_
   ·rintro i y ys H' hy hi hly ⟨fm,hyl,ds,hys,hdl,hft⟩
    have tp:=xah (jEE p q0 hf1) fm
    obtain ⟨d,hd,rd⟩:=hus.get hy
    rw [zGM] at hd
    obtain ⟨pr,hpr,rfl⟩:=zMS hd
    obtain ⟨b,ws,rfl,hb,_,_,rfl,rfl,_,_,rfl,rfl,rfl⟩:=rd
    obtain ⟨p2,q2,hf2⟩:=fm.2
    refine (xak b _ rfl (SqT.of (tp _ _ hb)) rfl _ _ rfl _ (xc1 _ rfl rfl (ext2 rfl rfl) (xf7 ?_)))
    refine (xc0 _ rfl _ rfl _ rfl f' kv (xbb p2 q2 ks pr.2 rfl hf2 ((hk.same s1 _).tups tp _) wf (hp pr (zMG hpr)) (fun u e H3 f3 ru he3=>nxtG hi hly (jAA (fm.trans f3) (by rw [zLA,List.length_singleton,hyl]) (jEAA (ds++[e]) ?_ (by rw [zLA,List.length_singleton,hdl]) (fun i' w' p' hw hp'=>?_))))))
    ·exact (hys.tups (xah (jEE p2 q2 hf2) f3) _).append (xav u ([]) rfl ru rfl)
    ·by_cases hii:i' < ds.length
     ·rw [List.getElem?_append_left hii] at hw
      exact hft i' w' p' hw hp'
     ·have hlt:=(zES hw).1
      rw [zLA,List.length_singleton] at hlt
      have e0:i'=i:=by omega
      subst e0
      rw [List.getElem?_append_right (by omega),hdl,Nat.sub_self] at hw
      simp at hw
      subst hw
      rw [hpr] at hp'
      cases hp'
      exact he3
   ·rintro ys H' hly ⟨fm,_,ds,hys,hdl,hft⟩ D hD
    refine (jEEA D ys rfl (.inl ⟨SqL.of ups,fun l' hl'=>⟨(by walk_at "s"),fun t3 ht3=>?_⟩⟩))
    have s2:=Same.new hD (.lst ys)
    have s3:=Same.new hl' (.tup ys)
    have s4:=Same.new ht3 (.tup [.str x,.ref l'])
    have s24:=s2.trans (s3.trans s4)
    exact q _ (.tup [.str x,.tup ds]) _ ((F1.trans fm).same s24) (xad t3 _ rfl ups _ _ rfl rfl _ (jEAA _ rfl (xav l' ys rfl (s4 _ _ ups) (hys.same s24 _)) rfl)) (.rc hkx hc (by omega) hft)
theorem xii (T:Tx K mg):∀ m,DefIs P w K mg base (m + 3) "_law_value" qal (xem m)
 | 0=>xjx (n:=2) T (fun _ _ _ _=>False) (xbj T) (xdx T) (xfx T (xdx T)) (DefIs.none T.dl_value fun _ _ _ _ h=>h) (fun j e=>by cases e)
 | m + 1=>xjx (n:=m + 3) T (xem m) (xbj T) (xdx T) (xfx T (xdx T)) (xii T m) (fun j e=>by cases e; rfl)
end
open PyProof.Rows
def xox:Sp:=fun vs H Q _=>∃ (f wa:Addr) (kv1 v:V) (p q:Int) (ks ks2:List Kn) (ys:List Wy) (x:Str) (d d':D),vs=[.ref f,kv1,.ref wa,.str x,v]/\H f=some (.lst [.int p,.int q])/\RelD H kv1 (xb8 ks)/\KWf ks/\WaysAt H wa ys/\wa≠f/\RelD H v d/\x≠S "num"/\Vk ks x d/\(∀ y∈ys,WV ks ks2 ys y)/\(∀ y∈ys,∀ k,kAt ks y.1=some k->HasB k y.2.2)/\Tn ks ks2 ys 6 x d d' ∧
 ∀ u d2 H',Fed f H H'->RelD H' u d2->Tn ks ks2 ys 6 x d2 d'->Q u H'
theorem xqv {ps:List (Str×Str)} (nd:(ps.map (·.1)).Nodup) {p:Str×Str} (hp:p∈ps):valV (xaw [] (bKV ps)) (Sum.inr p.1)=some (.str p.2):=by
 have e:bKV ps=vKV (ps.map fun b=>(b.1,V.str b.2)):=by
  unfold bKV vKV
  rw [List.map_map]
  rfl
 rw [e]
 exact xea _ [] (by rw [List.map_map]; exact nd) (p.1,V.str p.2) (List.mem_map.mpr (jEA p hp rfl))
theorem xjr {H:Hp}:∀ {us:List V} {ws:List D} {j:Nat} {u:V} {w:D},RelDs H us ws->RelD H u w->RelDs H (us.set j u) (ws.set j w)
 | us,[],j,u,w,h,_=>by rw [show us=[] from h]; rfl
 | us,d :: ds,0,u,w,⟨v,r,e,h1,h2⟩,h=>by
  subst e
  exact (xav u r rfl h h2)
 | us,d :: ds,j + 1,u,w,⟨v,r,e,h1,h2⟩,h=>by
  subst e
  exact (xav v _ rfl h1 (xjr h2 h))
theorem xi1 {f:Addr} {l:List V} {H H':Hp} (hf:H f=some (.lst l)) (F:Fed f H H'):∀ b vs,H b=some (.tup vs)->H' b=some (.tup vs):=fun b vs e=>F.1 b _ e (fun z=>by subst z; rw [hf] at e; cases e)
theorem xr9 {H:Hp} {l:Addr} {us:List V} (h:H l=some (.lst us)) (us':List V):∀ b vs,H b=some (.tup vs)->upd H l (.lst us') b=some (.tup vs):=fun b vs e=>by
 rw [xba fun z=>by subst z; rw [h] at e; cases e]
 exact e
theorem xvw {n i:Nat} (h:i < n):ixN n ((0:Int) + (i:Nat))=some i:=by
 unfold ixN
 rw [Int.zero_add,if_pos (by omega),if_pos (by omega)]
 simp
theorem xs4 {α:Type} {xs:List α} {i:Nat} {x:α} (h:xs[i]?=some x):atI xs ((0:Int) + (i:Nat))=some x:=by
 rw [Int.zero_add]
 exact xaz h
section
variable {P:Program} {w:World} {K:PySem.W.Frag} {mg:Str->Option Value} {base:Heap} {n m:Nat}
theorem xic {α β:Type} [DecidableEq β] {f:α->β}:∀ {l:List α} {a:α},(l.map f).Nodup->a∈l->l.filter (fun b=>decide (f b=f a))=[a]
 | [],a,_,h=>nomatch h
 | b :: l,a,nd,h=>by
  rw [List.map_cons,List.nodup_cons] at nd
  rw [List.filter_cons]
  rcases zMC h with rfl | h
  ·rw [if_pos (zDT rfl)]
   congr 1
   refine List.filter_eq_nil_iff.mpr fun c hc e=>nd.1 ?_
   rw [<- of_decide_eq_true e]
   exact List.mem_map_of_mem hc
  ·rw [if_neg fun e=>nd.1 (by rw [of_decide_eq_true e]; exact List.mem_map_of_mem h)]
   exact xic nd.2 h
theorem xrn (T:Tx K mg) (Dl_sort_of:DefIs P w K mg base n "_law_sort_of" qaa xdw) (D_boxes_in:DefIs P w K mg base n "boxes_in" qac (spBx 22)) (Dl_value:DefIs P w K mg base n "_law_value" qal (xem 6)):DefIs P w K mg base (n + 1) "_law_lost" qaw xox:=by
 refine DefIs.of T.dl_lost scl_lost ?_ ?_ <;> walk_at "i"
 ·obtain ⟨_,_,_,_,_,_,_,_,_,_,_,_,rfl,_⟩:=h
  rfl
 obtain ⟨f,wa,kv1,v,p,q,ks,ks2,ys,x,d,d',rfl,hf,hk1,wf,hw,hwf,hv,hx,hvk,right,hasb,htn,q⟩:=h
 have nd:=scl_lost.nd
 have hu:=xfn hr
 refine ⟨_,(zpn (xcz (pd Dl_sort_of hr (pc (pv 1) (pc (pv 3) pN zsn) zsn)) (xbr rfl (xac (xab (i:=5) nd rfl (by walk_at "o")) (xac (xab (i:=6) nd rfl (by walk_at "o")) xa0))))
   (zpn (xal (i:=7) nd rfl (by walk_at "o") (xaj xai (xcl hu (pv 2) (pv 3) (fun _ _=>rfl)) pI (fun _ _=>rfl)))
   (zpn (xa1 (pR xa4 (pv 5) pS (nM _)) (zpn (xcz (xaj iL (xbu ["_law_arm","_law_value_here"] [none,some 4] rfl (by kernel_rfl) (xbi (pv 7)) (fun _ _ _ _=>(xab (i:=0) (by show List.Nodup (["_law_arm","_law_value_here"]:List Str); decide +kernel) rfl (Or.inl rfl))) (fun _ _ _ _=>(xc9 (pR xa4 (xaj (xcu (K:=K) rfl) (pv 0) pI (fun _ _=>rfl)) (xaj (xcu (K:=K) rfl) (pv 1) pI (fun _ _=>rfl)) (nM _)))) (fun _ _ _ _=>(pv 0))) pI (fun _ _=>rfl)) (xbr rfl (xac (xab (i:=8) nd rfl (by walk_at "o")) (xac (xab (i:=9) nd rfl (by walk_at "o")) xa0))))
   (zpn (xal (i:=10) nd rfl (by walk_at "o") (xcl hu (xat (xdv rfl) rfl T.z_dict PyProof.Rows.boot_dict (pc (pv 6) pN zsn)) (pv 8) (fun _ _=>rfl)))
   (zpn (xa1 (pR xff pS (pd D_boxes_in hr (pc (pv 9) pN zsn)) (by with_unfolding_all rfl)) (po (xae (pv 4))) pQ)
   (po (xae (xar (pc (pv 3) (pc (pv 8) (pc (pd Dl_value hr (pc (pv 0) (pc (pv 1) (pc (pv 10) pN zsn) zsn) zsn)) pN zsc) zsn) zsn))))))) pQ)
   (zpn (xal (i:=11) nd rfl (by walk_at "o") (xat xks rfl T.z_list PyProof.Rows.boot_list (pc (xaj xai (pv 4) pI (fun _ _=>rfl)) pN zss)))
   (zpn (xcf PassesOwn.never rfl (xdo rfl T.z_range (pc (xax xao rfl T.z_len PySem.boot_len (pc (pv 6) pN zsn)) pN zsc)) (xab (i:=12) nd rfl (by walk_at "o"))
   (po (xa1 (pR xjv (xaj xai (xaj xai (pv 6) (pv 12) (fun _ _=>rfl)) pI (fun _ _=>rfl)) (pd D_boxes_in hr (pc (pv 7) pN zsn)) (by with_unfolding_all rfl)) (po (xcz (pd Dl_value hr (pc (pv 0) (pc (pv 1) (pc (xaj xai (xaj xai (pv 6) (pv 12) (fun _ _=>rfl)) pI (fun _ _=>rfl)) pN zss) zsn) zsn)) (xms (pv 11) (pv 12) xgn))) pQ)))
   (po (xae (xar (pc (pv 3) (pc (xat xa2 rfl T.z_tuple PyProof.Rows.boot_tuple (pc (pv 11) pN zsn)) pN zsc) zsn))))))))),xag fun R1 hR1=>?_⟩
 refine (xbh _ rfl _ rfl kv1 ks x rfl ((wf.ksAt hk1).seq) (fun t pv' H1 s1 ht rp=>?_))
 refine (xak t _ rfl (SqT.of ht) rfl _ _ rfl _ (jEAA _ rfl rfl (hR1 _ _ (xag fun R2 hR2=>?_))))
 have htn0:=htn
 rcases htn with h | ⟨k,y,ds,hkx,hy,how⟩
 ·exact absurd h.1 hx
 have hm:=zMF hkx
 obtain rfl:=xlx hkx
 have hss:xed (kAt ks k.name)=k.sort:=by rw [hkx]; rfl
 rw [hkx] at rp
 obtain ⟨pa,us,rfl,hpa,hus⟩:=rp
 have hul:=hus.length
 rw [zLM] at hul
 have hnd:=wf.pnd k hm
 have h5:=wf.pts k hm
 have hpin:∀ p∈k.parts,KIn ks 5 p.2:=fun p hp=>by
  obtain ⟨i,hi,e⟩:=zMI hm
  have:=wf.few
  exact KIn.mono (n:=i) (wf.ref i k (by rw [<- e]; exact zGA hi) p hp) (by omega)
 have hym:=zMF hy
 have hyn:y.1=k.name:=by
  unfold wyAt at hy
  have:=List.find?_some hy
  exact of_decide_eq_true this
 have hB:=hasb y hym k (by rw [hyn]; exact hkx)
 obtain ⟨kvs,hd,hwl⟩:=hw.same s1
 obtain ⟨v',h1,h2⟩:=(hwl.val (x:=k.name)).2 y hy
 obtain ⟨b,_,rfl,hb,v0,_,rfl,r0,hv',_,rfl,hh,rfl⟩:=h2
 obtain rfl:v0=.str y.2.1:=r0
 change RelD H1 hv' y.2.2 at hh
 have g:DGet H1 wa (.str k.name) (some (.ref b)):=by
  have:=DGet.rd (k:=Sum.inr k.name) hd
  rw [h1] at this
  exact this
 refine (xbf _ rfl _ rfl wa _ rfl g b (xbd _ _ _ rfl rfl (SqT.of hb) rfl (hR2 _ _ (xag fun R3 hR3=>?_))))
 have hf1:=s1 _ _ hf
 have hv1:=hv.same s1 _
 rcases how with ⟨hrc,ws,hwl',rfl,hall,hev⟩ | ⟨hrc,es,p0,d0,e0,ees,hes,hp0,he0,hn0,rfl,hall,hev⟩
 ·refine (xan _ rfl rfl _ rfl (iteKF (zDF (by rw [hss,xcj hrc]; decide +kernel)) (hR3 _ _ (xag fun R4 hR4=>?_))))
  obtain ⟨a,vs0,rfl,ha,v0,_,rfl,r0,v1,_,rfl,⟨a1,us1,rfl,hb1,hus1⟩,rfl⟩:=hv1
  obtain ⟨tcn,hsub⟩:Tc 22 y.2.2 1000/\∀ z∈M.nd 22 y.2.2,z∈k.parts.map (·.1):=by
   rcases hB with h | h
   ·exact h.2
   ·rw [hrc] at h; cases h.1
  obtain ⟨ws0,hwl0,hvw,e0⟩:=xmh wf hkx hrc hvk
  obtain rfl:ws0=ws:=by cases e0; rfl
  refine (xaa _ rfl a _ _ _ rfl rfl (SqT.of ha) rfl (xav a1 us1 rfl (.inr (SqT.of hb1)) (fun fl hfl=>hR4 _ _ (xag fun R5 hR5=>?_))))
  have yf:=Same.new hfl (.lst us1)
  have flf:fl≠f:=Ne.symm (neN hf1 hfl)
  refine (xbk _ rfl pa _ rfl (.inr (SqT.of (yf _ _ hpa))) _ rfl (jAA (by omega) (by omega) ?_))
  have htn0:((us.length:Int)).toNat=k.parts.length:=by omega
  have F0:Fed f H1 (upd H1 fl (.lst us1)):=(Fed.refl hf1).new hfl _
  refine xfp (fun i σ HX=>∃ o12 us2 ws2,σ=[some (.ref f),some kv1,some (.ref wa),some (.str k.name),some (.ref a),some (.str (xed (kAt ks k.name))),some (.ref pa),some hv',none,none,none,some (.ref fl),o12]/\Fed f H1 HX/\HX fl=some (.lst us2)/\RelDs HX us2 ws2/\ws2.length=k.parts.length/\(∀ (j:Nat) w p,ws2[j]?=some w->k.parts[j]?=some p->Vk ks p.2 w)/\∀ (j:Nat) w p,ws2[j]?=some w->k.parts[j]?=some p->p.1∈M.nd 22 y.2.2->ws0[j]?=some w) (xct none us1 ws0 rfl F0 ups (hus1.same yf _) hwl0 hvw (fun j w p hj _ _=>hj)) ?_ ?_
  ·rintro i σ HX hi ⟨o12,us2,ws2,rfl,FX,hflX,hus2,hl2,hvk2,hsame⟩
   rw [htn0] at hi
   obtain ⟨pX,qX,hfX⟩:=id FX.2
   have tX:=xi1 hf1 FX
   obtain ⟨pr,hpr⟩:∃ pr,k.parts[i]?=some pr:=⟨_,zGA hi⟩
   obtain ⟨uu,huu⟩:∃ uu,us[i]?=some uu:=⟨us[i]'(by omega),zGA (by omega)⟩
   obtain ⟨dd,hdd,rdd⟩:=hus.get huu
   rw [zGM,hpr] at hdd
   cases hdd
   obtain ⟨b2,_,rfl,hb2,_,_,rfl,rfl,_,_,rfl,rfl,rfl⟩:=rdd
   have hul2:=hus2.length
   refine (xa6 _ rfl _ rfl pa us _ (xdc _ rfl rfl (SqT.of (tX _ _ hpa)) (xs4 huu) b2 _ _ _ rfl (jAAA rfl (SqT.of (tX _ _ hb2)) rfl ?_)))
   refine (xaa _ rfl hv' y.2.2 1000 (k.parts.map (·.1)) rfl (hh.tups tX _) tcn (by decide) (jAA (by rw [zLM]; omega) hsub (fun l ms H2 s2 hl2' hmem _ _=>?_)))
   refine (xeh l _ rfl (.inl (SqL.of hl2')) rfl (xej _) ?_)
   have F2:Fed f H1 H2:=FX.same s2
   have hfl2:=s2 _ _ hflX
   rw [xgq]
   refine (jEA _ rfl ?_)
   by_cases hin:pr.1∈M.nd 22 y.2.2
   ·have h9:decide (pr.1∈ms)=true:=zDT ((hmem _).mpr hin)
    rw [h9]
    refine iteF ?_
    exact (xct _ us2 ws2 rfl F2 hfl2 (hus2.same s2 _) hl2 hvk2 hsame)
   ·have h9:decide (pr.1∈ms)=false:=zDF fun z=>hin ((hmem _).mp z)
    rw [h9]
    refine iteT ?_
    have t2:=xi1 hf1 F2
    obtain ⟨p2,q2,hf2⟩:=id F2.2
    refine (xc6 _ rfl _ rfl _ rfl _ rfl pa (xdt us _ _ rfl rfl (SqT.of (t2 _ _ hpa)) (xs4 huu) b2 _ (xeh _ _ rfl rfl (SqT.of (t2 _ _ hb2)) rfl ?_)))
    refine (xas f kv1 p2 q2 ks (xdl pr.2 rfl hf2 ((hk1.same s1 _).tups t2 _) wf ((hpin _ (zMG hpr)).mono (by omega)) (fun u d9 H3 f3 ru hvk9=>?_)))
    have hfl3:=f3.1 _ _ hfl2 flf
    have t3:=xi1 hf2 f3
    refine (xa6 _ rfl _ rfl fl us2 _ (xc3 i rfl rfl hfl3 (xvw (by omega)) ?_))
    have tW:=xr9 hfl3 (us2.set i u)
    refine (xct _ (us2.set i u) (ws2.set i d9) rfl (Fed.put (F2.trans f3) hfl flf _) ups ?_ (by rw [List.length_set]; exact hl2) (fun j w p hj hp=>?_) (fun j w p hj hp hn=>?_))
    ·exact xjr (((hus2.same s2 _).tups t3 _).tups tW _) (ru.tups tW _)
    ·rw [List.getElem?_set] at hj
     split at hj
     ·rename_i e
      subst e
      rw [if_pos (by omega)] at hj
      cases hj
      rw [hpr] at hp
      cases hp
      exact hvk9
     ·exact hvk2 j w p hj hp
    ·rw [List.getElem?_set] at hj
     split at hj
     ·rename_i e
      subst e
      rw [hpr] at hp
      cases hp
      exact absurd hn hin
     ·exact hsame j w p hj hp hn
  ·rintro σ HX ⟨o12,us2,ws2,rfl,FX,hflX,hus2,hl2,hvk2,hsame⟩
   have hul2:=hus2.length
   refine hR5 _ _ (jEA _ rfl (xei _ rfl fl us2 rfl (.inl ⟨SqL.of hflX,fun tl htl=>⟨(by walk_at "s"),fun tt htt=>?_⟩⟩)))
   have y3:=Same.new htl (.tup us2)
   have y4:=Same.new htt (.tup [.str k.name,.ref tl])
   have y34:=y3.trans y4
   refine q _ (.tup [.str k.name,.tup ws2]) _ (Fed.same (⟨s1.but.trans FX.1,FX.2⟩:Fed f H HX) y34) (xad tt _ rfl ups _ _ rfl rfl _ (jEAA _ rfl (xav tl us2 rfl (y4 _ _ ups) (hus2.same y34 _)) rfl)) ?_
   exact xla wf right hkx hy hrc hpin hwl0 hl2 hvk2 hsame hall hev
 ·refine (xan _ rfl rfl _ rfl (iteKT (zDT (by rw [hss,xcr hrc]; rfl)) (xag fun R4 hR4=>?_)))
  obtain ⟨a,vs0,rfl,ha,v0,_,rfl,r0,v1,_,rfl,r1,v2,_,rfl,r2,rfl⟩:=hv1
  obtain rfl:v1=.str p0.1:=r1
  obtain ⟨tcn,hsub⟩:Tc 22 e0.2 1000/\∀ z∈M.nd 22 e0.2,z=S "it":=by
   rcases hB with h | h
   ·rw [hrc] at h; cases h.1
   ·exact h.2 es ees e0 he0
  rw [ees] at hh
  obtain ⟨ha0,hs,rfl,hha,hhs⟩:=hh
  have hsl:=hhs.length
  rw [zLM] at hsl
  have hel:=congrArg List.length hes
  rw [zLM,zLM] at hel
  have hnd2:(es.map (·.1)).Nodup:=by rw [hes]; exact hnd
  refine (xa9 _ rfl ha0 rfl ⟨_,SqT.of hha⟩ ?_)
  refine xbn (xs:=hs) (fun i zs H'=>H'=H1/\RelDs H1 zs (((es.take i).filter fun p=>decide (p.1=p0.1)).map dPr)) ⟨rfl,rfl⟩ (xa7 (by omega)) (fun i zs H' _ p=>by obtain ⟨rfl,_⟩:=p; exact SqT.of hha) ?_ ?_
  ·rintro i y' zs H' hy' hi hly ⟨rfl,hzs⟩
   obtain ⟨d1,hd1,rd⟩:=hhs.get hy'
   rw [zGM] at hd1
   obtain ⟨pr,hpr,rfl⟩:=zMS hd1
   have rd0:=rd
   obtain ⟨b2,_,rfl,hb2',_,_,rfl,rfl,tv,_,rfl,rtv,rfl⟩:=rd
   have etk:=xhm (fun p:Str×D=>decide (p.1=p0.1)) hpr
   refine ⟨xd5 rfl,?_⟩
   refine (xaa _ rfl b2 _ _ _ rfl rfl (SqT.of hb2') rfl (xaa _ rfl a _ _ _ rfl rfl (SqT.of ha) rfl (jAEA rfl _ rfl (ite2 (fun c=>?_) (fun c=>?_)))))
   ·have c':pr.1=p0.1:=V.str.inj (of_decide_eq_true c)
    rw [zDT c'] at etk
    refine (jEA _ rfl (nxtG hi hly ⟨rfl,?_⟩))
    rw [etk]
    show RelDs _ _ ((_++[pr]).map _)
    rw [zAP]
    exact hzs.append (xav _ ([]) rfl rd0 rfl)
   ·have c':¬ pr.1=p0.1:=fun z=>c (zDT (congrArg V.str z))
    rw [zDF c'] at etk
    refine nxtN hi hly ⟨rfl,?_⟩
    rw [etk]
    show RelDs _ _ ((_++[]).map _)
    rw [List.append_nil]
    exact hzs
  rintro hz H' hly2 ⟨rfl,hzs2⟩ LE hE
  rw [zTL (by omega),<- hn0,xic (f:=fun p:Str×D=>p.1) hnd2 he0] at hzs2
  obtain ⟨tv,_,rfl,rtv,rfl⟩:=hzs2
  have y2:=Same.new hE (.lst [tv])
  obtain ⟨b2,_,rfl,hb2,_,_,rfl,rfl,vt,_,rfl,rvt,rfl⟩:=rtv
  refine (xds LE _ _ _ rfl rfl (SqL.of ups) rfl b2 (xd2 _ rfl (SqT.of (y2 _ _ hb2)) rfl _ _ rfl _ _ rfl ⟨rfl,hR4 _ _ (xag fun R5 hR5=>?_)⟩))
  refine (xfk _ rfl pa us (bKV k.parts) rfl (y2 _ _ hpa) (xeo (hus.same y2 _)) (fun dp hdp=>?_))
  have y3:=Same.new hdp (.dK (xaw [] (bKV k.parts)))
  have g3:DGet (upd (upd H' LE (.lst [.ref b2])) dp (.dK (xaw [] (bKV k.parts)))) dp (.str e0.1) (some (.str p0.2)):=by
   have:=DGet.k (H:=upd (upd H' LE (.lst [.ref b2])) dp (.dK (xaw [] (bKV k.parts)))) (a:=dp) (k:=Sum.inr e0.1) ups
   rw [hn0,xqv hnd hp0] at this
   rw [hn0]
   exact this
  have y23:=y2.trans y3
  refine (xbe _ rfl dp _ rfl g3 (hR5 _ _ (xag fun R6 hR6=>?_)))
  generalize upd (upd H' LE (.lst [.ref b2])) dp (.dK (xaw [] (bKV k.parts)))=H3 at y23 ⊢
  refine (xaa _ rfl vt e0.2 1000 ([S "it"]) rfl (rvt.same y23 _) tcn (by decide) (jAA (by decide) (fun z hz=>by rw [hsub z hz]; simp) (fun l ms H4 s4 hl4 hmem _ _=>?_)))
  refine (xeh l _ rfl (.inl (SqL.of hl4)) rfl (xej _) ?_)
  have s04:=s1.trans (y23.trans s4)
  rw [xgq]
  refine (jEA _ rfl ?_)
  by_cases hin:S "it"∈M.nd 22 e0.2
  ·have h9:decide (S "it"∈ms)=true:=zDT ((hmem _).mpr hin)
   refine iteKT h9 ?_
   exact (jEA _ rfl (q _ _ _ (Fed.same (Fed.refl hf) s04) (hv.same s04 _) htn0))
  ·have h9:decide (S "it"∈ms)=false:=zDF fun z=>hin ((hmem _).mp z)
   refine iteKF h9 (hR6 _ _ ?_)
   refine (xap _ rfl _ rfl _ rfl _ rfl _ rfl (xas f kv1 _ _ ks (xdl p0.2 rfl (s04 _ _ hf) (hk1.same s04 _) wf ((hpin _ hp0).mono (by omega)) (fun u d9 H5 f5 ru hvk9=>⟨(by walk_at "s"),fun tt htt=>?_⟩))))
   have y6:=Same.new htt (.tup [.str k.name,.str e0.1,u])
   refine q _ (.tup [.str k.name,.str p0.1,d9]) _ (Fed.same (⟨s04.but.trans f5.1,f5.2⟩:Fed f H H5) y6) (xad tt _ rfl ups _ _ rfl rfl _ (xb4 _ rfl (by rw [<- hn0]; rfl) _ _ rfl (ru.same y6 _) rfl)) ?_
   exact xlb wf right hkx hy hrc ees hes hp0 he0 hn0 (hpin _ hp0) hvk9 hin hall hev
end
open PyProof.Rows
def xo0:Sp:=fun vs H Q _=>∃ (fa sa wa:Addr) (kv1 kv2:V) (r1 r2:List V) (ks ks2:List Kn) (ys:List Wy) (x:Str) (v fv:V) (d d':D),vs=[.ref fa,.ref sa,.ref wa,.str x,v,fv]/\TC H fa sa wa kv1 kv2 r1 r2 ks ks2 ys/\RelD H v d/\RelD H fv d'/\x≠S "num"/\(∀ y∈ys,∀ k,kAt ks y.1=some k->HasB k y.2.2)/\Tn ks ks2 ys 6 x d d'/\d'.deep<=100/\∀ H',Same H H'->Q (.bl true) H'
theorem xt7 {t:TT} {a b:TS} {D:Ends} {σ:L2.St} {H:Hp} (c:Bool) (ht:∀ Q:Bool->Hp->Prop,Q c H->t σ H Q) (h:if c=true then a D σ H else b D σ H):tIfS t a b D σ H:=ht _ h
theorem neT {a b:V} {A B:Prop} (h:¬ a=b) (x:A):if (!decide (a=b))=true then A else B:=by
 rw [if_pos (by simp [h])]
 exact x
theorem neF {a b:V} {A B:Prop} (h:a=b) (x:B):if (!decide (a=b))=true then A else B:=by
 rw [if_neg (by simp [h])]
 exact x
section
variable {P:Program} {w:World} {K:PySem.W.Frag} {mg:Str->Option Value} {base:Heap} {n m:Nat}
theorem xro (T:Tx K mg) (Dl_sort_of:DefIs P w K mg base n "_law_sort_of" qaa xdw) (D_turned:DefIs P w K mg base n "turned" qaj (spTd 6)):DefIs P w K mg base (n + 1) "_law_kept" qax xo0:=by
 refine DefIs.of T.dl_kept scl_kept ?_ ?_ <;> walk_at "i"
 ·obtain ⟨_,_,_,_,_,_,_,_,_,_,_,_,_,_,_,rfl,_⟩:=h
  rfl
 obtain ⟨fa,sa,wa,kv1,kv2,r1,r2,ks,ks2,ys,x,v,fv,d,d',rfl,tc,hv,hfv,hx,hasb,htn,hdp,q⟩:=h
 have nd:=scl_kept.nd
 have hu:=xfn hr
 have hu2:=xsx hr
 have wf:=tc.wf
 refine ⟨_,(zpn (xcz (pd Dl_sort_of hr (pc (xaj xai (pv 0) pI (fun _ _=>rfl)) (pc (pv 3) pN zsn) zss)) (xbr rfl (xac (xab (i:=6) nd rfl (by walk_at "o")) (xac (xab (i:=7) nd rfl (by walk_at "o")) xa0))))
   (zpn (xa1 (PW.pt (xli (pR xjw (pv 6) pS (nM _)) (xh5 (pR xjw (xaj xai (xaj xai (xcl hu (pv 2) (pv 3) (fun _ _=>rfl)) pI (fun _ _=>rfl)) pI (fun _ _=>rfl)) pS (nM _))))) (po (xae xnu)) pQ)
   (zpn (xal (i:=8) nd rfl (by walk_at "o") (xnt rfl rfl T.z_dict rfl T.z_zip (pc (xbu ["_law_f","_law_part"] [none,none] rfl (by kernel_rfl) (xbi (pv 7)) (fun _ _ _ _=>(xcs (K:=K) (n:=2) rfl rfl (xac (xab (i:=0) (by show List.Nodup (["_law_f","_law_part"]:List Str); decide +kernel) rfl (Or.inl rfl)) (xac (xab (i:=1) (by show List.Nodup (["_law_f","_law_part"]:List Str); decide +kernel) rfl (Or.inl rfl)) xa0)))) (fun _ _ _ _=>xbz) (fun _ _ _ _=>(pv 0))) (pc (xaj xai (pv 4) pI (fun _ _=>rfl)) pN zss) xby)))
   (zpn (xcf PassesOwn.never rfl (xsl rfl T.z_zip (pc (xaj xai (xaj xai (xcl hu (pv 2) (pv 3) (fun _ _=>rfl)) pI (fun _ _=>rfl)) pI (fun _ _=>rfl)) (pc (xaj xai (pv 5) pI (fun _ _=>rfl)) pN zss) zss)) (xbr rfl (xac (xab (i:=9) nd rfl (by walk_at "o")) (xac (xab (i:=10) nd rfl (by walk_at "o")) xa0)))
   (po (xa1 (pR xa4 (xaj xai (pv 9) pI (fun _ _=>rfl)) pS (nM _)) (po (xa1 (pR (xso hu2) (pv 10) (pd D_turned hr (pc (pv 0) (pc (pv 1) (pc (pv 2) (pc (xcl hu (xat (xdv rfl) rfl T.z_dict PyProof.Rows.boot_dict (pc (pv 7) pN zsn)) (xaj xai (pv 9) pI (fun _ _=>rfl)) (fun _ _=>rfl)) (pc (xcl hu (pv 8) (xaj xai (pv 9) pI (fun _ _=>rfl)) (fun _ _=>rfl)) pN zss) zss) zsn) zsn) zsn)) (nM _)) (po (xae xnu)) pQ)) pQ)))
   (po (xae xnu)))))),xag fun R1 hR1=>?_⟩
 refine (xaa _ rfl fa _ _ _ rfl rfl (SqT.of tc.f) (xaz (j:=0) rfl) (xcw _ rfl kv1 ks x rfl ((wf.ksAt tc.k1).seq) (fun t pv' H1 s1 ht rp=>?_)))
 refine (xak t _ rfl (SqT.of ht) rfl _ _ rfl _ (jEAA _ rfl rfl (hR1 _ _ (xag fun R2 hR2=>?_))))
 rcases htn with h | ⟨k,y,ds,hkx,hy,how⟩
 ·exact absurd h.1 hx
 have hm:=zMF hkx
 obtain rfl:=xlx hkx
 have hss:xed (kAt ks k.name)=k.sort:=by rw [hkx]; rfl
 rw [hkx] at rp
 obtain ⟨pa,us,rfl,hpa,hus⟩:=rp
 have hul:=hus.length
 rw [zLM] at hul
 have hnd:=wf.pnd k hm
 have h5:=wf.pts k hm
 obtain ⟨hyn,hym⟩:=xgu hy
 have hB:=hasb y hym k (by rw [hyn]; exact hkx)
 have tc1:=tc.same s1
 rcases how with ⟨hrc,ws,hwl',rfl,hall,hev⟩ | ⟨hrc,es,p0,d0,e0,ees,hes,hp0,he0,hn0,rfl,hall,hev⟩
 ·obtain ⟨tcn,hsub⟩:Tc 22 y.2.2 1000/\∀ z∈M.nd 22 y.2.2,z∈k.parts.map (·.1):=by
   rcases hB with h | h
   ·exact h.2
   ·rw [hrc] at h; cases h.1
  obtain ⟨hd0,r,ehow,hsh,look,_⟩:=xlc tcn
  obtain ⟨kvs,hd,hwl⟩:=tc1.w
  obtain ⟨v',h1,h2⟩:=(hwl.val (x:=k.name)).2 y hy
  obtain ⟨b,_,rfl,hb,v0,_,rfl,r0,hv',_,rfl,hh,rfl⟩:=h2
  obtain rfl:v0=.str y.2.1:=r0
  change RelD H1 hv' y.2.2 at hh
  have g:∀ HX,Same H1 HX->DGet HX wa (.str k.name) (some (.ref b)):=fun HX sX=>by
   have:=DGet.rd (k:=Sum.inr k.name) (Rd.same hd sX)
   rw [h1] at this
   exact this
  rw [ehow] at hh hev
  obtain ⟨ha0,hs,rfl,hha,vh,hrest,rfl,rh,hhr⟩:=hh
  obtain rfl:vh=.str hd0:=rh
  refine xt7 (!decide (V.str hd0=V.str (Str.ofString "rec"))) (fun Q hQ=>?_) ?_
  ·refine (xan _ rfl rfl _ rfl (neF (by rw [hss,xcj hrc]; rfl) ?_))
   exact (xbf _ rfl _ rfl wa _ rfl (g _ (Same.refl _)) b (xdt _ _ _ rfl rfl (SqT.of hb) rfl ha0 _ (xa5 _ _ rfl rfl (SqT.of hha) (xaz (j:=0) rfl) rfl (jEA _ rfl hQ))))
  by_cases hrec:hd0=S "rec"
  case neg=>exact neT (fun z=>hrec (V.str.inj z)) (q _ s1)
  subst hrec
  refine neF rfl (hR2 _ _ (xag fun R3 hR3=>?_))
  obtain ⟨k2,es,vs,j2,rfl,rfl,ej,hevs⟩:=xv5 hev
  obtain ⟨_,_,rfl,rfl,vr,_,rfl,⟨ca,hes,rfl,hca,hhes⟩,rfl⟩:=hhr
  have hv1:=hv.same s1 _
  have hfv1:=hfv.same s1 _
  obtain ⟨a,vs0,rfl,ha,v0,_,rfl,r0,v1,_,rfl,⟨a1,us1,rfl,hb1,hus1⟩,rfl⟩:=hv1
  obtain ⟨fo,fs0,rfl,hfo,v3,_,rfl,r3,v4,_,rfl,⟨a3,us3,rfl,hb3,hus3⟩,rfl⟩:=hfv1
  have hl1:=hus1.length
  have hl3:=hus3.length
  have hle:=hhes.length
  have hlv:=hevs.length
  refine (xa9 _ rfl pa rfl ⟨_,SqT.of hpa⟩ ?_)
  refine xbn (xs:=us) (fun i zs H'=>H'=H1/\zs=((k.parts.take i).map (·.1)).map V.str) ⟨rfl,rfl⟩ (xa7 (by omega)) (fun i zs H' _ p=>by obtain ⟨rfl,_⟩:=p; exact SqT.of hpa) ?_ ?_
  ·rintro i y' zs H' hy' hi hly ⟨rfl,rfl⟩
   obtain ⟨d1,hd1,rd⟩:=hus.get hy'
   rw [zGM] at hd1
   obtain ⟨pr,hpr,rfl⟩:=zMS hd1
   obtain ⟨b2,_,rfl,hb2',_,_,rfl,rfl,_,_,rfl,rfl,rfl⟩:=rd
   refine (xak b2 _ rfl (SqT.of hb2') rfl _ _ rfl _ (xc1 _ rfl rfl (ext2 rfl rfl) (xf7 ?_)))
   refine (jEA _ rfl (nxtG hi hly ⟨rfl,?_⟩))
   rw [zTA,hpr]
   show _=((k.parts.take i++[pr]).map _).map _
   rw [zAP,zAP]
   rfl
  rintro zs H' hly ⟨rfl,rfl⟩ LD hD
  rw [zTL (by omega)]
  have y1:=Same.new hD (.lst ((k.parts.map (·.1)).map V.str))
  refine (xaa _ rfl a _ _ _ rfl rfl (SqT.of (y1 _ _ ha)) rfl (xay LD a1 (k.parts.map (·.1)) us1 rfl ups (SqT.of (y1 _ _ hb1)) (by rw [zLM]; omega) (fun kd hkd=>?_)))
  have y2:=Same.new hkd (.dK (xaw [] (((k.parts.map (·.1)).zip us1).map fun x=>((Sum.inr x.1:Key),x.2))))
  have hkn:upd (upd H' LD (.lst ((k.parts.map (·.1)).map V.str))) kd (.dK (xaw [] (((k.parts.map (·.1)).zip us1).map fun x=>((Sum.inr x.1:Key),x.2)))) kd=some (.dK (xaw [] (vKV ((k.parts.map (·.1)).zip us1)))):=ups
  have y12:=y1.trans y2
  refine hR3 _ _ (xag fun R4 hR4=>?_)
  generalize upd (upd H' LD (.lst ((k.parts.map (·.1)).map V.str))) kd (.dK (xaw [] (((k.parts.map (·.1)).zip us1).map fun x=>((Sum.inr x.1:Key),x.2))))=H2 at hkn y12 ⊢
  have hznm:(((k.parts.map (·.1)).zip us1).map (·.1)).Nodup:=by rw [xdj (by rw [zLM]; omega)]; exact hnd
  have hca2:=y12 _ _ hca
  have hb32:=y12 _ _ hb3
  refine (xbf _ rfl _ rfl wa _ rfl (g _ y12) b (xdt _ _ _ rfl rfl (SqT.of (y12 _ _ hb)) rfl ha0 _ (xco _ _ rfl rfl (SqT.of (y12 _ _ hha)) rfl _ rfl (xds fo _ _ _ rfl rfl (SqT.of (y12 _ _ hfo)) rfl ca (xc1 a3 rfl ⟨_,SqT.of hca2⟩ ⟨_,SqT.of hb32⟩ ?_)))))
  refine xuc (xs:=hes) (ys:=us3) (by omega) (fun i σ HX=>∃ o9 o10,σ=[some (.ref fa),some (.ref sa),some (.ref wa),some (.str k.name),some (.ref a),some (.ref fo),some (.str (xed (kAt ks k.name))),some (.ref pa),some (.ref kd),o9,o10]/\Same H2 HX) (jEEA none none rfl (Same.refl _)) (fun i σ HX _ p=>?_) ?_ ?_
  ·obtain ⟨_,_,_,sX⟩:=p
   exact ⟨SqT.of (sX _ _ hca2),SqT.of (sX _ _ hb32)⟩
  ·rintro i tv iv σ HX pp htv hiv ⟨o9,o10,rfl,sX⟩ hpp
   obtain ⟨te,hte,rte⟩:=hhes.get htv
   obtain ⟨ie,hie,rie⟩:=hus3.get hiv
   obtain ⟨ie',hie',hevi⟩:=hevs.get hte
   rw [hie] at hie'
   cases hie'
   have hTe:∃ j c,Tc j te c:=by
    rcases look with ⟨e,_⟩ | ⟨_,hin,_⟩
    ·exact absurd e (by walk_at "k")
    ·obtain ⟨j,_,h⟩:=hin te (by rw [xhi]; exact zMG hte)
     exact (jEE j _ h)
   obtain ⟨j,c,hTe⟩:=hTe
   obtain ⟨ht,rt,rfl,hsht,_⟩:=xlc hTe
   obtain ⟨ta,ts,rfl,hta,vt,trest,rfl,rvt,rtr⟩:=rte
   obtain rfl:vt=.str ht:=rvt
   have yp:=Same.new hpp (.tup [.ref ta,iv])
   have sX2:=sX.trans yp
   have s1X:=y12.trans sX2
   refine (xak pp _ rfl (SqT.of ups) rfl _ _ rfl _ (jEAA _ rfl rfl ?_))
   refine (xaa _ rfl ta _ _ _ rfl rfl (SqT.of (s1X _ _ hta)) (xaz (j:=0) rfl) (jAEA rfl _ rfl ?_))
   by_cases hbx:ht=S "box"
   case neg=>exact iteKF (zDF fun z=>hbx (V.str.inj z)) (jEEA _ _ rfl sX2)
   subst hbx
   refine iteKT (by walk_at "k") ?_
   obtain ⟨z,rfl⟩:∃ z,rt=[.str z]:=by
    rcases hsht with h | h | h | h | h | h | h | h
    ·exact absurd h.1 (by walk_at "k")
    ·exact h.2
    all_goals exact absurd h.1 (by walk_at "k")
   obtain ⟨_,_,rfl,rfl,rfl⟩:=rtr
   obtain ⟨ip,pt,w0,hip,hiw,hpz,hTn⟩:=xr7 hall (xv6 hevi)
   subst hpz
   obtain ⟨uw,huw,ruw⟩:∃ uw,us1[ip]?=some uw/\RelD H' uw w0:=by
    have hlt:ip < us1.length:=by have:=(zES hiw).1; omega
    obtain ⟨dd,hdd,rdd⟩:=hus1.get (zGA hlt)
    rw [hiw] at hdd
    cases hdd
    exact (jEA _ (zGA hlt) rdd)
   have hTn6:=xs7 _ _ _ _ hTn
   have hdi:ie.deep<=100:=by
    have h9:=xfq (zMG hie)
    simp only [D.deep,xho] at hdp
    omega
   refine (xap _ rfl _ rfl _ rfl _ rfl _ rfl (xe8 pa us (bKV k.parts) rfl (s1X _ _ hpa) (xeo (hus.same s1X _)) (fun dp hdp2=>?_)))
   have y7:=Same.new hdp2 (.dK (xaw [] (bKV k.parts)))
   have s17:=s1X.trans y7
   have g3:DGet (upd (upd HX pp (.tup [.ref ta,iv])) dp (.dK (xaw [] (bKV k.parts)))) dp (.str pt.1) (some (.str pt.2)):=by
    have:=DGet.k (H:=upd (upd HX pp (.tup [.ref ta,iv])) dp (.dK (xaw [] (bKV k.parts)))) (a:=dp) (k:=Sum.inr pt.1) ups
    rw [xqv hnd (zMG hip)] at this
    exact this
   have g4:DGet (upd (upd HX pp (.tup [.ref ta,iv])) dp (.dK (xaw [] (bKV k.parts)))) kd (.str pt.1) (some uw):=by
    have:=DGet.k (H:=upd (upd HX pp (.tup [.ref ta,iv])) dp (.dK (xaw [] (bKV k.parts)))) (a:=kd) (k:=Sum.inr pt.1) ((sX2.trans y7) _ _ hkn)
    rw [xea _ [] hznm (pt.1,uw) (zMG (List.getElem?_zip_eq_some.mpr ⟨by rw [zGM,hip]; rfl,huw⟩))] at this
    exact this
   refine (xaa _ rfl ta _ _ _ rfl rfl (SqT.of (s17 _ _ hta)) rfl (xav dp _ rfl g3 (xa6 _ rfl _ rfl ta _ _ (xc3 _ rfl rfl (SqT.of (s17 _ _ hta)) rfl (xav kd _ rfl g4 ?_)))))
   refine (xas fa sa wa kv1 kv2 (xas r1 r2 ks ks2 ys (xay pt.2 uw w0 ie rfl (tc1.same s17) (ruw.same s17 _) hTn6 (fun u H5 s5 ru=>?_))))
   refine (xc1 ie (rie.same (s17.trans s5) _) ru (by omega) (jEA _ rfl (iteF ?_)))
   exact (jEEA _ _ rfl (sX2.trans (y7.trans s5)))
  ·rintro σ HX ⟨o9,o10,rfl,sX⟩
   exact hR4 _ _ (q _ (s1.trans (y12.trans sX)))
 ·exact (xan _ rfl rfl _ rfl (neT (by rw [hss,xcr hrc]; decide +kernel) (q _ s1)))
end
theorem xxj (ns:List Int):cutV (ns.map V.int) none (some 1)=(ns.take 1).map V.int:=by
 unfold cutV
 rw [HT.sIx_none,show ((1:Int))=((1:Nat):Int) from rfl,HT.sIx_nat]
 cases ns with
 | nil=>rfl
 | cons n ns=>simp
theorem xgv {H:Hp}:∀ {kvs:List (Key×V)} {ys:List Wy},WAll H kvs ys->(kvs.map fun kv=>kV kv.1)=ys.map fun y=>V.str y.1
 | [],[],_=>rfl
 | kv :: kvs,y :: ys,h=>by
  rw [List.map_cons,List.map_cons,xgv h.2,h.1.1]
  rfl
theorem xp9 {nms:List Str} {ks:List Kn} (h:xsf nms ks):KBes nms ks:=⟨h.1,h.2.1,fun k hk p hp=>by
 have h9:=(h.2.2.2 k hk).2
 have h10:p.1∈k.parts.map (·.1):=List.mem_map_of_mem hp
 rw [h9] at h10
 exact List.mem_of_mem_drop (List.mem_of_mem_take (List.mem_of_mem_take h10))⟩
def spLaw (K:PySem.W.Frag):Sp:=fun vs H Q _=>∃ (a:Addr) (ns:List Int),vs=[.ref a]/\SqL K H a (ns.map V.int)/\ns.length<=63/\∀ H',Q (.bl true) H'
section
variable {P:Program} {w:World} {K:PySem.W.Frag} {mg:Str->Option Value} {base:Heap} {n m:Nat}
theorem xvk (T:Tx K mg) (Dl_feed:DefIs P w K mg base n "_law_feed" qa3 (xsi K)) (Dl_take:DefIs P w K mg base n "_law_take" qab xcy) (Dl_names:DefIs P w K mg base n "_law_names" qa4 xow) (Dl_kinds:DefIs P w K mg base n "_law_kinds" qa5 xoz) (Dl_value:DefIs P w K mg base n "_law_value" qal (xem 6)) (Dl_beside:DefIs P w K mg base n "_law_beside" qat xth) (Dl_told:DefIs P w K mg base n "_law_told" qav xou) (D_turned:DefIs P w K mg base n "turned" qaj (spTd 6)) (Dl_lost:DefIs P w K mg base n "_law_lost" qaw xox) (Dl_kept:DefIs P w K mg base n "_law_kept" qax xo0) :
  DefIs P w K mg base (n + 1) "law" ["_law_script"] (spLaw K):=by
 refine DefIs.of T.d_law sc_law ?_ ?_ <;> walk_at "i"
 ·obtain ⟨_,_,rfl,_⟩:=h
  rfl
 obtain ⟨a,ns,rfl,hS,h63,k⟩:=h
 have nd:=sc_law.nd
 have hu:=xfn hr
 have hu2:=xsx hr
 refine ⟨_,(zpn (xal (i:=1) nd rfl (by walk_at "o") (pd Dl_names hr (pc (xaq xb9 (xax (xqr rfl) rfl T.z_sum PyProof.Rows.boot_sum (pc (xc4 xg4 (pv 0) xe5 (xda pI)) pN zss)) pI) (pc pI pN zso) xa8)))
   (zpn (xal (i:=2) nd rfl (by walk_at "o") (pd Dl_kinds hr (pc (pd Dl_feed hr (pc (pv 0) (pc pI pN zso) zsn)) (pc (pv 1) pN zsn) zsc)))
   (zpn (xal (i:=3) nd rfl (by walk_at "o") (xar (pc (pv 2) (pc (xar pN) (pc (xar pN) pN sT) sT) zsn)))
   (zpn (xal (i:=4) nd rfl (by walk_at "o") (xar (pc (pd Dl_beside hr (pc (pd Dl_feed hr (pc (pv 0) (pc pI pN zso) zsn)) (pc (pv 2) (pc (pv 1) pN zsn) zsn) zsc)) (pc (xar pN) (pc (xar pN) pN sT) sT) zsc)))
   (zpn (xal (i:=5) nd rfl (by walk_at "o") (xaj xai (pd Dl_told hr (pc (pd Dl_feed hr (pc (pv 0) (pc pI pN zso) zsn)) (pc (pv 3) (pc (xaj xai (pv 4) pI (fun _ _=>rfl)) pN zss) zsn) zsc)) pI (fun _ _=>rfl)))
   (zpn (xcf PassesOwn.never rfl (xpe rfl T.z_range (pc pI (pc (xax (xqu rfl) rfl T.z_max PyProof.Rows.boot_max (pc pI (pc (xax (xqs rfl) rfl T.z_min PyProof.Rows.boot_min (pc pI (pc (xax xao rfl T.z_len PySem.boot_len (pc (pv 0) pN zsn)) pN zsc) zso)) pN zsc) zso)) pN zsc) zso)) (xab (i:=6) nd rfl (by walk_at "o"))
   (zpn (xal (i:=7) nd rfl (by walk_at "o") (pd Dl_feed hr (pc (pv 0) (pc (pv 6) pN zsn) zsn)))
   (po (xa1 (pR xe6 (xax xkt rfl T.z_len PySem.boot_len (pc (pv 5) pN zsn)) pI (nM _)) (zpn (xal (i:=8) nd rfl (by walk_at "o") (xaj iL (xat (xn4 rfl) rfl T.z_list PyProof.Rows.boot_list (pc (pv 5) pN zsn)) (pd Dl_take hr (pc (pv 7) (pc (xax xkt rfl T.z_len PySem.boot_len (pc (pv 5) pN zsn)) pN zsc) zsn)) (fun _ _=>rfl)))
   (zpn (xal (i:=9) nd rfl (by walk_at "o") (pd Dl_value hr (pc (pv 7) (pc (pv 2) (pc (pv 8) pN zsn) zsn) zsn)))
   (zpn (xal (i:=10) nd rfl (by walk_at "o") (pd D_turned hr (pc (pv 3) (pc (pv 4) (pc (pv 5) (pc (pv 8) (pc (pv 9) pN zsn) zsn) zsn) zsn) zsn)))
   (zpn (xa1 (pR (xso hu2) (pd D_turned hr (pc (pv 3) (pc (pv 4) (pc (pv 5) (pc (pv 8) (pc (pd Dl_lost hr (pc (pv 7) (pc (pv 2) (pc (pv 5) (pc (pv 8) (pc (pv 9) pN zsn) zsn) zsn) zsn) zsn)) pN zsc) zsn) zsn) zsn) zsn)) (pv 10) (nM _)) (po (xae xnu)) pQ)
   (po (xa1 (xva (xu9 (pd Dl_kept hr (pc (pv 3) (pc (pv 4) (pc (pv 5) (pc (pv 8) (pc (pv 9) (pc (pv 10) pN zsn) zsn) zsn) zsn) zsn) zsn)))) (po (xae xnu)) pQ)))))) pQ))))
   (po (xae xnu)))))))),xag fun R1 hR1=>?_⟩
 refine (xb0 _ rfl _ rfl a _ rfl hS (fun c0 hc0=>?_))
 rw [xxj]
 have s0:=Same.new hc0 (.lst ((ns.take 1).map V.int))
 refine (xav c0 (ns.take 1) rfl (SqL.of ups) (xcp _ _ rfl rfl ⟨by decide,by decide⟩ (jEA _ rfl (fun b H1 nms s1 hb0 hb hok hby=>?_))))
 have s01:=s0.trans s1
 refine hR1 _ _ (xag fun R2 hR2=>?_)
 refine (xb3 _ rfl a ns 1 rfl (s01.seq hS) h63 (by decide) (fun r p q nr=>?_))
 have sr:=Same.new nr (.lst [.int p,.int q])
 have br:b≠r:=neN hb nr
 refine (xbo _ rfl r b p q (xdl nms rfl ups (sr _ _ hb) hok br (fun kv ks H2 f2 hk hK hfit=>?_)))
 have hKo:=hK
 obtain ⟨wf,h4,hkn,hKp⟩:=hK
 have sH2:Same H1 H2:=Fed.back nr sr f2
 have hb2:=sH2 _ _ hb
 have s02:=s01.trans sH2
 obtain ⟨ka,kus,rfl,hka,hku⟩:=id hk
 refine hR2 _ _ (xag fun R3 hR3=>?_)
 refine (jEAA _ rfl (by walk_at "s") (fun e1 he1=>⟨(by walk_at "s"),fun e2 he2=>⟨(by walk_at "s"),fun fa hfa=>?_⟩⟩))
 have sF:=(Same.new he1 (.tup [])).trans ((Same.new he2 (.tup [])).trans (Same.new hfa (.tup [.ref ka,.ref e1,.ref e2])))
 have hfa3:upd (upd (upd H2 e1 (.tup [])) e2 (.tup [])) fa (.tup [.ref ka,.ref e1,.ref e2]) fa=some (.tup [.ref ka,.ref e1,.ref e2]):=ups
 have s03:=s02.trans sF
 have hb3:=sF _ _ hb2
 have hk3:=hk.same sF _
 clear sr f2 hfit
 generalize upd (upd (upd H2 e1 (.tup [])) e2 (.tup [])) fa (.tup [.ref ka,.ref e1,.ref e2])=H3 at sF hfa3 s03 hb3 hk3 ⊢
 refine hR3 _ _ (xag fun R4 hR4=>?_)
 refine (xb3 _ rfl a ns 2 rfl (s03.seq hS) h63 (by decide) (fun r2 p2 q2 nr2=>?_))
 have sr2:=Same.new nr2 (.lst [.int p2,.int q2])
 have br2:b≠r2:=neN hb3 nr2
 refine (xa6 _ rfl _ rfl r2 b (.ref ka) (xcb p2 q2 ks nms rfl ups (hk3.same sr2 _) hKo (sr2 _ _ hb3) hok ⟨br2,fun mv ks2 H4 f4 rmv hbes=>?_⟩))
 have s34:Same H3 H4:=Fed.back nr2 sr2 f4
 obtain ⟨wf2,hl2,hpn2⟩:=hbes
 refine ⟨(by walk_at "s"),fun e3 he3=>⟨(by walk_at "s"),fun e4 he4=>⟨(by walk_at "s"),fun sa hsa=>?_⟩⟩⟩
 have sS:=(Same.new he3 (.tup [])).trans ((Same.new he4 (.tup [])).trans (Same.new hsa (.tup [mv,.ref e3,.ref e4])))
 have hsa5:upd (upd (upd H4 e3 (.tup [])) e4 (.tup [])) sa (.tup [mv,.ref e3,.ref e4]) sa=some (.tup [mv,.ref e3,.ref e4]):=ups
 have s35:=s34.trans sS
 have hk25:=rmv.same sS _
 clear sr2
 generalize upd (upd (upd H4 e3 (.tup [])) e4 (.tup [])) sa (.tup [mv,.ref e3,.ref e4])=H5 at sS hsa5 s35 hk25 ⊢
 have hfa5:=s35 _ _ hfa3
 have hk15:=hk3.same s35 _
 have pnb1:PNB ks:=fun kk hkk p hp=>(hby _ ((xp9 hKo).2.2 kk hkk p hp)).1
 have pnb2:PNB ks2:=fun kk hkk p hp=>(hby _ (hpn2 kk hkk p hp)).1
 refine hR4 _ _ (xag fun R5 hR5=>?_)
 refine (xb3 _ rfl a ns 3 rfl ((s03.trans s35).seq hS) h63 (by decide) (fun r3 p3 q3 nr3=>?_))
 have sr3:=Same.new nr3 (.lst [.int p3,.int q3])
 refine (xa6 _ rfl _ rfl sa _ _ (xc3 _ rfl rfl (SqT.of (sr3 _ _ hsa5)) (xaz (j:=0) rfl) (xas r3 fa (.ref ka) mv _ (xcb p3 q3 ks ks2 rfl ups (sr3 _ _ hfa5) (hk15.same sr3 _) wf pnb1 (jAAA (hk25.same sr3 _) wf2 pnb2 (fun rr ta wa tkv kvs told H6 f6 hrr hta htw hwa hww htok htnd htl=>?_))))))
 obtain ⟨_,hcnt⟩:=htl
 have s56:Same H5 H6:=Fed.back nr3 sr3 f6
 refine (xay rr _ _ _ rfl rfl (SqT.of hrr) (xaz (j:=1) rfl) ?_)
 have hasb:=xr5 wf wf2 hl2 htok hcnt
 have right:∀ y∈xbp ks2 ks told,WV ks ks2 (xbp ks2 ks told) y:=fun y hy=>(xfz wf wf2 htok y hy).v
 have hynd:=xp0 (ks2:=ks2) (ks:=ks) htnd
 have hyl:=xix (ks2:=ks2) (ks:=ks) (ys:=told)
 generalize xbp ks2 ks told=ys at hww right hynd hyl hasb
 have hfew:=wf.few
 have s06:=(s03.trans s35).trans s56
 refine hR5 _ _ (xag fun R6 hR6=>?_)
 have s56:=s56
 have tc6:TC H6 fa sa wa (.ref ka) mv [.ref e1,.ref e2] [.ref e3,.ref e4] ks ks2 ys:=⟨s56 _ _ hfa5,s56 _ _ hsa5,hk15.same s56 _,wf,hk25.same s56 _,wf2,(jEA kvs (.inl hwa) hww)⟩
 have hkl:kvs.length=ys.length:=by
  have:=congrArg List.length (xgv hww)
  rw [zLM,zLM] at this
  exact this
 refine (xbe _ rfl a _ rfl (.inl (s06.seq hS)) (jEEA _ _ rfl (jEEA _ _ rfl (xav _ _ rfl (jAAA (by decide) (by decide) (by split <;> split <;> omega) (by split <;> split <;> omega)) ?_))))
 refine xfp (fun i σ HX=>∃ o6 o7 o8 o9 o10,σ=[some (.ref a),some (.ref b),some (.ref ka),some (.ref fa),some (.ref sa),some (.ref wa),o6,o7,o8,o9,o10]/\Same H6 HX) (xas none none none none none ⟨rfl,Same.refl _⟩) ?_ ?_
 ·rintro i σ HX hi ⟨o6,o7,o8,o9,o10,rfl,sX⟩
  refine xag fun S1 hS1=>?_
  refine (xce _ rfl _ rfl a ns _ rfl ((s06.trans sX).seq hS) h63 ⟨by omega,fun r5 p5 q5 nr5=>?_⟩)
  have sr5:=Same.new nr5 (.lst [.int p5,.int q5])
  have hwX:=sr5 _ _ (sX _ _ hwa)
  refine hS1 _ _ ?_
  refine (xcd _ rfl wa kvs rfl hwX _ _ rfl rfl (jEA _ rfl (ite2 (fun c=>?_) (fun c=>(xas _ _ _ _ _ ⟨rfl,sX.trans sr5⟩)))))
  have hpos:0 < ys.length:=by
   rw [<- hkl]
   have:=of_decide_eq_true c
   omega
  refine xag fun S2 hS2=>?_
  refine (xbe _ rfl wa kvs rfl hwX (fun l4 hl4=>?_))
  rw [xgv hww]
  have y4:=Same.new hl4 (.lst (ys.map fun y=>V.str y.1))
  have hl4r:l4≠r5:=Ne.symm (neN ups hl4)
  have hlen4:ys.length<=12:=by omega
  refine (xbf _ rfl _ rfl wa kvs rfl (y4 _ _ hwX) r5 (xbd p5 q5 _ rfl (y4 _ _ ups) (by rw [hkl]; omega) (by rw [hkl]; omega) (fun r6 H8 r60 r61 f8=>?_)))
  rw [hkl] at r61
  have F8:Fed r5 (upd HX r5 (.lst [.int p5,.int q5])) H8:=⟨y4.but.trans f8.1,f8.2⟩
  obtain ⟨y,hym,hy4⟩:∃ y∈ys,atI (ys.map fun y=>V.str y.1) r6=some (.str y.1):=by
   obtain ⟨j,rfl⟩:∃ j:Nat,r6=(j:Int):=⟨r6.toNat,by omega⟩
   have hj:j < ys.length:=by omega
   exact (jEA (ys[j]) (List.getElem_mem hj) (xaz (by rw [zGM,zGA hj]; rfl)))
  refine (xay l4 _ _ _ rfl rfl (SqL.of (f8.1 _ _ ups hl4r)) hy4 ?_)
  have s8:Same HX H8:=Fed.back nr5 sr5 F8
  obtain ⟨p8,q8,h8⟩:=f8.2
  obtain ⟨kk,hkk,hgin,_⟩:=right y hym
  have hxn:y.1≠S "num":=fun e=>by
   rw [e,wf.num] at hkk
   cases hkk
  have hxin:KIn ks 6 y.1:=xm3 wf hkk
  have hgo:xau ys y.1=some y.2.1:=by
   unfold xau
   rw [if_neg hxn,xn8 hynd hym]
   rfl
  have tcX:=tc6.same sX
  refine hS2 _ _ (xag fun S3 hS3=>?_)
  refine (xc0 _ rfl _ rfl _ rfl r5 (.ref ka) (xbb p8 q8 ks y.1 rfl h8 (tcX.k1.same s8 _) wf hxin (fun u d H9 f9 ru hvk=>?_)))
  have F9:=F8.trans f9
  have s9:Same HX H9:=Fed.back nr5 sr5 F9
  obtain ⟨d',htn,hvk'⟩:=xq1 wf right 6 y.1 _ d hxin hgo hvk
  have hdp:=xk6 wf2 6 _ _ (xly right hgo) hvk'
  have tc9:=tcX.same s9
  refine hS3 _ _ (xag fun S4 hS4=>?_)
  refine (xap _ rfl _ rfl _ rfl _ rfl _ rfl (xas fa sa wa (.ref ka) mv (xas _ _ ks ks2 ys (xay y.1 u d d' rfl tc9 ru htn (fun uf HA sA rA=>?_)))))
  have FA:=Fed.same F9 sA
  obtain ⟨pA,qA,hA⟩:=FA.2
  have sXA:=s9.trans sA
  have tcA:=tcX.same sXA
  refine hS4 _ _ (xag fun S5 hS5=>?_)
  refine (xap _ rfl _ rfl _ rfl _ rfl _ rfl (xc6 _ rfl _ rfl _ rfl _ rfl r5 (xas wa (.ref ka) u pA qA (xas ks ks2 ys y.1 d (xdl d' rfl hA tcA.k1 wf tcA.w (xhy (neN (sX _ _ hwa) nr5) (ru.same sA _) hxn hvk (jAAA right hasb htn (fun u2 d2 HB fB r2' htn2=>?_))))))))
  have FB:=FA.trans fB
  have sXB:Same HX HB:=Fed.back nr5 sr5 FB
  have tB:=xi1 hA fB
  have tcB:=tcX.same sXB
  refine (xas fa sa wa (.ref ka) mv (xas _ _ ks ks2 ys (xay y.1 u2 d2 d' rfl tcB r2' htn2 (fun u3 HC sC r3=>?_))))
  have rC:=(rA.tups tB _).same sC _
  refine (xa9 _ rfl d' r3 rC (jAEA (by omega) _ rfl (iteF (hS5 _ _ ?_))))
  have sXC:=sXB.trans sC
  refine (xap _ rfl _ rfl _ rfl _ rfl _ rfl (xbo _ rfl fa sa wa (.ref ka) (xas mv _ _ ks ks2 (xas ys y.1 u uf d (xdl d' rfl (tcX.same sXC) (((ru.same sA _).tups tB _).same sC _) rC hxn (jAAA hasb htn (by omega) (fun HD sD=>?_)))))))
  exact (jEA _ rfl (iteF (xas _ _ _ _ _ ⟨rfl,sX.trans (sXC.trans sD)⟩)))
 ·rintro σ HX ⟨o6,o7,o8,o9,o10,rfl,sX⟩
  exact hR6 _ _ (k HX)
theorem law_is (T:Tx K mg):DefIs P w K mg base 100 "law" ["_law_script"] (spLaw K):=by
 have take:∀ k,DefIs P w K mg base (k + 1) "_law_take" qab xcy:=fun k=>xdx T
 have size:DefIs P w K mg base 28 "_law_size" qaa (xg1 6):=(xo4 T 6 (by omega)).mono (by omega)
 have parts:DefIs P w K mg base 30 "_law_parts" qao xim:=xpi T (take 28) (size.mono (by omega))
 have made:DefIs P w K mg base 90 "made_ways" qan xmo:=(xt3 T).mono (by omega)
 have anyk:∀ k,DefIs P w K mg base (k + 2) "_law_any_kind" qak xq9:=fun k=>xj0 T (take k)
 have way:DefIs P w K mg base 90 "_law_way" qau xtg:=xts (n:=89) T (xbj T) (anyk 87) (xeq T) ((xlp T).mono (by omega))
 have told:DefIs P w K mg base 91 "_law_told" qav xou:=xrl (n:=90) T (take 89) made way
 have bes:DefIs P w K mg base 40 "_law_beside" qat xth:=xnx (n:=39) T (take 38) (xgg (n:=38) T (take 37) (anyk 36)) (parts.mono (by omega)) (size.mono (by omega))
 have bx:DefIs P w K mg base 98 "boxes_in" qac (spBx 22):=(xlo (n:=24) T (xj8 T 22)).mono (by omega)
 have lost:DefIs P w K mg base 99 "_law_lost" qaw xox:=xrn (n:=98) T (xbj T) bx ((xii T 6).mono (by omega))
 have kept:DefIs P w K mg base 99 "_law_kept" qax xo0:=xro (n:=98) T (xbj T) ((xgw T 6).mono (by omega))
 exact xvk (n:=99) T (xrp T) (take 98) (xpj T) ((xpk T (take 29) parts).mono (by omega)) ((xii T 6).mono (by omega)) (bes.mono (by omega)) (told.mono (by omega)) ((xgw T 6).mono (by omega)) lost kept
end
end K46
end
noncomputable def PySem.W.Fast.tw2939294373522259379:Nat:=0
noncomputable def PySem.W.Fast.tw4697097731504270798:Nat:=0
noncomputable def PySem.W.Fast.tw4721500390561757178:Nat:=0
noncomputable def PySem.W.Fast.tw1898203019314983364:Nat:=0
noncomputable def PySem.W.Fast.tw5214428318773352391:Nat:=0
noncomputable def PySem.W.Fast.tw11221861752699604388:Nat:=0
noncomputable def PySem.W.Fast.tw6410091957600616382:Nat:=0
noncomputable def PySem.W.Fast.tw18023952204227840849:Nat:=0
noncomputable def PySem.W.Fast.tw7546332643619383054:Nat:=0
noncomputable def PySem.W.Fast.tw10299405181798816455:Nat:=0
noncomputable def PySem.W.Fast.tw14990842323404734855:Nat:=0
noncomputable def PySem.W.Fast.tw4051666765090318484:Nat:=0
noncomputable def PySem.W.Fast.tw11927187728132325911:Nat:=0
noncomputable def PySem.W.Fast.tw3126486063010399463:Nat:=0
noncomputable def PySem.W.Fast.tw10430397082612121895:Nat:=0
noncomputable def PySem.W.Fast.tw7554430184774941884:Nat:=0
noncomputable def PySem.W.Fast.tw9908206017327618101:Nat:=0
noncomputable def PySem.W.Fast.tw16479975050989974819:Nat:=0
noncomputable def PySem.W.Fast.tw7977639730696480615:Nat:=0
noncomputable def PySem.W.Fast.tw13465972118834923632:Nat:=0
noncomputable def PySem.W.Fast.tw5050257194771384119:Nat:=0
noncomputable def PySem.W.Fast.tw18289747311010564912:Nat:=0
noncomputable def PySem.W.Fast.tw14902925982844603683:Nat:=0
noncomputable def PySem.W.Fast.tw3863564252493920837:Nat:=0
noncomputable def PySem.W.Fast.tw18187010453568594451:Nat:=0
noncomputable def PySem.W.Fast.tw12630946883277533089:Nat:=0
noncomputable def PySem.W.Fast.tw6784874418955545081:Nat:=0
noncomputable def PySem.W.Fast.tw12399258720300227061:Nat:=0
noncomputable def PySem.W.Fast.tw4049562997743577104:Nat:=0
noncomputable def PySem.W.Fast.tw16018222383791204468:Nat:=0
noncomputable def PySem.W.Fast.tw1192265661767025069:Nat:=0
noncomputable def PySem.W.Fast.tw4118410218922077336:Nat:=0
noncomputable def PySem.W.Fast.tw8244759025443980513:Nat:=0
noncomputable def PySem.W.Fast.tw6551665910880597409:Nat:=0
noncomputable def PySem.W.Fast.tw5681288678321464781:Nat:=0
noncomputable def PySem.W.Fast.tw7183619087542356375:Nat:=0
noncomputable def PySem.W.Fast.tw11276190295238113369:Nat:=0
noncomputable def PySem.W.Fast.tw551638320881015694:Nat:=0
noncomputable def PySem.W.Fast.tw7756594375232887735:Nat:=0
noncomputable def PySem.W.Fast.tw17562289379946652445:Nat:=0
noncomputable def PySem.W.Fast.tw12320909115195437129:Nat:=0
noncomputable def PySem.W.Fast.tw15901312453896080904:Nat:=0
noncomputable def PySem.W.Fast.tw15652574763007012211:Nat:=0
noncomputable def PySem.W.Fast.tw18160992061607982905:Nat:=0
noncomputable def PySem.W.Fast.tw1606462168498309310:Nat:=0
noncomputable def PySem.W.Fast.tw8945200648699716677:Nat:=0
noncomputable def PySem.W.Fast.tw6301170281145599995:Nat:=0
noncomputable def PySem.W.Fast.tw5836475786732838872:Nat:=0
noncomputable def PySem.W.Fast.tw11075105440469316395:Nat:=0
noncomputable def PySem.W.Fast.tw1463835462289961019:Nat:=0
noncomputable def PySem.W.Fast.tw4697589152946048533:Nat:=0
noncomputable def PySem.W.Fast.tw17814128061822259339:Nat:=0
noncomputable def PySem.W.Fast.tw448640814533781253:Nat:=0
noncomputable def PySem.W.Fast.tw9373497471028704538:Nat:=0
noncomputable def PySem.W.Fast.tw5788756451737393644:Nat:=0
noncomputable def PySem.W.Fast.tw15088049281344844219:Nat:=0
noncomputable def PySem.W.Fast.tw17531584880088893504:Nat:=0
open PySem PySem.W PyProof.Rows
set_option maxRecDepth 100000 in
set_option maxHeartbeats 0 in
theorem PySem.Challenge.cw_swapstride_k46_what_is_lost_holds : PySem.Challenge.rw_swapstride_k46_what_is_lost.Holds := by
 w_on; o_law; k_head; (case hw=>w_witness2)
 k_fill
 refine L2.walk_of (l:=PySem.Challenge.rw_swapstride_k46_what_is_lost) (n:=63) (k:=100) (x:="_law_script") (CX:=fun _=>L2.CX0) (sp:=fun _=>K46.spLaw _) rfl (by decide) rfl ⟨rfl,by decide,by decide⟩ (fun w h Y=>PySem.W.kIn_of Y) ?F (fun _ _ a ns hl _ hS=>⟨a,ns,rfl,hS,hl,fun _=>rfl⟩) fun _ _ _ _ _ z=>z
 case F=>
  intro w mg fa h KX G hmg
  have d_sort_of:L2.DefTx (L2.KOf KX) mg "sort_of" K46.s_sort_of L2.qad:=by
   walk_at "d"
  have d_parts_of:L2.DefTx (L2.KOf KX) mg "parts_of" K46.s_parts_of L2.qad:=by
   walk_at "d"
  have d_part_kind:L2.DefTx (L2.KOf KX) mg "part_kind" K46.s_part_kind L2.qay:=by
   walk_at "d"
  have d_with_box:L2.DefTx (L2.KOf KX) mg "with_box" K46.s_with_box L2.qaz:=by
   walk_at "d"
  have d_nought_term:L2.DefTx (L2.KOf KX) mg "nought_term" K46.s_nought_term L2.qam:=by
   walk_at "d"
  have d_boxes_in:L2.DefTx (L2.KOf KX) mg "boxes_in" K46.s_boxes_in L2.qac:=by
   walk_at "d"
  have d_needed:L2.DefTx (L2.KOf KX) mg "needed" K46.s_needed L2.qac:=by
   walk_at "d"
  have d_inner_terms:L2.DefTx (L2.KOf KX) mg "inner_terms" K46.s_inner_terms L2.qac:=by
   walk_at "d"
  have d_goes_to:L2.DefTx (L2.KOf KX) mg "goes_to" K46.s_goes_to L2.qah:=by
   walk_at "d"
  have d_made_ways:L2.DefTx (L2.KOf KX) mg "made_ways" K46.s_made_ways L2.qan:=by
   walk_at "d"
  have d_how_by_rules:L2.DefTx (L2.KOf KX) mg "how_by_rules" K46.s_how_by_rules L2.qag:=by
   walk_at "d"
  have d_terms_by_rules:L2.DefTx (L2.KOf KX) mg "terms_by_rules" K46.s_terms_by_rules L2.qa0:=by
   walk_at "d"
  have d_tags_by_rules:L2.DefTx (L2.KOf KX) mg "tags_by_rules" K46.s_tags_by_rules L2.qag:=by
   walk_at "d"
  have d_field:L2.DefTx (L2.KOf KX) mg "field" K46.s_field L2.qa1:=by
   walk_at "d"
  have d_worth:L2.DefTx (L2.KOf KX) mg "worth" K46.s_worth L2.qae:=by
   walk_at "d"
  have d_op_worth:L2.DefTx (L2.KOf KX) mg "op_worth" K46.s_op_worth L2.qaq:=by
   walk_at "d"
  have d_case_worth:L2.DefTx (L2.KOf KX) mg "case_worth" K46.s_case_worth L2.qae:=by
   walk_at "d"
  have d_turned:L2.DefTx (L2.KOf KX) mg "turned" K46.s_turned L2.qaj:=by
   walk_at "d"
  have d_turned_boxes:L2.DefTx (L2.KOf KX) mg "turned_boxes" K46.s_turned_boxes L2.qa2:=by
   walk_at "d"
  have dl_feed:L2.DefTx (L2.KOf KX) mg "_law_feed" K46.sl_feed L2.qa3:=by
   walk_at "d"
  have dl_take:L2.DefTx (L2.KOf KX) mg "_law_take" K46.sl_take L2.qab:=by
   walk_at "d"
  have dl_names:L2.DefTx (L2.KOf KX) mg "_law_names" K46.sl_names L2.qa4:=by
   walk_at "d"
  have dl_number:L2.DefTx (L2.KOf KX) mg "_law_number" K46.sl_number L2.qar:=by
   walk_at "d"
  have dl_sort_of:L2.DefTx (L2.KOf KX) mg "_law_sort_of" K46.sl_sort_of L2.qaa:=by
   walk_at "d"
  have dl_size:L2.DefTx (L2.KOf KX) mg "_law_size" K46.sl_size L2.qaa:=by
   walk_at "d"
  have dl_small:L2.DefTx (L2.KOf KX) mg "_law_small" K46.sl_small L2.qaa:=by
   walk_at "d"
  have dl_parts:L2.DefTx (L2.KOf KX) mg "_law_parts" K46.sl_parts L2.qao:=by
   walk_at "d"
  have dl_kinds:L2.DefTx (L2.KOf KX) mg "_law_kinds" K46.sl_kinds L2.qa5:=by
   walk_at "d"
  have dl_boxed:L2.DefTx (L2.KOf KX) mg "_law_boxed" K46.sl_boxed L2.qas:=by
   walk_at "d"
  have dl_arms:L2.DefTx (L2.KOf KX) mg "_law_arms" K46.sl_arms L2.qa6:=by
   walk_at "d"
  have dl_whole_term:L2.DefTx (L2.KOf KX) mg "_law_whole_term" K46.sl_whole_term L2.qaf:=by
   walk_at "d"
  have dl_term:L2.DefTx (L2.KOf KX) mg "_law_term" K46.sl_term L2.qaf:=by
   walk_at "d"
  have dl_new_term:L2.DefTx (L2.KOf KX) mg "_law_new_term" K46.sl_new_term L2.qap:=by
   walk_at "d"
  have dl_any_kind:L2.DefTx (L2.KOf KX) mg "_law_any_kind" K46.sl_any_kind L2.qak:=by
   walk_at "d"
  have dl_beside_parts:L2.DefTx (L2.KOf KX) mg "_law_beside_parts" K46.sl_beside_parts L2.qa7:=by
   walk_at "d"
  have dl_beside:L2.DefTx (L2.KOf KX) mg "_law_beside" K46.sl_beside L2.qat:=by
   walk_at "d"
  have dl_way:L2.DefTx (L2.KOf KX) mg "_law_way" K46.sl_way L2.qau:=by
   walk_at "d"
  have dl_told:L2.DefTx (L2.KOf KX) mg "_law_told" K46.sl_told L2.qav:=by
   walk_at "d"
  have dl_value:L2.DefTx (L2.KOf KX) mg "_law_value" K46.sl_value L2.qal:=by
   walk_at "d"
  have dl_lost:L2.DefTx (L2.KOf KX) mg "_law_lost" K46.sl_lost L2.qaw:=by
   walk_at "d"
  have dl_kept:L2.DefTx (L2.KOf KX) mg "_law_kept" K46.sl_kept L2.qax:=by
   walk_at "d"
  have d_law:L2.DefTx (L2.KOf KX) mg "law" K46.s_law ["_law_script"]:=by
   walk_at "d"
  have g_WIDE:∃ t,mg "WIDE"=some (.int 4294967296 t):=by
   refine' L2.gint_mk KX G ?a
   (case a=>k_is)
  have z_dict:mg "dict"=none:=by
   refine' PySem.W.mg_none_of KX G ?a
   (case a=>k_is)
  have z_int:mg "int"=none:=by
   refine' PySem.W.mg_none_of KX G ?a
   (case a=>k_is)
  have z_len:mg "len"=none:=by
   refine' PySem.W.mg_none_of KX G ?a
   (case a=>k_is)
  have z_list:mg "list"=none:=by
   refine' PySem.W.mg_none_of KX G ?a
   (case a=>k_is)
  have z_max:mg "max"=none:=by
   refine' PySem.W.mg_none_of KX G ?a
   (case a=>k_is)
  have z_min:mg "min"=none:=by
   refine' PySem.W.mg_none_of KX G ?a
   (case a=>k_is)
  have z_range:mg "range"=none:=by
   refine' PySem.W.mg_none_of KX G ?a
   (case a=>k_is)
  have z_set:mg "set"=none:=by
   refine' PySem.W.mg_none_of KX G ?a
   (case a=>k_is)
  have z_sorted:mg "sorted"=none:=by
   refine' PySem.W.mg_none_of KX G ?a
   (case a=>k_is)
  have z_sum:mg "sum"=none:=by
   refine' PySem.W.mg_none_of KX G ?a
   (case a=>k_is)
  have z_tuple:mg "tuple"=none:=by
   refine' PySem.W.mg_none_of KX G ?a
   (case a=>k_is)
  have z_zip:mg "zip"=none:=by
   refine' PySem.W.mg_none_of KX G ?a
   (case a=>k_is)
  have T:K46.Tx (L2.KOf KX) mg:=⟨d_sort_of,d_parts_of,d_part_kind,d_with_box,d_nought_term,d_boxes_in,d_needed,d_inner_terms,d_goes_to,d_made_ways,d_how_by_rules,d_terms_by_rules,d_tags_by_rules,d_field,d_worth,d_op_worth,d_case_worth,d_turned,d_turned_boxes,dl_feed,dl_take,dl_names,dl_number,dl_sort_of,dl_size,dl_small,dl_parts,dl_kinds,dl_boxed,dl_arms,dl_whole_term,dl_term,dl_new_term,dl_any_kind,dl_beside_parts,dl_beside,dl_way,dl_told,dl_value,dl_lost,dl_kept,d_law,g_WIDE,z_dict,z_int,z_len,z_list,z_max,z_min,z_range,z_set,z_sorted,z_sum,z_tuple,z_zip⟩
  exact L2.law_top d_law hmg fun base=>K46.law_is T
