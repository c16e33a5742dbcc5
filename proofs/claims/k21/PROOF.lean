import PyProof.Rows.All
import Wide.All
import OpenK.AllK
import Wide.FinOn
import Lean
import PyProof.EqAt
import PyProof.EqKinds
import PyProof.TupleCall
import PyProof.ZipIter
import PyProof.ListNew
import PyProof.TupleIter
import PyProof.WalksMore
import KE.KIntText
import PyProof.Rows.EqBoolInt
import PyProof.Rows.ZipGen
import PySem.Str
import PyProof.StrLawsTight
import PyProof.StrLawsIdx
import PyProof.StrLawsIn
import PyProof.Rows.SetFrom
import KE.KDictSum
import PyProof.Rows.SortWalk
import PyProof.NeKinds
import KE.KDictList
import KE.KRevIter
import PyProof.EnumMake
import PyProof.Rows.EnumRows
import PyProof.ExcInit
import PyProof.InstStoreFacts
import PyProof.ExcArgsOwn
import PyProof.ExcAttrAll.ValueError
import PyProof.ExcBaseAll.ValueError
import PyProof.ConsumeWalk
import PyProof.AttrMissHeap
import KE.KItemsList
import KE.KEqDict
import PyProof.StationsW
import PyProof.RulesAs
import PyProof.NsDelKeeps
import PyProof.DictWalks
import PyProof.Rows.SortStr
import PySem.Challenge.RW_swapstride_k21_whole_boxes_in_terms
set_option Elab.async false
set_option linter.all false
set_option maxRecDepth 100000
set_option maxHeartbeats 4000000
local macro_rules | `(tactic| walk_at "o")=>`(tactic| first | exact Or.inl rfl | exact Or.inr rfl)
local macro_rules | `(tactic| walk_at "q")=>`(tactic| exact ⟨rfl,rfl,rfl,by decide +kernel,rfl,by decide +kernel,by decide +kernel⟩)
local macro_rules | `(tactic| walk_at "k")=>`(tactic| decide +kernel)
local macro_rules | `(tactic| walk_at "c")=>`(tactic| ((case a=>k_is); (case l=>k_is); (case c=>k_is); (case k=>k_is)))
set_option hygiene false in
local macro_rules | `(tactic| walk_at "d")=>`(tactic| (dsimp only [L2.KOf]; refine' L2.deftx_mk KX G ?a ?l ?c ?k ?b; (case a=>k_is); (case l=>k_is); (case c=>k_is); (case k=>k_is); (case b=>(intro _ _ _ _ _ _ us hl; first | (obtain ⟨_,rfl⟩:=L2.ln1 hl; rfl) | (obtain ⟨_,_,rfl⟩:=L2.ln2 hl; rfl) | (obtain ⟨_,_,_,rfl⟩:=L2.ln3 hl; rfl) | (obtain ⟨_,_,_,_,rfl⟩:=L2.ln4 hl; rfl) | (obtain ⟨_,_,_,_,_,rfl⟩:=L2.ln5 hl; rfl) | (obtain ⟨_,_,_,_,_,_,rfl⟩:=L2.ln6 hl; rfl) | (obtain ⟨_,_,_,_,_,_,_,rfl⟩:=L2.ln7 hl; rfl)))))
set_option hygiene false in
local macro_rules | `(tactic| walk_at "i")=>`(tactic| first | intro f cdv A outer s H vs Q E hr h | intro vs H Q E h)
local macro_rules | `(tactic| walk_at "s")=>`(tactic| first | (show 2 ≤ PySem.sizeLine; decide) | (show 3 ≤ PySem.sizeLine; decide) | (show 1 ≤ PySem.sizeLine; decide) | (show 0 ≤ PySem.sizeLine; decide) | (show 4 ≤ PySem.sizeLine; decide) | (show 5 ≤ PySem.sizeLine; decide) | (show 6 ≤ PySem.sizeLine; decide) | (show 8 ≤ PySem.sizeLine; decide))
theorem zGA {α:Type _} {l:List α} {i:Nat} (h:i < l.length):l[i]?=some l[i]:=List.getElem?_eq_getElem h
theorem zMS {α β:Type _} {f:α→β} {x:Option α} {b:β} (h:x.map f=some b):∃ a,x=some a∧f a=b:=Option.map_eq_some_iff.mp h
theorem zLM {α β:Type _} {as:List α} (f:α→β):(as.map f).length=as.length:=List.length_map f
theorem zGM {α β:Type _} {f:α→β} {l:List α} {i:Nat}:(l.map f)[i]?=l[i]?.map f:=List.getElem?_map
theorem zES {α:Type _} {l:List α} {i:Nat} {a:α} (h:l[i]?=some a):∃ h:i < l.length,l[i]=a:=List.getElem?_eq_some_iff.mp h
theorem zMG {α:Type _} {l:List α} {i:Nat} {a:α} (e:l[i]?=some a):a∈l:=List.mem_of_getElem? e
theorem zTL {α:Type _} {i:Nat} {l:List α} (h:l.length ≤ i):l.take i=l:=List.take_of_length_le h
theorem zMA {α:Type _} {a:α} {s t:List α} (h:a∈s++t):a∈s∨a∈t:=List.mem_append.mp h
theorem zMO {α:Type _} {a b:α} (h:a∈[b]):a=b:=List.mem_singleton.mp h
theorem zDT {p:Prop} [Decidable p] (h:p):decide p=true:=decide_eq_true h
theorem zDF {p:Prop} [Decidable p] (h:¬p):decide p=false:=decide_eq_false h
local macro_rules | `(tactic| walk_at "rd1")=>`(tactic| first
 | refine ⟨_,rfl,?_⟩
 | refine ⟨_,_,rfl,rfl,?_⟩
 | refine ⟨_,_,_,_,rfl,rfl,(by assumption),(by first | rfl | assumption),?_⟩
 | refine ⟨_,_,rfl,.inl (by assumption),?_⟩
 | refine ⟨(by first | exact .inr ⟨by decide,by decide⟩ | exact .inl ⟨by decide,by decide⟩ | exact ⟨by decide,by decide,by decide⟩ | exact ⟨by decide,by decide⟩ | exact ⟨by assumption,by assumption⟩ | (show (0:Int) < _; first | decide | assumption)),?_⟩
 | refine ⟨rfl,?_⟩)
local macro_rules | `(tactic| walk_at "rd")=>`(tactic| repeat walk_at "rd1")
local macro_rules | `(tactic| walk_at "rd1")=>`(tactic| first
 | refine ⟨_,rfl,?_⟩
 | refine ⟨_,_,rfl,rfl,?_⟩
 | refine ⟨_,_,_,_,rfl,rfl,(by assumption),(by first | rfl | assumption),?_⟩
 | refine ⟨rfl,?_⟩
 | refine M.iteKF (by walk_at "k") ?_
 | refine M.iteKT (by walk_at "k") ?_)
section
open PySem
theorem zPO {h:Heap} {a:Addr} {u:Obj} (o:Obj) (e:h.get? a=some u):(h.push o).get? a=some u:=Heap.get?_push_of_some o e
theorem zLA {α:Type _} {as bs:List α}:(as++bs).length=as.length + bs.length:=List.length_append
theorem zMF {α:Type _} {p:α→Bool} {a:α} {l:List α} (h:l.find? p=some a):a∈l:=List.mem_of_find?_eq_some h
theorem zTA {α:Type _} {l:List α} {i:Nat}:l.take (i + 1)=l.take i++l[i]?.toList:=List.take_add_one
theorem zMI {α:Type _} {a:α} {l:List α} (h:a∈l):∃ (i:Nat) (h:i < l.length),l[i]=a:=List.mem_iff_getElem.mp h
theorem zMC {α:Type _} {a b:α} {l:List α} (h:a∈b :: l):a=b∨a∈l:=List.mem_cons.mp h
theorem zMP {α β:Type _} {b:β} {f:α→β} {l:List α} (h:b∈l.map f):∃ a,a∈l∧f a=b:=List.mem_map.mp h
theorem zAP {α β:Type _} {f:α→β} {as bs:List α}:(as++bs).map f=as.map f++bs.map f:=List.map_append
end
namespace L2
theorem ln1 {α:Type} {l:List α} (h:l.length=1):∃ a,l=[a]:=match l,h with | [a],_=>⟨a,rfl⟩
theorem ln2 {α:Type} {l:List α} (h:l.length=2):∃ a b,l=[a,b]:=match l,h with | [a,b],_=>⟨a,b,rfl⟩
theorem ln3 {α:Type} {l:List α} (h:l.length=3):∃ a b c,l=[a,b,c]:=match l,h with | [a,b,c],_=>⟨a,b,c,rfl⟩
theorem ln4 {α:Type} {l:List α} (h:l.length=4):∃ a b c d,l=[a,b,c,d]:=match l,h with | [a,b,c,d],_=>⟨a,b,c,d,rfl⟩
theorem ln5 {α:Type} {l:List α} (h:l.length=5):∃ a b c d e,l=[a,b,c,d,e]:=match l,h with | [a,b,c,d,e],_=>⟨a,b,c,d,e,rfl⟩
theorem ln6 {α:Type} {l:List α} (h:l.length=6):∃ a b c d e f,l=[a,b,c,d,e,f]:=match l,h with | [a,b,c,d,e,f],_=>⟨a,b,c,d,e,f,rfl⟩
theorem ln7 {α:Type} {l:List α} (h:l.length=7):∃ a b c d e f g,l=[a,b,c,d,e,f,g]:=match l,h with | [a,b,c,d,e,f,g],_=>⟨a,b,c,d,e,f,g,rfl⟩
end L2
namespace L2
open PySem PySem.Spec PyProof.Rows
abbrev Key:=Sum Int Str
def xnt:Key->Value->Bool
 | .inl k,v=>Value.isInt k v
 | .inr x,v=>Value.isStrOf x v
def keyH (w:World):Key->Int
 | .inl k=>hashInt k
 | .inr x=>hashStr w x
theorem xbr:∀ {k:Key} {v:Value},xnt k v=true->(∃ i t,k=Sum.inl i/\v=Value.int i t)\/(∃ x t,k=Sum.inr x/\v=Value.str x t)
 | .inl i,v,h=>by
  obtain ⟨t,e⟩:=Value.isInt_shape (k:=i) (v:=v) h
  exact .inl ⟨i,t,rfl,e⟩
 | .inr x,v,h=>by
  obtain ⟨t,e⟩:=Value.isStrOf_shape (x:=x) (v:=v) h
  exact .inr ⟨x,t,rfl,e⟩
theorem xpi (i:Int) (t:Tok):xnt (.inl i) (.int i t)=true:=by simp [xnt,Value.isInt]
theorem xph (x:Str) (t:Tok):xnt (.inr x) (.str x t)=true:=by simp [xnt,Value.isStrOf]
theorem xvi (a b:Int):decide ((Sum.inl a:Key)=Sum.inl b)=(a == b):=by
 by_cases e:a=b
 ·subst e; simp
 ·have h:¬ (Sum.inl a:Key)=Sum.inl b:=fun q=>e (Sum.inl.inj q)
  rw [zDF h]
  exact (beq_eq_false_iff_ne.mpr e).symm
theorem xvf (a b:Str):decide ((Sum.inr a:Key)=Sum.inr b)=decide (a=b):=by
 by_cases e:a=b
 ·subst e; simp
 ·have h:¬ (Sum.inr a:Key)=Sum.inr b:=fun q=>e (Sum.inr.inj q)
  rw [zDF h,zDF e]
theorem xvh (a:Int) (b:Str):decide ((Sum.inl a:Key)=Sum.inr b)=false:=zDF (fun q=>nomatch q)
theorem xvg (a:Str) (b:Int):decide ((Sum.inr a:Key)=Sum.inl b)=false:=zDF (fun q=>nomatch q)
def xbw (prog:Program) (w:World):PySem.KeyKind prog w Key where
 is:=xnt
 hash:=keyH w
 inj:=fun v a b ha hb=>by
  rcases xbr ha with ⟨i,t,rfl,rfl⟩ | ⟨x,t,rfl,rfl⟩
  ·rcases xbr hb with ⟨j,u,rfl,e⟩ | ⟨y,u,rfl,e⟩
   ·injection e with e1 _; rw [e1]
   ·exact nomatch e
  ·rcases xbr hb with ⟨j,u,rfl,e⟩ | ⟨y,u,rfl,e⟩
   ·exact nomatch e
   ·injection e with e1 _; rw [e1]
 byValue:=fun k v h=>by
  rcases xbr h with ⟨i,t,rfl,rfl⟩ | ⟨x,t,rfl,rfl⟩ <;> rfl
 pyHash:=fun hv h=>by
  rcases xbr hv with ⟨i,t,rfl,rfl⟩ | ⟨x,t,rfl,rfl⟩
  ·exact wpAny_pyHash_int h
  ·exact wpAny_pyHash_str h
 eqBool:=fun hu hv h=>by
  rcases xbr hu with ⟨i,t,rfl,rfl⟩ | ⟨x,t,rfl,rfl⟩
  ·rcases xbr hv with ⟨j,u,rfl,rfl⟩ | ⟨y,u,rfl,rfl⟩
   ·rw [xvi] at h; exact wpAny_eqBool_int h
   ·rw [xvh] at h; exact SeqAt.EqAt.int_str i t y u _ _ _ _ h
  ·rcases xbr hv with ⟨j,u,rfl,rfl⟩ | ⟨y,u,rfl,rfl⟩
   ·rw [xvg] at h; exact SeqAt.EqAt.str_int x t j u _ _ _ _ h
   ·rw [xvf] at h; exact wpAny_eqBool_str h
 «strs»:=fun k x t v h=>by
  rcases xbr h with ⟨i,u,rfl,e⟩ | ⟨y,u,rfl,e⟩
  ·exact nomatch e
  ·injection e with e1 _
   subst e1
   cases v <;> rfl
theorem xlo (prog:Program) (w:World) (i:Int) (t:Tok):(xbw prog w).is (.inl i) (.int i t)=true:=xpi i t
theorem xln (prog:Program) (w:World) (x:Str) (t:Tok):(xbw prog w).is (.inr x) (.str x t)=true:=xph x t
end L2
namespace L2
open PySem PySem.Spec PyProof.Rows
inductive V where
 | non | bl (b:Bool) | int (i:Int) | str (x:Str) | byt (b:Array UInt8) | flt (b:UInt64) | ref (a:Addr) | ty (n:String)
 deriving DecidableEq
def RelV:V->Value->Prop
 | .non,u=>u=Value.none
 | .bl b,u=>u=Value.bool b
 | .int i,u=>∃ t,u=Value.int i t
 | .str x,u=>∃ t,u=Value.str x t
 | .byt b,u=>∃ t,u=Value.bytes b t
 | .flt b,u=>∃ t,u=Value.float b t
 | .ref a,u=>u=Value.ref a
 | .ty n,u=>u=Value.type n
abbrev Vals:List V->List Value->Prop:=Paired RelV
theorem Vals.length {xs:List V} {us:List Value} (r:Vals xs us):xs.length=us.length:=Paired.length r
theorem Vals.get:∀ {xs:List V} {us:List Value} {i:Nat} {x:V},Vals xs us->xs[i]?=some x->∃ u,us[i]?=some u/\RelV x u
 | _,_,_,_,.nil,e=>by simp at e
 | _,_,0,_,.cons r _,e=>by simp at e; subst e; exact ⟨_,rfl,r⟩
 | _,_,i + 1,x,.cons _ t,e=>by
  obtain ⟨u,h1,h2⟩:=Vals.get (i:=i) (x:=x) t (by simpa using e)
  exact ⟨u,by simpa using h1,h2⟩
theorem Vals.set {x:V} {u:Value} (r:RelV x u):∀ {xs:List V} {us:List Value} (i:Nat),Vals xs us->Vals (xs.set i x) (us.set i u)
 | _,_,_,.nil=>.nil
 | _,_,0,.cons _ t=>.cons r t
 | _,_,i + 1,.cons q t=>.cons q (Vals.set r i t)
theorem Vals.append:∀ {xs ys:List V} {us ws:List Value},Vals xs us->Vals ys ws->Vals (xs++ys) (us++ws)
 | _,_,_,_,.nil,s=>s
 | _,_,_,_,.cons r t,s=>.cons r (Vals.append t s)
theorem Vals.take:∀ {xs:List V} {us:List Value} (n:Nat),Vals xs us->Vals (xs.take n) (us.take n)
 | _,_,0,_=>.nil
 | _,_,_ + 1,.nil=>.nil
 | _,_,n + 1,.cons r t=>.cons r (Vals.take n t)
theorem Vals.drop:∀ {xs:List V} {us:List Value} (n:Nat),Vals xs us->Vals (xs.drop n) (us.drop n)
 | _,_,0,r=>r
 | _,_,_ + 1,.nil=>.nil
 | _,_,n + 1,.cons _ t=>Vals.drop n t
def RelO:Option V->Option Value->Prop
 | some v,some u=>RelV v u
 | none,none=>True
 | _,_=>False
def KV {κ:Type}:List (κ×V)->List (κ×Value)->Prop:=Paired fun (p:κ×V) (q:κ×Value)=>p.1=q.1/\RelV p.2 q.2
def kV:Key->V
 | .inl i=>.int i
 | .inr x=>.str x
inductive HO where
 | lst (xs:List V)
 | tup (xs:List V)
 | dK (kvs:List (Key×V)) | dT (kvs:List (List Key×V))
 | set (S:Int->Bool) (n:Nat)
 | ins (C dx:Addr) (fs:List (Str×V))
 | own (x:Addr)
 | xd (fs:List (Str×V))
 | met (f x:Addr)
 | rng (lo hi:Int)
 | frz (o:Obj) (u:HO)
 | tbl (ps:Array Value)
 | ext (φ:Heap->Prop)
abbrev Hp:=Addr->Option HO
def upd (H:Hp) (a:Addr) (o:HO):Hp:=fun b=>if b=a then some o else H b
theorem ups {H:Hp} {a:Addr} {o:HO}:upd H a o a=some o:=by unfold upd; rw [if_pos rfl]
theorem xaz {H:Hp} {a b:Addr} {o:HO} (h:b≠a):upd H a o b=H b:=by unfold upd; rw [if_neg h]
theorem xwr {H:Hp} {a b:Addr} {o u:HO} (h:H a=some o) (h':H b=some u) (d:o≠u):a≠b:=by
 intro e; subst e; rw [h] at h'; exact d (Option.some.inj h')
theorem neN {H:Hp} {a b:Addr} {o:HO} (h:H a=some o) (h':H b=none):a≠b:=by
 intro e; subst e; rw [h] at h'; cases h'
section
variable (P:Program) (w:World)
def ObjOk (H:Hp) (h:Heap) (a:Addr):HO->Prop
 | .lst xs=>xs.length<=sizeLine/\∃ (its:List Value) (n:Nat),Vals xs its/\h.get? a=some { cls:=.type "list",data:=.seq its.toArray n }
 | .tup xs=>xs.length<=sizeLine/\∃ its:List Value,Vals xs its/\∃ o,h.get? a=some o/\o.cls=.type "tuple"/\∃ n,o.data=.seq its.toArray n/\o.dict=none
 | .dK kvs=>kvs.length<=sizeLine/\(a == sysModules)=false/\∃ vs,KV kvs vs/\h.DictOf (xbw P w) a vs
 | .dT kvs=>kvs.length<=sizeLine/\(a == sysModules)=false/\∃ xs:List (List Key×Addr×Value),
   Paired (fun (p:List Key×V) (q:List Key×Addr×Value)=>p.1=q.1/\H q.2.1=some (.tup (p.1.map kV))/\RelV p.2 q.2.2) kvs xs ∧
   ∃ o es ep,h.get? a=some o/\o.ExactDict/\o.data=.dict es ep/\es.toList=xs.map (entryOfKey (tupleKind (xbw P w)))/\(xs.map (·.1)).Nodup
 | .set S n=>h.SetOf (intKind P w) a S n
 | .ins C dx fs=>H dx=some (.own a)/\fs.length<=1000/\dx≠a/\h.get? a=some (PySem.W.instObj C dx) ∧
   ∃ mA,h.Ns1 dx mA/\(∀ f,RelO (fs.lookup f) (mA f))/\PySem.Within mA (fs.map (·.1))
 | .own _=>∃ o,h.get? a=some o
 | .xd fs=>∃ mA,h.Ns1 a mA/\∀ f,RelO (fs.lookup f) (mA f)
 | .rng lo hi=>∃ t u v,h.get? a=some { cls:=.type "range",data:=.fields #[.int lo t,.int hi u,.int 1 v] }
 | .frz o u=>h.get? a=some o/\ObjOk H h a u
 | .tbl ps=>h.get? a=some { cls:=.none,data:=.fields ps }
 | .met f x=>h.get? a=some (PySem.W.methodObj (.ref f) (.ref x))
 | .ext φ=>φ h/\(∃ o,h.get? a=some o)/\∀ h1 h2:Heap,φ h1->(∀ o,h1.get? a=some o->h2.get? a=some o)->φ h2
def HOk (H:Hp) (h:Heap):Prop:=∀ a o,H a=some o->ObjOk P w H h a o
end
section
variable {P:Program} {w:World} {H H':Hp} {h h':Heap} {a:Addr} {o:HO}
theorem ObjOk.lt (x:ObjOk P w H h a o):a < h.objs.size:=by
 cases o with
 | lst xs=>obtain ⟨_,_,_,_,e⟩:=x; exact Heap.lt_size e
 | tup xs=>obtain ⟨_,_,_,_,e,_⟩:=x; exact Heap.lt_size e
 | dK kvs=>obtain ⟨_,_,_,_,o,_,_,e,_⟩:=x; exact Heap.lt_size e
 | dT kvs=>obtain ⟨_,_,_,_,o,_,_,e,_⟩:=x; exact Heap.lt_size e
 | set S n=>obtain ⟨o,_,_,_,e,_⟩:=x; exact Heap.lt_size e
 | ins C dx fs=>obtain ⟨_,_,_,e,_⟩:=x; exact Heap.lt_size e
 | own y=>obtain ⟨_,e⟩:=x; exact Heap.lt_size e
 | xd fs=>obtain ⟨_,⟨_,_,_,e,_⟩,_⟩:=x; exact Heap.lt_size e
 | rng lo hi=>obtain ⟨_,_,_,e⟩:=x; exact Heap.lt_size e
 | frz ob u=>obtain ⟨e,_⟩:=x; exact Heap.lt_size e
 | tbl ps=>exact Heap.lt_size (show h.get? a=some _ from x)
 | met f y=>exact Heap.lt_size (show h.get? a=some _ from x)
 | ext φ=>obtain ⟨_,⟨_,e⟩,_⟩:=x; exact Heap.lt_size e
theorem Paired.mapP {α β:Type} {F G:α->β->Prop}:∀ {l₁:List α} {l₂:List β},Paired F l₁ l₂->(∀ a b,F a b->G a b)->Paired G l₁ l₂
 | _,_,.nil,_=>.nil
 | _,_,.cons r t,f=>.cons (f _ _ r) (Paired.mapP t f)
theorem ObjOk.stay (x:ObjOk P w H h a o) (k:∀ b u,(b=a\/H b=some (.own a))->h.get? b=some u->h'.get? b=some u)
  (ho:∀ b,H b=some (.own a)->H' b=some (.own a)) (ht:∀ b xs,H b=some (.tup xs)->H' b=some (.tup xs)):ObjOk P w H' h' a o:=by
 induction o with
 | lst xs=>obtain ⟨z,its,n,r,e⟩:=x; exact ⟨z,its,n,r,k _ _ (.inl rfl) e⟩
 | tup xs=>obtain ⟨z,its,r,ob,e,c⟩:=x; exact ⟨z,its,r,ob,k _ _ (.inl rfl) e,c⟩
 | dK kvs=>obtain ⟨z,y,vs,r,ob,es,ep,e,c⟩:=x; exact ⟨z,y,vs,r,ob,es,ep,k _ _ (.inl rfl) e,c⟩
 | dT kvs=>
  obtain ⟨z,y,xs,r,ob,es,ep,e,c⟩:=x
  exact ⟨z,y,xs,Paired.mapP r fun p q z=>⟨z.1,ht _ _ z.2.1,z.2.2⟩,ob,es,ep,k _ _ (.inl rfl) e,c⟩
 | set S n=>obtain ⟨ob,es,ep,t,e,c⟩:=x; exact ⟨ob,es,ep,t,k _ _ (.inl rfl) e,c⟩
 | ins C dx fs=>
  obtain ⟨d,z,ne,e,mA,⟨od,es,ep,e2,c⟩,r⟩:=x
  exact ⟨ho _ d,z,ne,k _ _ (.inl rfl) e,mA,⟨od,es,ep,k _ _ (.inr d) e2,c⟩,r⟩
 | own y=>obtain ⟨ob,e⟩:=x; exact ⟨ob,k _ _ (.inl rfl) e⟩
 | xd fs=>obtain ⟨mA,⟨od,es,ep,e,c⟩,r⟩:=x; exact ⟨mA,⟨od,es,ep,k _ _ (.inl rfl) e,c⟩,r⟩
 | rng lo hi=>obtain ⟨t,u,v,e⟩:=x; exact ⟨t,u,v,k _ _ (.inl rfl) e⟩
 | frz ob u ih=>obtain ⟨e,q⟩:=x; exact ⟨k _ _ (.inl rfl) e,ih q⟩
 | tbl ps=>
  have e:h.get? a=some { cls:=.none,data:=.fields ps }:=x
  show h'.get? a=some { cls:=.none,data:=.fields ps }
  exact k a _ (.inl rfl) e
 | met f y=>
  have e:h.get? a=some (PySem.W.methodObj (.ref f) (.ref y)):=x
  show h'.get? a=some (PySem.W.methodObj (.ref f) (.ref y))
  exact k a _ (.inl rfl) e
 | ext φ=>obtain ⟨p,⟨o,e⟩,st⟩:=x; exact ⟨st _ _ p fun o q=>k _ _ (.inl rfl) q,⟨o,k _ _ (.inl rfl) e⟩,st⟩
theorem HOk.lt (x:HOk P w H h) (e:H a=some o):a < h.objs.size:=(x a o e).lt
theorem HOk.fresh (x:HOk P w H h) (e:h.objs.size<=a):H a=none:=by
 cases q:H a with
 | none=>rfl
 | some u=>exact absurd (Nat.lt_of_lt_of_le (x.lt q) e) (Nat.lt_irrefl _)
theorem HOk.kept (x:HOk P w H h) (k:∀ b u,h.get? b=some u->h'.get? b=some u):HOk P w H h':=fun a o e=>
 (x a o e).stay (fun b u _ q=>k b u q) (fun _ q=>q) fun _ _ q=>q
theorem HOk.laid (x:HOk P w H h) (k:∀ b u,h.get? b=some u->h'.get? b=some u) (hp:h.objs.size<=a) (new:ObjOk P w (upd H a o) h' a o):HOk P w (upd H a o) h':=fun b u e=>by
 have hn:=x.fresh hp
 by_cases hb:b=a
 ·subst hb; rw [ups] at e; cases e; exact new
 ·rw [xaz hb] at e
  exact (x b u e).stay (fun c v _ q=>k c v q) (fun c q=>by rw [xaz (neN q hn)]; exact q) fun c xs q=>by rw [xaz (neN q hn)]; exact q
end
def Rd (H:Hp) (a:Addr) (u:HO):Prop:=H a=some u\/∃ o,H a=some (.frz o u)
theorem Rd.ok {P:Program} {w:World} {H:Hp} {h:Heap} {a:Addr} {u:HO} (r:Rd H a u) (x:HOk P w H h):ObjOk P w H h a u:=by
 rcases r with r | ⟨o,r⟩
 ·exact x a u r
 ·obtain ⟨_,q⟩:=x a _ r
  exact q
def Mut:Option HO->Prop
 | some (.lst _)=>True
 | some (.dK _)=>True
 | some (.dT _)=>True
 | some (.set _ _)=>True
 | some (.ins _ _ _)=>True
 | some (.ext _)=>True
 | _=>False
section
variable {P:Program} {w:World} {H:Hp} {h h':Heap} {x e:Addr} {o':HO}
theorem HOk.write (ok:HOk P w H h) (mu:Mut (H x)) (he:e=x\/H e=some (.own x)) (k:∀ b u,b≠e->h.get? b=some u->h'.get? b=some u) (heo:∃ u,h'.get? e=some u)
  (new:ObjOk P w (upd H x o') h' x o'):HOk P w (upd H x o') h':=fun b u q=>by
 have nown:∀ c y,H c=some (.own y)->c≠x:=fun c y r z=>by subst z; rw [r] at mu; exact mu
 have ntup:∀ c xs,H c=some (.tup xs)->c≠x:=fun c xs r z=>by subst z; rw [r] at mu; exact mu
 by_cases hb:b=x
 ·subst hb; rw [ups] at q; cases q; exact new
 ·rw [xaz hb] at q
  by_cases hbe:b=e
  ·have q':H b=some (.own x):=by
    rcases he with z | z
    ·exact absurd (hbe.trans z) hb
    ·rw [hbe]; exact z
   rw [q] at q'; cases q'
   obtain ⟨v,hv⟩:=heo
   exact ⟨v,by rw [hbe]; exact hv⟩
  ·refine (ok b u q).stay (fun c v hc r=>k c v ?_ r) (fun c r=>by rw [xaz (nown c b r)]; exact r) fun c xs r=>by rw [xaz (ntup c xs r)]; exact r
   rcases hc with rfl | hc
   ·exact hbe
   ·rintro rfl
    rcases he with z | z
    ·exact nown c b hc z
    ·rw [hc] at z; cases z; exact hb rfl
end
structure Un (fs ex:List Addr) (H H':Hp) (h h':Heap):Prop where
 keep:∀ b o,h.get? b=some o->H b=none->b ∉ fs->b ∉ ex->h'.get? b=some o
 slot:∀ b o,h.get? b=some o->H b=none->b∈fs->b ∉ ex->∃ sl,h'.get? b=some { o with slots:=sl }
 free:∀ b o,h.get? b=some o->H b=none->b ∉ ex->H' b=none
 there:∀ b o,h.get? b=some o->b ∉ ex->∃ o',h'.get? b=some o'
 tups:∀ b xs,H b=some (.tup xs)->H' b=some (.tup xs)
 frzs:∀ b o u,H b=some (.frz o u)->H' b=some (.frz o u)
 tbls:∀ b ps,H b=some (.tbl ps)->∃ more,H' b=some (.tbl (ps++more))
section
variable {fs fs' ex ex':List Addr} {H H1 H2:Hp} {h h1 h2 h':Heap} {a x e:Addr} {o:HO}
theorem Un.any (u:Un fs ex H H1 h h1) {b:Addr} {ob:Obj} (q:h.get? b=some ob) (n:H b=none) (hx:b ∉ ex):∃ sl,h1.get? b=some { ob with slots:=sl }:=by
 by_cases hb:b∈fs
 ·exact u.slot b ob q n hb hx
 ·exact ⟨ob.slots,u.keep b ob q n hb hx⟩
theorem Un.kept (k:∀ b u,h.get? b=some u->h'.get? b=some u):Un fs ex H H h h':=
 ⟨fun b ob q _ _ _=>k b ob q,fun b ob q _ _ _=>⟨ob.slots,k b ob q⟩,fun _ _ _ n _=>n,fun b ob q _=>⟨ob,k b ob q⟩,fun _ _ q=>q,fun _ _ _ q=>q,fun _ ps q=>⟨#[],by rw [q]; simp⟩⟩
theorem Un.refl:Un fs ex H H h h:=Un.kept fun _ _ q=>q
theorem Un.laid (k:∀ b u,h.get? b=some u->h'.get? b=some u) (hp:h.objs.size<=a) (hn:H a=none):Un fs ex H (upd H a o) h h' where
 keep:=fun b u q _ _ _=>k b u q
 slot:=fun b u q _ _ _=>⟨u.slots,k b u q⟩
 free:=fun b u q n _=>by rw [xaz (Nat.ne_of_lt (Nat.lt_of_lt_of_le (Heap.lt_size q) hp))]; exact n
 there:=fun b u q _=>⟨u,k b u q⟩
 tups:=fun b xs q=>by rw [xaz (neN q hn)]; exact q
 frzs:=fun b u xs q=>by rw [xaz (neN q hn)]; exact q
 tbls:=fun b ps q=>⟨#[],by rw [xaz (neN q hn),q]; simp⟩
theorem Un.write (mu:Mut (H x)) (he:e=x\/H e=some (.own x)) (k:∀ b u,b≠e->h.get? b=some u->h'.get? b=some u) (heo:∃ u,h'.get? e=some u):Un fs ex H (upd H x o) h h':=by
 have hx:∀ b,H b=none->b≠x:=fun b n z=>by subst z; rw [n] at mu; exact mu
 have hb:∀ b,H b=none->b≠e:=fun b n z=>by
  subst z
  rcases he with r | r
  ·exact hx b n r
  ·rw [n] at r; cases r
 have hm:∀ b u,H b=some u->¬ Mut (some u)->b≠x:=fun b u q nm z=>by subst z; rw [q] at mu; exact nm mu
 refine ⟨fun b u q n _ _=>k b u (hb b n) q,fun b u q n _ _=>⟨u.slots,k b u (hb b n) q⟩,fun b u q n _=>by rw [xaz (hx b n)]; exact n,fun b u q _=>?_,
  fun b xs q=>by rw [xaz (hm b _ q fun z=>z)]; exact q,fun b u xs q=>by rw [xaz (hm b _ q fun z=>z)]; exact q,fun b ps q=>⟨#[],by rw [xaz (hm b _ q fun z=>z),q]; simp⟩⟩
 by_cases hbe:b=e
 ·subst hbe; exact heo
 ·exact ⟨u,k b u hbe q⟩
end
def trk (h:Heap) (H:Hp):List Addr:=(List.range h.objs.size).filter fun a=>(H a).isSome
def hidT (h:Heap) (H:Hp):Heap:=PySem.W.hideAll h (trk h H)
theorem xpn (h:Heap) (H:Hp):(hidT h H).objs.size=h.objs.size:=PySem.W.hideAll_size _ _
theorem xrb {h:Heap} {H:Hp} {b:Addr} {o:Obj} (e:h.get? b=some o) (n:H b=none):(hidT h H).get? b=some o:=
 PySem.W.hideAll_get _ e fun hm=>by
  have q:(H b).isSome=true:=(List.mem_filter.mp hm).2
  rw [n] at q; simp at q
theorem xs7 {h:Heap} {H:Hp} {b:Addr} {o:Obj} (e:(hidT h H).get? b=some o):h.get? b=some o/\H b=none:=by
 have e':h.get? b=some o:=PySem.W.of_hideAll (trk h H) e
 refine ⟨e',?_⟩
 cases q:H b with
 | none=>rfl
 | some x=>
  have hm:b∈trk h H:=List.mem_filter.mpr ⟨List.mem_range.mpr (Heap.lt_size e'),by simp [q]⟩
  have z:(hidT h H).get? b=none:=PySem.W.hideAll_none (trk h H) hm
  rw [z] at e; cases e
end L2
namespace L2
open PySem PySem.Spec PyProof.Rows
structure Mod (K:PySem.W.Frag) (mg:Str->Option Value) (base:Heap):Prop where
 kin:K.In base
 glob:base.Ns mainGlobals mg
 blt:∃ mb,base.Ns builtinsNs mb/\∀ x:Str,x≠"__name__"->mb x=bootBuiltins x
 nolimit:base.NoLimit
structure Cx where
 prog:Program
 w:World
 K:PySem.W.Frag
 mg:Str->Option Value
 base:Heap
 A:Around
 N:List Str
 s₀:Shared
 H₀:Hp
 env:Env
 outer:List Env
 stack:List Env
 ex:List Addr
 fn:Str->Bool
 calm:Bool
 pn:List (Addr×Obj)
 xe:Value->Shared->Prop
def frs (l:List Env):List Addr:=l.filterMap (·.frame)
abbrev Cx.fs (X:Cx):List Addr:=frs X.outer
def Vis (sc:Scope) (x:Str):Prop:=sc.names.lookup x=some .local\/sc.names.lookup x=some .cell\/sc.names.lookup x=some .free
def Loc (sc:Scope) (x:Str):Prop:=sc.names.lookup x=some .local\/sc.names.lookup x=some .cell
def Look (env:Env) (h:Heap) (m:Str->Option Value) (x:Str) (u:Value):Prop:=
 (env.kindOf x=some .local/\m x=some u)\/((env.kindOf x=some .cell\/env.kindOf x=some .free)/\∃ c,env.cells.lookup x=some c/\h.IsCell c (some u))
structure Cx.Ok (X:Cx):Prop where
 mod:Mod X.K X.mg X.base
 kind:X.env.scope.kind=.function
 glob:X.env.globals=mainGlobals
 blt:X.env.builtins=builtinsNs
 above:X.s₀.heap.objs.size<=X.env.locals
 inj:∀ x y c,X.env.cells.lookup x=some c->X.env.cells.lookup y=some c->x=y
 has:∀ x,(X.env.kindOf x=some .cell\/X.env.kindOf x=some .free)->∃ c,X.env.cells.lookup x=some c
 cab:∀ x c,X.fn x=true->X.env.cells.lookup x=some c->X.s₀.heap.objs.size<=c
 hd:X.calm=true->X.A.handled=none
 frames:X.A.frames=some X.stack
 stk:X.stack=X.outer\/(X.stack=X.env :: X.outer/\X.env.frame=some X.env.locals)
 exf:∀ b∈X.ex,b≠X.env.locals/\∀ x c,X.env.cells.lookup x=some c->c≠b
 bs:∀ b o,X.base.get? b=some o->X.s₀.heap.get? b=some o/\X.H₀ b=none
 bsz:X.base.objs.size<=X.s₀.heap.objs.size
 noex:∀ b o,X.base.get? b=some o->b ∉ X.ex
 exfs:∀ b∈X.ex,b ∉ X.fs
 funs:X.s₀.heap.FunFrames X.base X.outer
 frf:∀ b∈X.fs,X.H₀ b=none
structure Inv (X:Cx) (pins:List (Addr×Obj)) (σ:List (Option V)) (H:Hp) (s:Shared):Prop where
 ok:X.Ok
 os:s.os=X.s₀.os
 bare:AllBare s.gens
 base:Un X.fs X.ex X.H₀ H X.s₀.heap s.heap
 loc:∃ m,s.heap.Ns X.env.locals m/\∀ (i:Nat) (x:Str) (v:V),X.N[i]?=some x->σ[i]?=some (some v)->Vis X.env.scope x->∃ u,RelV v u/\Look X.env s.heap m x u
 cell:∀ x c,X.env.cells.lookup x=some c->∃ v,s.heap.IsCell c v
 free:H X.env.locals=none
 freeC:∀ x c,X.env.cells.lookup x=some c->H c=none
 pin:∀ p∈X.pn++pins,s.heap.get? p.1=some p.2/\H p.1=none/\p.1≠X.env.locals/\p.1 ∉ X.fs/\∀ v,p.2.data≠.cell v
 hok:HOk X.prog X.w H s.heap
 len:σ.length=X.N.length
section
variable {X:Cx} {pins:List (Addr×Obj)} {σ:List (Option V)} {H H':Hp} {s:Shared} {h':Heap}
theorem Cx.Ok.nofr (ok:X.Ok) {b:Addr} {o:Obj} (e:X.base.get? b=some o):b ∉ X.fs:=fun hb=>by
 have:=(ok.funs.mem hb).1
 rw [e] at this; cases this
theorem Inv.bs (I:Inv X pins σ H s):∀ b o,X.base.get? b=some o->s.heap.get? b=some o/\H b=none:=fun b o e=>
 ⟨I.base.keep b o (I.ok.bs b o e).1 (I.ok.bs b o e).2 (I.ok.nofr e) (I.ok.noex b o e),I.base.free b o (I.ok.bs b o e).1 (I.ok.bs b o e).2 (I.ok.noex b o e)⟩
theorem Inv.bk (I:Inv X pins σ H s):∀ b o,X.base.get? b=some o->s.heap.get? b=some o:=fun b o e=>(I.bs b o e).1
theorem Inv.mod (I:Inv X pins σ H s):Mod X.K X.mg X.base:=I.ok.mod
theorem Inv.kIn (I:Inv X pins σ H s):X.K.In s.heap:=I.ok.mod.kin.keeps I.bk
theorem Inv.lt (I:Inv X pins σ H s):X.env.locals < s.heap.objs.size:=let ⟨_,hn,_⟩:=I.loc; hn.lt
theorem Inv.sz (I:Inv X pins σ H s):X.s₀.heap.objs.size<=s.heap.objs.size:=Nat.le_trans I.ok.above (Nat.le_of_lt I.lt)
theorem Inv.nofs (I:Inv X pins σ H s) {a:Addr} (h:s.heap.objs.size<=a):a ∉ X.fs:=fun hb=>by
 obtain ⟨_,o,ho,_⟩:=I.ok.funs.mem hb
 exact absurd (Nat.lt_of_lt_of_le (Heap.lt_size ho) (Nat.le_trans I.sz h)) (Nat.lt_irrefl _)
theorem Inv.cne (I:Inv X pins σ H s):∀ x c,X.env.cells.lookup x=some c->c≠X.env.locals:=fun x c e z=>by
 obtain ⟨v,o,ho,hd⟩:=I.cell x c e
 obtain ⟨m,⟨o',es,ep,ho',hd',_⟩,_⟩:=I.loc
 rw [z,ho'] at ho; cases ho; rw [hd'] at hd; cases hd
theorem Inv.funs (I:Inv X pins σ H s):s.heap.FunFrames X.base X.outer:=by
 have all:∀ (l:List Env),(∀ b∈frs l,b∈X.fs)->X.s₀.heap.FunFrames X.base l->s.heap.FunFrames X.base l:=by
  intro l
  induction l with
  | nil=>intro _ _; trivial
  | cons env r ih=>
   intro hs hl
   obtain ⟨hk,⟨L,o,hf,hn,ho,hd⟩,hr⟩:=hl
   have hL:L∈X.fs:=hs L (by unfold frs; rw [List.filterMap_cons,hf]; exact List.mem_cons_self)
   obtain ⟨sl,e⟩:=I.base.slot L o ho (I.ok.frf L hL) hL fun z=>I.ok.exfs L z hL
   exact ⟨hk,⟨L,_,hf,hn,e,hd⟩,ih (fun b hb=>hs b (by unfold frs; rw [List.filterMap_cons,hf]; exact List.mem_cons_of_mem _ hb)) hr⟩
 exact all X.outer (fun _ hb=>hb) I.ok.funs
theorem Inv.stack (I:Inv X pins σ H s):s.heap.FunFrames X.base X.stack:=by
 rcases I.ok.stk with e | ⟨e,hf⟩
 ·rw [e]; exact I.funs
 ·rw [e]
  obtain ⟨m,hn,_⟩:=I.loc
  refine .cons (by rw [I.ok.kind]; decide) hf hn ?_ I.funs
  exact Heap.get?_none_of_le (Nat.le_trans I.ok.bsz I.ok.above)
theorem Inv.stkSub (I:Inv X pins σ H s):∀ b∈frs X.stack,b∈X.env.locals :: X.fs:=fun b hb=>by
 rcases I.ok.stk with e | ⟨e,hf⟩
 ·rw [e] at hb; exact List.mem_cons_of_mem _ hb
 ·rw [e] at hb
  unfold frs at hb
  rw [List.filterMap_cons,hf] at hb
  exact hb
theorem Inv.stkFree (I:Inv X pins σ H s):∀ b∈frs X.stack,H b=none:=fun b hb=>by
 rcases zMC (I.stkSub b hb) with e | hb
 ·rw [e]; exact I.free
 ·obtain ⟨_,o,ho,_⟩:=I.ok.funs.mem hb
  exact I.base.free b o ho (I.ok.frf b hb) fun z=>I.ok.exfs b z hb
theorem Inv.step {g':Array GenState} {t':Nat} {d':Drawn} {ch:List Addr} (I:Inv X pins σ H s)
  (hch:∀ b∈ch,(b∈X.ex\/X.s₀.heap.objs.size<=b)/\b≠X.env.locals/\(∀ x c,X.env.cells.lookup x=some c->c≠b)/\∀ p∈X.pn++pins,p.1≠b)
  (keep:∀ b o,b≠X.env.locals->b ∉ X.fs->b ∉ ch->s.heap.get? b=some o->H b=none->h'.get? b=some o)
  (slot:∀ b o,b≠X.env.locals->b∈X.fs->b ∉ ch->s.heap.get? b=some o->H b=none->∃ sl,h'.get? b=some { o with slots:=sl }) (free:∀ b o,b ∉ ch->s.heap.get? b=some o->H b=none->H' b=none)
  (there:∀ b o,b ∉ ch->s.heap.get? b=some o->∃ o',h'.get? b=some o')
  (tups:∀ b xs,H b=some (.tup xs)->H' b=some (.tup xs)) (frzs:∀ b o u,H b=some (.frz o u)->H' b=some (.frz o u)) (tbls:∀ b ps,H b=some (.tbl ps)->∃ more,H' b=some (.tbl (ps++more)))
  (ns:∀ m,s.heap.Ns X.env.locals m->h'.Ns X.env.locals m) (hok:HOk X.prog X.w H' h') (hg:AllBare g') :
  Inv X pins σ H' { s with heap:=h',gens:=g',drawn:=d',toks:=t' }:=by
 have neL:∀ b o,X.s₀.heap.get? b=some o->b≠X.env.locals:=fun b o e=>Nat.ne_of_lt (Nat.lt_of_lt_of_le (Heap.lt_size e) I.ok.above)
 have neC:∀ b o,X.s₀.heap.get? b=some o->b ∉ X.ex->b ∉ ch:=fun b o e hx hb=>by
  rcases (hch b hb).1 with z | z
  ·exact hx z
  ·exact absurd (Nat.lt_of_lt_of_le (Heap.lt_size e) z) (Nat.lt_irrefl _)
 have cellK:∀ x c,X.env.cells.lookup x=some c->∀ v,s.heap.IsCell c v->h'.IsCell c v:=fun x c e v ⟨o,ho,hd⟩=>by
  have nch:c ∉ ch:=fun z=>(hch c z).2.2.1 x c e rfl
  by_cases hc:c∈X.fs
  ·obtain ⟨sl,q⟩:=slot c o (I.cne x c e) hc nch ho (I.freeC x c e)
   exact ⟨_,q,hd⟩
  ·exact ⟨o,keep c o (I.cne x c e) hc nch ho (I.freeC x c e),hd⟩
 refine ⟨I.ok,I.os,hg,⟨fun b o e n hb hx=>?_,fun b o e n hb hx=>?_,fun b o e n hx=>?_,fun b o e hx=>?_,fun b xs e=>tups b xs (I.base.tups b xs e),fun b o xs e=>frzs b o xs (I.base.frzs b o xs e),fun b ps e=>?_⟩,?_,fun x c e=>?_,?_,fun x c e=>?_,fun p hp=>?_,hok,I.len⟩
 ·exact keep b o (neL b o e) hb (neC b o e hx) (I.base.keep b o e n hb hx) (I.base.free b o e n hx)
 ·obtain ⟨sl,e1⟩:=I.base.slot b o e n hb hx
  obtain ⟨sl',e2⟩:=slot b _ (neL b o e) hb (neC b o e hx) e1 (I.base.free b o e n hx)
  exact ⟨sl',e2⟩
 ·obtain ⟨o',e1⟩:=I.base.there b o e hx
  exact free b o' (neC b o e hx) e1 (I.base.free b o e n hx)
 ·obtain ⟨o',e1⟩:=I.base.there b o e hx
  exact there b o' (neC b o e hx) e1
 ·obtain ⟨m1,e1⟩:=I.base.tbls b ps e
  obtain ⟨m2,e2⟩:=tbls b _ e1
  exact ⟨m1++m2,by rw [e2,Array.append_assoc]⟩
 ·obtain ⟨m,hn,hl⟩:=I.loc
  refine ⟨m,ns m hn,fun i x v e1 e2 e3=>?_⟩
  obtain ⟨u,r,l⟩:=hl i x v e1 e2 e3
  refine ⟨u,r,?_⟩
  rcases l with l | ⟨k,c,e,z⟩
  ·exact .inl l
  ·exact .inr ⟨k,c,e,cellK x c e _ z⟩
 ·obtain ⟨v,z⟩:=I.cell x c e
  exact ⟨v,cellK x c e v z⟩
 ·obtain ⟨m,⟨o,_,_,ho,_⟩,_⟩:=I.loc
  exact free _ o (fun z=>(hch _ z).2.1 rfl) ho I.free
 ·obtain ⟨v,o,ho,hd⟩:=I.cell x c e
  exact free c o (fun z=>(hch c z).2.2.1 x c e rfl) ho (I.freeC x c e)
 ·obtain ⟨e,n,ne,nf,d⟩:=I.pin p hp
  have nch:p.1 ∉ ch:=fun z=>(hch p.1 z).2.2.2 p hp rfl
  exact ⟨keep p.1 p.2 ne nf nch e n,free p.1 p.2 nch e n,ne,nf,d⟩
theorem Inv.un {t':Nat} (I:Inv X pins σ H s) (u:Un X.fs [] H H' s.heap h') (hok:HOk X.prog X.w H' h'):Inv X pins σ H' { s with heap:=h',toks:=t' }:=by
 obtain ⟨m,⟨o,es,ep,ho,r⟩,_⟩:=id I.loc
 obtain ⟨sl,hL⟩:=u.any ho I.free (by simp)
 exact I.step (g':=s.gens) (d':=s.drawn) (ch:=[]) (fun _ z=>nomatch z) (fun b o _ hb _ e n=>u.keep b o e n hb (by simp)) (fun b o _ hb _ e n=>u.slot b o e n hb (by simp)) (fun b o _ e n=>u.free b o e n (by simp)) (fun b o _ e=>u.there b o e (by simp)) u.tups u.frzs u.tbls (fun m' hm=>by
  obtain ⟨o',es',ep',ho',r'⟩:=hm
  rw [ho] at ho'; cases ho'
  exact ⟨_,es',ep',hL,r'⟩) hok I.bare
theorem Inv.call {g':Array GenState} {t':Nat} {d':Drawn} {ch:List Addr} (I:Inv X pins σ H s) (u:Un (frs X.stack) ch H H' s.heap h') (hok:HOk X.prog X.w H' h') (hg:AllBare g')
  (hch:∀ b∈ch,(b∈X.ex\/X.s₀.heap.objs.size<=b)/\b≠X.env.locals/\(∀ x c,X.env.cells.lookup x=some c->c≠b)/\∀ p∈X.pn++pins,p.1≠b) :
  Inv X pins σ H' { s with heap:=h',gens:=g',drawn:=d',toks:=t' }:=by
 obtain ⟨m,⟨o,es,ep,ho,r⟩,_⟩:=id I.loc
 obtain ⟨sl,hL⟩:=u.any ho I.free fun z=>(hch _ z).2.1 rfl
 exact I.step (ch:=ch) hch (fun b o hL hb hc e n=>u.keep b o e n (fun z=>(zMC (I.stkSub b z)).elim hL hb) hc) (fun b o _ _ hc e n=>u.any e n hc) (fun b o hc e n=>u.free b o e n hc) (fun b o hc e=>u.there b o e hc) u.tups u.frzs u.tbls (fun m' hm=>by
  obtain ⟨o',es',ep',ho',r'⟩:=hm
  rw [ho] at ho'; cases ho'
  exact ⟨_,es',ep',hL,r'⟩) hok hg
theorem Inv.turned {t':Nat} {it:Addr} (I:Inv X pins σ H s) (k:∀ b o,b≠it->s.heap.get? b=some o->h'.get? b=some o) (hn:H it=none) (hL:it≠X.env.locals)
  (h1:it∈X.ex\/X.s₀.heap.objs.size<=it) (h2:∀ x c,X.env.cells.lookup x=some c->c≠it) (h3:∀ p∈X.pn++pins,p.1≠it):Inv X pins σ H { s with heap:=h',toks:=t' }:=by
 have nit:∀ b u,H b=some u->b≠it:=fun b u e z=>by rw [z,hn] at e; cases e
 refine I.step (g':=s.gens) (d':=s.drawn) (ch:=[it]) (fun b hb=>?_) (fun b o _ _ hc e _=>k b o (fun z=>hc (by simp [z])) e) (fun b o _ _ hc e _=>⟨o.slots,k b o (fun z=>hc (by simp [z])) e⟩) (fun _ _ _ _ n=>n)
  (fun b o hc e=>⟨o,k b o (fun z=>hc (by simp [z])) e⟩) (fun _ _ e=>e) (fun _ _ _ e=>e) (fun b ps e=>⟨#[],by rw [e]; simp⟩) (fun m hm=>?_) (fun b u e=>?_) I.bare
 ·have e:b=it:=by simpa using hb
  subst e
  exact ⟨h1,hL,h2,h3⟩
 ·obtain ⟨o,es,ep,ho,r⟩:=hm
  exact ⟨o,es,ep,k _ o (Ne.symm hL) ho,r⟩
 ·refine (I.hok b u e).stay (fun c v hc q=>k c v ?_ q) (fun _ q=>q) fun _ _ q=>q
  rcases hc with z | z
  ·rw [z]; exact nit b u e
  ·exact nit c _ z
theorem Inv.tok (I:Inv X pins σ H s) (t:Nat):Inv X pins σ H { s with toks:=t }:=I.un (h':=s.heap) (t':=t) Un.refl I.hok
theorem Inv.kept {t':Nat} (I:Inv X pins σ H s) (k:∀ b u,s.heap.get? b=some u->h'.get? b=some u):Inv X pins σ H { s with heap:=h',toks:=t' }:=I.un (Un.kept k) (I.hok.kept k)
theorem Inv.laid {a:Addr} {o:HO} {t':Nat} (I:Inv X pins σ H s) (k:∀ b u,s.heap.get? b=some u->h'.get? b=some u) (hp:s.heap.objs.size<=a) (new:ObjOk X.prog X.w (upd H a o) h' a o) :
  Inv X pins σ (upd H a o) { s with heap:=h',toks:=t' }:=I.un (Un.laid k hp (I.hok.fresh hp)) (I.hok.laid k hp new)
theorem Inv.write {x e:Addr} {o:HO} {t':Nat} (I:Inv X pins σ H s) (mu:Mut (H x)) (he:e=x\/H e=some (.own x)) (k:∀ b u,b≠e->s.heap.get? b=some u->h'.get? b=some u) (heo:∃ u,h'.get? e=some u)
  (new:ObjOk X.prog X.w (upd H x o) h' x o):Inv X pins σ (upd H x o) { s with heap:=h',toks:=t' }:=I.un (Un.write mu he k heo) (I.hok.write mu he k heo new)
theorem Inv.weak {σ':List (Option V)} (I:Inv X pins σ H s) (hl:σ'.length=σ.length) (w:∀ (i:Nat) v,σ'[i]?=some (some v)->σ[i]?=some (some v)):Inv X pins σ' H s:=
 ⟨I.ok,I.os,I.bare,I.base,let ⟨m,hn,hl'⟩:=I.loc; ⟨m,hn,fun i x v e1 e2 e3=>hl' i x v e1 (w i v e2) e3⟩,I.cell,I.free,I.freeC,I.pin,I.hok,hl.trans I.len⟩
theorem Inv.pins_of {pins':List (Addr×Obj)} (I:Inv X pins σ H s) (h:∀ p∈pins',s.heap.get? p.1=some p.2/\H p.1=none/\p.1≠X.env.locals/\p.1 ∉ X.fs/\∀ v,p.2.data≠.cell v):Inv X pins' σ H s:=
 ⟨I.ok,I.os,I.bare,I.base,I.loc,I.cell,I.free,I.freeC,fun p hp=>(zMA hp).elim (fun z=>I.pin p (List.mem_append_left _ z)) (h p),I.hok,I.len⟩
theorem xme {N:List Str} (hN:N.Nodup) {i j:Nat} {x:Str} (a:N[i]?=some x) (b:N[j]?=some x):i=j:=by
 obtain ⟨h1,e1⟩:=zES a
 obtain ⟨h2,e2⟩:=zES b
 exact (List.getElem_inj hN).mp (e1.trans e2.symm)
theorem xi2 {M:Model} {A:Around} {E:Value->Shared->Prop} {i:Nat} {x:Str} {v:V} {u:Value} {Q:Unit->Shared->Prop} (I:Inv X pins σ H s) (hN:X.N.Nodup) (hi:X.N[i]?=some x) (hx:Loc X.env.scope x) (r:RelV v u)
  (h:∀ s',Inv X pins (σ.set i (some v)) H s'->(∃ a,Heap.SameBut a s.heap s'.heap/\(a=X.env.locals\/X.env.cells.lookup x=some a))->Q () s') (hf:X.fn x=true\/X.env.scope.names.lookup x=some .local:=by first | exact .inl rfl | exact .inr rfl | assumption):wpAny M A (storeName X.env x u) Q E s:=by
 obtain ⟨m,hn,hl⟩:=id I.loc
 have hcls:(X.env.scope.kind == .class || (X.env.scope.kind == .module && X.env.locals != X.env.globals))=false:=by rw [I.ok.kind]; rfl
 have hiσ:i < σ.length:=by rw [I.len]; exact (zES hi).1
 have cne:=I.cne
 have tracked:∀ {a:Addr} {h':Heap},(∃ o,s.heap.get? a=some o/\H a=none)->Heap.SameBut a s.heap h'->HOk X.prog X.w H h':=fun {a h'} ha hs b ob e=>by
  obtain ⟨_,_,hfree⟩:=ha
  refine (I.hok b ob e).stay (fun c w' hc q=>(hs.2 c ?_).trans q) (fun _ q=>q) fun _ _ q=>q
  rintro rfl
  rcases hc with rfl | hc
  ·rw [hfree] at e; cases e
  ·rw [hfree] at hc; cases hc
 rcases hx with hk | hk
 ·refine wpAny_storeName_local hk hn (fun h' hn' hs=>?_) hcls
  obtain ⟨oL,_,_,hoL,_⟩:=id hn
  refine h _ ⟨I.ok,I.os,I.bare,⟨fun b o e n hb hx=>?_,fun b o e n hb hx=>?_,I.base.free,fun b o e hx=>?_,I.base.tups,I.base.frzs,I.base.tbls⟩,⟨_,hn',fun j y v' e1 e2 e3=>?_⟩,fun y c e=>?_,I.free,I.freeC,fun p hp=>?_,tracked ⟨oL,hoL,I.free⟩ hs,by simpa using I.len⟩ ⟨_,hs,.inl rfl⟩
  ·exact (hs.2 b (Nat.ne_of_lt (Nat.lt_of_lt_of_le (Heap.lt_size e) I.ok.above))).trans (I.base.keep b o e n hb hx)
  ·obtain ⟨sl,e1⟩:=I.base.slot b o e n hb hx
   exact ⟨sl,(hs.2 b (Nat.ne_of_lt (Nat.lt_of_lt_of_le (Heap.lt_size e) I.ok.above))).trans e1⟩
  ·obtain ⟨o',e1⟩:=I.base.there b o e hx
   exact ⟨o',(hs.2 b (Nat.ne_of_lt (Nat.lt_of_lt_of_le (Heap.lt_size e) I.ok.above))).trans e1⟩
  ·by_cases hj:j=i
   ·subst hj
    rw [hi] at e1; cases e1
    rw [List.getElem?_set_self hiσ] at e2
    cases e2
    exact ⟨u,r,.inl ⟨hk,by simp⟩⟩
   ·rw [List.getElem?_set_ne (Ne.symm hj)] at e2
    obtain ⟨u',r',q⟩:=hl j y v' e1 e2 e3
    refine ⟨u',r',?_⟩
    rcases q with ⟨k,e⟩ | ⟨k,c,e,z⟩
    ·refine .inl ⟨k,?_⟩
     have:y≠x:=fun e=>hj (xme hN e1 (e ▸ hi))
     simp [this,e]
    ·exact .inr ⟨k,c,e,z.sameBut hs (cne y c e)⟩
  ·obtain ⟨w',z⟩:=I.cell y c e
   exact ⟨w',z.sameBut hs (cne y c e)⟩
  ·obtain ⟨e,n,ne,nf,d⟩:=I.pin p hp
   exact ⟨(hs.2 p.1 ne).trans e,n,ne,nf,d⟩
 ·have hfn:X.fn x=true:=by
   rcases hf with z | z
   ·exact z
   ·rw [z] at hk; cases hk
  obtain ⟨c,hc⟩:=I.ok.has x (.inl hk)
  obtain ⟨w',z⟩:=I.cell x c hc
  refine wpAny_storeName_cell I.ok.kind hk hc z (fun h' hc' hs=>?_)
  obtain ⟨oc,hoc,hocd⟩:=id z
  refine h { s with heap:=h' } ⟨I.ok,I.os,I.bare,⟨fun b o e n hb hx=>?_,fun b o e n hb hx=>?_,I.base.free,fun b o e hx=>?_,I.base.tups,I.base.frzs,I.base.tbls⟩,⟨m,hn.sameBut hs (Ne.symm (cne x c hc)),fun j y v' e1 e2 e3=>?_⟩,fun y c' e=>?_,I.free,I.freeC,fun p hp=>?_,tracked ⟨oc,hoc,I.freeC x c hc⟩ hs,by simpa using I.len⟩ ⟨c,hs,.inr hc⟩
  ·exact (hs.2 b (Nat.ne_of_lt (Nat.lt_of_lt_of_le (Heap.lt_size e) (I.ok.cab x c hfn hc)))).trans (I.base.keep b o e n hb hx)
  ·obtain ⟨sl,e1⟩:=I.base.slot b o e n hb hx
   exact ⟨sl,(hs.2 b (Nat.ne_of_lt (Nat.lt_of_lt_of_le (Heap.lt_size e) (I.ok.cab x c hfn hc)))).trans e1⟩
  ·obtain ⟨o',e1⟩:=I.base.there b o e hx
   exact ⟨o',(hs.2 b (Nat.ne_of_lt (Nat.lt_of_lt_of_le (Heap.lt_size e) (I.ok.cab x c hfn hc)))).trans e1⟩
  ·by_cases hj:j=i
   ·subst hj
    rw [hi] at e1; cases e1
    rw [List.getElem?_set_self hiσ] at e2
    cases e2
    exact ⟨u,r,.inr ⟨.inl hk,c,hc,hc'⟩⟩
   ·rw [List.getElem?_set_ne (Ne.symm hj)] at e2
    obtain ⟨u',r',q⟩:=hl j y v' e1 e2 e3
    refine ⟨u',r',?_⟩
    rcases q with q | ⟨k,c',e,z'⟩
    ·exact .inl q
    ·refine .inr ⟨k,c',e,z'.sameBut hs ?_⟩
     rintro rfl
     exact hj (xme hN e1 (I.ok.inj _ _ _ e hc ▸ hi))
  ·by_cases hcc:c'=c
   ·subst hcc; exact ⟨_,hc'⟩
   ·obtain ⟨w2,z2⟩:=I.cell y c' e
    exact ⟨w2,z2.sameBut hs hcc⟩
  ·obtain ⟨e,n,ne,nf,d⟩:=I.pin p hp
   refine ⟨(hs.2 p.1 ?_).trans e,n,ne,nf,d⟩
   intro q
   rw [q,hoc] at e
   have q':oc=p.2:=Option.some.inj e
   exact d w' (by rw [<- q']; exact hocd)
theorem xl7 {M:Model} {A:Around} {E:Value->Shared->Prop} {i:Nat} {x:Str} {v:V} {u:Value} {Q:Unit->Shared->Prop} (I:Inv X pins σ H s) (hN:X.N.Nodup) (hi:X.N[i]?=some x) (hx:Loc X.env.scope x) (r:RelV v u)
  (h:∀ s',Inv X pins (σ.set i (some v)) H s'->Q () s') (hf:X.fn x=true\/X.env.scope.names.lookup x=some .local:=by first | exact .inl rfl | exact .inr rfl | assumption):wpAny M A (storeName X.env x u) Q E s:=
 xi2 I hN hi hx r (fun s' I' _=>h s' I') hf
theorem Inv.call' {s':Shared} {ch:List Addr} (I:Inv X pins σ H s) (ho:s'.os=s.os) (u:Un (frs X.stack) ch H H' s.heap s'.heap) (hok:HOk X.prog X.w H' s'.heap) (hg:AllBare s'.gens)
  (hch:∀ b∈ch,(b∈X.ex\/X.s₀.heap.objs.size<=b)/\b≠X.env.locals/\(∀ x c,X.env.cells.lookup x=some c->c≠b)/\∀ p∈X.pn++pins,p.1≠b):Inv X pins σ H' s':=by
 obtain ⟨h',g',d',t',o'⟩:=s'
 have e:o'=s.os:=ho
 subst e
 exact I.call (g':=g') (t':=t') (d':=d') u hok hg hch
end
abbrev XK:=Value->Option Addr->Hp->Prop
abbrev St:=List (Option V)
abbrev VK:=V->Hp->Prop
abbrev TE:=St->Hp->VK->Prop
abbrev TT:=St->Hp->(Bool->Hp->Prop)->Prop
abbrev TA:=St->Hp->(List V->Hp->Prop)->Prop
structure Ends where
 nx:St->Hp->Prop
 rt:VK
 bk:St->Hp->Prop:=fun _ _=>False
 ct:St->Hp->Prop:=fun _ _=>False
abbrev TS:=Ends->St->Hp->Prop
def EP (X:Cx) (pins:List (Addr×Obj)) (σ:St) (Q:VK) (u:Value) (s':Shared):Prop:=∃ v H',Inv X pins σ H' s'/\RelV v u/\Q v H'
def TP (X:Cx) (pins:List (Addr×Obj)) (σ:St) (Q:Bool->Hp->Prop) (b:Bool) (s':Shared):Prop:=∃ H',Inv X pins σ H' s'/\Q b H'
def AP (X:Cx) (pins:List (Addr×Obj)) (σ:St) (Q:List V->Hp->Prop) (us:List Value) (s':Shared):Prop:=∃ vs H',Inv X pins σ H' s'/\Vals vs us/\Q vs H'
def SP (X:Cx) (pins:List (Addr×Obj)) (D:Ends) (f:Flow) (s':Shared):Prop:=
 match f with
 | .next=>∃ σ' H',Inv X pins σ' H' s'/\D.nx σ' H'
 | .brk=>∃ σ' H',Inv X pins σ' H' s'/\D.bk σ' H'
 | .cont=>∃ σ' H',Inv X pins σ' H' s'/\D.ct σ' H'
 | .ret u=>∃ v σ' H',Inv X pins σ' H' s'/\RelV v u/\D.rt v H'
def PE (X:Cx) (e:Expr) (t:TE):Prop:=
 ∀ (pins:List (Addr×Obj)) (s:Shared) (σ:St) (H:Hp) (Q:VK),Inv X pins σ H s->t σ H Q->wpAny (model X.prog X.w) X.A (eval e X.env) (EP X pins σ Q) X.xe s
def PT (X:Cx) (e:Expr) (t:TT):Prop:=
 ∀ (pins:List (Addr×Obj)) (s:Shared) (σ:St) (H:Hp) (Q:Bool->Hp->Prop),Inv X pins σ H s->t σ H Q->wpAny (model X.prog X.w) X.A (isTrue e X.env (eval e X.env)) (TP X pins σ Q) X.xe s
def PW (X:Cx) (e:Expr) (t:TT):Prop:=
 ∀ (whole:Sem Value) (pins:List (Addr×Obj)) (s:Shared) (σ:St) (H:Hp) (Q:Bool->Hp->Prop),Inv X pins σ H s->t σ H Q->wpAny (model X.prog X.w) X.A (isTrue e X.env whole) (TP X pins σ Q) X.xe s
theorem PW.pt {X:Cx} {e:Expr} {t:TT} (h:PW X e t):PT X e t:=h _
def PA (X:Cx) (es:List Expr) (t:TA):Prop:=
 ∀ (pos:Pos) (pins:List (Addr×Obj)) (s:Shared) (σ:St) (H:Hp) (Q:List V->Hp->Prop),Inv X pins σ H s->t σ H Q->wpAny (model X.prog X.w) X.A (spliced (backTo pos (starEach es X.env))) (AP X pins σ Q) X.xe s
def PS (X:Cx) (st:Stmt) (t:TS):Prop:=
 ∀ (pins:List (Addr×Obj)) (s:Shared) (σ:St) (H:Hp) (D:Ends),Inv X pins σ H s->t D σ H->wpAny (model X.prog X.w) X.A (exec st X.env) (SP X pins D) X.xe s
def PSs (X:Cx) (st:List Stmt) (t:TS):Prop:=
 ∀ (pins:List (Addr×Obj)) (s:Shared) (σ:St) (H:Hp) (D:Ends),Inv X pins σ H s->t D σ H->wpAny (model X.prog X.w) X.A (execs st X.env) (SP X pins D) X.xe s
theorem thn {α:Type} {t:Sem α} {Q Q':α->Shared->Prop} {M:Model} {A:Around} {E:Value->Shared->Prop} {s:Shared} (h:wpAny M A t Q E s) (hQ:∀ a s,Q a s->Q' a s):wpAny M A t Q' E s:=wpAny_mono h hQ fun _ _ x=>x
end L2
namespace L2
open PySem PySem.Spec PyProof.Rows
section
variable {X:Cx}
def tVar (i:Nat):TE:=fun σ H Q=>∃ v,σ[i]?=some (some v)/\Q v H
def tC (v:V):TE:=fun _ H Q=>Q v H
theorem xuw {i:Nat} {x:Str} {pos:Pos} (hN:X.N[i]?=some x) (hv:Vis X.env.scope x) (hd:(x == ("__debug__":Str))=false:=by decide) (hcd:(x == ("__classdict__":Str))=false:=by decide):PE X (.Name x pos) (tVar i):=by
 intro pins s σ H Q I h
 obtain ⟨v,e,h⟩:=h
 obtain ⟨m,hn,hl⟩:=I.loc
 obtain ⟨u,r,l⟩:=hl i x v hN e hv
 have fin:EP X pins σ Q u s:=⟨v,H,I,r,h⟩
 rcases l with ⟨hk,hm⟩ | ⟨hk,c,hc,hcell⟩
 ·exact wpAny_Name (wpAny_loadName_local I.ok.kind hk hn hm fin) hd
 ·rcases hk with hk | hk
  ·exact wpAny_Name (wpAny_loadName_cell I.ok.kind hk hc hcell fin) hd
  ·exact wpAny_Name (wpAny_loadName_free I.ok.kind hk hc hcell fin hcd) hd
theorem pI {i j pos}:PE X (.Constant (.int i) j pos) (tC (.int i)):=fun _ _ _ H _ I h=>wpAny_Constant_int ⟨.int i,H,I.tok _,⟨_,rfl⟩,h⟩
theorem xni {b j pos}:PE X (.Constant (.bool b) j pos) (tC (.bl b)):=fun _ _ _ H _ I h=>Constant_bool ⟨.bl b,H,I,rfl,h⟩
theorem xe0 {j pos}:PE X (.Constant .none j pos) (tC .non):=fun _ _ _ H _ I h=>Constant_none ⟨.non,H,I,rfl,h⟩
theorem pS {x j pos}:PE X (.Constant (.str x) j pos) (tC (.str x)):=fun _ _ _ H _ I h=>Calls.Constant_str ⟨.str x,H,I.tok _,⟨_,rfl⟩,h⟩
def Gl (X:Cx) (x:Str):Prop:=X.env.kindOf x=some .globalImplicit
theorem xg4 {E:Value->Shared->Prop} {pins:List (Addr×Obj)} {s:Shared} {σ:St} {H:Hp} {x:Str} {u:Value} {pos:Pos} {Q:Value->Shared->Prop} (I:Inv X pins σ H s) (hg:Gl X x) (hm:X.mg x=some u) (h:Q u s)
  (hd:(x == ("__debug__":Str))=false:=by decide):wpAny (model X.prog X.w) X.A (eval (.Name x pos) X.env) Q E s:=
 Calls.Name_function_global I.ok.kind hg (Calls.loadGlobal_global (by rw [I.ok.glob]; exact I.mod.glob.keeps I.bk) hm h) hd
theorem xdu {E:Value->Shared->Prop} {pins:List (Addr×Obj)} {s:Shared} {σ:St} {H:Hp} {x:Str} {u:Value} {pos:Pos} {Q:Value->Shared->Prop} (I:Inv X pins σ H s) (hg:Gl X x) (hm:X.mg x=none) (hv:bootBuiltins x=some u) (h:Q u s)
  (hn:x≠"__name__":=by decide) (hd:(x == ("__debug__":Str))=false:=by decide):wpAny (model X.prog X.w) X.A (eval (.Name x pos) X.env) Q E s:=by
 obtain ⟨mb,h1,h2⟩:=I.mod.blt
 exact Calls.Name_function_global I.ok.kind hg (Calls.loadGlobal_builtin (by rw [I.ok.glob]; exact I.mod.glob.keeps I.bk) hm (by rw [I.ok.blt]; exact h1.keeps I.bk) ((h2 x hn).trans hv) h) hd
theorem xs0 {x:Str} {v:V} {u:Value} {pos:Pos} (hg:Gl X x) (hm:X.mg x=some u) (r:RelV v u) (hd:(x == ("__debug__":Str))=false:=by decide):PE X (.Name x pos) (tC v):=
 fun _ _ _ H _ I h=>xg4 I hg hm ⟨v,H,I,r,h⟩ hd
theorem xs2 {x:Str} {v:V} {u:Value} {pos:Pos} (hg:Gl X x) (hm:X.mg x=none) (hv:bootBuiltins x=some u) (r:RelV v u) (hn:x≠"__name__":=by decide) (hd:(x == ("__debug__":Str))=false:=by decide):PE X (.Name x pos) (tC v):=
 fun _ _ _ H _ I h=>xdu I hg hm hv ⟨v,H,I,r,h⟩ hn hd
variable {a b:Expr} {ta tb:TE} {pos:Pos}
def PC (X:Cx) (op:CmpOp) (a b:Expr) (t:TE):Prop:=
 ∀ (pins:List (Addr×Obj)) (s:Shared) (σ:St) (H:Hp) (Q:VK),Inv X pins σ H s->t σ H Q->
  wpAny (model X.prog X.w) X.A (eval a X.env) (fun v s₁=>wpAny (model X.prog X.w) X.A (eval b X.env) (fun u s₂=>wpAny (model X.prog X.w) X.A (compareOp op v u) (EP X pins σ Q) X.xe s₂) X.xe s₁) X.xe s
def tB (t:TE):TT:=fun σ H Q=>t σ H fun x H1=>∃ c,x=.bl c/\Q c H1
theorem xon {op:CmpOp} {t:TE} (h:PC X op a b t) (h1:behindInMarks op b=false:=by first | exact nobehind _ (by decide) (by decide) | rfl):PT X (.Compare a [op] [b] pos) (tB t):=by
 intro pins s σ H Q I hw
 refine wpAny_isTrue_Compare1 (thn (h pins s σ H _ I hw) fun v s1 h1=>thn h1 fun u s2 h2=>thn h2 fun c s3 ⟨x,H1,I1,r1,q1⟩=>?_) h1
 obtain ⟨d,rfl,q⟩:=q1
 cases r1
 exact wpAny_truthy_bool ⟨H1,I1,q⟩
theorem xr0 {e:Expr} {t:TE} (h:PE X e t) (he:∀ whole,isTrue e X.env whole=(do let v <- whole; standAt e.pos; holding [v] (truthy v)):=by intro _; rfl):PT X e (tB t):=by
 intro pins s σ H Q I hw
 refine isTrue_plain (thn (h pins s σ H _ I hw) fun v s1 ⟨x,H1,I1,r1,q1⟩=>?_) (he _)
 obtain ⟨d,rfl,q⟩:=q1
 cases r1
 exact wpAny_truthy_bool ⟨H1,I1,q⟩
variable {tA tB':TT} {rest:List Expr}
def tAnd (t u:TT):TT:=fun σ H Q=>t σ H fun c H1=>if c=true then u σ H1 Q else Q false H1
def tOr (t u:TT):TT:=fun σ H Q=>t σ H fun c H1=>if c=true then Q true H1 else u σ H1 Q
def tNot (t:TT):TT:=fun σ H Q=>t σ H fun c H1=>Q (!c) H1
theorem xdk (ha:PT X a tA):PW X (.BoolOp .And [a] pos) tA:=by
 intro wh pins s σ H Q I h
 refine isTrue_and (thn (ha pins s σ H Q I h) fun c s1 e=>?_)
 cases c with
 | true=>exact isTrue_and_nil e
 | false=>exact e
theorem xmb (ha:PT X a tA):PW X (.BoolOp .Or [a] pos) tA:=by
 intro wh pins s σ H Q I h
 refine isTrue_or (thn (ha pins s σ H Q I h) fun c s1 e=>?_)
 cases c with
 | false=>exact isTrue_or_nil e
 | true=>exact e
theorem xdo (ha:PT X a tA) (hb:PW X (.BoolOp .And (b :: rest) pos) tB'):PW X (.BoolOp .And (a :: b :: rest) pos) (tAnd tA tB'):=by
 intro wh pins s σ H Q I h
 refine isTrue_and (thn (ha pins s σ H _ I h) fun c s1 ⟨H1,I1,q1⟩=>?_)
 cases c with
 | true=>exact hb wh pins s1 σ H1 Q I1 q1
 | false=>exact ⟨H1,I1,q1⟩
theorem xom (ha:PT X a tA) (hb:PW X (.BoolOp .Or (b :: rest) pos) tB'):PW X (.BoolOp .Or (a :: b :: rest) pos) (tOr tA tB'):=by
 intro wh pins s σ H Q I h
 refine isTrue_or (thn (ha pins s σ H _ I h) fun c s1 ⟨H1,I1,q1⟩=>?_)
 cases c with
 | true=>exact ⟨H1,I1,q1⟩
 | false=>exact hb wh pins s1 σ H1 Q I1 q1
theorem xr1 (ha:PT X a tA):PT X (.UnaryOp .Not a pos) (tNot tA):=by
 intro pins s σ H Q I h
 exact isTrue_not (ha pins s σ H (fun c H1=>Q (!c) H1) I h)
def xwc (ta tb:TE):TE:=fun σ H Q=>ta σ H fun x H1=>∃ c,x=.bl c/\if c=true then tb σ H1 Q else Q (.bl false) H1
theorem xux {op} {t:TE} (h:PE X a t):PE X (.BoolOp op [a] pos) t:=fun pins s σ H Q I hw=>BoolOp_one (h pins s σ H Q I hw)
theorem xu0 (ha:PE X a ta) (hb:PE X (.BoolOp .And (b :: rest) pos) tb):PE X (.BoolOp .And (a :: b :: rest) pos) (xwc ta tb):=by
 intro pins s σ H Q I h
 refine BoolOp_and (thn (ha pins s σ H _ I h) fun v s1 ⟨x,H1,I1,r1,q1⟩=>?_)
 obtain ⟨c,rfl,q1⟩:=q1
 cases r1
 refine wpAny_truthy_bool ?_
 cases c with
 | true=>exact hb pins s1 σ H1 Q I1 q1
 | false=>exact ⟨.bl false,H1,I1,rfl,q1⟩
def tIf (t:TT) (ta tb:TE):TE:=fun σ H Q=>t σ H fun c H1=>if c=true then ta σ H1 Q else tb σ H1 Q
theorem xgi {c:Expr} (hc:PT X c tA) (ha:PE X a ta) (hb:PE X b tb):PE X (.IfExp c a b pos) (tIf tA ta tb):=by
 intro pins s σ H Q I h
 refine wpAny_IfExp (thn (hc pins s σ H _ I h) fun d s1 ⟨H1,I1,q1⟩=>?_)
 cases d with
 | true=>exact ha pins s1 σ H1 Q I1 q1
 | false=>exact hb pins s1 σ H1 Q I1 q1
end
end L2
namespace L2
open PySem PySem.Spec PyProof.Rows
def SqL (K:PySem.W.Frag) (H:Hp) (a:Addr) (xs:List V):Prop:=
 Rd H a (.lst xs) ∨
  ∃ (o:Obj) (its:Array Value) (n:Nat),K.lookup a=some o/\o.cls=.type "list"/\o.dict=none/\o.data=.seq its n/\its.size<=sizeLine/\Vals xs its.toList
def SqT (K:PySem.W.Frag) (H:Hp) (a:Addr) (xs:List V):Prop:=
 Rd H a (.tup xs) ∨
  ∃ (o:Obj) (its:Array Value) (n:Nat),K.lookup a=some o/\o.cls=.type "tuple"/\o.data=.seq its n/\its.size<=sizeLine/\Vals xs its.toList
def absV:Value->Option V
 | .none=>some .non
 | .bool b=>some (.bl b)
 | .int i _=>some (.int i)
 | .str x _=>some (.str x)
 | .bytes b _=>some (.byt b)
 | .float b _=>some (.flt b)
 | .ref a=>some (.ref a)
 | .type n=>some (.ty n)
 | _=>none
theorem RelV.abs {x:V} {u:Value} (r:RelV x u):absV u=some x:=by
 cases x with
 | non=>cases r; rfl
 | bl _=>cases r; rfl
 | int _=>obtain ⟨t,rfl⟩:=r; rfl
 | str _=>obtain ⟨t,rfl⟩:=r; rfl
 | byt _=>obtain ⟨t,rfl⟩:=r; rfl
 | flt _=>obtain ⟨t,rfl⟩:=r; rfl
 | ref _=>cases r; rfl
 | ty _=>cases r; rfl
theorem RelV.inj {x y:V} {u:Value} (r:RelV x u) (q:RelV y u):x=y:=Option.some.inj (r.abs.symm.trans q.abs)
theorem Vals.inj:∀ {xs ys:List V} {us:List Value},Vals xs us->Vals ys us->xs=ys
 | _,_,_,.nil,.nil=>rfl
 | _,_,_,.cons r t,.cons r' t'=>by rw [r.inj r',Vals.inj t t']
section
variable {X:Cx} {pins:List (Addr×Obj)} {σ:St} {H:Hp} {s:Shared} {a:Addr} {xs ys:List V}
theorem SqL.of {K:PySem.W.Frag} (h:H a=some (.lst xs)):SqL K H a xs:=.inl (.inl h)
theorem SqT.of {K:PySem.W.Frag} (h:H a=some (.tup xs)):SqT K H a xs:=.inl (.inl h)
theorem Inv.list (I:Inv X pins σ H s) (h:SqL X.K H a xs):∃ its:List Value,Vals xs its/\PlainL s.heap a its.toArray/\xs.length<=sizeLine:=by
 rcases h with h | ⟨o,its,n,hk,hc,hd,hs,hz,r⟩
 ·obtain ⟨z,its,n,r,e⟩:=h.ok I.hok
  exact ⟨its,r,⟨_,n,e,rfl,rfl,rfl⟩,z⟩
 ·refine ⟨its.toList,r,⟨o,n,I.kIn a o hk,hc,hd,by simpa using hs⟩,?_⟩
  have e:=r.length
  simp only [Array.length_toList] at e
  omega
theorem Inv.tuple (I:Inv X pins σ H s) (h:SqT X.K H a xs):∃ its:List Value,Vals xs its/\IsTup s.heap a its.toArray/\xs.length<=sizeLine:=by
 rcases h with h | ⟨o,its,n,hk,hc,hs,hz,r⟩
 ·obtain ⟨z,its,r,o,e,c,n,d,_⟩:=h.ok I.hok
  exact ⟨its,r,⟨o,e,c,n,d⟩,z⟩
 ·refine ⟨its.toList,r,⟨o,I.kIn a o hk,hc,n,by simpa using hs⟩,?_⟩
  have e:=r.length
  simp only [Array.length_toList] at e
  omega
theorem Inv.list_inj (I:Inv X pins σ H s) (h:SqL X.K H a xs) (h':SqL X.K H a ys):xs=ys:=by
 obtain ⟨its,r,⟨o,n,e,_,_,d⟩,_⟩:=I.list h
 obtain ⟨its',r',⟨o',n',e',_,_,d'⟩,_⟩:=I.list h'
 rw [e] at e'; cases e'
 rw [d] at d'
 injection d' with d1 _
 have:its=its':=by simpa using congrArg Array.toList d1
 subst this
 exact r.inj r'
theorem Inv.tuple_inj (I:Inv X pins σ H s) (h:SqT X.K H a xs) (h':SqT X.K H a ys):xs=ys:=by
 obtain ⟨its,r,⟨o,e,_,n,d⟩,_⟩:=I.tuple h
 obtain ⟨its',r',⟨o',e',_,n',d'⟩,_⟩:=I.tuple h'
 rw [e] at e'; cases e'
 rw [d] at d'
 injection d' with d1 _
 have:its=its':=by simpa using congrArg Array.toList d1
 subst this
 exact r.inj r'
end
abbrev Cx.wish (X:Cx) (E:Value->Shared->Prop):Cx:={ X with xe:=E }
abbrev Cx.nox (X:Cx):Cx:=X.wish fun _ _=>False
theorem Cx.Ok.wish {X:Cx} (ok:X.Ok) (E:Value->Shared->Prop):(X.wish E).Ok:=
 ⟨ok.mod,ok.kind,ok.glob,ok.blt,ok.above,ok.inj,ok.has,ok.cab,ok.hd,ok.frames,ok.stk,ok.exf,ok.bs,ok.bsz,ok.noex,ok.exfs,ok.funs,ok.frf⟩
theorem Cx.Ok.unwish {X:Cx} {E:Value->Shared->Prop} (ok:(X.wish E).Ok):X.Ok:=
 ⟨ok.mod,ok.kind,ok.glob,ok.blt,ok.above,ok.inj,ok.has,ok.cab,ok.hd,ok.frames,ok.stk,ok.exf,ok.bs,ok.bsz,ok.noex,ok.exfs,ok.funs,ok.frf⟩
section
variable {X:Cx} {pins:List (Addr×Obj)} {σ:St} {H:Hp} {s:Shared} {E:Value->Shared->Prop}
theorem Inv.wish (I:Inv X pins σ H s) (E:Value->Shared->Prop):Inv (X.wish E) pins σ H s:=⟨I.ok.wish E,I.os,I.bare,I.base,I.loc,I.cell,I.free,I.freeC,I.pin,I.hok,I.len⟩
theorem Inv.unwish (I:Inv (X.wish E) pins σ H s):Inv X pins σ H s:=⟨I.ok.unwish,I.os,I.bare,I.base,I.loc,I.cell,I.free,I.freeC,I.pin,I.hok,I.len⟩
theorem SP.unwish {D:Ends} {f:Flow} {s':Shared} (h:SP (X.wish E) pins D f s'):SP X pins D f s':=by
 cases f with
 | next=>obtain ⟨σ',H',I,q⟩:=h; exact ⟨σ',H',I.unwish,q⟩
 | brk=>obtain ⟨σ',H',I,q⟩:=h; exact ⟨σ',H',I.unwish,q⟩
 | cont=>obtain ⟨σ',H',I,q⟩:=h; exact ⟨σ',H',I.unwish,q⟩
 | ret u=>obtain ⟨v,σ',H',I,r,q⟩:=h; exact ⟨v,σ',H',I.unwish,r,q⟩
theorem PSs.nox {st:List Stmt} {t:TS} (h:PSs X.nox st t):PSs X st t:=fun pins s σ H D I hw=>
 wpAny_mono (h pins s σ H D (I.wish _) hw) (fun _ _ q=>q.unwish) fun _ _ z=>False.elim z
end
section
variable {X:Cx} {st:Stmt} {rest:List Stmt} {t u:TS} {e:Expr} {te:TE} {pos:Pos}
def xv8:TS:=fun D σ H=>D.nx σ H
def tSeq (t u:TS):TS:=fun D σ H=>t { D with nx:=u D } σ H
theorem pQ:PSs X [] xv8:=fun _ _ σ H _ I h=>wpAny_execs_nil ⟨σ,H,I,h⟩
theorem zpn (h1:PS X st t) (h2:PSs X rest u):PSs X (st :: rest) (tSeq t u):=by
 intro pins s σ H D I h
 refine wpAny_execs_cons (thn (h1 pins s σ H { D with nx:=u D } I h) fun f s1 q=>?_)
 cases f with
 | next=>
  obtain ⟨σ',H',I',q⟩:=q
  exact h2 pins s1 σ' H' D I' q
 | ret v=>exact q
 | brk=>exact q
 | cont=>exact q
theorem zpo (h1:PS X st t):PSs X [st] t:=by
 intro pins s σ H D I h
 refine wpAny_execs_cons (thn (h1 pins s σ H D I h) fun f s1 q=>?_)
 cases f with
 | next=>exact wpAny_execs_nil q
 | ret v=>exact q
 | brk=>exact q
 | cont=>exact q
theorem Inv.quiet {pins:List (Addr×Obj)} {σ:St} {H:Hp} {s:Shared} (I:Inv X pins σ H s):interactive X.env=false:=by simp [interactive,I.ok.kind]
def xv9 (te:TE):TS:=fun D σ H=>te σ H fun _ H1=>D.nx σ H1
theorem xbe (he:PE X e te) (hs:swapsWith e none pos.line X.env=pure false:=by rfl):PS X (.Expr e pos) (xv9 te):=by
 intro pins s σ H D I h
 exact wpAny_Expr_any (thn (he pins s σ H _ I h) fun v s1 ⟨x,H1,I1,r1,q1⟩=>⟨σ,H1,I1,q1⟩) I.quiet hs
def tRet (te:TE):TS:=fun D σ H=>te σ H D.rt
theorem xae (he:PE X e te):PS X (.Return (some e) pos) (tRet te):=by
 intro pins s σ H D I h
 exact wpAny_Return_some (thn (he pins s σ H _ I h) fun v s1 ⟨x,H1,I1,r1,q1⟩=>⟨x,σ,H1,I1,r1,q1⟩)
def tIfS (c:TT) (t u:TS):TS:=fun D σ H=>c σ H fun b H1=>if b=true then t D σ H1 else u D σ H1
theorem xau {c:Expr} {a b:List Stmt} {tc:TT} (hc:PT X c tc) (ha:PSs X a t) (hb:PSs X b u):PS X (.If c a b pos) (tIfS tc t u):=by
 intro pins s σ H D I h
 refine wpAny_If (thn (hc pins s σ H _ I h) fun d s1 ⟨H1,I1,q1⟩=>?_)
 cases d with
 | true=>exact ha pins s1 σ H1 D I1 q1
 | false=>exact hb pins s1 σ H1 D I1 q1
end
abbrev TG:=V->St->Hp->(St->Hp->Prop)->Prop
abbrev TGs:=List V->St->Hp->(St->Hp->Prop)->Prop
def PG (X:Cx) (target:Expr) (t:TG):Prop:=
 ∀ (pins:List (Addr×Obj)) (s:Shared) (σ:St) (H:Hp) (v:V) (u:Value) (Q:St->Hp->Prop),Inv X pins σ H s->RelV v u->t v σ H Q->
  wpAny (model X.prog X.w) X.A (assign target X.env u) (fun _ s'=>∃ σ' H',Inv X pins σ' H' s'/\Q σ' H') X.xe s
def PGs (X:Cx) (ts:List Expr) (t:TGs):Prop:=
 ∀ (pins:List (Addr×Obj)) (s:Shared) (σ:St) (H:Hp) (vs:List V) (us:List Value) (Q:St->Hp->Prop),Inv X pins σ H s->Vals vs us->t vs σ H Q->
  wpAny (model X.prog X.w) X.A (assignInOrder ((assignEach ts X.env).map (·.2)) us) (fun _ s'=>∃ σ' H',Inv X pins σ' H' s'/\Q σ' H') X.xe s
abbrev TSet:=V->V->V->Hp->(Hp->Prop)->Prop
def PSet (X:Cx) (t:TSet):Prop:=
 ∀ (pins:List (Addr×Obj)) (s:Shared) (σ:St) (H:Hp) (o i v:V) (ov iv u:Value) (Q:Hp->Prop),Inv X pins σ H s->RelV o ov->RelV i iv->RelV v u->t o i v H Q->
  wpAny (model X.prog X.w) X.A (setItem ov iv u) (fun _ s'=>∃ H',Inv X pins σ H' s'/\Q H') X.xe s
section
variable {X:Cx} {pos:Pos}
def xka (i:Nat):TG:=fun v σ H Q=>Q (σ.set i (some v)) H
theorem xab {i:Nat} {x:Str} (hN:X.N.Nodup) (hi:X.N[i]?=some x) (hx:Loc X.env.scope x) (hf:X.fn x=true\/X.env.scope.names.lookup x=some .local:=by first | exact .inl rfl | exact .inr rfl | assumption):PG X (.Name x pos) (xka i):=by
 intro pins s σ H v u Q I r h
 exact wpAny_assign_Name (xl7 I hN hi hx r (fun s' I'=>⟨_,H,I',h⟩) hf)
def gNil:TGs:=fun vs σ H Q=>vs=[]/\Q σ H
def xw4 (t:TG) (u:TGs):TGs:=fun vs σ H Q=>∃ v r,vs=v :: r/\t v σ H fun σ' H'=>u r σ' H' Q
theorem xa4:PGs X [] gNil:=by
 intro pins s σ H vs us Q I r h
 obtain ⟨e,h⟩:=h
 subst e
 cases r
 exact assignInOrder_nil ⟨σ,H,I,h⟩
theorem xad {e:Expr} {es:List Expr} {t:TG} {u:TGs} (h1:PG X e t) (h2:PGs X es u)
  (hs:(assignEach (e :: es) X.env).map (·.2)=assign e X.env :: (assignEach es X.env).map (·.2):=by rfl):PGs X (e :: es) (xw4 t u):=by
 intro pins s σ H vs us Q I r h
 obtain ⟨v,vr,e1,h⟩:=h
 subst e1
 cases r with
 | cons r rr=>
  rw [hs]
  refine assignInOrder_cons (thn (h1 pins s σ H _ _ _ I r h) fun _ s1 ⟨σ1,H1,I1,q1⟩=>?_)
  exact h2 pins s1 σ1 H1 _ _ Q I1 rr q1
def gTup (K:PySem.W.Frag) (n:Nat) (t:TGs):TG:=fun v σ H Q=>∃ a xs,v=.ref a/\SqT K H a xs/\xs.length=n/\t xs σ H Q
theorem xck {es:List Expr} {k:Nat} {t:TGs} {n:Nat} (hc:X.calm=true) (h:PGs X es t)
  (hn:(assignEach es X.env).length=n:=by rfl) (hst:(assignEach es X.env).findIdx? (·.1)=none:=by rfl):PG X (.Tuple es k pos) (gTup X.K n t):=by
 intro pins s σ H v u Q I r hw
 obtain ⟨a,xs,e1,hq,hl,hw⟩:=hw
 subst e1
 cases r
 obtain ⟨its,rv,ht,hz⟩:=I.tuple hq
 refine assign_Tuple_tuple (I.ok.hd hc) ht (by simp [hn,<- hl,rv.length]) hst fun h' hx=>?_
 have I1:Inv X pins σ H { s with heap:=h' }:=I.kept (t':=s.toks) fun b o e=>hx b o (Nat.ne_of_lt (Heap.lt_size e)) e
 exact h pins _ σ H xs _ Q I1 (by simpa using rv) hw
def gSub (to ti:TE) (t:TSet):TG:=fun v σ H Q=>to σ H fun o H1=>ti σ H1 fun i H2=>t o i v H2 fun H3=>Q σ H3
theorem xor {o i:Expr} {to ti:TE} {t:TSet} (ho:PE X o to) (hi:PE X i ti) (hs:PSet X t)
  (ha:∀ v,assign (.Subscript o i pos) X.env v=(do
   let ov <- holding [v] (eval o X.env)
   let iv <- holding [v,ov] (eval i X.env)
   standAt pos
   holding [v,ov,iv] (setItem ov iv v)
   release [v,ov,iv] []):=by intro _; rfl):PG X (.Subscript o i pos) (gSub to ti t):=by
 intro pins s σ H v u Q I r h
 rw [ha]
 refine wpAny_bind (wpAny_holding (thn (ho pins s σ H _ I h) fun ov s1 ⟨x,H1,I1,r1,q1⟩=>?_))
 refine wpAny_bind (wpAny_holding (thn (hi pins s1 σ H1 _ I1 q1) fun iv s2 ⟨y,H2,I2,r2,q2⟩=>?_))
 refine wpAny_bind (wpAny_standAt (wpAny_bind (wpAny_holding (thn (hs pins s2 σ H2 x y v ov iv u _ I2 r1 r2 r q2) fun _ s3 ⟨H3,I3,q3⟩=>?_))))
 exact wpAny_release ⟨σ,H3,I3,q3⟩
def tAsg (te:TE) (g:TG):TS:=fun D σ H=>te σ H fun x H1=>g x σ H1 D.nx
theorem xd9 {tg e:Expr} {te:TE} {g:TG} (he:PE X e te) (hg:PG X tg g) (hs:swapsWithSole [tg] e pos.line X.env=pure false:=by rfl) (hw:swappedStores [tg] e X.env=pure none:=by rfl)
  (h1:(assignEach [tg] X.env).map (·.2)=[assign tg X.env]:=by rfl):PS X (.Assign [tg] e pos) (tAsg te g):=by
 intro pins s σ H D I h
 refine wpAny_Assign_stores (thn (he pins s σ H _ I h) fun v s1 ⟨x,H1,I1,r1,q1⟩=>?_) hs hw
 rw [h1]
 exact thn (hg pins s1 σ H1 x v _ I1 r1 q1) fun _ s2 q=>q
theorem xaf {i:Nat} {x:Str} {e:Expr} {te:TE} {pos':Pos} (hN:X.N.Nodup) (hi:X.N[i]?=some x) (hx:Loc X.env.scope x) (he:PE X e te) (hs:swapsWith e (some (.Name x pos')) pos.line X.env=pure false:=by rfl) (hf:X.fn x=true\/X.env.scope.names.lookup x=some .local:=by first | exact .inl rfl | exact .inr rfl | assumption) :
  PS X (.Assign [.Name x pos'] e pos) (tAsg te (xka i)):=by
 intro pins s σ H D I h
 refine wpAny_Assign_Name (thn (he pins s σ H _ I h) fun v s1 ⟨y,H1,I1,r1,q1⟩=>?_) hs
 exact xl7 I1 hN hi hx r1 (fun s2 I2=>⟨_,H1,I2,q1⟩) hf
end
structure It where
 go:Nat->Hp->Prop
 yld:Nat->Hp->V->Hp->Prop
 stop:Nat->Hp->Prop
def FpOk (X:Cx) (pins:List (Addr×Obj)) (H:Hp) (b:Addr):Prop:=
 H b=none/\b≠X.env.locals/\b ∉ X.fs/\(b∈X.ex\/X.s₀.heap.objs.size<=b)/\(∀ x c,X.env.cells.lookup x=some c->c≠b)/\∀ p∈X.pn++pins,p.1≠b
theorem Inv.fpOk {X:Cx} {pins:List (Addr×Obj)} {σ:St} {H H':Hp} {s:Shared} {b:Addr} (I:Inv X pins σ H s) (hb:s.heap.objs.size<=b) (hn:H' b=none):FpOk X pins H' b:=by
 refine ⟨hn,Nat.ne_of_gt (Nat.lt_of_lt_of_le I.lt hb),I.nofs hb,.inr (Nat.le_trans I.sz hb),fun x c e z=>?_,fun p hp z=>?_⟩
 ·obtain ⟨v,q⟩:=I.cell x c e
  exact absurd (Nat.lt_of_lt_of_le q.lt (by rw [z]; exact hb)) (Nat.lt_irrefl _)
 ·exact absurd (Nat.lt_of_lt_of_le (Heap.lt_size (I.pin p hp).1) (by rw [z]; exact hb)) (Nat.lt_irrefl _)
structure Turn (P:Program) (w:World) (K:PySem.W.Frag) (tg:Expr) (J:It) (fp:List Addr) (it:Addr) (tn:Nat->Heap->Prop):Prop where
 mem:it∈fp
 obj:∀ i h,tn i h->∀ b∈fp,∃ o,h.get? b=some o/\∀ v,o.data≠.cell v
 keep:∀ i h h',tn i h->(∀ b∈fp,∀ o,h.get? b=some o->h'.get? b=some o)->tn i h'
 item:∀ (X:Cx),X.prog=P->X.w=w->X.K=K->X.calm=true->∀ (i:Nat) (pins:List (Addr×Obj)) (s:Shared) (σ:St) (H:Hp) (E:Value->Shared->Prop),Inv X pins σ H s->(∀ b∈fp,FpOk X pins H b)->tn i s.heap->J.go i H->
  wpAny (model P w) X.A (pyNext (.ref it)) (fun r s1=>∃ u,r=some u ∧
   wpAny (model P w) X.A (letOwnedTupleGo tg (.ref it) u) (fun _ s2=>∃ x H',Inv X pins σ H' s2/\RelV x u/\J.yld i H x H'/\tn (i + 1) s2.heap/\∀ b∈fp,H' b=none) E s1) E s
 done:∀ (X:Cx),X.prog=P->X.w=w->X.K=K->X.calm=true->∀ (i:Nat) (pins:List (Addr×Obj)) (s:Shared) (σ:St) (H:Hp) (E:Value->Shared->Prop),Inv X pins σ H s->(∀ b∈fp,FpOk X pins H b)->tn i s.heap->J.stop i H->
  wpAny (model P w) X.A (pyNext (.ref it)) (fun r s1=>r=none/\Inv X pins σ H s1) E s
 self:∀ (A:Around) (i:Nat) (s:Shared) (Q:Value->Shared->Prop) (E:Value->Shared->Prop),tn i s.heap->Q (.ref it) s->wpAny (model P w) A (pyIter (.ref it)) Q E s
abbrev TI:=St->Hp->(It->Hp->Prop)->Prop
def PIE (X:Cx) (pins:List (Addr×Obj)) (σ:St) (tg:Expr) (R:It->Hp->Prop) (itv:Value) (s2:Shared):Prop:=
 ∃ (it:Addr) (fp:List Addr) (tn:Nat->Heap->Prop) (J:It) (H':Hp),itv=.ref it/\Inv X pins σ H' s2/\Turn X.prog X.w X.K tg J fp it tn/\tn 0 s2.heap/\(∀ b∈fp,FpOk X pins H' b)/\R J H'
def PI (X:Cx) (tg iter:Expr) (wi:TI):Prop:=
 ∀ (pins:List (Addr×Obj)) (s:Shared) (σ:St) (H:Hp) (R:It->Hp->Prop),Inv X pins σ H s->wi σ H R->
  wpAny (model X.prog X.w) X.A (eval iter X.env) (fun v s1=>wpAny (model X.prog X.w) X.A (pyIter v) (PIE X pins σ tg R) X.xe s1) X.xe s
theorem xtm {M:Model} {A:Around} {E:Value->Shared->Prop} {s:Shared} {tg:Expr} {it:Addr} {u:Value} {o:Obj} {n:String} {vs:Array Value} {Q:Unit->Shared->Prop} (ho:s.heap.get? it=some o) (hc:o.cls=.type n) (hd:o.data=.fields vs)
    (hn:["enumerate","zip","dict_itemiterator","dict_reverseitemiterator","odict_iterator","itertools.zip_longest","itertools.pairwise"].contains n=false) (hQ:Q () s):wpAny M A (letOwnedTupleGo tg (.ref it) u) Q E s:=by
  unfold letOwnedTupleGo
  cases tg <;> first
    | exact wpAny_pure hQ
    | (cases u <;> first
        | exact wpAny_pure hQ
        | (refine wpAny_bind (wpAny_load ho ?_)
           rw [hc,hd]
           show wpAny M A (if (["enumerate","zip","dict_itemiterator","dict_reverseitemiterator","odict_iterator","itertools.zip_longest","itertools.pairwise"].contains n && vs[0]? == some (rawInt _))=true then _ else _) Q E s
           rw [if_neg (by intro h; rw [hn,Bool.false_and] at h; cases h)]
           exact wpAny_pure hQ))
def Itl (K:PySem.W.Frag) (a:Addr):It:=
 ⟨fun i H=>∃ xs x,SqL K H a xs/\xs[i]?=some x,fun i H x H'=>H'=H/\∀ xs,SqL K H a xs->xs[i]?=some x,fun i H=>∃ xs,SqL K H a xs/\xs.length<=i⟩
def Itt (K:PySem.W.Frag) (a:Addr):It:=
 ⟨fun i H=>∃ xs x,SqT K H a xs/\xs[i]?=some x,fun i H x H'=>H'=H/\∀ xs,SqT K H a xs->xs[i]?=some x,fun i H=>∃ xs,SqT K H a xs/\xs.length<=i⟩
def Itr (lo:Int) (n:Nat):It:=⟨fun i _=>i < n,fun i H x H'=>H'=H/\x=.int (lo + i),fun i _=>n<=i⟩
theorem xn2 {P:Program} {w:World} {K:PySem.W.Frag} {tg:Expr} (a it:Addr):Turn P w K tg (Itl K a) [it] it (fun i h=>h.IsListIter it a i) where
 mem:=by simp
 obj:=fun i h st b hb=>by
  have e:b=it:=by simpa using hb
  subst e
  obtain ⟨o,e,c,d⟩:=st
  exact ⟨o,e,fun v z=>by rw [d] at z; cases z⟩
 keep:=fun i h h' st k=>st.at fun o e=>k it (by simp) o e
 item:=by
  intro X hP hw hK hc i pins s σ H E I hf st hg
  subst hP hw hK
  obtain ⟨xs,x,hq,hx⟩:=hg
  obtain ⟨its,rv,p,hz⟩:=I.list hq
  obtain ⟨u,hu,ru⟩:=rv.get hx
  obtain ⟨f0,f1,f2,f3,f4,f5⟩:=hf it (by simp)
  refine wpAny_pyNext_list_item st p.isList (x:=u) (by simpa using hu) fun h' st' sb=>?_
  have I1:Inv X pins σ H { s with heap:=h' }:=I.turned (t':=s.toks) (fun b o hb e=>(sb.2 b hb).trans e) f0 f1 f3 f4 f5
  obtain ⟨o,e,c,d⟩:=id st'
  exact ⟨u,rfl,xtm (s:={ s with heap:=h' }) e c d (by decide) ⟨x,H,I1,ru,⟨rfl,fun ys hy=>by rw [I.list_inj hy hq]; exact hx⟩,st',fun b hb=>(hf b hb).1⟩⟩
 done:=by
  intro X hP hw hK hc i pins s σ H E I hf st hg
  subst hP hw hK
  obtain ⟨xs,hq,hx⟩:=hg
  obtain ⟨its,rv,p,hz⟩:=I.list hq
  obtain ⟨f0,f1,f2,f3,f4,f5⟩:=hf it (by simp)
  have hl:=rv.length
  exact wpAny_pyNext_list_end (I.ok.hd hc) st p.isList (by simp; omega) fun h' eb=>⟨rfl,I.turned (t':=s.toks) (fun b o hb e=>eb b o hb e) f0 f1 f3 f4 f5⟩
 self:=fun _ _ _ _ _ st h=>wpAny_pyIter_listiter st h
theorem xm7 {P:Program} {w:World} {K:PySem.W.Frag} {tg:Expr} (a it:Addr):Turn P w K tg (Itt K a) [it] it (fun i h=>h.IsTupleIter it a i) where
 mem:=by simp
 obj:=fun i h st b hb=>by
  have e:b=it:=by simpa using hb
  subst e
  obtain ⟨o,e,c,d⟩:=st
  exact ⟨o,e,fun v z=>by rw [d] at z; cases z⟩
 keep:=fun i h h' st k=>st.at fun o e=>k it (by simp) o e
 item:=by
  intro X hP hw hK hc i pins s σ H E I hf st hg
  subst hP hw hK
  obtain ⟨xs,x,hq,hx⟩:=hg
  obtain ⟨its,rv,p,hz⟩:=I.tuple hq
  obtain ⟨u,hu,ru⟩:=rv.get hx
  obtain ⟨f0,f1,f2,f3,f4,f5⟩:=hf it (by simp)
  refine wpAny_pyNext_tuple_item st (show s.heap.IsTuple a its.toArray from p) (x:=u) (by simpa using hu) fun h' st' sb=>?_
  have I1:Inv X pins σ H { s with heap:=h' }:=I.turned (t':=s.toks) (fun b o hb e=>(sb.2 b hb).trans e) f0 f1 f3 f4 f5
  obtain ⟨o,e,c,d⟩:=id st'
  exact ⟨u,rfl,xtm (s:={ s with heap:=h' }) e c d (by decide) ⟨x,H,I1,ru,⟨rfl,fun ys hy=>by rw [I.tuple_inj hy hq]; exact hx⟩,st',fun b hb=>(hf b hb).1⟩⟩
 done:=by
  intro X hP hw hK hc i pins s σ H E I hf st hg
  subst hP hw hK
  obtain ⟨xs,hq,hx⟩:=hg
  obtain ⟨its,rv,p,hz⟩:=I.tuple hq
  obtain ⟨f0,f1,f2,f3,f4,f5⟩:=hf it (by simp)
  have hl:=rv.length
  exact wpAny_pyNext_tuple_end (I.ok.hd hc) st (show s.heap.IsTuple a its.toArray from p) (by simp; omega) fun h' eb=>⟨rfl,I.turned (t':=s.toks) (fun b o hb e=>eb b o hb e) f0 f1 f3 f4 f5⟩
 self:=fun _ _ _ _ _ st h=>wpAny_pyIter_tupleiter st h
theorem xm8 {P:Program} {w:World} {K:PySem.W.Frag} {tg:Expr} (it:Addr) (lo:Int) (n:Nat):Turn P w K tg (Itr lo n) [it] it (fun i h=>IsRangeIter h it (lo + (i:Nat) * 1) ((n:Int) - (i:Nat)) 1) where
 mem:=by simp
 obj:=fun i h st b hb=>by
  have e:b=it:=by simpa using hb
  subst e
  exact ⟨_,st,fun v z=>by
   have z':Data.fields _=Data.cell v:=z
   cases z'⟩
 keep:=fun i h h' st k=>k it (by simp) _ st
 item:=by
  intro X hP hw hK hc i pins s σ H E I hf st hg
  subst hP hw hK
  obtain ⟨f0,f1,f2,f3,f4,f5⟩:=hf it (by simp)
  have W:=Walks.range (prog:=X.prog) (w:=X.w) (I.ok.hd hc) it lo 1 n
  refine W.item i s _ _ hg st fun v h' tk hv st' kk=>?_
  obtain ⟨t,rfl⟩:=hv
  have I1:Inv X pins σ H { s with heap:=h',toks:=tk }:=I.turned (fun b o hb e=>kk b o (by simpa using hb) e) f0 f1 f3 f4 f5
  refine ⟨_,rfl,xtm (s:={ s with heap:=h',toks:=tk }) (n:="range_iterator") st' rfl rfl (by decide) ⟨.int (lo + i),H,I1,⟨t,?_⟩,⟨rfl,rfl⟩,st',fun b hb=>(hf b hb).1⟩⟩
  rw [Int.mul_one]
 done:=by
  intro X hP hw hK hc i pins s σ H E I hf st hg
  subst hP hw hK
  obtain ⟨f0,f1,f2,f3,f4,f5⟩:=hf it (by simp)
  exact wpAny_pyNext_range_end (I.ok.hd hc) st (by have:n<=i:=hg; omega) fun h' eb=>⟨rfl,I.turned (t':=s.toks) (fun b o hb e=>eb b o hb e) f0 f1 f3 f4 f5⟩
 self:=fun _ _ _ _ _ st h=>wpAny_pyIter_rangeiter st h
end L2
namespace L2
open PySem PySem.Spec PyProof.Rows
section
variable {X:Cx} {tg:Expr}
def xw0 (K:PySem.W.Frag) (tl:TE):TI:=fun σ H R=>tl σ H fun x H1=>∃ a,x=.ref a/\(∃ xs,SqL K H1 a xs)/\R (Itl K a) H1
def iTup (K:PySem.W.Frag) (tl:TE):TI:=fun σ H R=>tl σ H fun x H1=>∃ a,x=.ref a/\(∃ xs,SqT K H1 a xs)/\R (Itt K a) H1
theorem xc1 {l:Expr} {tl:TE} (hl:PE X l tl):PI X tg l (xw0 X.K tl):=by
 intro pins s σ H R I h
 refine thn (hl pins s σ H _ I h) fun v s1 ⟨x,H1,I1,r1,q1⟩=>?_
 obtain ⟨a,e,⟨xs,hq⟩,q⟩:=q1
 subst e
 cases r1
 obtain ⟨its,rv,p,hz⟩:=I1.list hq
 refine wpAny_pyIter_list p.isList ?_
 refine ⟨s1.heap.objs.size,[s1.heap.objs.size],_,_,H1,rfl,I1.kept (t':=s1.toks) fun b o e=>zPO _ e,xn2 a _,⟨_,Heap.get?_push_size _ rfl,rfl,rfl⟩,fun b hb=>?_,q⟩
 have e:b=s1.heap.objs.size:=by simpa using hb
 subst e
 exact I1.fpOk (Nat.le_refl _) (I1.hok.fresh (Nat.le_refl _))
theorem xb0 {l:Expr} {tl:TE} (hl:PE X l tl):PI X tg l (iTup X.K tl):=by
 intro pins s σ H R I h
 refine thn (hl pins s σ H _ I h) fun v s1 ⟨x,H1,I1,r1,q1⟩=>?_
 obtain ⟨a,e,⟨xs,hq⟩,q⟩:=q1
 subst e
 cases r1
 obtain ⟨its,rv,p,hz⟩:=I1.tuple hq
 refine wpAny_pyIter_tuple (show s1.heap.IsTuple a its.toArray from p) ?_
 refine ⟨s1.heap.objs.size,[s1.heap.objs.size],_,_,H1,rfl,I1.kept (t':=s1.toks) fun b o e=>zPO _ e,xm7 a _,⟨_,Heap.get?_push_size _ rfl,rfl,rfl⟩,fun b hb=>?_,q⟩
 have e:b=s1.heap.objs.size:=by simpa using hb
 subst e
 exact I1.fpOk (Nat.le_refl _) (I1.hok.fresh (Nat.le_refl _))
theorem xqm {pins:List (Addr×Obj)} {σ:St} {H:Hp} {s:Shared} {R:It->Hp->Prop} {E:Value->Shared->Prop} {lo hi:Int} {t u v:Tok} {tk:Nat} (I:Inv X pins σ H s) (h1:-(2 ^ 62)<=lo) (h2:lo < 2 ^ 62) (h3:-(2 ^ 62)<=hi) (h4:hi < 2 ^ 62)
  (q:R (Itr lo (hi - lo).toNat) H):wpAny (model X.prog X.w) X.A (pyIter (.ref s.heap.objs.size)) (PIE X pins σ tg R) E { s with heap:=s.heap.push { cls:=.type "range",data:=.fields #[.int lo t,.int hi u,.int 1 v] },toks:=tk }:=by
 refine wpAny_pyIter_range (IsRange.new ..) (small_one h1 h2 h3 h4) ?_
 have I1:Inv X pins σ H { s with heap:=s.heap.push { cls:=.type "range",data:=.fields #[.int lo t,.int hi u,.int 1 v] },toks:=tk }:=I.kept fun b o e=>zPO _ e
 refine ⟨(s.heap.push { cls:=.type "range",data:=.fields #[.int lo t,.int hi u,.int 1 v] }).objs.size,[(s.heap.push { cls:=.type "range",data:=.fields #[.int lo t,.int hi u,.int 1 v] }).objs.size],_,_,H,rfl,
  I1.kept (t':=tk) fun b o e=>zPO _ e,xm8 _ lo (hi - lo).toNat,?_,fun b hb=>?_,q⟩
 ·have e1:lo + ((0:Nat):Int) * 1=lo:=by simp
  have e2:(((hi - lo).toNat:Nat):Int) - ((0:Nat):Int)=Builtin.Range.rangeSize lo hi 1:=by rw [rangeSize_one]; split <;> omega
  show IsRangeIter _ _ (lo + ((0:Nat):Int) * 1) ((((hi - lo).toNat:Nat):Int) - ((0:Nat):Int)) 1
  rw [e1,e2]
  exact Heap.get?_push_size _ rfl
 ·have e:b=(s.heap.push { cls:=.type "range",data:=.fields #[.int lo t,.int hi u,.int 1 v] }).objs.size:=by simpa using hb
  subst e
  exact I1.fpOk (Nat.le_refl _) (I1.hok.fresh (Nat.le_refl _))
def xwz (ta:TA):TI:=fun σ H R=>ta σ H fun vs H1=>∃ j:Int,vs=[.int j]/\-(2 ^ 62)<=j/\j < 2 ^ 62/\R (Itr 0 j.toNat) H1
theorem xdq {a:Expr} {ta:TA} {p pos:Pos} (hg:Gl X "range") (hm:X.mg "range"=none) (ha:PA X [a] ta) (hs:starEach [a] X.env=[(false,eval a X.env)]:=by rfl):PI X tg (.Call (.Name "range" p) [a] [] pos) (xwz ta):=by
 intro pins s σ H R I h
 refine Call_ (xdu I hg hm boot_range (PyProof.Rows.callWith_type1 (thn (ha pos pins s σ H _ I h) fun us s1 ⟨vs,H1,I1,r1,q1⟩=>?_) hs rfl))
 obtain ⟨j,e,q1,q2,q⟩:=q1
 subst e
 cases r1 with
 | cons r rr=>
  cases rr
  obtain ⟨t,rfl⟩:=r
  exact call_range_1 (xqm I1 (by omega) (by omega) q1 q2 (by simpa using q))
def tFor (wi:TI) (g:TG) (tb:TS):TS:=fun D σ H=>wi σ H fun J H1=>∃ W:Nat->Nat->St->Hp->Prop,(∃ m,W 0 m σ H1)/\∀ i m σ H,W i m σ H->
 (J.stop i H/\D.nx σ H)\/(J.go i H/\∃ N:St->Hp->Prop,(∀ σ' H',N σ' H'->∃ m',m' < m/\W (i + 1) m' σ' H')/\∀ x H',J.yld i H x H'->g x σ H' fun σ2 H2=>tb { D with nx:=N,ct:=N,bk:=D.nx } σ2 H2)
def xja (fp:List Addr) (h:Heap):List (Addr×Obj):=fp.filterMap fun b=>(h.get? b).map fun o=>(b,o)
theorem xeq {fp:List Addr} {h:Heap} {b:Addr} {o:Obj} (hb:b∈fp) (e:h.get? b=some o):(b,o)∈xja fp h:=List.mem_filterMap.mpr ⟨b,hb,by rw [e]; rfl⟩
theorem xoz {fp:List Addr} {h:Heap} {p:Addr×Obj} (hp:p∈xja fp h):p.1∈fp/\h.get? p.1=some p.2:=by
 obtain ⟨b,hb,e⟩:=List.mem_filterMap.mp hp
 cases q:h.get? b with
 | none=>rw [q] at e; cases e
 | some o=>
  rw [q] at e
  have e':(b,o)=p:=Option.some.inj e
  subst e'
  exact ⟨hb,q⟩
theorem Inv.pinned {pins:List (Addr×Obj)} {σ:St} {H:Hp} {s:Shared} {fp:List Addr} (I:Inv X pins σ H s) (hf:∀ b∈fp,FpOk X pins H b) (ho:∀ b∈fp,∃ o,s.heap.get? b=some o/\∀ v,o.data≠.cell v):Inv X (pins++xja fp s.heap) σ H s:=
 I.pins_of fun p hp=>(zMA hp).elim (fun z=>I.pin p (List.mem_append_right _ z)) fun z=>by
  obtain ⟨hb,e⟩:=xoz z
  obtain ⟨f0,f1,f2,_⟩:=hf p.1 hb
  obtain ⟨o,e',d⟩:=ho p.1 hb
  rw [e] at e'; cases e'
  exact ⟨e,f0,f1,f2,d⟩
theorem Inv.unpinned {pins pl:List (Addr×Obj)} {σ:St} {H:Hp} {s:Shared} (I:Inv X (pins++pl) σ H s):Inv X pins σ H s:=I.pins_of fun p hp=>I.pin p (List.mem_append_right _ (List.mem_append_left _ hp))
theorem xc3 {iter:Expr} {body:List Stmt} {wi:TI} {g:TG} {tb:TS} {pos:Pos} (hp:PassesOwn (model X.prog X.w) X.A X.env X.xe) (hc:X.calm=true) (hi:PI X tg iter wi) (hg:PG X tg g) (hb:PSs X body tb)
  (hs:∀ x,foldedSetIterable iter X.env x=pure x:=by intro _; rfl):PS X (.For tg iter body [] pos) (tFor wi g tb):=by
 intro pins s σ H D I h
 refine wpAny_For (thn (hi pins s σ H _ I h) fun v s1 h1=>thn h1 fun itv s2 h2=>?_) hs
 obtain ⟨it,fp,tn,J,H2,e,I2,T,st2,f2,W,⟨m0,w0⟩,turn⟩:=h2
 subst e
 have stat:∀ {H':Hp},(∀ b∈fp,H' b=none)->∀ b∈fp,FpOk X pins H' b:=fun hn b hb=>⟨hn b hb,(f2 b hb).2⟩
 refine codeAny_forLoop_any (fun n s'=>∃ i σ' H',Inv X pins σ' H' s'/\tn i s'.heap/\(∀ b∈fp,H' b=none)/\W i n σ' H') ?_ m0 ⟨0,σ,H2,I2,st2,fun b hb=>(f2 b hb).1,w0⟩
 rintro n s3 ⟨i,σ3,H3,I3,st3,fr3,w3⟩
 rcases turn i n σ3 H3 w3 with ⟨stop,qn⟩ | ⟨go,N,hN,step⟩
 ·refine wpAny_passesOwn hp (thn (T.done X rfl rfl rfl hc i pins s3 σ3 H3 X.xe I3 (stat fr3) st3 stop) fun r s4 ⟨hr,I4⟩=>?_)
  subst hr
  exact wpAny_execs_nil ⟨σ3,H3,I4,qn⟩
 ·refine wpAny_passesOwn hp (thn (T.item X rfl rfl rfl hc i pins s3 σ3 H3 X.xe I3 (stat fr3) st3 go) fun r s4 ⟨u,hr,h4⟩=>?_)
  subst hr
  refine wpAny_passesOwn hp (thn h4 fun _ s5 ⟨x,H5,I5,r5,y5,st5,fr5⟩=>?_)
  have I5':=I5.pinned (stat fr5) (T.obj _ _ st5)
  refine wpAny_passesOwn hp (thn (hg _ s5 σ3 H5 x u _ I5' r5 (step x H5 y5)) fun _ s6 ⟨σ6,H6,I6,q6⟩=>?_)
  refine wpAny_passesOwn hp (thn (hb _ s6 σ6 H6 _ I6 q6) fun f s7 q7=>?_)
  have again:∀ {σ7:St} {H7:Hp},Inv X (pins++xja fp s5.heap) σ7 H7 s7->N σ7 H7->∃ m,m < n/\∃ i σ' H',Inv X pins σ' H' s7/\tn i s7.heap/\(∀ b∈fp,H' b=none)/\W i m σ' H':=fun {σ7 H7} I7 n7=>by
   obtain ⟨m',hm,w7⟩:=hN σ7 H7 n7
   refine ⟨m',hm,i + 1,σ7,H7,I7.unpinned,T.keep _ _ _ st5 fun b hb o e=>(I7.pin (b,o) (List.mem_append_right _ (List.mem_append_right _ (xeq hb e)))).1,fun b hb=>?_,w7⟩
   obtain ⟨o,e,d⟩:=T.obj _ _ st5 b hb
   exact (I7.pin (b,o) (List.mem_append_right _ (List.mem_append_right _ (xeq hb e)))).2.1
  cases f with
  | next=>obtain ⟨σ7,H7,I7,n7⟩:=q7; exact again I7 n7
  | cont=>obtain ⟨σ7,H7,I7,n7⟩:=q7; exact again I7 n7
  | brk=>obtain ⟨σ7,H7,I7,q7⟩:=q7; exact ⟨σ7,H7,I7.unpinned,q7⟩
  | ret v=>obtain ⟨x7,σ7,H7,I7,r7,q7⟩:=q7; exact ⟨x7,σ7,H7,I7.unpinned,r7,q7⟩
end
theorem xil {K:PySem.W.Frag} {a:Addr} {xs:List V} {g:TG} {tb:TS} {D:Ends} {σ:St} {H:Hp} (Pv:Nat->St->Hp->Prop) (h0:Pv 0 σ H) (hl:∀ i σ H,i<=xs.length->Pv i σ H->SqL K H a xs)
  (hs:∀ i x σ H,xs[i]?=some x->Pv i σ H->g x σ H fun σ2 H2=>tb { D with nx:=Pv (i + 1),ct:=Pv (i + 1),bk:=D.nx } σ2 H2) (hd:∀ σ H,Pv xs.length σ H->D.nx σ H) :
  ∃ W:Nat->Nat->St->Hp->Prop,(∃ m,W 0 m σ H)/\∀ i m σ H,W i m σ H->
   ((Itl K a).stop i H/\D.nx σ H)\/((Itl K a).go i H/\∃ N:St->Hp->Prop,(∀ σ' H',N σ' H'->∃ m',m' < m/\W (i + 1) m' σ' H')/\∀ x H',(Itl K a).yld i H x H'->g x σ H' fun σ2 H2=>tb { D with nx:=N,ct:=N,bk:=D.nx } σ2 H2):=by
 refine ⟨fun i m σ H=>m=xs.length - i/\i<=xs.length/\Pv i σ H,⟨xs.length,by simp,Nat.zero_le _,h0⟩,?_⟩
 rintro i m σ H ⟨rfl,hi,p⟩
 have q:=hl i σ H hi p
 by_cases hlt:i < xs.length
 ·refine .inr ⟨⟨xs,xs[i],q,by simp [hlt]⟩,Pv (i + 1),fun σ' H' p'=>⟨xs.length - (i + 1),by omega,rfl,hlt,p'⟩,fun x H' y=>?_⟩
  obtain ⟨e,y⟩:=y
  subst e
  exact hs i x σ _ (y xs q) p
 ·have e:i=xs.length:=by omega
  subst e
  exact .inl ⟨⟨xs,q,Nat.le_refl _⟩,hd σ H p⟩
theorem xde {K:PySem.W.Frag} {a:Addr} {xs:List V} {g:TG} {tb:TS} {D:Ends} {σ:St} {H:Hp} (Pv:Nat->St->Hp->Prop) (h0:Pv 0 σ H) (hl:∀ i σ H,i<=xs.length->Pv i σ H->SqT K H a xs)
  (hs:∀ i x σ H,xs[i]?=some x->Pv i σ H->g x σ H fun σ2 H2=>tb { D with nx:=Pv (i + 1),ct:=Pv (i + 1),bk:=D.nx } σ2 H2) (hd:∀ σ H,Pv xs.length σ H->D.nx σ H) :
  ∃ W:Nat->Nat->St->Hp->Prop,(∃ m,W 0 m σ H)/\∀ i m σ H,W i m σ H->
   ((Itt K a).stop i H/\D.nx σ H)\/((Itt K a).go i H/\∃ N:St->Hp->Prop,(∀ σ' H',N σ' H'->∃ m',m' < m/\W (i + 1) m' σ' H')/\∀ x H',(Itt K a).yld i H x H'->g x σ H' fun σ2 H2=>tb { D with nx:=N,ct:=N,bk:=D.nx } σ2 H2):=by
 refine ⟨fun i m σ H=>m=xs.length - i/\i<=xs.length/\Pv i σ H,⟨xs.length,by simp,Nat.zero_le _,h0⟩,?_⟩
 rintro i m σ H ⟨rfl,hi,p⟩
 have q:=hl i σ H hi p
 by_cases hlt:i < xs.length
 ·refine .inr ⟨⟨xs,xs[i],q,by simp [hlt]⟩,Pv (i + 1),fun σ' H' p'=>⟨xs.length - (i + 1),by omega,rfl,hlt,p'⟩,fun x H' y=>?_⟩
  obtain ⟨e,y⟩:=y
  subst e
  exact hs i x σ _ (y xs q) p
 ·have e:i=xs.length:=by omega
  subst e
  exact .inl ⟨⟨xs,q,Nat.le_refl _⟩,hd σ H p⟩
theorem xkc {lo:Int} {n:Nat} {g:TG} {tb:TS} {D:Ends} {σ:St} {H:Hp} (Pv:Nat->St->Hp->Prop) (h0:Pv 0 σ H)
  (hs:∀ i σ H,i < n->Pv i σ H->g (.int (lo + i)) σ H fun σ2 H2=>tb { D with nx:=Pv (i + 1),ct:=Pv (i + 1),bk:=D.nx } σ2 H2) (hd:∀ σ H,Pv n σ H->D.nx σ H) :
  ∃ W:Nat->Nat->St->Hp->Prop,(∃ m,W 0 m σ H)/\∀ i m σ H,W i m σ H->
   ((Itr lo n).stop i H/\D.nx σ H)\/((Itr lo n).go i H/\∃ N:St->Hp->Prop,(∀ σ' H',N σ' H'->∃ m',m' < m/\W (i + 1) m' σ' H')/\∀ x H',(Itr lo n).yld i H x H'->g x σ H' fun σ2 H2=>tb { D with nx:=N,ct:=N,bk:=D.nx } σ2 H2):=by
 refine ⟨fun i m σ H=>m=n - i/\i<=n/\Pv i σ H,⟨n,by simp,Nat.zero_le _,h0⟩,?_⟩
 rintro i m σ H ⟨rfl,hi,p⟩
 by_cases hlt:i < n
 ·refine .inr ⟨hlt,Pv (i + 1),fun σ' H' p'=>⟨n - (i + 1),by omega,rfl,hlt,p'⟩,fun x H' y=>?_⟩
  obtain ⟨e,y⟩:=y
  subst e y
  exact hs i σ _ hlt p
 ·have e:i=n:=by omega
  subst e
  exact .inl ⟨Nat.le_refl _,hd σ H p⟩
end L2
namespace L2
open PySem PySem.Spec PyProof.Rows
abbrev R2:=V->V->Hp->VK->Prop
def OpR (X:Cx) (f:Value->Value->Sem Value) (r:R2):Prop:=
 ∀ (pins:List (Addr×Obj)) (s:Shared) (σ:St) (H:Hp) (x y:V) (v u:Value) (Q:VK),Inv X pins σ H s->RelV x v->RelV y u->r x y H Q->
  wpAny (model X.prog X.w) X.A (f v u) (EP X pins σ Q) X.xe s
def xfz (X:Cx) (f:Value) (r:List V->Hp->VK->Prop):Prop:=
 ∀ (pins:List (Addr×Obj)) (s:Shared) (σ:St) (H:Hp) (xs:List V) (us:List Value) (Q:VK),Inv X pins σ H s->Vals xs us->r xs H Q->
  wpAny (model X.prog X.w) X.A (call f us) (EP X pins σ Q) X.xe s
def tOp (r:R2) (ta tb:TE):TE:=fun σ H Q=>ta σ H fun x H1=>tb σ H1 fun y H2=>r x y H2 Q
def rI (C:Int->Int->Prop) (g:Int->Int->V):R2:=fun x y H Q=>∃ i j,x=.int i/\y=.int j/\C i j/\Q (g i j) H
def rI0 (g:Int->Int->V):R2:=fun x y H Q=>∃ i j,x=.int i/\y=.int j/\Q (g i j) H
section
variable {X:Cx} {a b c:Expr} {ta tb tc:TE} {pos:Pos}
theorem binT (ha:PE X a ta) (hb:PE X b tb) {pins:List (Addr×Obj)} {s:Shared} {σ:St} {H:Hp} {R:V->V->Hp->Prop} (I:Inv X pins σ H s)
  (h:ta σ H fun x H1=>tb σ H1 fun y H2=>R x y H2) {Q:Value->Shared->Prop} {f:Value->Value->Sem Value}
  (hf:∀ v u s2 x y H2,Inv X pins σ H2 s2->RelV x v->RelV y u->R x y H2->wpAny (model X.prog X.w) X.A (f v u) Q X.xe s2) :
  wpAny (model X.prog X.w) X.A (eval a X.env) (fun v s₁=>wpAny (model X.prog X.w) X.A (eval b X.env) (fun u s₂=>wpAny (model X.prog X.w) X.A (f v u) Q X.xe s₂) X.xe s₁) X.xe s:=by
 refine thn (ha pins s σ H _ I h) fun v s1 ⟨x,H1,I1,r1,q1⟩=>?_
 refine thn (hb pins s1 σ H1 _ I1 q1) fun u s2 ⟨y,H2,I2,r2,q2⟩=>?_
 exact hf v u s2 x y H2 I2 r1 r2 q2
theorem xag {op:Operator} {r:R2} (ho:OpR X (binaryOp op) r) (ha:PE X a ta) (hb:PE X b tb):PE X (.BinOp a op b pos) (tOp r ta tb):=by
 intro pins s σ H Q I h
 exact wpAny_BinOp (binT ha hb I h fun v u s2 x y H2 I2 rx ry q=>ho pins s2 σ H2 x y v u Q I2 rx ry q)
theorem opI {f:Value->Value->Sem Value} {C:Int->Int->Prop} {g:Int->Int->Int}
  (rule:∀ (i j:Int) (t u:Tok) (s:Shared) (Q:Value->Shared->Prop) (E:Value->Shared->Prop),C i j->Q (.int (g i j) s.toks) { s with toks:=s.toks + 1 }->wpAny (model X.prog X.w) X.A (f (.int i t) (.int j u)) Q E s) :
  OpR X f (rI C fun i j=>.int (g i j)):=by
 intro pins s σ H x y v u Q I rx ry h
 obtain ⟨i,j,rfl,rfl,hc,q⟩:=h
 obtain ⟨t,rfl⟩:=rx
 obtain ⟨t',rfl⟩:=ry
 exact rule i j t t' s _ _ hc ⟨.int (g i j),H,I.tok _,⟨_,rfl⟩,q⟩
theorem opI0 {f:Value->Value->Sem Value} {g:Int->Int->Int}
  (rule:∀ (i j:Int) (t u:Tok) (s:Shared) (Q:Value->Shared->Prop) (E:Value->Shared->Prop),Q (.int (g i j) s.toks) { s with toks:=s.toks + 1 }->wpAny (model X.prog X.w) X.A (f (.int i t) (.int j u)) Q E s) :
  OpR X f (rI0 fun i j=>.int (g i j)):=by
 intro pins s σ H x y v u Q I rx ry h
 obtain ⟨i,j,rfl,rfl,q⟩:=h
 obtain ⟨t,rfl⟩:=rx
 obtain ⟨t',rfl⟩:=ry
 exact rule i j t t' s _ _ ⟨.int (g i j),H,I.tok _,⟨_,rfl⟩,q⟩
theorem opB0 {f:Value->Value->Sem Value} {g:Int->Int->Bool}
  (rule:∀ (i j:Int) (t u:Tok) (s:Shared) (Q:Value->Shared->Prop) (E:Value->Shared->Prop),Q (.bool (g i j)) s->wpAny (model X.prog X.w) X.A (f (.int i t) (.int j u)) Q E s) :
  OpR X f (rI0 fun i j=>.bl (g i j)):=by
 intro pins s σ H x y v u Q I rx ry h
 obtain ⟨i,j,rfl,rfl,q⟩:=h
 obtain ⟨t,rfl⟩:=rx
 obtain ⟨t',rfl⟩:=ry
 exact rule i j t t' s _ _ ⟨.bl (g i j),H,I,rfl,q⟩
def CPow (i j:Int):Prop:=0<=j/\j<=1000000/\i.natAbs < 2 ^ 64
def CMul (i j:Int):Prop:=(-(2 ^ 64) < i/\i < 2 ^ 64)\/(-(2 ^ 64) < j/\j < 2 ^ 64)
theorem CMul.ok {i j:Int} (h:CMul i j):IntMulOk i j:=by
 rcases h with ⟨h1,h2⟩ | ⟨h1,h2⟩
 ·exact .of_left (intBits_le_64 h1 h2)
 ·exact .of_right (intBits_le_64 h1 h2)
theorem xa9:OpR X (binaryOp .Add) (rI0 fun i j=>.int (i + j)):=opI0 fun _ _ _ _ _ _ _ q=>add_int q
theorem xbs:OpR X (binaryOp .Sub) (rI0 fun i j=>.int (i - j)):=opI0 fun _ _ _ _ _ _ _ q=>sub_int q
theorem xdr:OpR X (binaryOp .Mult) (rI CMul fun i j=>.int (i * j)):=opI fun _ _ _ _ _ _ _ hc q=>mul_int q hc.ok
theorem xcb:OpR X (binaryOp .Mod) (rI (fun _ j=>0 < j) fun i j=>.int (i % j)):=opI fun i j _ _ _ _ _ hc q=>by
 have h1:(0:Int) < j:=hc
 exact mod_int' (by omega) (by rw [Int.fmod_eq_emod_of_nonneg i (by omega)]; exact q)
theorem xr3:OpR X (binaryOp .Pow) (rI CPow fun i j=>.int (i ^ j.toNat)):=opI fun _ _ _ _ _ _ _ hc q=>pow_int_small hc.1 hc.2.1 hc.2.2 q
end
def scal:V->V->Bool
 | .non,.non=>true | .non,.int _=>true | .int _,.non=>true | .non,.bl _=>true | .bl _,.non=>true | .non,.str _=>true | .str _,.non=>true
 | .int _,.int _=>true | .bl _,.bl _=>true | .str _,.str _=>true | .byt _,.byt _=>true
 | .int _,.str _=>true | .str _,.int _=>true | .bl _,.str _=>true | .str _,.bl _=>true
 | _,_=>false
def rEq:R2:=fun x y H Q=>scal x y=true/\Q (.bl (decide (x=y))) H
def rNe:R2:=fun x y H Q=>scal x y=true/\Q (.bl (!decide (x=y))) H
theorem xpu {i j:Int}:decide (V.int i=V.int j)=(i == j):=by
 rw [Bool.eq_iff_iff]
 simp
theorem xsh {i j:Bool}:decide (V.bl i=V.bl j)=(i == j):=by
 rw [Bool.eq_iff_iff]
 simp
theorem xpt {i j:Str}:decide (V.str i=V.str j)=(i == j):=by
 rw [Bool.eq_iff_iff]
 simp
theorem xpv {i j:Array UInt8}:decide (V.byt i=V.byt j)=(i.toList == j.toList):=by
 rw [Bool.eq_iff_iff]
 cases i
 cases j
 simp
section
variable {X:Cx} {a b c:Expr} {ta tb tc:TE} {pos:Pos}
theorem xbd {pins:List (Addr×Obj)} {σ:St} {H:Hp} {s:Shared} {Q:VK} {k k':Bool} (I:Inv X pins σ H s) (q:Q (.bl k) H) (e:k=k'):EP X pins σ Q (.bool k') s:=by
 subst e
 exact ⟨.bl k,H,I,rfl,q⟩
theorem xa1:OpR X (compareOp .Eq) rEq:=by
 intro pins s σ H x y v u Q I rx ry h
 obtain ⟨hs,q⟩:=h
 cases x with
 | non=>
  cases rx
  cases y with
  | non=>cases ry; exact PySem.EqNone.eq_none_none (xbd I q (by simp))
  | bl j=>cases ry; exact PySem.EqNone.eq_none_bool (xbd I q (by simp))
  | int j=>obtain ⟨t',rfl⟩:=ry; exact PySem.EqNone.eq_none_int (xbd I q (by simp))
  | str j=>obtain ⟨t',rfl⟩:=ry; exact PySem.EqNone.eq_none_str (xbd I q (by simp))
  | _=>exact absurd (show false=true from hs) Bool.false_ne_true
 | bl i=>
  cases rx
  cases y with
  | non=>cases ry; exact PySem.EqNone.eq_bool_none (xbd I q (by simp))
  | bl j=>cases ry; exact eq_bool (xbd I q xsh)
  | str j=>obtain ⟨t',rfl⟩:=ry; exact PySem.EqMixed.eq_bool_str (xbd I q (by simp))
  | _=>exact absurd (show false=true from hs) Bool.false_ne_true
 | int i=>
  obtain ⟨t,rfl⟩:=rx
  cases y with
  | non=>cases ry; exact PySem.EqNone.eq_int_none (xbd I q (by simp))
  | int j=>obtain ⟨t',rfl⟩:=ry; exact eq_int (xbd I q xpu)
  | str j=>obtain ⟨t',rfl⟩:=ry; exact PySem.EqMixed.eq_int_str (xbd I q (by simp))
  | _=>exact absurd (show false=true from hs) Bool.false_ne_true
 | str i=>
  obtain ⟨t,rfl⟩:=rx
  cases y with
  | non=>cases ry; exact PySem.EqNone.eq_str_none (xbd I q (by simp))
  | bl j=>cases ry; exact PySem.EqMixed.eq_str_bool (xbd I q (by simp))
  | int j=>obtain ⟨t',rfl⟩:=ry; exact PySem.EqMixed.eq_str_int (xbd I q (by simp))
  | str j=>obtain ⟨t',rfl⟩:=ry; exact eq_str (xbd I q xpt)
  | _=>exact absurd (show false=true from hs) Bool.false_ne_true
 | byt i=>
  obtain ⟨t,rfl⟩:=rx
  cases y with
  | byt j=>obtain ⟨t',rfl⟩:=ry; exact PySem.W.eq_bytes (xbd I q xpv)
  | _=>exact absurd (show false=true from hs) Bool.false_ne_true
 | _=>cases y <;> exact absurd (show false=true from hs) Bool.false_ne_true
theorem xhk:OpR X (compareOp .NotEq) rNe:=by
 intro pins s σ H x y v u Q I rx ry h
 obtain ⟨hs,q⟩:=h
 cases x with
 | non=>
  cases rx
  cases y with
  | non=>cases ry; exact PySem.EqNone.ne_none_none (xbd I q (by simp))
  | bl j=>cases ry; exact PySem.EqNone.ne_none_bool (xbd I q (by simp))
  | int j=>obtain ⟨t',rfl⟩:=ry; exact PySem.EqNone.ne_none_int (xbd I q (by simp))
  | str j=>obtain ⟨t',rfl⟩:=ry; exact PySem.EqNone.ne_none_str (xbd I q (by simp))
  | _=>exact absurd (show false=true from hs) Bool.false_ne_true
 | bl i=>
  cases rx
  cases y with
  | non=>cases ry; exact PySem.EqNone.ne_bool_none (xbd I q (by simp))
  | bl j=>cases ry; exact ne_bool (xbd I q (congrArg not xsh))
  | str j=>obtain ⟨t',rfl⟩:=ry; exact PySem.EqMixed.ne_bool_str (xbd I q (by simp))
  | _=>exact absurd (show false=true from hs) Bool.false_ne_true
 | int i=>
  obtain ⟨t,rfl⟩:=rx
  cases y with
  | non=>cases ry; exact PySem.EqNone.ne_int_none (xbd I q (by simp))
  | int j=>obtain ⟨t',rfl⟩:=ry; exact ne_int (xbd I q (congrArg not xpu))
  | str j=>obtain ⟨t',rfl⟩:=ry; exact PySem.EqMixed.ne_int_str (xbd I q (by simp))
  | _=>exact absurd (show false=true from hs) Bool.false_ne_true
 | str i=>
  obtain ⟨t,rfl⟩:=rx
  cases y with
  | non=>cases ry; exact PySem.EqNone.ne_str_none (xbd I q (by simp))
  | bl j=>cases ry; exact PySem.EqMixed.ne_str_bool (xbd I q (by simp))
  | int j=>obtain ⟨t',rfl⟩:=ry; exact PySem.EqMixed.ne_str_int (xbd I q (by simp))
  | str j=>obtain ⟨t',rfl⟩:=ry; exact ne_str (xbd I q (congrArg not xpt))
  | _=>exact absurd (show false=true from hs) Bool.false_ne_true
 | byt i=>
  obtain ⟨t,rfl⟩:=rx
  cases y with
  | byt j=>obtain ⟨t',rfl⟩:=ry; exact PySem.W.ne_bytes (xbd I q (congrArg not xpv))
  | _=>exact absurd (show false=true from hs) Bool.false_ne_true
 | _=>cases y <;> exact absurd (show false=true from hs) Bool.false_ne_true
theorem xfh:OpR X (compareOp .Lt) (rI0 fun i j=>.bl (decide (i < j))):=opB0 fun _ _ _ _ _ _ _ q=>lt_int q
theorem xu3:OpR X (compareOp .LtE) (rI0 fun i j=>.bl (decide (i<=j))):=opB0 fun _ _ _ _ _ _ _ q=>le_int q
theorem xla:OpR X (compareOp .Gt) (rI0 fun i j=>.bl (decide (j < i))):=opB0 fun _ _ _ _ _ _ _ q=>gt_int q
theorem xu4:OpR X (compareOp .GtE) (rI0 fun i j=>.bl (decide (j<=i))):=opB0 fun _ _ _ _ _ _ _ q=>ge_int q
theorem xr6:OpR X (compareOp .Is) (fun x y H Q=>y=.non/\Q (.bl (decide (x=.non))) H):=by
 intro pins s σ H x y v u Q I rx ry h
 obtain ⟨rfl,q⟩:=h
 cases ry
 refine is_none_gen (xbd I q ?_)
 cases x <;> first
  | (cases rx; rfl)
  | (obtain ⟨t,rfl⟩:=rx; rfl)
theorem xs4:OpR X (compareOp .IsNot) (fun x y H Q=>y=.non/\Q (.bl (!decide (x=.non))) H):=by
 intro pins s σ H x y v u Q I rx ry h
 obtain ⟨rfl,q⟩:=h
 cases ry
 refine isnot_none_gen (xbd I q ?_)
 cases x <;> first
  | (cases rx; rfl)
  | (obtain ⟨t,rfl⟩:=rx; rfl)
theorem nM (b:Expr) {op:CmpOp} (h:op≠.In:=by decide) (h2:op≠.NotIn:=by decide):behindInMarks op b=false:=by
 have e1:(op == CmpOp.In)=false:=by cases op <;> first | rfl | exact absurd rfl h
 have e2:(op == CmpOp.NotIn)=false:=by cases op <;> first | rfl | exact absurd rfl h2
 cases b <;> simp [behindInMarks,e1,e2]
theorem xib {op:CmpOp} {r:R2} (ho:OpR X (compareOp op) r) (ha:PE X a ta) (hb:PE X b tb) (hm:behindInMarks op b=false):PE X (.Compare a [op] [b] pos) (tOp r ta tb):=by
 intro pins s σ H Q I h
 exact wpAny_Compare1 (binT ha hb I h fun v u s2 x y H2 I2 rx ry q=>ho pins s2 σ H2 x y v u Q I2 rx ry q) hm
def xub (t:TE):TT:=fun σ H Q=>t σ H fun x H'=>∃ k,x=.bl k/\Q k H'
theorem pR {op:CmpOp} {r:R2} (ho:OpR X (compareOp op) r) (ha:PE X a ta) (hb:PE X b tb) (hm:behindInMarks op b=false):PT X (.Compare a [op] [b] pos) (xub (tOp r ta tb)):=by
 intro pins s σ H Q I h
 refine wpAny_isTrue_Compare1 (thn (ha pins s σ H _ I h) fun v s1 ⟨x,H1,I1,r1,q1⟩=>thn (hb pins s1 σ H1 _ I1 q1) fun u s2 ⟨y,H2,I2,r2,q2⟩=>
  thn (ho pins s2 σ H2 x y v u _ I2 r1 r2 q2) fun c s3 ⟨z,H3,I3,r3,k,e,q3⟩=>?_) hm
 subst e
 cases r3
 exact wpAny_truthy_bool ⟨H3,I3,q3⟩
def xue (r r':R2) (ta tb tc:TE):TE:=fun σ H Q=>ta σ H fun x H1=>tb σ H1 fun y H2=>r x y H2 fun z H3=>∃ k,z=.bl k ∧
 (if k=true then tc σ H3 fun w' H4=>r' y w' H4 Q else Q (.bl false) H3)
theorem xqo {op op':CmpOp} {r r':R2} (ho:OpR X (compareOp op) r) (ho':OpR X (compareOp op') r') (ha:PE X a ta) (hb:PE X b tb) (hc:PE X c tc)
  (hm:lastMarks [op,op'] [b,c]=false:=by with_unfolding_all rfl):PT X (.Compare a [op,op'] [b,c] pos) (xub (xue r r' ta tb tc)):=by
 intro pins s σ H Q I h
 refine isTrue_chain (thn (ha pins s σ H _ I h) fun v s1 ⟨x,H1,I1,r1,q1⟩=>test_link (thn (hb pins s1 σ H1 _ I1 q1) fun u s2 ⟨y,H2,I2,r2,q2⟩=>
  thn (ho pins s2 σ H2 x y v u _ I2 r1 r2 q2) fun d s3 ⟨z,H3,I3,r3,k,e,q3⟩=>?_)) hm
 subst e
 cases r3
 refine wpAny_truthy_bool ?_
 cases k with
 | false=>
  obtain ⟨k',e',q'⟩:=q3
  cases e'
  exact ite_ff ⟨H3,I3,q'⟩
 | true=>
  refine ite_tt (test_last (thn (hc pins s3 σ H3 _ I3 q3) fun w' s4 ⟨z',H4,I4,r4,q4⟩=>thn (ho' pins s4 σ H4 y z' u w' _ I4 r2 r4 q4) fun d' s5 ⟨z2,H5,I5,r5,k2,e2,q5⟩=>?_))
  subst e2
  cases r5
  exact wpAny_truthy_bool ⟨H5,I5,q5⟩
theorem xj2:(sizeLine:Nat) < 2 ^ 63:=by rw [sizeLine_eq]; decide
theorem xen:OpR X (binaryOp .Add) (fun x y H Q=>∃ i j,x=.str i/\y=.str j/\i.length + j.length<=sizeLine/\Q (.str (i++j)) H):=by
 intro pins s σ H x y v u Q I rx ry h
 obtain ⟨i,j,rfl,rfl,hz,q⟩:=h
 obtain ⟨t,rfl⟩:=rx
 obtain ⟨t',rfl⟩:=ry
 exact add_str (fun t' tk=>⟨.str (i++j),H,I.tok _,⟨_,rfl⟩,q⟩) hz
theorem xf6 {x:V} {us:List Value} (r:Vals [x] us):∃ u,us=[u]/\RelV x u:=by
 cases r with
 | cons r1 r2=>cases r2; exact ⟨_,rfl,r1⟩
theorem xtx {x y:V} {us:List Value} (r:Vals [x,y] us):∃ u w',us=[u,w']/\RelV x u/\RelV y w':=by
 cases r with
 | cons r1 r2=>
  cases r2 with
  | cons r3 r4=>cases r4; exact ⟨_,_,rfl,r1,r3⟩
theorem xp3 (hc:X.calm=true):xfz X (.builtin "max") (fun xs H Q=>∃ i j,xs=[.int i,.int j]/\Q (.int (if j > i then j else i)) H):=by
 intro pins s σ H xs us Q I r h
 obtain ⟨i,j,rfl,q⟩:=h
 obtain ⟨u,w',rfl,⟨t,rfl⟩,⟨t',rfl⟩⟩:=xtx r
 refine max_two_ints (I.ok.hd hc) fun h' tk k=>⟨_,H,I.kept k,?_,q⟩
 by_cases hj:j > i
 ·rw [if_pos hj,if_pos hj]; exact ⟨_,rfl⟩
 ·rw [if_neg hj,if_neg hj]; exact ⟨_,rfl⟩
theorem xp2 (hc:X.calm=true):xfz X (.builtin "min") (fun xs H Q=>∃ i j,xs=[.int i,.int j]/\Q (.int (if j < i then j else i)) H):=by
 intro pins s σ H xs us Q I r h
 obtain ⟨i,j,rfl,q⟩:=h
 obtain ⟨u,w',rfl,⟨t,rfl⟩,⟨t',rfl⟩⟩:=xtx r
 refine min_two_ints (I.ok.hd hc) fun h' tk k=>⟨_,H,I.kept k,?_,q⟩
 by_cases hj:j < i
 ·rw [if_pos hj,if_pos hj]; exact ⟨_,rfl⟩
 ·rw [if_neg hj,if_neg hj]; exact ⟨_,rfl⟩
theorem xhf:xfz X (.type "int") (fun xs H Q=>(∃ i,xs=[.int i]/\Q (.int i) H)\/∃ k,xs=[.bl k]/\Q (.int (if k then 1 else 0)) H):=by
 intro pins s σ H xs us Q I r h
 rcases h with ⟨i,rfl,q⟩ | ⟨k,rfl,q⟩
 ·obtain ⟨u,rfl,t,rfl⟩:=xf6 r
  exact call_int_int ⟨.int i,H,I,⟨_,rfl⟩,q⟩
 ·obtain ⟨u,rfl,r1⟩:=xf6 r
  cases r1
  exact call_int_bool ⟨.int (if k then 1 else 0),H,I.tok _,⟨_,rfl⟩,q⟩
end
end L2
namespace L2
open PySem PySem.Spec PyProof.Rows
structure ObjM (h:Heap) (x dx C:Addr) (mA:Str->Option Value):Prop where
 obj:h.get? x=some (PySem.W.instObj C dx)
 ns:h.Ns1 dx mA
 ne:dx≠x
theorem xpb {h:Heap} {dx:Addr} {mA:Str->Option Value} (n:h.Ns1 dx mA):∃ od,h.get? dx=some od/\∀ name,PySem.W.lookIn name od=some (mA name):=by
 obtain ⟨o,es,ep,ho,hd,hk,_,hm⟩:=n
 refine ⟨o,ho,fun name=>?_⟩
 have e:=hm name
 unfold nsFind findBy at e
 rw [<- Array.find?_toList] at e
 unfold PySem.W.lookIn
 rw [hd]
 dsimp only
 split
 ·rename_i y q
  rw [q] at e
  exact congrArg some e
 ·rename_i q
  rw [q] at e
  have a:es.toList.any (·.refKey)=false:=by
   rw [List.any_eq_false]
   intro y hy
   obtain ⟨z,t,hkey⟩:=hk y (Array.mem_toList_iff.mp hy)
   simp [DictEntry.refKey,hkey]
  have a':¬ es.toList.any (·.refKey)=true:=by rw [a]; exact Bool.false_ne_true
  rw [if_neg a']
  exact congrArg some e
theorem ObjM.look {h:Heap} {x dx C:Addr} {mA:Str->Option Value} (I:ObjM h x dx C mA):∃ od,PySem.W.InstAt h x (PySem.W.instObj C dx) C (some od)/\∀ name,PySem.W.lookIn name od=some (mA name):=
 let ⟨od,ho,hl⟩:=xpb I.ns
 ⟨od,⟨I.obj,rfl,rfl,ho⟩,hl⟩
theorem RelO.some_of {v:V} {o:Option Value} (r:RelO (some v) o):∃ u,o=some u/\RelV v u:=by
 cases o with
 | none=>exact (show False from r).elim
 | some u=>exact ⟨u,rfl,r⟩
section
variable {P:Program} {w:World} {H H':Hp} {h h':Heap} {a C dx:Addr} {fs fs':List (Str×V)}
theorem xtk (hok:HOk P w H h) (e:H a=some (.ins C dx fs)):∃ mA,ObjM h a dx C mA/\(∀ f,RelO (fs.lookup f) (mA f))/\PySem.Within mA (fs.map (·.1))/\fs.length<=1000/\H dx=some (.own a):=by
 obtain ⟨d,z,ne,ob,mA,n,r,q⟩:=(show ObjOk P w H h a (.ins C dx fs) from hok a _ e)
 exact ⟨mA,⟨ob,n,ne⟩,r,q,z,d⟩
end
structure Cls (K:PySem.W.Frag) (C:Addr):Prop where
 pg:PySem.W.plainGet K C Str.empty=true
 hd:PySem.W.hasDictIn K C=true
 po:PySem.W.plainOver K C=true
 sa:PySem.W.findIn K (.ref C) "__setattr__"=some (some (.builtin "object.__setattr__"))
theorem Cls.get {K:PySem.W.Frag} {C:Addr} (c:Cls K C) (f:Str):PySem.W.plainGet K C f=true:=c.pg
section
variable {X:Cx} {pins:List (Addr×Obj)} {σ:St} {H:Hp} {s:Shared} {A:Around} {E:Value->Shared->Prop} {Q:Value->Shared->Prop} {c:Value} {b:Bool}
inductive TyOf (K:PySem.W.Frag) (H:Hp):V->Value->Prop where
 | non:TyOf K H .non (.type "NoneType")
 | bl (x:Bool):TyOf K H (.bl x) (.type "bool")
 | int (i:Int):TyOf K H (.int i) (.type "int")
 | str (x:Str):TyOf K H (.str x) (.type "str")
 | flt (x:UInt64):TyOf K H (.flt x) (.type "float")
 | lst {a:Addr} {xs:List V} (e:H a=some (.lst xs)):TyOf K H (.ref a) (.type "list")
 | frz {a:Addr} {o:Obj} {xs:List V} (e:H a=some (.frz o (.lst xs))):TyOf K H (.ref a) (.type "list")
 | tup {a:Addr} {xs:List V} (e:H a=some (.tup xs)):TyOf K H (.ref a) (.type "tuple")
 | dK {a:Addr} {kvs:List (Key×V)} (e:H a=some (.dK kvs)):TyOf K H (.ref a) (.type "dict")
 | dT {a:Addr} {kvs:List (List Key×V)} (e:H a=some (.dT kvs)):TyOf K H (.ref a) (.type "dict")
 | ins {a C dx:Addr} {fs:List (Str×V)} (e:H a=some (.ins C dx fs)) (cl:Cls K C) (ha:PySem.W.findIn K (.ref C) "__class__"=some (some (.builtin "object.__class__")))
   (hn:PySem.W.specialIn K (.builtin "object.__class__") "__get__"=some (some (.builtin "getset_descriptor.__get__"))) (htk:PySem.W.takesIn K (.builtin "object.__class__")=some true)
   (hm:PySem.W.mroIn K C (.type "object")=some true):TyOf K H (.ref a) (.ref C)
theorem xpl {x:V} {u t:Value} (I:Inv X pins σ H s) (rx:RelV x u) (ty:TyOf X.K H x t) (e:PySem.W.kitOne X.K t c=some b) (h:∀ tk,Q (.bool b) { s with toks:=tk }) :
  wpAny (model X.prog X.w) A (call (.builtin "isinstance") [u,c]) Q E s:=by
 cases ty with
 | non=>cases (show u=Value.none from rx); exact PySem.W.kia_one PySem.W.kitx_none I.kIn True.intro e (fun z=>nomatch z) h
 | bl y=>cases (show u=Value.bool y from rx); exact PySem.W.kia_one PySem.W.kitx_bool I.kIn True.intro e (fun z=>nomatch z) h
 | int i=>obtain ⟨t,q⟩:=(show ∃ t,u=Value.int i t from rx); cases q; exact PySem.W.kia_one PySem.W.kitx_int I.kIn True.intro e (fun z=>nomatch z) h
 | str y=>obtain ⟨t,q⟩:=(show ∃ t,u=Value.str y t from rx); cases q; exact PySem.W.kia_one PySem.W.kitx_str I.kIn True.intro e (fun z=>nomatch z) h
 | flt y=>obtain ⟨t,q⟩:=(show ∃ t,u=Value.float y t from rx); cases q; exact PySem.W.kia_one PySem.W.kitx_float I.kIn True.intro e (fun z=>nomatch z) h
 | @lst a xs ea=>
  cases (show u=Value.ref a from rx)
  obtain ⟨_,_,n,_,h1⟩:=(show ObjOk X.prog X.w H s.heap a (.lst xs) from I.hok a _ ea)
  exact PySem.W.kia_one PySem.W.kitx_list I.kIn ⟨_,h1,rfl⟩ e (fun z=>nomatch z) h
 | @frz a ob xs ea=>
  cases (show u=Value.ref a from rx)
  obtain ⟨_,_,_,n,_,h1⟩:=(show ObjOk X.prog X.w H s.heap a (.frz ob (.lst xs)) from I.hok a _ ea)
  exact PySem.W.kia_one PySem.W.kitx_list I.kIn ⟨_,h1,rfl⟩ e (fun z=>nomatch z) h
 | @tup a xs ea=>
  cases (show u=Value.ref a from rx)
  obtain ⟨_,_,_,p⟩:=(show ObjOk X.prog X.w H s.heap a (.tup xs) from I.hok a _ ea)
  obtain ⟨o,h1,h2,_⟩:=p
  exact PySem.W.kia_one PySem.W.kitx_tuple I.kIn ⟨o,h1,h2⟩ e (fun z=>nomatch z) h
 | @dK a kvs ea=>
  cases (show u=Value.ref a from rx)
  obtain ⟨_,_,vs,_,p⟩:=(show ObjOk X.prog X.w H s.heap a (.dK kvs) from I.hok a _ ea)
  obtain ⟨o,es,ep,h1,h2,_⟩:=p
  exact PySem.W.kia_one PySem.W.kitx_dict I.kIn ⟨o,h1,h2.1⟩ e (fun z=>nomatch z) h
 | @dT a kvs ea=>
  cases (show u=Value.ref a from rx)
  obtain ⟨_,_,xs,_,o,es,ep,h1,h2,_⟩:=(show ObjOk X.prog X.w H s.heap a (.dT kvs) from I.hok a _ ea)
  exact PySem.W.kia_one PySem.W.kitx_dict I.kIn ⟨o,h1,h2.1⟩ e (fun z=>nomatch z) h
 | @ins a C dx fs ea cl ha hn htk hm=>
  cases (show u=Value.ref a from rx)
  obtain ⟨mA,O,_⟩:=xtk I.hok ea
  obtain ⟨od,J,_⟩:=O.look
  exact PySem.W.kia_one (PySem.W.kitx_own (cl.get _) cl.hd ha hn htk hm) I.kIn J e (fun z=>nomatch z) h
end
end L2
namespace L2
open PySem PySem.Spec PyProof.Rows
structure Room (k:Nat) (A:Around):Prop where
 hd:A.handled=none
 dp:A.depth + 3 * k + 5 < recursionLimit
 un:A.units + 16 * k + 200 < cLine
theorem Room.mono {j k:Nat} {A:Around} (r:Room k A) (h:j<=k):Room j A:=⟨r.hd,by have:=r.dp; omega,by have:=r.un; omega⟩
theorem Room.deeper {k:Nat} {A:Around} (r:Room (k + 1) A) (env:Env):Room k (A.deeper env):=
 ⟨r.hd,by have:=r.dp; show A.depth + 1 + 3 * k + 5 < _; omega,by have:=r.un; show A.units + 3 + 16 * k + 200 < _; omega⟩
theorem Room.depth {k:Nat} {A:Around} (r:Room k A):A.depth < recursionLimit:=by have:=r.dp; omega
theorem Room.units {k:Nat} {A:Around} (r:Room k A):A.units + 64 < cLine:=by have:=r.un; omega
def tNil:TA:=fun _ H Q=>Q [] H
def xwb (ta:TE) (tr:TA):TA:=fun σ H Q=>ta σ H fun x H1=>tr σ H1 fun xs H2=>Q (x :: xs) H2
section
variable {X:Cx} {e:Expr} {es:List Expr} {te:TE} {t:TA} {pos:Pos}
theorem pN:PA X [] tNil:=fun _ _ _ _ H Q I h=>Calls.spliced_nil ⟨[],H,I,.nil,h⟩
theorem pc (ha:PE X e te) (hr:PA X es t) (hs:starEach (e :: es) X.env=(false,eval e X.env) :: starEach es X.env:=by rfl):PA X (e :: es) (xwb te t):=by
 intro pos pins s σ H Q I h
 rw [hs]
 show wpAny _ _ (spliced ((false,eval e X.env) :: backTo pos (starEach es X.env))) _ _ s
 refine Calls.spliced_cons (thn (ha pins s σ H _ I h) fun u s1 ⟨x,H1,I1,r1,q1⟩=>?_)
 exact thn (hr pos pins s1 σ H1 _ I1 q1) fun us s2 ⟨xs,H2,I2,r2,q2⟩=>⟨x :: xs,H2,I2,.cons r1 r2,q2⟩
def tTup (t:TA):TE:=fun σ H Q=>t σ H fun xs H1=>xs.length<=sizeLine/\∀ p,H1 p=none->Q (.ref p) (upd H1 p (.tup xs))
def tLst (t:TA):TE:=fun σ H Q=>t σ H fun xs H1=>xs.length<=sizeLine/\∀ p,H1 p=none->Q (.ref p) (upd H1 p (.lst xs))
theorem xbc {x1} (h:PA X es t):PE X (.Tuple es x1 pos) (tTup t):=by
 intro pins s σ H Q I hq
 refine wpAny_Tuple_spliced (thn (h pos pins s σ H _ I hq) fun us s1 ⟨xs,H1,I1,r,z,q⟩=>⟨by rw [<- r.length]; exact z,?_⟩)
 have hf:H1 s1.heap.objs.size=none:=I1.hok.fresh (Nat.le_refl _)
 refine ⟨.ref s1.heap.objs.size,upd H1 s1.heap.objs.size (.tup xs),I1.laid (t':=s1.toks) (fun b u e=>zPO _ e) (Nat.le_refl _) ?_,rfl,q _ hf⟩
 exact ⟨z,us,r,⟨_,Heap.get?_push_size _ rfl,rfl,_,rfl,rfl⟩⟩
theorem xb9 (h:PA X es t):PE X (.List es pos) (tLst t):=by
 intro pins s σ H Q I hq
 refine wpAny_List_spliced (thn (h pos pins s σ H _ I hq) fun us s1 ⟨xs,H1,I1,r,z,q⟩=>⟨by rw [<- r.length]; exact z,?_⟩)
 have hf:H1 s1.heap.objs.size=none:=I1.hok.fresh (Nat.le_refl _)
 refine ⟨.ref s1.heap.objs.size,upd H1 s1.heap.objs.size (.lst xs),I1.laid (t':=s1.toks) (fun b u e=>zPO _ e) (Nat.le_refl _) ?_,rfl,q _ hf⟩
 exact ⟨z,us,0,r,Heap.get?_push_size _ rfl⟩
end
abbrev Sp:=List V->Hp->VK->XK->Prop
abbrev CXT:=List Env->Hp->Shared->XK->Value->Shared->Prop
structure Env0 (P:Program) (w:World) (K:PySem.W.Frag) (mg:Str->Option Value) (base:Heap) (A:Around) (outer:List Env) (s:Shared) (H:Hp):Prop where
 frames:A.frames=some outer
 mod:Mod K mg base
 bs:∀ b o,base.get? b=some o->s.heap.get? b=some o/\H b=none
 bsz:base.objs.size<=s.heap.objs.size
 funs:s.heap.FunFrames base outer
 frf:∀ b∈frs outer,H b=none
 hok:HOk P w H s.heap
 bare:AllBare s.gens
def CE (outer:List Env) (P:Program) (w:World) (H:Hp) (s:Shared) (Q:VK) (u:Value) (s':Shared):Prop:=
 ∃ v H',s'.os=s.os/\AllBare s'.gens/\Un (frs outer) [] H H' s.heap s'.heap/\HOk P w H' s'.heap/\RelV v u/\Q v H'
def CR (CX:CXT) (outer:List Env) (P:Program) (w:World) (H:Hp) (s:Shared) (Q:VK) (E:XK) (r:Result) (s':Shared):Prop:=
 match r with
 | .ok (.ret u)=>CE outer P w H s Q u s'
 | .ok _=>False
 | .error e=>CX outer H s E e s'
structure FnOk (P:Program) (w:World) (K:PySem.W.Frag) (mg:Str->Option Value) (base:Heap) (CX:CXT) (k:Nat) (f:Addr) (fd:FuncData) (ps:List Str) (sp:Sp):Prop where
 len:∀ vs H Q E,sp vs H Q E->vs.length=ps.length
 run:∀ (A:Around) (outer:List Env) (s:Shared) (H:Hp) (args:Args) (us:List Value) (vs:List V) (Q:VK) (E:XK),Room k A->Env0 P w K mg base A outer s H->BindsTo s fd args (ps.zip us)->Vals vs us->sp vs H Q E->
  codeAny (model P w) A (.call (.ref f) args) (CR CX outer P w H s Q E) s
theorem FnOk.mono {P:Program} {w:World} {K:PySem.W.Frag} {mg:Str->Option Value} {base:Heap} {CX:CXT} {j k:Nat} {f:Addr} {fd:FuncData} {ps:List Str} {sp:Sp} (F:FnOk P w K mg base CX j f fd ps sp) (h:j<=k) :
  FnOk P w K mg base CX k f fd ps sp:=⟨F.len,fun A outer s H args us vs Q E hr=>F.run A outer s H args us vs Q E (hr.mono h)⟩
theorem FnOk.imp {P:Program} {w:World} {K:PySem.W.Frag} {mg:Str->Option Value} {base:Heap} {CX:CXT} {k:Nat} {f:Addr} {fd:FuncData} {ps:List Str} {sp sp':Sp} (F:FnOk P w K mg base CX k f fd ps sp)
  (h:∀ vs H Q E,sp' vs H Q E->sp vs H Q E):FnOk P w K mg base CX k f fd ps sp':=
 ⟨fun vs H Q E q=>F.len vs H Q E (h _ _ _ _ q),fun A outer s H args us vs Q E hr he hb hv hs=>F.run A outer s H args us vs Q E hr he hb hv (h _ _ _ _ hs)⟩
section
variable {X:Cx} {pins:List (Addr×Obj)} {σ:St} {H:Hp} {s s':Shared}
theorem Inv.env0 (I:Inv X pins σ H s):Env0 X.prog X.w X.K X.mg X.base X.A X.stack s H:=
 ⟨I.ok.frames,I.ok.mod,I.bs,Nat.le_trans I.ok.bsz I.sz,I.stack,I.stkFree,I.hok,I.bare⟩
theorem Inv.after {Q:VK} {u:Value} (I:Inv X pins σ H s) (h:CE X.stack X.prog X.w H s Q u s'):EP X pins σ Q u s':=by
 obtain ⟨v,H',os,bare,un,hok,r,q⟩:=h
 obtain ⟨hh,g,d,t,os'⟩:=s'
 obtain rfl:os'=s.os:=os
 exact ⟨v,H',I.call (h':=hh) (g':=g) (d':=d) (t':=t) (ch:=[]) un hok bare (fun b z=>absurd z (by simp)),r,q⟩
end
def xug (sp:Sp) (dvs:List V) (E:XK) (t:TA):TE:=fun σ H Q=>t σ H fun vs H1=>sp (vs++dvs) H1 Q E
def Binds (K:PySem.W.Frag) (fd:FuncData) (ps:List Str) (ds:List Value):Prop:=
 ∀ (s:Shared) (us:List Value),K.In s.heap->(us++ds).length=ps.length->BindsTo s fd ⟨us,[]⟩ (ps.zip (us++ds))
theorem Binds.all {K:PySem.W.Frag} {fd:FuncData} {ps:List Str} (h:∀ us:List Value,us.length=ps.length->bindArgs fd ⟨us,[]⟩=pure (ps.zip us)):Binds K fd ps []:=fun s us _ hl=>by
 rw [List.append_nil] at hl ⊢
 exact .of_eq (h us hl)
def xp5 (CX:CXT) (X:Cx) (E:XK):Prop:=∀ (pins:List (Addr×Obj)) (σ:St) (H:Hp) (s:Shared) (e:Value) (s':Shared),Inv X pins σ H s->CX X.stack H s E e s'->X.xe e s'
section
variable {X:Cx} {CX:CXT} {k:Nat} {f C:Addr} {fd:FuncData} {ps:List Str} {sp:Sp} {dvs:List V} {ds:List Value} {E:XK} {x m:Str} {p pos apos:Pos} {e o:Expr} {es:List Expr} {ta:TE} {t:TA}
theorem xus {pins:List (Addr×Obj)} {σ:St} {H:Hp} {s:Shared} {Q:VK} {us:List Value} {vs:List V} (F:FnOk X.prog X.w X.K X.mg X.base CX k f fd ps sp) (hr:Room k X.A) (hb:Binds X.K fd ps ds) (hd:Vals dvs ds) (hx:xp5 CX X E)
  (I:Inv X pins σ H s) (r:Vals vs us) (h:sp (vs++dvs) H Q E):wpAny (model X.prog X.w) X.A (call (.ref f) us) (EP X pins σ Q) X.xe s:=by
 have r2:Vals (vs++dvs) (us++ds):=r.append hd
 have hl:(us++ds).length=ps.length:=by rw [<- r2.length]; exact F.len _ _ _ _ h
 refine wpAny_call (codeAny_mono (F.run X.A X.stack s H ⟨us,[]⟩ (us++ds) (vs++dvs) Q E hr I.env0 (hb s us I.kIn hl) r2 h) fun r s' hq=>?_)
 cases r with
 | error e=>exact hx pins σ H s e s' I hq
 | ok fl=>
  cases fl with
  | ret u=>exact I.after hq
  | next=>exact False.elim hq
  | brk=>exact False.elim hq
  | cont=>exact False.elim hq
theorem xs1 (F:FnOk X.prog X.w X.K X.mg X.base CX k f fd ps sp) (hr:Room k X.A) (hg:Gl X x) (hm:X.mg x=some (.ref f)) (hk:PySem.W.keepIn X.K (.ref f)=true) (hb:Binds X.K fd ps ds) (hd:Vals dvs ds) (hx:xp5 CX X E)
  (ha:PA X (e :: es) t) (hdb:(x == ("__debug__":Str))=false:=by decide) (he:starEach (e :: es) X.env=(false,eval e X.env) :: starEach es X.env:=by rfl) (hpl:(backTo pos (starEach es X.env)).any (·.1)=false:=by rfl) :
  PE X (.Call (.Name x p) (e :: es) [] pos) (xug sp dvs E t):=by
 intro pins s σ H Q I h
 refine wpAny_Call_Name_kw (xg4 I hg hm ?_ hdb)
 refine PySem.W.callWith_K (h₀:=X.base) I.ok.mod.kin hk (thn (ha pos pins s σ H _ I h) fun us s1 ⟨vs,H1,I1,r,q⟩=>⟨I1.kIn,?_⟩) he hpl
 exact xus F hr hb hd hx I1 r q
end
structure FnScope (N P:List Str) (sc:Scope):Prop where
 kind:sc.kind=.function
 co:sc.isCoroutine=false
 gen:sc.isGenerator=false
 nd:N.Nodup
 pre:N.take P.length=P
 par:∀ x∈P,sc.names.lookup x=some .local\/sc.names.lookup x=some .cell
 nofree:∀ y∈sc.names,y.2≠.free
theorem xkj {kindOf:Str->Option NameKind} {x:Str}:∀ {binds:List (Str×Value)} {m:Str->Option Value},(∀ v,(x,v) ∉ binds)->bindL kindOf binds m x=m x
 | [],_,_=>rfl
 | (n,v) :: r,m,h=>by
  unfold bindL
  rw [xkj fun w hw=>h w (List.mem_cons_of_mem _ hw)]
  split
  ·have:x≠n:=by rintro rfl; exact h v List.mem_cons_self
   simp [this]
  ·rfl
theorem xkl {kindOf:Str->Option NameKind} {x:Str}:∀ {binds:List (Str×Value)} {m:Str->Option Value},(∀ v,(x,v) ∉ binds)->bindC kindOf binds m x=m x
 | [],_,_=>rfl
 | (n,v) :: r,m,h=>by
  unfold bindC
  rw [xkl fun w hw=>h w (List.mem_cons_of_mem _ hw)]
  split
  ·rfl
  ·have:x≠n:=by rintro rfl; exact h v List.mem_cons_self
   simp [this]
theorem xkk {kindOf:Str->Option NameKind} {x:Str} {v:Value}:∀ {P:List Str} {vs:List Value} {i:Nat} {m:Str->Option Value},P.Nodup->P[i]?=some x->vs[i]?=some v->kindOf x=some .local->
  bindL kindOf (P.zip vs) m x=some v
 | [],_,_,_,_,h,_,_=>by simp at h
 | _ :: _,[],_,_,_,_,h,_=>by simp at h
 | p :: P,w :: vs,0,m,nd,h1,h2,hk=>by
  simp at h1 h2; subst h1; subst h2
  show bindL kindOf ((p,w) :: P.zip vs) m p=_
  unfold bindL
  rw [xkj fun v hv=>(List.nodup_cons.mp nd).1 (List.of_mem_zip hv).1,if_pos hk]
  simp
 | p :: P,w :: vs,i + 1,m,nd,h1,h2,hk=>by
  show bindL kindOf ((p,w) :: P.zip vs) m x=_
  unfold bindL
  exact xkk (i:=i) (List.nodup_cons.mp nd).2 (by simpa using h1) (by simpa using h2) hk
theorem xkm {kindOf:Str->Option NameKind} {x:Str} {v:Value}:∀ {P:List Str} {vs:List Value} {i:Nat} {m:Str->Option Value},P.Nodup->P[i]?=some x->vs[i]?=some v->kindOf x≠some .local->
  bindC kindOf (P.zip vs) m x=some v
 | [],_,_,_,_,h,_,_=>by simp at h
 | _ :: _,[],_,_,_,_,h,_=>by simp at h
 | p :: P,w :: vs,0,m,nd,h1,h2,hk=>by
  simp at h1 h2; subst h1; subst h2
  show bindC kindOf ((p,w) :: P.zip vs) m p=_
  unfold bindC
  rw [xkl fun v hv=>(List.nodup_cons.mp nd).1 (List.of_mem_zip hv).1,if_neg hk]
  simp
 | p :: P,w :: vs,i + 1,m,nd,h1,h2,hk=>by
  show bindC kindOf ((p,w) :: P.zip vs) m x=_
  unfold bindC
  exact xkm (i:=i) (List.nodup_cons.mp nd).2 (by simpa using h1) (by simpa using h2) hk
def xf8 (N:List Str) (vs:List V):St:=vs.map some++List.replicate (N.length - vs.length) none
def cxOf (CX:CXT) (P:Program) (w:World) (K:PySem.W.Frag) (mg:Str->Option Value) (base:Heap) (N:List Str) (qual:Str) (scope:Scope) (f:Addr) (cd:Value) (A:Around) (outer:List Env) (s:Shared) (H:Hp) (E:XK):Cx where
 prog:=P
 w:=w
 K:=K
 mg:=mg
 base:=base
 A:=A.deeper (envOfC qual scope s.heap.objs.size f cd)
 N:=N
 s₀:=s
 H₀:=H
 env:=envOfC qual scope s.heap.objs.size f cd
 outer:=outer
 stack:=envOfC qual scope s.heap.objs.size f cd :: outer
 ex:=[]
 calm:=true
 fn:=fun _=>true
 pn:=[]
 xe:=fun e s'=>wpAny (model P w) (A.deeper (envOfC qual scope s.heap.objs.size f cd)) (leaving (envOfC qual scope s.heap.objs.size f cd) e) (fun _ s''=>CX outer H s E e s'') (fun e' s''=>CX outer H s E e' s'') s'
theorem xm1 {sc:Scope} {n:Nat} {x:Str} (h:sc.names.lookup x=some .cell):∃ c,(cellsFrom n sc.names []).lookup x=some c:=by
 have q:=PySem.W.cellsFrom_some sc.names n [] (.inl h)
 exact Option.isSome_iff_exists.mp q
theorem xpm {CX:CXT} {P:Program} {w:World} {K:PySem.W.Frag} {mg:Str->Option Value} {base:Heap} {N ps:List Str} {qual:Str} {scope:Scope} {f:Addr} {cd:Value} {A:Around} {outer:List Env} {s s1:Shared} {H:Hp} {E:XK} {us:List Value} {vs:List V}
  (S:FnScope N ps scope) (hd:A.handled=none) (e0:Env0 P w K mg base A outer s H) (hl:vs.length=ps.length) (r:Vals vs us)
  (x:InCallC s s.heap.objs.size (bindL (envOfC qual scope s.heap.objs.size f cd).kindOf (ps.zip us) fun _=>none) (cellsFrom (s.heap.objs.size + 1) scope.names []) (bindC (envOfC qual scope s.heap.objs.size f cd).kindOf (ps.zip us) fun _=>none) s1) :
  Inv (cxOf CX P w K mg base N qual scope f cd A outer s H E) [] (xf8 N vs) H s1:=by
 have hpl:ps.length<=N.length:=by have:=congrArg List.length S.pre; rw [List.length_take] at this; omega
 obtain ⟨h1,tk,rfl,hk⟩:=x.done
 have noA:∀ b:Addr,b ∉ (cxOf CX P w K mg base N qual scope f cd A outer s H E).ex:=fun b z=>absurd (show b∈([]:List Addr) from z) (by simp)
 refine ⟨⟨e0.mod,S.kind,rfl,rfl,Nat.le_refl _,fun y z c h1 h2=>?_,fun y hy=>?_,fun y c _ h=>?_,fun _=>hd,Around.frames_deeper e0.frames,.inr ⟨rfl,rfl⟩,fun b z=>absurd z (noA b),e0.bs,e0.bsz,fun b _ _=>noA b,fun b z=>absurd z (noA b),e0.funs,e0.frf⟩,
  rfl,e0.bare,Un.kept hk,⟨_,x.toInCall.ns,fun i y v h1 h2 h3=>?_⟩,fun y c h=>⟨_,x.cell y c h⟩,e0.hok.fresh (Nat.le_refl _),fun y c h=>?_,fun p hp=>absurd (show p∈([]:List (Addr×Obj)) from hp) (by simp),e0.hok.kept hk,?_⟩
 ·exact name_of_addr x.apart (PySem.mem_of_lookup h1) (PySem.mem_of_lookup h2)
 ·have hy:scope.names.lookup y=some .cell\/scope.names.lookup y=some .free:=hy
  rcases hy with hy | hy
  ·exact xm1 hy
  ·exact absurd rfl (S.nofree _ (PySem.mem_of_lookup hy))
 ·exact Nat.le_of_lt (x.above y c (PySem.mem_of_lookup h))
 ·have hi:i < vs.length:=by
   unfold xf8 at h2
   by_cases hi:i < vs.length
   ·exact hi
   ·rw [List.getElem?_append_right (by simpa using hi)] at h2
    rw [List.getElem?_replicate] at h2
    split at h2 <;> cases h2
  have ha:vs[i]?=some v:=by
   unfold xf8 at h2
   rw [List.getElem?_append_left (by simpa using hi),zGM] at h2
   cases e:vs[i]? with
   | none=>rw [e] at h2; cases h2
   | some a=>rw [e] at h2; cases h2; rfl
  obtain ⟨u,hu,rv⟩:=r.get ha
  have hp:ps[i]?=some y:=by
   rw [<- S.pre,List.getElem?_take_of_lt (by omega)]; exact h1
  have ndP:ps.Nodup:=by rw [<- S.pre]; exact S.nd.sublist (List.take_sublist _ _)
  refine ⟨u,rv,?_⟩
  rcases S.par y (zMG hp) with k | k
  ·exact .inl ⟨k,xkk ndP hp hu k⟩
  ·obtain ⟨c,e⟩:=xm1 (n:=s.heap.objs.size + 1) k
   refine .inr ⟨.inl k,c,e,?_⟩
   have q:=x.cell y c e
   rw [xkm ndP hp hu (by show scope.names.lookup y≠_; rw [k]; decide)] at q
   exact q
 ·exact e0.hok.fresh (Nat.le_of_lt (x.above y c (PySem.mem_of_lookup h)))
 ·unfold xf8
  show _=N.length
  rw [zLA,zLM,List.length_replicate]
  omega
theorem xvr {CX:CXT} {P:Program} {w:World} {K:PySem.W.Frag} {mg:Str->Option Value} {base:Heap} {k:Nat} {f:Addr} {name qual:Str} {params:Arguments} {body:List Stmt} {scope:Scope} {dV kV doc pm cdv ct oc:Value} {an od:Option Addr}
  {osl:Array (Option Value)} {N ps:List Str} {sp:Sp} (lk:K.lookup f=some ⟨oc,od,.func (PySem.W.fnOf name qual params body scope dV kV doc pm an cdv ct),osl⟩) (hcd:PySem.W.codeIn K cdv qual=true) (S:FnScope N ps scope)
  (len:∀ vs H Q E,sp vs H Q E->vs.length=ps.length)
  (hbody:∀ (A:Around) (outer:List Env) (s:Shared) (H:Hp) (vs:List V) (Q:VK) (E:XK),Room k (A.deeper (envOfC qual scope s.heap.objs.size f cdv))->sp vs H Q E->
   ∃ t,PSs (cxOf CX P w K mg base N qual scope f cdv A outer s H E) body t/\t { nx:=fun _ H'=>Q .non H',rt:=Q } (xf8 N vs) H) :
  FnOk P w K mg base CX (k + 1) f (PySem.W.fnOf name qual params body scope dV kV doc pm an cdv ct) ps sp:=by
 refine ⟨len,fun A outer s H args us vs Q E hr e0 hb r hsp=>?_⟩
 have hl:=len _ _ _ _ hsp
 have KX:K.In s.heap:=e0.mod.kin.keeps fun b o e=>(e0.bs b o e).1
 have lim:s.heap.NoLimit:=e0.mod.nolimit.keeps fun b o e=>(e0.bs b o e).1
 have hkind:∀ y∈ps.zip us,scope.names.lookup y.1=some .local\/(scope.names.lookup y.1=some .cell/\((cellsFrom (s.heap.objs.size + 1) scope.names []).lookup y.1).isSome=true):=fun ⟨n,v⟩ hy=>by
  rcases S.par n (List.of_mem_zip hy).1 with q | q
  ·exact .inl q
  ·exact .inr ⟨q,PySem.W.cellsFrom_some _ _ _ (.inl q)⟩
 refine codeAny_call_function hr.depth (KX _ _ lk) rfl S.co S.gen rfl (PySem.W.codeRec_of KX hcd) (hb _ _ _ _ ?_)
 refine wpAny_newFunctionEnv_cells S.kind hkind fun env he s1 x=>?_
 subst he
 refine ⟨lim.keeps x.toInCall.keep,codeAny_func ?_⟩
 obtain ⟨t,ht,hq⟩:=hbody A outer s H vs Q E (hr.deeper _) hsp
 have I:Inv (cxOf CX P w K mg base N qual scope f cdv A outer s H E) [] (xf8 N vs) H s1:=xpm S hr.hd e0 hl r x
 refine wpAny_mono (ht [] s1 (xf8 N vs) H _ I hq) (fun fl s' hs=>?_) fun e s' hs=>hs
 have fin:∀ {σ':St} {H':Hp} {v:V} {u:Value},Inv (cxOf CX P w K mg base N qual scope f cdv A outer s H E) [] σ' H' s'->RelV v u->Q v H'->CE outer P w H s Q u s':=
  fun {σ' H' v u} J rv q=>⟨v,H',J.os,J.bare,J.base,J.hok,rv,q⟩
 cases fl with
 | ret u=>
  obtain ⟨v,σ',H',J,rv,q⟩:=hs
  exact fin J rv q
 | next=>
  obtain ⟨σ',H',J,q⟩:=hs
  exact fin (v:=V.non) (u:=Value.none) J rfl q
 | brk=>
  obtain ⟨_,_,_,q⟩:=hs
  exact False.elim q
 | cont=>
  obtain ⟨_,_,_,q⟩:=hs
  exact False.elim q
end L2
namespace L2
open PySem PySem.Spec PyProof.Rows
section
variable {X:Cx} {x:Str} {p pos:Pos} {e:Expr} {es:List Expr} {t:TA} {id T:String} {r:List V->Hp->VK->Prop}
def tCB (r:List V->Hp->VK->Prop) (t:TA):TE:=fun σ H Q=>t σ H fun vs H1=>r vs H1 Q
theorem xao (hc:xfz X (.builtin id) r) (hg:Gl X x) (hm:X.mg x=none) (hv:bootBuiltins x=some (.builtin id)) (ha:PA X (e :: es) t) (hn:x≠"__name__":=by decide) (hdb:(x == ("__debug__":Str))=false:=by decide)
  (he:starEach (e :: es) X.env=(false,eval e X.env) :: starEach es X.env:=by rfl) (hpl:(backTo pos (starEach es X.env)).any (·.1)=false:=by rfl):PE X (.Call (.Name x p) (e :: es) [] pos) (tCB r t):=by
 intro pins s σ H Q I h
 refine wpAny_Call_Name_kw (xdu I hg hm hv ?_ hn hdb)
 exact PyProof.Rows.callWith_builtin1 (thn (ha pos pins s σ H _ I h) fun us s1 ⟨vs,H1,I1,r1,q1⟩=>hc pins s1 σ H1 vs us Q I1 r1 q1) he hpl
theorem xa6 (hc:xfz X (.type T) r) (hg:Gl X x) (hm:X.mg x=none) (hv:bootBuiltins x=some (.type T)) (ha:PA X (e :: es) t) (hn:x≠"__name__":=by decide) (hdb:(x == ("__debug__":Str))=false:=by decide)
  (he:starEach (e :: es) X.env=(false,eval e X.env) :: starEach es X.env:=by rfl) (hpl:(backTo pos (starEach es X.env)).any (·.1)=false:=by rfl):PE X (.Call (.Name x p) (e :: es) [] pos) (tCB r t):=by
 intro pins s σ H Q I h
 refine wpAny_Call_Name_kw (xdu I hg hm hv ?_ hn hdb)
 exact PyProof.Rows.callWith_type1 (thn (ha pos pins s σ H _ I h) fun us s1 ⟨vs,H1,I1,r1,q1⟩=>hc pins s1 σ H1 vs us Q I1 r1 q1) he hpl
end
end L2
namespace HT
open PySem PyProof.Rows
section
variable {prog:Program} {w:World} {A:Around} {E:Value->Shared->Prop} {s:Shared}
def sIx (n d:Nat):Option Int->Nat
 | none=>d
 | some v=>if v < 0 then (v + (n:Int)).toNat else min v.toNat n
theorem sIx_none (n d:Nat):sIx n d none=d:=rfl
theorem sIx_nat (n d k:Nat):sIx n d (some (k:Int))=min k n:=by
 show (if (k:Int) < 0 then ((k:Int) + (n:Int)).toNat else min (k:Int).toNat n)=min k n
 rw [if_neg (by omega),Int.toNat_natCast]
theorem xur (n d:Nat) (hd:d<=n) (o:Option Int):sIx n d o<=n:=by
 cases o with
 | none=>exact hd
 | some v=>
  show (if v < 0 then (v + (n:Int)).toNat else min v.toNat n)<=n
  by_cases hv:v < 0
  ·rw [if_pos hv]; omega
  ·rw [if_neg hv]; exact Nat.min_le_right _ _
theorem xp1 (v:Int) (n d:Nat):(if v < 0 then max (v + (n:Int)) 0 else min v (n:Int))=((sIx n d (some v):Nat):Int):=by
 show (if v < 0 then max (v + (n:Int)) 0 else min v (n:Int))=(((if v < 0 then (v + (n:Int)).toNat else min v.toNat n):Nat):Int)
 by_cases hv:v < 0
 ·simp only [if_pos hv]; omega
 ·simp only [if_neg hv]; omega
theorem xny (lo hi:Option Int) (n:Nat):Builtin.Slice.sliceAdjust lo hi 1 (n:Int)=(((sIx n 0 lo:Nat):Int),((sIx n n hi:Nat):Int)):=by
 have h1:¬ ((1:Int) < 0):=by omega
 unfold Builtin.Slice.sliceAdjust
 simp only [h1,if_false]
 refine Prod.ext ?_ ?_
 ·cases lo with
  | none=>rfl
  | some v=>exact xp1 v n 0
 ·cases hi with
  | none=>rfl
  | some v=>exact xp1 v n n
theorem xnf (i j:Nat):Builtin.Slice.slicePlaces (i:Int) (j:Int) 1=j - i:=by
 unfold Builtin.Slice.slicePlaces
 have h1:(1:Int) > 0:=by omega
 simp only [h1,if_true,Int.ediv_one]
 split <;> omega
theorem xht {v:Value} {o:Option Int} {Q:Option Int->Shared->Prop} (p:IsPart v o) (h:Q o s):wpAny (model prog w) A (Builtin.Slice.slicePartIndex v) Q E s:=by
 cases p with
 | none=>exact slicePart_none h
 | int i t=>exact slicePart_int h
theorem xga {sl:Addr} {vl vu:Value} {lo hi:Option Int} {n:Nat} {Q:Int×Int×Nat->Shared->Prop} (hs:s.heap.IsSliceOf sl vl vu .none) (pl:IsPart vl lo) (pu:IsPart vu hi)
  (h:Q (((sIx n 0 lo:Nat):Int),1,sIx n n hi - sIx n 0 lo) s):wpAny (model prog w) A (Builtin.Slice.sliceApplied (.ref sl) (pure (n:Int))) Q E s:=by
 obtain ⟨os,hos,hcs,hds⟩:=id hs
 unfold Builtin.Slice.sliceApplied Builtin.Slice.sliceFields
 refine wpAny_bind (wpAny_bind (wpAny_field hos hds (x:=vl) rfl (wpAny_bind (wpAny_field hos hds (x:=vu) rfl (wpAny_bind (wpAny_field hos hds (x:=.none) rfl (wpAny_pure ?_)))))))
 refine wpAny_bind (slicePart_none ?_)
 show wpAny _ _ (if ((1:Int) == 0)=true then _ else _) _ _ s
 rw [if_neg (by decide)]
 refine wpAny_bind (xht pl (wpAny_bind (xht pu (wpAny_bind (wpAny_pure ?_)))))
 show wpAny _ _ (match Builtin.Slice.sliceAdjust lo hi 1 (n:Int) with | (lo,hi)=>pure (lo,(1:Int),Builtin.Slice.slicePlaces lo hi 1)) _ _ s
 rw [xny lo hi n]
 show wpAny _ _ (pure (((sIx n 0 lo:Nat):Int),(1:Int),Builtin.Slice.slicePlaces ((sIx n 0 lo:Nat):Int) ((sIx n n hi:Nat):Int) 1)) _ _ s
 rw [xnf]
 exact wpAny_pure h
theorem xqq (xs:Array Value) (i k:Nat):((List.range k).filterMap fun (m:Nat)=>xs[((i:Int) + (m:Int) * 1).toNat]?).toArray=((xs.toList.drop i).take k).toArray:=by
 have e:(fun (m:Nat)=>xs[((i:Int) + (m:Int) * 1).toNat]?)=fun m=>xs[i + m]?:=by
  funext m
  have:((i:Int) + (m:Int) * 1).toNat=i + m:=by omega
  rw [this]
 rw [e]
 have:=pick_run xs i k
 rw [List.filterMap_map] at this
 have e2:((fun x=>xs[x]?) ∘ fun x=>i + x)=fun m=>xs[i + m]?:=rfl
 rw [e2] at this
 rw [this]
theorem getItem_tuple_cut {t sl:Addr} {items:Array Value} {vl vu:Value} {lo hi:Option Int} {Q:Value->Shared->Prop} (ht:IsTup s.heap t items) (hs:s.heap.IsSliceOf sl vl vu .none) (pl:IsPart vl lo) (pu:IsPart vu hi)
  (hw:¬ (sIx items.size 0 lo=0/\sIx items.size items.size hi=items.size))
  (h:Q (.ref s.heap.objs.size) { s with heap:=s.heap.push { cls:=.type "tuple",data:=.seq ((items.toList.drop (sIx items.size 0 lo)).take (sIx items.size items.size hi - sIx items.size 0 lo)).toArray } })
  (hsz:items.size<=sizeLine):wpAny (model prog w) A (getItem (.ref t) (.ref sl)) Q E s:=by
 have htake:sizeOk (.seq ((items.toList.drop (sIx items.size 0 lo)).take (sIx items.size items.size hi - sIx items.size 0 lo)).toArray):=by
  show ((items.toList.drop (sIx items.size 0 lo)).take (sIx items.size items.size hi - sIx items.size 0 lo)).toArray.size<=sizeLine
  rw [List.size_toArray,List.length_take,List.length_drop,Array.length_toList]
  omega
 have hj:sIx items.size items.size hi<=items.size:=xur _ _ (Nat.le_refl _) hi
 obtain ⟨os,hos,hcs,hds⟩:=id hs
 have hTs:s.TypeIs (.ref sl) "slice":=⟨os,hos,hcs⟩
 unfold getItem
 try with_reducible refine wpAny_holding ?_
 first | refine wpAny_bind (wpAny_pure ?_) | skip
 refine wpAny_bind (wpAny_sequenceKey ht.typeIs (by decide) ?_)
 refine wpAny_bind (wpAny_callSpecial?_slot (name:=Str.ofString "__getitem__") ht.typeIs PyProof.Rows.slot_tuple_getitem
  (wpAny_call_entry PyProof.Rows.slot_tuple_getitem ht.typeIs entry_tuple_getitem ?_ (args_tuple_getitem _ _)))
 show wpAny _ _ (Builtin.Tuple.tupleItemsOf (.ref t) >>= _) _ _ s
 refine wpAny_bind (tupleItemsOf_ ht ?_)
 refine wpAny_bind (wpAny_typeOf hTs ?_)
 rw [if_pos (by decide)]
 refine wpAny_bind (xga hs pl pu ?_)
 have hno:¬ ((((sIx items.size 0 lo:Nat):Int) == 0 && (1:Int) == 1 && (sIx items.size items.size hi - sIx items.size 0 lo) == items.size)=true):=by
  intro q
  rw [Bool.and_eq_true,Bool.and_eq_true] at q
  have q1:((sIx items.size 0 lo:Nat):Int)=0:=eq_of_beq q.1.1
  have q2:sIx items.size items.size hi - sIx items.size 0 lo=items.size:=eq_of_beq q.2
  exact hw ⟨by omega,by omega⟩
 show wpAny _ _ (if (((sIx items.size 0 lo:Nat):Int) == 0 && (1:Int) == 1 && (sIx items.size items.size hi - sIx items.size 0 lo) == items.size)=true then _ else _) _ _ s
 rw [if_neg hno,xqq]
 first
  | exact wpAny_bind (m:=Builtin.Tuple.tupleExact _) (wpAny_newObj_type (wpAny_pure ⟨_,rfl,wpAny_pure h⟩) htake)
  | exact wpAny_bind (m:=Builtin.Tuple.tupleExact _) (wpAny_newObj_type (wpAny_bind (wpAny_pure (wpAny_pure ⟨_,rfl,wpAny_pure h⟩))) htake)
  | exact wpAny_bind (wpAny_bind (m:=Builtin.Tuple.tupleExact _) (wpAny_newObj_type (wpAny_pure (wpAny_pure ⟨_,rfl,wpAny_pure h⟩)) htake))
  | exact wpAny_bind (wpAny_bind (m:=Builtin.Tuple.tupleExact _) (wpAny_newObj_type (wpAny_pure ⟨_,rfl,wpAny_pure h⟩) htake))
end
end HT
namespace L2
open PySem PySem.Spec PyProof.Rows
abbrev TO:=St->Hp->(Option Int->Hp->Prop)->Prop
def PO (X:Cx) (e:Option Expr) (t:TO):Prop:=
 ∀ (pins:List (Addr×Obj)) (s:Shared) (σ:St) (H:Hp) (Q:Option Int->Hp->Prop),Inv X pins σ H s->t σ H Q->
  wpAny (model X.prog X.w) X.A (evalPart e X.env) (fun u s'=>∃ o H',Inv X pins σ H' s'/\IsPart u o/\Q o H') X.xe s
def xsp:TO:=fun _ H Q=>Q none H
def xv7 (t:TE):TO:=fun σ H Q=>t σ H fun x H1=>∃ i,x=.int i/\Q (some i) H1
theorem xhy {ns:List Int}:∀ {us:List Value},Vals (ns.map V.int) us->IntsAre us ns:=by
 induction ns with
 | nil=>intro us r; rw [List.map_nil] at r; cases r; exact .nil
 | cons n ns ih=>
  intro us r
  rw [List.map_cons] at r
  cases r with
  | cons r1 r2=>
   obtain ⟨t,e⟩:=r1
   subst e
   exact .cons n t (ih r2)
section
variable {X:Cx} {e:Expr} {te:TE} {lo hi:Option Expr} {tl th:TO} {pos p2:Pos}
theorem xe7:PO X none xsp:=by
 intro pins s σ H Q I h
 rw [evalPart_none]
 exact wpAny_pure ⟨none,H,I,.none,h⟩
theorem xd1 (h:PE X e te):PO X (some e) (xv7 te):=by
 intro pins s σ H Q I hw
 rw [evalPart_some]
 refine thn (h pins s σ H _ I hw) fun u s1 ⟨x,H1,I1,r1,q1⟩=>?_
 obtain ⟨i,rfl,q⟩:=q1
 obtain ⟨t,rfl⟩:=r1
 exact ⟨some i,H1,I1,.int i t,q⟩
def SlR (X:Cx) (r:V->Option Int->Option Int->Hp->VK->Prop):Prop:=
 ∀ (pins:List (Addr×Obj)) (s:Shared) (σ:St) (H:Hp) (x:V) (v vl vu:Value) (lo hi:Option Int) (sl:Addr) (Q:VK),Inv X pins σ H s->RelV x v->s.heap.IsSliceOf sl vl vu .none->IsPart vl lo->IsPart vu hi->r x lo hi H Q->
  ∃ T id,typeLookup (.type T) "__getitem__"=pure (some (.builtin id))/\s.TypeIs v T/\wpAny (model X.prog X.w) X.A (getItem v (.ref sl)) (EP X pins σ Q) X.xe s
def tSl (r:V->Option Int->Option Int->Hp->VK->Prop) (te:TE) (tl th:TO):TE:=fun σ H Q=>te σ H fun x H1=>tl σ H1 fun l H2=>th σ H2 fun u H3=>r x l u H3 Q
theorem xdi {r:V->Option Int->Option Int->Hp->VK->Prop} (hr:SlR X r) (he:PE X e te) (hl:PO X lo tl) (hu:PO X hi th):PE X (.Subscript e (.Slice lo hi none p2) pos) (tSl r te tl th):=by
 intro pins s σ H Q I h
 refine Subscript_ (thn (he pins s σ H _ I h) fun v s1 ⟨x,H1,I1,r1,q1⟩=>?_)
 refine wpAny_Slice (thn (hl pins s1 σ H1 _ I1 q1) fun vl s2 ⟨l,H2,I2,pl,q2⟩=>thn (hu pins s2 σ H2 _ I2 q2) fun vu s3 ⟨u,H3,I3,pu,q3⟩=>?_)
 rw [evalPart_none]
 refine wpAny_pure ?_
 have I4:Inv X pins σ H3 { s3 with heap:=s3.heap.push { cls:=.type "slice",data:=.fields #[vl,vu,.none] } }:=I3.kept (t':=s3.toks) fun b ob q=>zPO _ q
 obtain ⟨T,id,hT,ht,hg⟩:=hr pins { s3 with heap:=s3.heap.push { cls:=.type "slice",data:=.fields #[vl,vu,.none] } } σ H3 x v vl vu l u s3.heap.objs.size Q I4 r1 (Heap.IsSliceOf.new ..) pl pu q3
 show wpAny (model X.prog X.w) X.A (subscriptTail e (.Slice lo hi none p2) v (.ref s3.heap.objs.size)) (EP X pins σ Q) X.xe { s3 with heap:=s3.heap.push { cls:=.type "slice",data:=.fields #[vl,vu,.none] } }
 exact tail_any (ops:=[.ref s3.heap.objs.size,v]) ht hT hg (by with_unfolding_all rfl)
def cutV (xs:List V) (lo hi:Option Int):List V:=(xs.drop (HT.sIx xs.length 0 lo)).take (HT.sIx xs.length xs.length hi - HT.sIx xs.length 0 lo)
theorem xhe (xs:List V) (lo hi:Option Int):(cutV xs lo hi).length<=xs.length:=by
 unfold cutV
 rw [List.length_take,List.length_drop]
 omega
def rSlT (K:PySem.W.Frag):V->Option Int->Option Int->Hp->VK->Prop:=fun x lo hi H Q=>∃ a xs,x=.ref a/\SqT K H a xs ∧
 ¬ (HT.sIx xs.length 0 lo=0/\HT.sIx xs.length xs.length hi=xs.length)/\∀ p,H p=none->Q (.ref p) (upd H p (.tup (cutV xs lo hi)))
theorem xoi:SlR X (rSlT X.K):=by
 intro pins s σ H x v vl vu lo hi sl Q I rx hs pl pu h
 obtain ⟨a,xs,rfl,hx,hw,q⟩:=h
 cases rx
 obtain ⟨its,r,ht,hz⟩:=I.tuple hx
 have hlen:its.toArray.size=xs.length:=by rw [List.size_toArray]; exact r.length.symm
 refine ⟨"tuple",_,PyProof.Rows.slot_tuple_getitem.lookup,ht.typeIs,?_⟩
 refine HT.getItem_tuple_cut ht hs pl pu (by rw [hlen]; exact hw) ?_ (by rw [hlen]; exact hz)
 rw [hlen]
 refine ⟨.ref s.heap.objs.size,_,I.laid (t':=s.toks) (o:=.tup (cutV xs lo hi)) (fun b ob q=>zPO _ q) (Nat.le_refl _) ?_,rfl,q _ (I.hok.fresh (Nat.le_refl _))⟩
 exact ⟨Nat.le_trans (xhe xs lo hi) hz,_,(r.drop (HT.sIx xs.length 0 lo)).take (HT.sIx xs.length xs.length hi - HT.sIx xs.length 0 lo),_,Heap.get?_push_size _ rfl,rfl,_,rfl,rfl⟩
end
end L2
namespace L2
open PySem PySem.Spec PyProof.Rows
def ixN (n:Nat) (i:Int):Option Nat:=if 0<=i then (if i < n then some i.toNat else none) else if -(n:Int)<=i then some (i + n).toNat else none
def atI {α:Type} (xs:List α) (i:Int):Option α:=(ixN xs.length i).bind fun j=>xs[j]?
theorem xpk {n:Nat} {i:Int} {j:Nat} (h:ixN n i=some j):seqIndex? i n=some j/\j < n/\-(n:Int)<=i/\i < n:=by
 unfold ixN at h
 by_cases h0:0<=i
 ·rw [if_pos h0] at h
  by_cases h1:i < n
  ·rw [if_pos h1] at h
   have e:i.toNat=j:=Option.some.inj h
   exact ⟨by rw [seqIndex_of h0 h1,e],by omega,by omega,h1⟩
  ·rw [if_neg h1] at h; cases h
 ·rw [if_neg h0] at h
  by_cases h1:-(n:Int)<=i
  ·rw [if_pos h1] at h
   have e:(i + n).toNat=j:=Option.some.inj h
   exact ⟨by rw [seqIndex_neg (by omega) h1,e],by omega,h1,by omega⟩
  ·rw [if_neg h1] at h; cases h
theorem xl0 {α:Type} {xs:List α} {i:Int} {v:α} (h:atI xs i=some v):∃ j,seqIndex? i xs.length=some j/\xs[j]?=some v/\j < xs.length/\-(xs.length:Int)<=i/\i < xs.length:=by
 unfold atI at h
 cases e:ixN xs.length i with
 | none=>rw [e] at h; cases h
 | some j=>
  rw [e] at h
  obtain ⟨h1,h2,h3,h4⟩:=xpk e
  exact ⟨j,h1,h,h2,h3,h4⟩
theorem xbb {α:Type} {xs:List α} {j:Nat} {v:α} (h:xs[j]?=some v):atI xs (j:Int)=some v:=by
 have hj:j < xs.length:=(zES h).1
 have e:ixN xs.length (j:Int)=some j:=by
  unfold ixN
  rw [if_pos (by omega),if_pos (by omega)]; simp
 unfold atI; rw [e]; exact h
def xtu (b:Expr):Prop:=∀ o i,subscripted b false o i=operate [o,i] (getItem o i)
def IxR (X:Cx) (r:R2):Prop:=
 ∀ (value slice:Expr) (pins:List (Addr×Obj)) (s:Shared) (σ:St) (H:Hp) (x y:V) (v u:Value) (Q:VK),Inv X pins σ H s->RelV x v->RelV y u->r x y H Q->
  subscripted slice false v u=operate [v,u] (getItem v u)->wpAny (model X.prog X.w) X.A (subscriptTail value slice v u) (EP X pins σ Q) X.xe s
def MtR (X:Cx) (id:String) (r:V->List V->Hp->VK->Prop):Prop:=
 ∀ (pins:List (Addr×Obj)) (s:Shared) (σ:St) (H:Hp) (x:V) (xs:List V) (v:Value) (us:List Value) (Q:VK),Inv X pins σ H s->RelV x v->Vals xs us->r x xs H Q->
  wpAny (model X.prog X.w) X.A (call (.builtin id) (v :: us)) (EP X pins σ Q) X.xe s
section
variable {X:Cx} {a b:Expr} {ta tb:TE} {pos:Pos}
theorem xak {r:R2} (hr:IxR X r) (ha:PE X a ta) (hb:PE X b tb) (hs:xtu b):PE X (.Subscript a b pos) (tOp r ta tb):=by
 intro pins s σ H Q I h
 exact Subscript_ (binT ha hb I h fun v u s2 x y H2 I2 rx ry q=>hr a b pins s2 σ H2 x y v u Q I2 rx ry q (hs _ _))
def rIxL (K:PySem.W.Frag):R2:=fun x y H Q=>∃ p xs i v,x=.ref p/\y=.int i/\SqL K H p xs/\atI xs i=some v/\Q v H
def rIxT (K:PySem.W.Frag):R2:=fun x y H Q=>∃ p xs i v,x=.ref p/\y=.int i/\SqT K H p xs/\atI xs i=some v/\Q v H
def rIxS:R2:=fun x y H Q=>∃ z i c,x=.str z/\y=.int i/\z.length<=sizeLine/\atI z.cps.toList i=some c/\Q (.str ⟨#[c]⟩) H
theorem iL:IxR X (rIxL X.K):=by
 intro value slice pins s σ H x y v u Q I rx ry h hs
 obtain ⟨p,xs,i,z,rfl,rfl,hq,he,q⟩:=h
 cases rx
 obtain ⟨t,rfl⟩:=ry
 obtain ⟨its,r,pl,hz⟩:=I.list hq
 obtain ⟨j,h1,h2,h3,h4,h5⟩:=xl0 he
 obtain ⟨w,ew,rw'⟩:=r.get h2
 have hl:=r.length
 have hn:=xj2
 have fin:EP X pins σ Q w s:=⟨z,H,I,rw',q⟩
 by_cases h0:0<=i
 ·have hj:i.toNat=j:=by
   rw [seqIndex_of h0 h5] at h1
   exact Option.some.inj h1
  exact item_listR pl.isList h0 (by omega) (by rw [hj]; simpa using ew) fin hs
 ·have hj:(i + (its.toArray.size:Int)).toNat=j:=by
   rw [seqIndex_neg (by omega) h4] at h1
   rw [List.size_toArray,<- hl]
   exact Option.some.inj h1
  exact subscriptTail_builtinR (x:=w) pl.isList.typeIs slot_list_getitem.lookup
   (wpAny_getItem_list_neg (Q:=fun r s'=>r=w/\EP X pins σ Q r s') pl.isList (by omega) (by rw [List.size_toArray] <;> omega) (by omega) (by rw [hj]; simpa using ew) ⟨rfl,fin⟩) hs
theorem xal:IxR X (rIxT X.K):=by
 intro value slice pins s σ H x y v u Q I rx ry h hs
 obtain ⟨p,xs,i,z,rfl,rfl,hq,he,q⟩:=h
 cases rx
 obtain ⟨t,rfl⟩:=ry
 obtain ⟨its,r,pl,hz⟩:=I.tuple hq
 obtain ⟨j,h1,h2,h3,h4,h5⟩:=xl0 he
 obtain ⟨w,ew,rw'⟩:=r.get h2
 have hl:=r.length
 have hn:=xj2
 have fin:EP X pins σ Q w s:=⟨z,H,I,rw',q⟩
 exact subscriptTail_builtinR (x:=w) pl.typeIs slot_tuple_getitem.lookup
  (getItem_tuple (j:=j) (Q:=fun r s'=>r=w/\EP X pins σ Q r s') pl (by omega) (by omega) (by rw [List.size_toArray,<- hl]; exact h1) (by simpa using ew) ⟨rfl,fin⟩) hs
theorem xmq:IxR X rIxS:=by
 intro value slice pins s σ H x y v u Q I rx ry h hs
 obtain ⟨z,i,c,rfl,rfl,hz,he,q⟩:=h
 obtain ⟨t,rfl⟩:=rx
 obtain ⟨t',rfl⟩:=ry
 obtain ⟨j,h1,h2,h3,h4,h5⟩:=xl0 he
 have hl:z.cps.toList.length=z.length:=by simp [Str.length]
 rw [hl] at h1 h4 h5
 have hn:=xj2
 exact tail_any (typeIs_str s z t) slot_str_getitem.lookup (getItem_str (c:=c) (by
  have e1:decide (i < -(2 ^ 63:Int))=false:=zDF (by omega)
  have e2:decide (i ≥ 2 ^ 63)=false:=zDF (by omega)
  rw [e1,e2,Bool.or_false]) (by rw [h1]; simpa using h2) ⟨.str ⟨#[c]⟩,H,I.tok _,⟨_,rfl⟩,q⟩) hs
theorem xns (its:List Value) (n j:Nat) (u:Value):Obj.mapSeq (·.setIfInBounds j u) { cls:=.type "list",data:=.seq its.toArray n }={ cls:=.type "list",data:=.seq (its.set j u).toArray n }:=by
 simp [Obj.mapSeq]
theorem Inv.lst {pins:List (Addr×Obj)} {σ:St} {H:Hp} {s:Shared} {p:Addr} {xs:List V} (I:Inv X pins σ H s) (h:H p=some (.lst xs)) :
  ∃ (its:List Value) (n:Nat),Vals xs its/\s.heap.get? p=some { cls:=.type "list",data:=.seq its.toArray n }/\xs.length<=sizeLine:=by
 obtain ⟨z,its,n,r,e⟩:=I.hok p _ h
 exact ⟨its,n,r,e,z⟩
theorem Inv.lstUpd {pins:List (Addr×Obj)} {σ:St} {H:Hp} {s:Shared} {p:Addr} {xs ys:List V} {its its':List Value} {n n':Nat} {f:Obj->Obj} (I:Inv X pins σ H s) (h:H p=some (.lst xs))
  (ho:s.heap.get? p=some { cls:=.type "list",data:=.seq its.toArray n }) (hf:f { cls:=.type "list",data:=.seq its.toArray n }={ cls:=.type "list",data:=.seq its'.toArray n' }) (r:Vals ys its') (hz:ys.length<=sizeLine) (t:Nat) :
  Inv X pins σ (upd H p (.lst ys)) { s with heap:=s.heap.update p f,toks:=t }:=by
 have e:(s.heap.update p f).get? p=some { cls:=.type "list",data:=.seq its'.toArray n' }:=by
  rw [Heap.get?_update_self f ho (by rw [hf] <;> rfl),hf]
 refine I.write (x:=p) (e:=p) (by rw [h]; trivial) (.inl rfl) (fun b u hb q=>(Heap.get?_update_other _ _ (Ne.symm hb)).trans q) ⟨_,e⟩ ?_
 exact ⟨hz,its',n',r,e⟩
def xwi:V->V->V->Hp->(Hp->Prop)->Prop:=fun o i v H Q=>∃ p xs k j,o=.ref p/\i=.int k/\H p=some (.lst xs)/\ixN xs.length k=some j/\Q (upd H p (.lst (xs.set j v)))
theorem xh9:PSet X xwi:=by
 intro pins s σ H o i v ov iv u Q I ro ri rv h
 obtain ⟨p,xs,k,j,rfl,rfl,hp,hj,q⟩:=h
 cases ro
 obtain ⟨t,rfl⟩:=ri
 obtain ⟨its,n,r,ho,hz⟩:=I.lst hp
 obtain ⟨h1,h2,h3,h4⟩:=xpk hj
 have hl:=r.length
 have hn:=xj2
 have I':Inv X pins σ (upd H p (.lst (xs.set j v))) { s with heap:=s.heap.update p (Obj.mapSeq (·.setIfInBounds j u)) }:=
  I.lstUpd hp ho (xns its n j u) (r.set rv j) (by rw [List.length_set]; exact hz) s.toks
 by_cases h0:0<=k
 ·have hk:k.toNat=j:=by
   rw [seqIndex_of h0 h4] at h1
   exact Option.some.inj h1
  exact PySem.W.ki_setAt ho h0 (by omega) (by rw [List.size_toArray,<- hl]; exact h4) (by rw [hk]; exact ⟨_,I',q⟩)
 ·have hk:(k + (its.toArray.size:Int)).toNat=j:=by
   rw [seqIndex_neg (by omega) h3] at h1
   rw [List.size_toArray,<- hl]
   exact Option.some.inj h1
  exact PySem.W.ki_setBack ho (by omega) (by rw [List.size_toArray,<- hl]; exact h3) (by omega) (by rw [hk]; exact ⟨_,I',q⟩)
theorem xi9 (lo hi:Option Int) (n:Nat):(sliceBounds lo hi none n).1=((HT.sIx n 0 lo:Nat):Int)/\(sliceBounds lo hi none n).2.1=((HT.sIx n n hi:Nat):Int)/\(sliceBounds lo hi none n).2.2=1:=by
 refine ⟨?_,?_,rfl⟩
 ·cases lo with
  | none=>simp [sliceBounds,HT.sIx]
  | some i=>
   simp only [sliceBounds,HT.sIx,Option.getD_none,show (1:Int) > 0 by decide,if_true]
   by_cases h:i < 0
   ·simp only [h,if_true] <;> omega
   ·simp only [h,if_false] <;> omega
 ·cases hi with
  | none=>simp [sliceBounds,HT.sIx]
  | some i=>
   simp only [sliceBounds,HT.sIx,Option.getD_none,show (1:Int) > 0 by decide,if_true]
   by_cases h:i < 0
   ·simp only [h,if_true] <;> omega
   ·simp only [h,if_false] <;> omega
theorem xh8 (its:List Value) (lo hi:Option Int):slicePick its.toArray lo hi none=((its.drop (HT.sIx its.length 0 lo)).take (HT.sIx its.length its.length hi - HT.sIx its.length 0 lo)).toArray:=by
 obtain ⟨h1,h2,h3⟩:=xi9 lo hi its.toArray.size
 unfold slicePick
 rw [h1,h2,h3]
 simp only [sliceRange_one,pick_run,List.size_toArray] <;> rfl
def rSlL (K:PySem.W.Frag):V->Option Int->Option Int->Hp->VK->Prop:=fun x lo hi H Q=>∃ a xs,x=.ref a/\SqL K H a xs/\∀ p,H p=none->Q (.ref p) (upd H p (.lst (cutV xs lo hi)))
theorem xk5:SlR X (rSlL X.K):=by
 intro pins s σ H x v vl vu lo hi sl Q I rx hs pl pu h
 obtain ⟨a,xs,rfl,hx,q⟩:=h
 cases rx
 obtain ⟨its,r,ht,hz⟩:=I.list hx
 have hlen:=r.length
 refine ⟨"list",_,slot_list_getitem.lookup,ht.isList.typeIs,?_⟩
 refine wpAny_getItem_list_slice ht.isList hs pl pu .none (by simp) ?_ (by rw [List.size_toArray] <;> omega)
 rw [xh8,<- hlen]
 refine ⟨.ref s.heap.objs.size,_,I.laid (t':=s.toks) (o:=.lst (cutV xs lo hi)) (fun b ob q=>zPO _ q) (Nat.le_refl _) ?_,rfl,q _ (I.hok.fresh (Nat.le_refl _))⟩
 exact ⟨Nat.le_trans (xhe xs lo hi) hz,_,0,(r.drop (HT.sIx xs.length 0 lo)).take (HT.sIx xs.length xs.length hi - HT.sIx xs.length 0 lo),Heap.get?_push_size _ rfl⟩
def xfl:V->Bool
 | .non=>true
 | .bl _=>true
 | .int _=>true
 | .str _=>true
 | _=>false
def eqV:V->V->Bool
 | .non,.non=>true
 | .bl a,.bl b=>a == b
 | .bl a,.int b=>(if a then 1 else 0) == b
 | .int a,.bl b=>a == (if b then 1 else 0)
 | .int a,.int b=>a == b
 | .str a,.str b=>a == b
 | _,_=>false
theorem xsg {A:Around} {s:Shared} {y x:V} {u v:Value} (ry:RelV y u) (rx:RelV x v) (fy:xfl y=true) (fx:xfl x=true):SeqAt.EqAt A s u v (eqV y x):=by
 cases y with
 | non=>
  cases ry
  cases x with
  | non=>cases rx; exact SeqAt.EqAt.same _
  | bl b=>cases rx; exact SeqAt.EqAt.none_bool b
  | int b=>obtain ⟨t,rfl⟩:=rx; exact SeqAt.EqAt.none_int b t
  | str b=>obtain ⟨t,rfl⟩:=rx; exact SeqAt.EqAt.none_str b t
  | _=>exact absurd (show false=true from fx) Bool.false_ne_true
 | bl a=>
  cases ry
  cases x with
  | non=>cases rx; exact SeqAt.EqAt.bool_none a
  | bl b=>cases rx; exact SeqAt.EqAt.bool_bool a b
  | int b=>obtain ⟨t,rfl⟩:=rx; exact SeqAt.EqAt.bool_int a b t
  | str b=>obtain ⟨t,rfl⟩:=rx; exact SeqAt.EqAt.bool_str a b t
  | _=>exact absurd (show false=true from fx) Bool.false_ne_true
 | int a=>
  obtain ⟨t',rfl⟩:=ry
  cases x with
  | non=>cases rx; exact SeqAt.EqAt.int_none a t'
  | bl b=>cases rx; exact SeqAt.EqAt.int_bool a t' b
  | int b=>obtain ⟨t,rfl⟩:=rx; exact SeqAt.EqAt.int_int a t' b t
  | str b=>obtain ⟨t,rfl⟩:=rx; exact SeqAt.EqAt.int_str a t' b t
  | _=>exact absurd (show false=true from fx) Bool.false_ne_true
 | str a=>
  obtain ⟨t',rfl⟩:=ry
  cases x with
  | non=>cases rx; exact SeqAt.EqAt.str_none a t'
  | bl b=>cases rx; exact SeqAt.EqAt.str_bool a t' b
  | int b=>obtain ⟨t,rfl⟩:=rx; exact SeqAt.EqAt.str_int a t' b t
  | str b=>obtain ⟨t,rfl⟩:=rx; exact SeqAt.EqAt.str_str a t' b t
  | _=>exact absurd (show false=true from fx) Bool.false_ne_true
 | _=>exact absurd (show false=true from fy) Bool.false_ne_true
def eqU (x:V) (u:Value):Bool:=match u with
 | .none=>eqV .non x
 | .bool b=>eqV (.bl b) x
 | .int i _=>eqV (.int i) x
 | .str z _=>eqV (.str z) x
 | _=>false
theorem xps {x y:V} {u:Value} (r:RelV y u) (f:xfl y=true):eqU x u=eqV y x:=by
 cases y with
 | non=>cases r; rfl
 | bl b=>cases r; rfl
 | int i=>obtain ⟨t,rfl⟩:=r; rfl
 | str z=>obtain ⟨t,rfl⟩:=r; rfl
 | _=>exact absurd (show false=true from f) Bool.false_ne_true
theorem xhg {x:V}:∀ {xs:List V} {us:List Value},Vals xs us->xs.all xfl=true->us.any (eqU x)=xs.any fun y=>eqV y x
 | _,_,.nil,_=>rfl
 | y :: xs,u :: us,.cons r t,f=>by
  rw [List.all_cons,Bool.and_eq_true] at f
  rw [List.any_cons,List.any_cons,xps r f.1,xhg t f.2]
theorem xer {A:Around} {s:Shared} {x:V} {v:Value} (rx:RelV x v) (fx:xfl x=true):∀ {xs:List V} {us:List Value},Vals xs us->xs.all xfl=true->∀ u∈us,SeqAt.EqAt A s u v (eqU x u)
 | _,_,.nil,_=>fun u hu=>by cases hu
 | y :: xs,u :: us,.cons r t,f=>fun u' hu=>by
  rw [List.all_cons,Bool.and_eq_true] at f
  rcases zMC hu with rfl | hu
  ·rw [xps r f.1]; exact xsg r rx f.1 fx
  ·exact xer rx fx t f.2 u' hu
def inV (x:V) (xs:List V):Bool:=xs.any fun y=>eqV y x
def rIn (K:PySem.W.Frag) (neg:Bool):R2:=fun x y H Q=>∃ p xs,y=.ref p/\(SqL K H p xs\/SqT K H p xs)/\xfl x=true/\xs.all xfl=true/\Q (.bl (if neg then !inV x xs else inV x xs)) H
theorem xje:OpR X (compareOp .In) (rIn X.K false):=by
 intro pins s σ H x y v u Q I rx ry h
 obtain ⟨p,xs,rfl,hq,fx,fs,q⟩:=h
 cases ry
 rcases hq with hq | hq
 ·obtain ⟨its,r,pl,hz⟩:=I.list hq
  refine SeqAt.in_listAt (eqU x) pl.isList (fun w hw=>xer rx fx r fs w (by simpa using hw)) ⟨.bl _,H,I,rfl,?_⟩
  rw [show its.toArray.any (eqU x)=its.any (eqU x) by simp,xhg r fs]
  exact q
 ·obtain ⟨its,r,pl,hz⟩:=I.tuple hq
  refine SeqAt.in_tupleAt (eqU x) pl (fun w hw=>xer rx fx r fs w (by simpa using hw)) ⟨.bl _,H,I,rfl,?_⟩
  rw [show its.toArray.any (eqU x)=its.any (eqU x) by simp,xhg r fs]
  exact q
theorem xjd:OpR X (compareOp .NotIn) (rIn X.K true):=by
 intro pins s σ H x y v u Q I rx ry h
 obtain ⟨p,xs,rfl,hq,fx,fs,q⟩:=h
 cases ry
 rcases hq with hq | hq
 ·obtain ⟨its,r,pl,hz⟩:=I.list hq
  refine SeqAt.notIn_listAt (eqU x) pl.isList (fun w hw=>xer rx fx r fs w (by simpa using hw)) ⟨.bl _,H,I,rfl,?_⟩
  rw [show its.toArray.any (eqU x)=its.any (eqU x) by simp,xhg r fs]
  exact q
 ·obtain ⟨its,r,pl,hz⟩:=I.tuple hq
  refine SeqAt.notIn_tupleAt (eqU x) pl (fun w hw=>xer rx fx r fs w (by simpa using hw)) ⟨.bl _,H,I,rfl,?_⟩
  rw [show its.toArray.any (eqU x)=its.any (eqU x) by simp,xhg r fs]
  exact q
theorem xah:xfz X (.builtin "len") (fun xs H Q=>∃ p ys,xs=[.ref p]/\(SqL X.K H p ys\/SqT X.K H p ys)/\Q (.int ys.length) H):=by
 intro pins s σ H xs us Q I r h
 obtain ⟨p,ys,rfl,hq,q⟩:=h
 obtain ⟨u,rfl,rx⟩:=xf6 r
 cases rx
 have hn:=xj2
 rcases hq with hq | hq
 ·obtain ⟨its,r',pl,hz⟩:=I.list hq
  have hlen:=r'.length
  exact Calls.call_len_list pl.isList (by simp only [List.size_toArray] <;> omega) ⟨.int ys.length,H,I.tok _,⟨s.toks + 1,by rw [List.size_toArray,hlen]⟩,q⟩
 ·obtain ⟨its,r',pl,hz⟩:=I.tuple hq
  have hlen:=r'.length
  exact len_tuple pl (by simp only [List.size_toArray] <;> omega) ⟨.int ys.length,H,I.tok _,⟨s.toks + 1,by rw [List.size_toArray,hlen]⟩,q⟩
theorem xb5:xfz X (.type "tuple") (fun xs H Q=>∃ p ys,xs=[.ref p]/\((SqL X.K H p ys/\∀ l,H l=none->Q (.ref l) (upd H l (.tup ys)))\/(SqT X.K H p ys/\Q (.ref p) H))):=by
 intro pins s σ H xs us Q I r h
 obtain ⟨p,ys,rfl,h⟩:=h
 obtain ⟨u,rfl,rx⟩:=xf6 r
 cases rx
 rcases h with ⟨hq,q⟩ | ⟨hq,q⟩
 ·obtain ⟨its,r',pl,hz⟩:=I.list hq
  have hlen:=r'.length
  refine call_tuple_list pl.isList (fun h' kp=>?_) (by simp only [List.size_toArray] <;> omega)
  have I1:Inv X pins σ H { s with heap:=h' }:=I.kept (t':=s.toks) kp
  have I2:Inv X pins σ (upd H h'.objs.size (.tup ys)) { s with heap:=h'.push { cls:=.type "tuple",data:=.seq its.toArray } }:=
   I1.laid (t':=s.toks) (fun b o e=>zPO _ e) (Nat.le_refl _) (show ObjOk X.prog X.w _ _ _ (.tup ys) from ⟨hz,its,r',_,Heap.get?_push_size _ rfl,rfl,_,rfl,rfl⟩)
  exact ⟨.ref h'.objs.size,_,I2,rfl,q _ (I1.hok.fresh (Nat.le_refl _))⟩
 ·obtain ⟨its,r',pl,hz⟩:=I.tuple hq
  exact call_tuple_same pl ⟨.ref p,H,I,rfl,q⟩
def tyV (K:PySem.W.Frag) (T:String) (x:V) (H:Hp):Prop:=match x with
 | .str _=>T="str"
 | .int _=>T="int"
 | .ref p=>(T="list"/\∃ xs,SqL K H p xs)\/(T="tuple"/\∃ o,K.lookup p=some o/\o.cls=.type "tuple"/\o.dict=none) ∨
   (T="dict"/\((∃ kvs,H p=some (.dK kvs))\/∃ kvs,H p=some (.dT kvs)))\/(T="set"/\∃ S n,H p=some (.set S n))
 | _=>False
theorem xrp {pins:List (Addr×Obj)} {σ:St} {H:Hp} {s:Shared} {T:String} {x:V} {v:Value} (I:Inv X pins σ H s) (r:RelV x v) (ty:tyV X.K T x H) :
  s.TypeIs v T/\∀ a,v=.ref a->∃ ob,s.heap.get? a=some ob/\ob.dict=none:=by
 cases x with
 | str z=>
  obtain ⟨t,rfl⟩:=r
  cases (show T="str" from ty)
  exact ⟨typeIs_str s z t,fun _ e=>nomatch e⟩
 | int i=>
  obtain ⟨t,rfl⟩:=r
  cases (show T="int" from ty)
  exact ⟨typeIs_int s i t,fun _ e=>nomatch e⟩
 | ref p=>
  cases r
  rcases ty with ⟨rfl,xs,hq⟩ | ⟨rfl,o,hk,hc,hd⟩ | ⟨rfl,hk⟩ | ⟨rfl,S,n,hk⟩
  ·obtain ⟨its,_,pl,_⟩:=I.list hq
   refine ⟨pl.isList.typeIs,fun a e=>?_⟩
   cases e
   obtain ⟨o,n,e,c,hd,_⟩:=pl
   exact ⟨o,e,hd⟩
  ·refine ⟨⟨o,I.kIn p o hk,hc⟩,fun a e=>?_⟩
   cases e
   exact ⟨o,I.kIn _ o hk,hd⟩
  ·have z:∃ o,s.heap.get? p=some o/\o.ExactDict:=by
    rcases hk with ⟨kvs,hk⟩ | ⟨kvs,hk⟩
    ·obtain ⟨_,_,_,_,o,_,_,e,ex,_⟩:=I.hok p _ hk
     exact ⟨o,e,ex⟩
    ·obtain ⟨_,_,_,_,o,_,_,e,ex,_⟩:=I.hok p _ hk
     exact ⟨o,e,ex⟩
   obtain ⟨o,e,ex⟩:=z
   refine ⟨⟨o,e,ex.1⟩,fun a e2=>?_⟩
   cases e2
   exact ⟨o,e,ex.2.1⟩
  ·obtain ⟨o,_,_,_,e,ex,_⟩:=I.hok p _ hk
   refine ⟨⟨o,e,ex.1⟩,fun a e2=>?_⟩
   cases e2
   exact ⟨o,e,ex.2.1⟩
 | _=>exact False.elim ty
def tBM0 (K:PySem.W.Frag) (T:String) (r:V->List V->Hp->VK->Prop) (to:TE):TE:=fun σ H Q=>to σ H fun x H1=>tyV K T x H1/\r x [] H1 Q
def tBM (K:PySem.W.Frag) (T:String) (r:V->List V->Hp->VK->Prop) (to:TE) (t:TA):TE:=fun σ H Q=>to σ H fun x H1=>tyV K T x H1/\t σ H1 fun xs H2=>r x xs H2 Q
variable {o e:Expr} {es:List Expr} {to:TE} {t:TA} {name:Str} {apos cpos:Pos} {T id:String} {r:V->List V->Hp->VK->Prop}
theorem xuz (pa:PlainAttrs T) (slot:Slot T name id) (hty:typeOf (.builtin id)=pure (.type "method_descriptor")) (hm:MtR X id r) (ho:PE X o to)
  (hbase:attributeBase o name X.env (eval o X.env)=eval o X.env:=by rfl) (hline:(apos.endLine == cpos.line)=true:=by rfl):PE X (.Call (.Attribute o name apos) [] [] cpos) (tBM0 X.K T r to):=by
 intro pins s σ H Q I h
 refine wpAny_Call_method0_late hbase hline (thn (ho pins s σ H _ I h) fun v s1 ⟨x,H1,I1,r1,ty,q1⟩=>?_)
 obtain ⟨h1,h2⟩:=xrp I1 r1 ty
 exact ⟨T,id,pa,slot,hty,h1,h2,Calls.callWith_builtin rfl (PySem.evalArgs_none (hm pins s1 σ H1 x [] v [] Q I1 r1 .nil q1))⟩
theorem xhi (pa:PlainAttrs T) (slot:Slot T name id) (hty:typeOf (.builtin id)=pure (.type "method_descriptor")) (hm:MtR X id r) (ho:PE X o to) (ha:PA X (e :: es) t)
  (hbase:attributeBase o name X.env (eval o X.env)=eval o X.env:=by rfl)
  (hfew:((backTo cpos (starEach (e :: es) X.env)).all (fun x=>!x.1) && (backToKw cpos (keywordEach [] X.env)).all (fun x=>x.1.isSome)
   && decide ((e :: es).length + ([]:List Keyword).length + (if ([]:List Keyword).isEmpty then 0 else 1) < 30))=true:=by rfl)
  (hline:(apos.endLine == cpos.line)=true:=by rfl) (hs:starEach (e :: es) X.env=(false,eval e X.env) :: starEach es X.env:=by rfl) (hplain:(backTo cpos (starEach es X.env)).any (·.1)=false:=by rfl) :
  PE X (.Call (.Attribute o name apos) (e :: es) [] cpos) (tBM X.K T r to t):=by
 intro pins s σ H Q I h
 refine wpAny_Call_method_late hbase hfew hline rfl (thn (ho pins s σ H _ I h) fun v s1 ⟨x,H1,I1,r1,ty,q1⟩=>?_)
 obtain ⟨h1,h2⟩:=xrp I1 r1 ty
 refine ⟨T,id,pa,slot,hty,h1,h2,?_⟩
 have hA:=ha cpos pins s1 σ H1 _ I1 q1
 rw [hs] at hA ⊢
 refine Calls.callWith_builtin (by show (false || (backTo cpos (starEach es X.env)).any (·.1))=false; rw [hplain] <;> rfl) (Calls.evalArgs_plain ?_)
 exact thn hA fun us s2 ⟨vs,H2,I2,r2,q2⟩=>hm pins s2 σ H2 x vs v us Q I2 r1 r2 q2
end
end L2
namespace L2
open PySem PySem.Spec PyProof.Rows
def MtM (X:Cx) (id:String) (r:V->List V->Hp->VK->Prop):Prop:=
 ∀ (pins:List (Addr×Obj)) (s:Shared) (σ:St) (H:Hp) (x:V) (xs:List V) (v:Value) (us:List Value) (Q:VK),Inv X pins σ H s->RelV x v->Vals xs us->r x xs H Q->
  wpAny (model X.prog X.w) X.A (call (.builtin id) (v :: us)) (EP X pins σ Q) X.xe s
theorem Vals.one:∀ {x:V} {us:List Value},Vals [x] us->∃ u,us=[u]/\RelV x u
 | _,_,.cons r .nil=>⟨_,rfl,r⟩
theorem Vals.two:∀ {x y:V} {us:List Value},Vals [x,y] us->∃ u v,us=[u,v]/\RelV x u/\RelV y v
 | _,_,_,.cons r (.cons q .nil)=>⟨_,_,rfl,r,q⟩
theorem Vals.zero:∀ {us:List Value},Vals [] us->us=[]
 | _,.nil=>rfl
theorem Vals.reverse {xs:List V} {us:List Value} (h:Vals xs us):Vals xs.reverse us.reverse:=by
 induction h with
 | nil=>exact .nil
 | cons r t ih=>rw [List.reverse_cons,List.reverse_cons]; exact Vals.append ih (.cons r .nil)
section
variable {X:Cx} {pins:List (Addr×Obj)} {σ:St} {H:Hp} {s:Shared} {l b:Addr} {xs ys zs:List V}
theorem Inv.lset {its its':List Value} {n:Nat} {f:Array Value->Array Value} {t':Nat} (I:Inv X pins σ H s) (hH:H l=some (.lst xs))
  (e:s.heap.get? l=some { cls:=.type "list",data:=.seq its.toArray n }) (hf:f its.toArray=its'.toArray) (hv:Vals ys its') (hz:ys.length<=sizeLine) :
  Inv X pins σ (upd H l (.lst ys)) { s with heap:=s.heap.update l (Obj.mapSeq f),toks:=t' }:=by
 have q:=PySem.IsL.update e f
 rw [hf] at q
 refine I.write (x:=l) (e:=l) (by rw [hH]; exact trivial) (.inl rfl) (fun b' u hb hu=>(Heap.get?_update_other s.heap (Obj.mapSeq f) (Ne.symm hb)).trans hu) ⟨_,q⟩ ?_
 exact ⟨hz,its',_,hv,q⟩
theorem Inv.lnew {its:List Value} {t':Nat} (I:Inv X pins σ H s) (hv:Vals ys its) (hz:ys.length<=sizeLine) :
  Inv X pins σ (upd H s.heap.objs.size (.lst ys)) { s with heap:=s.heap.push { cls:=.type "list",data:=.seq its.toArray },toks:=t' }:=
 I.laid (fun _ _ q=>zPO _ q) (Nat.le_refl _) ⟨hz,its,0,hv,Heap.get?_push_size _ rfl⟩
theorem Inv.fresh (I:Inv X pins σ H s):H s.heap.objs.size=none:=I.hok.fresh (Nat.le_refl _)
theorem Inv.lstM (I:Inv X pins σ H s) (hH:H l=some (.lst xs)):xs.length<=sizeLine/\∃ (its:List Value) (n:Nat),Vals xs its/\xs.length=its.length/\s.heap.get? l=some { cls:=.type "list",data:=.seq its.toArray n }:=by
 obtain ⟨z,its,n,r,e⟩:=I.hok l _ hH
 exact ⟨z,its,n,r,r.length,e⟩
theorem xqz {n:Nat} (h:n<=sizeLine):Builtin.List.listTooLong n=false:=by
 unfold Builtin.List.listTooLong
 exact zDF (by omega)
end
section
variable {X:Cx}
def xsx:V->List V->Hp->VK->Prop:=fun x vs H Q=>∃ l xs y,x=.ref l/\vs=[y]/\H l=some (.lst xs)/\xs.length < sizeLine/\Q .non (upd H l (.lst (xs++[y])))
theorem xdt:MtM X "list.append" xsx:=by
 intro pins s σ H x vs v us Q I rx rv h
 obtain ⟨l,xs,y,rfl,rfl,hH,hz,q⟩:=h
 cases rx
 obtain ⟨u,rfl,ru⟩:=rv.one
 obtain ⟨z,its,n,r,hl,e⟩:=I.lstM hH
 refine call_meets F.slot_list_append ⟨_,e,rfl⟩ F.entry_list_append (F.args_list_append_2 _ _) (PySem.list_append l its.toArray n u (by rw [List.size_toArray]; omega)) ⟨e,?_⟩
 refine ⟨.non,_,I.lset (its':=its++[u]) hH e (by simp) (r.append (.cons ru .nil)) ?_,rfl,q⟩
 rw [zLA,List.length_singleton]
 omega
def xsw:V->List V->Hp->VK->Prop:=fun x vs H Q=>∃ l b xs zs,x=.ref l/\vs=[.ref b]/\H l=some (.lst xs)/\H b=some (.lst zs)/\xs.length + zs.length<=sizeLine/\Q .non (upd H l (.lst (xs++zs)))
theorem xjx:MtM X "list.extend" xsw:=by
 intro pins s σ H x vs v us Q I rx rv h
 obtain ⟨l,b,xs,zs,rfl,rfl,hH,hB,hz,q⟩:=h
 cases rx
 obtain ⟨u,rfl,ru⟩:=rv.one
 cases ru
 obtain ⟨z,its,n,r,hl,e⟩:=I.lstM hH
 obtain ⟨z2,its2,n2,r2,hl2,e2⟩:=I.lstM hB
 have hsz:its.toArray.size + its2.toArray.size<=sizeLine:=by rw [List.size_toArray,List.size_toArray]; omega
 have hlong:¬ (!its.toArray.isEmpty && Builtin.List.listTooLong (its.toArray.size + its2.toArray.size))=true:=by
  rw [xqz hsz,Bool.and_false]
  exact Bool.false_ne_true
 refine call_meets F.slot_list_extend ⟨_,e,rfl⟩ F.entry_list_extend (F.args_list_extend_2 _ _)
  (AutoSeq1.list_extend_list_list_0 l its.toArray n b its2.toArray n2 hlong (by rw [List.size_toArray]; omega) (by omega)) ⟨e,e2,?_⟩
 refine ⟨.non,_,I.lset (its':=its++its2) hH e (by simp) (r.append r2) ?_,rfl,q⟩
 rw [zLA]
 omega
def xqn:V->List V->Hp->VK->Prop:=fun x vs H Q=>∃ l xs,x=.ref l/\vs=[]/\H l=some (.lst xs)/\Q .non (upd H l (.lst xs.reverse))
theorem xnr:MtM X "list.reverse" xqn:=by
 intro pins s σ H x vs v us Q I rx rv h
 obtain ⟨l,xs,rfl,rfl,hH,q⟩:=h
 cases rx
 have hus:=rv.zero
 subst hus
 obtain ⟨z,its,n,r,hl,e⟩:=I.lstM hH
 refine call_meets F.slot_list_reverse ⟨_,e,rfl⟩ F.entry_list_reverse (F.args_list_reverse_1 _) (AutoSeq1.list_reverse_list_0 l its.toArray n (by rw [List.size_toArray]; omega)) ⟨e,?_⟩
 refine ⟨.non,_,I.lset (its':=its.reverse) hH e (by simp) r.reverse ?_,rfl,q⟩
 rw [List.length_reverse]
 omega
def rCat:R2:=fun x y H Q=>∃ l b xs zs,x=.ref l/\y=.ref b/\H l=some (.lst xs)/\H b=some (.lst zs)/\xs.length + zs.length<=sizeLine/\∀ p,H p=none->Q (.ref p) (upd H p (.lst (xs++zs)))
theorem xjf:OpR X (binaryOp .Add) rCat:=by
 intro pins s σ H x y v u Q I rx ry h
 obtain ⟨l,b,xs,zs,rfl,rfl,hH,hB,hz,q⟩:=h
 cases rx
 cases ry
 obtain ⟨z,its,n,r,hl,e⟩:=I.lstM hH
 obtain ⟨z2,its2,n2,r2,hl2,e2⟩:=I.lstM hB
 refine PySem.P.add_list e e2 ?_ (by rw [List.size_toArray,List.size_toArray]; omega)
 have ea:its.toArray++its2.toArray=(its++its2).toArray:=by simp
 rw [ea]
 exact ⟨.ref _,_,I.lnew (t':=s.toks) (r.append r2) (by rw [zLA]; omega),rfl,q _ I.fresh⟩
end
end L2
namespace Att
open PySem PySem.W PySem.Calls PyProof.Rows
theorem xg6 {P:Params} {h:Heap}:∀ (ns:List Int) (vs:List Value),WellAll P h vs (ns.map WData.int)->IntsAre vs ns:=by
 intro ns
 induction ns with
 | nil=>
  intro vs w
  rw [List.map_nil] at w
  cases w
  exact .nil
 | cons n ns ih=>
  intro vs w
  rw [List.map_cons] at w
  cases w with
  | cons a b=>
   cases a
   exact .cons _ _ (ih _ b)
theorem xok {l:OpenLaw} {n:Nat} (hn:l.most=some n) {P:Params} {h:Heap} {args:List WData} {vals:List Value}
  (hpre:l.row.toRowW.claim.pre args=true) (hwl:WellAll P h vals args) :
  ∃ a vs ns,vals=[Value.ref a]/\args=[WData.list (ns.map WData.int)]/\h.get? a=some { cls:=.type "list",data:=.seq vs.toArray }/\IntsAre vs ns/\ns.length<=n:=by
 have hsh:WShape.hasAll [] args [.list .int]=true:=(pre_splitW hpre).1
 have hc:l.pre.holds [] { args:=args }=true:=(pre_splitW hpre).2
 obtain ⟨d,r,rfl,h1,h2⟩:=hasAllW_cons hsh
 obtain rfl:=hasAllW_nil h2
 obtain ⟨xs,rfl,h3⟩:=hasW_list h1
 obtain ⟨ns,rfl⟩:=items_int h3
 have hlen:ns.length<=n:=by
  unfold OpenLaw.pre at hc
  have h4:(WTm.not (.lt (.lit (.int (n:Int))) (.len (.arg 0)))).holds [] { args:=[.list (ns.map .int)] }=true:=by
   have h4:=(holds_andW hc).1
   rw [hn] at h4
   exact h4
  have h5:=condW_of h4 (w_not (w_lt w_lit (w_len_list (w_arg rfl))))
  rw [zLM] at h5
  refine Nat.le_of_not_lt fun q=>?_
  have q':(n:Int) < ((ns.length:Nat):Int):=by omega
  first
   | (rw [zDT q'] at h5; exact absurd h5 (by decide))
   | (simp at h5; omega)
 cases hwl with
 | cons w1 w2=>
  cases w2
  cases w1 with
  | list ho hall=>exact ⟨_,_,ns,rfl,rfl,ho,xg6 ns _ hall,hlen⟩
theorem xoo (l:OpenLaw) (args:List WData):l.row.toRowW.claim.post args (.bool true) args=true:=
 postW_of (r:=l.row.toRowW) (X:=(true == true))
  (show WShape.has [] (.bool true) .bool=true by first | rfl | decide | simp [WShape.has,WShape.arms,WShape.armsAll])
  (show (WTm.eq .res (.lit (.bool true))).value [] { args:=args,res:=some (.bool true),after:=args }=some (.bool (true == true)) from w_eq_bool (w_res rfl) w_lit) rfl
theorem attach_call {l:OpenLaw} {n:Nat} {q:Program} {loose:List Str} {XP:(Str->Option Value)->Heap->Prop} {YP:World->Heap->Prop} {d:DefRec}
  (hn:l.most=some n) (hdf:d.params.defaults=[])
  (call:∀ (w:World) (s₀ s₁:Shared) (mg mb:Str->Option Value) (fa:Addr) (o:Obj) (pm cd doc:Value) (a:Addr) (vs:List Value) (ns:List Int),
   Ground q loose [] XP w s₀ mg mb s₁.heap->YP w s₁.heap->
   s₁.heap.get? fa=some o->o.data=.func (docDef d.name d.params d.body d.scope pm cd doc)->s₁.heap.CodeRec cd d.name->mg d.name=some (.ref fa)->
   s₁.heap.get? a=some { cls:=.type "list",data:=.seq vs.toArray }->IntsAre vs ns->ns.length<=n->s₁.gens=#[]->
   codeAny (model l.prog w) callerA (.call (.ref fa) ⟨[.ref a],[]⟩) (fun r s'=>r=.ok (.ret (.bool true))/\OldK s₁.heap s'.heap/\s'.os=s₁.os/\AllBare s'.gens) s₁) :
  WalkO q loose XP YP l.row.toRowW d [] (fun f vs=>PySem.call f vs):=by
 intro w s₀ s₁ mg mb G Y fa o pm cd doc dV kV ho hd hcd hD hmg hg args vals as hpre hlay hrd hwl hlo
 obtain rfl:dV=.none:=Dflts.none hD hdf
 obtain rfl:kV=.none:=Dflts.noKw hD
 obtain ⟨a,vs,ns,rfl,rfl,hobj,hints,hlen⟩:=xok hn hpre hwl
 refine enter_call (codeAny_mono (call w s₀ s₁ mg mb fa o pm cd doc a vs ns G Y ho (fd_plain hd) hcd hmg hobj hints hlen hg) fun r s' hq=>?_)
 obtain ⟨rfl,h2,h3,h4⟩:=hq
 exact ⟨.inl ⟨.bool true,.bool true,[],rfl,fun _=>rfl,.bool true,xoo l _,fun _=>⟨List.Pairwise.nil,fun _ hm=>(nomatch hm)⟩⟩,h2,h3,h4⟩
end Att
namespace L2
open PySem PySem.Spec PyProof.Rows
theorem xix:∀ {vs:List Value} {ns:List Int},IntsAre vs ns->Vals (ns.map V.int) vs
 | _,_,.nil=>.nil
 | _,_,.cons n t h=>.cons ⟨t,rfl⟩ (xix h)
def Only (H:Hp):Prop:=∀ b,H b=none\/∃ o xs,H b=some (.frz o (.lst xs))
theorem xq7 {P:Program} {w:World} {K:PySem.W.Frag} {mg mb:Str->Option Value} {CX:CXT} {k:Nat} {fa a:Addr} {fd:FuncData} {x:Str} {sp:Sp} {s₁:Shared} {vs:List Value} {ns:List Int}
  (KX:K.In s₁.heap) (hns:s₁.heap.Ns mainGlobals mg) (hb:s₁.heap.Ns builtinsNs mb) (hbb:∀ x:Str,x≠"__name__"->mb x=bootBuiltins x) (hlim:s₁.heap.NoLimit) (hg:s₁.gens=#[])
  (ha:s₁.heap.get? a=some { cls:=.type "list",data:=.seq vs.toArray }) (hi:IntsAre vs ns) (hl:ns.length<=sizeLine) (hr:Room k callerA)
  (F:∀ base:Heap,K.In base->base.Ns mainGlobals mg->FnOk P w K mg base CX k fa fd [x] sp) (hbind:∀ (s:Shared) (u:Value),BindsTo s fd ⟨[u],[]⟩ [(x,u)])
  (hsp:∀ H:Hp,Only H->SqL K H a (ns.map V.int)->sp [.ref a] H (fun v _=>v=.bl true) fun _ _ _=>False)
  (hCX:∀ H e s',CX [] H s₁ (fun _ _ _=>False) e s'->False) :
  codeAny (model P w) callerA (.call (.ref fa) ⟨[.ref a],[]⟩) (fun r s'=>r=.ok (.ret (.bool true))/\OldK s₁.heap s'.heap/\s'.os=s₁.os/\AllBare s'.gens) s₁:=by
 have rv:=xix hi
 have lenV:=hi.length
 have core:∀ H:Hp,Only H->SqL K H a (ns.map V.int)->HOk P w H s₁.heap->(∀ b,H b≠none->b=a)->(H a≠none->K.lookup a=none)->
   codeAny (model P w) callerA (.call (.ref fa) ⟨[.ref a],[]⟩) (fun r s'=>r=.ok (.ret (.bool true))/\OldK s₁.heap s'.heap/\s'.os=s₁.os/\AllBare s'.gens) s₁:=by
  intro H hO hS hok hA hK
  have base_of:∀ {b:Addr} {o:Obj},s₁.heap.get? b=some o->H b=none->(hidT s₁.heap H).get? b=some o:=fun e n=>xrb e n
  have noA:∀ {b:Addr} {o:Obj} {es:Array DictEntry} {ep:Nat},s₁.heap.get? b=some o->o.data=.dict es ep->H b=none:=fun {b o es ep} e d=>by
   cases q:H b with
   | none=>rfl
   | some u=>
    have e':b=a:=hA b (by rw [q]; simp)
    subst e'
    rw [ha] at e; cases e
    have d':Data.seq vs.toArray _=Data.dict es ep:=d
    cases d'
  have nsK:∀ {b:Addr} {m:Str->Option Value},s₁.heap.Ns b m->(hidT s₁.heap H).Ns b m:=fun {b m} ⟨o,es,ep,e,d,r⟩=>⟨o,es,ep,base_of e (noA e d),d,r⟩
  have hKb:K.In (hidT s₁.heap H):=fun b o e=>base_of (KX b o e) (by
   cases q:H b with
   | none=>rfl
   | some u=>
    have e':b=a:=hA b (by rw [q]; simp)
    subst e'
    rw [hK (by rw [q]; simp)] at e; cases e)
  have hM:Mod K mg (hidT s₁.heap H):=⟨hKb,nsK hns,⟨mb,nsK hb,hbb⟩,let ⟨mc,h1,h2⟩:=hlim; ⟨mc,nsK h1,h2⟩⟩
  have e0:Env0 P w K mg (hidT s₁.heap H) callerA [] s₁ H:=⟨rfl,hM,fun b o e=>xs7 e,Nat.le_of_eq (xpn _ _),trivial,fun b hb=>absurd (show b∈([]:List Addr) from hb) (by simp),hok,.of_eq hg⟩
  refine codeAny_mono ((F _ hKb (nsK hns)).run callerA [] s₁ H ⟨[.ref a],[]⟩ [.ref a] [.ref a] _ _ hr e0 (hbind s₁ (.ref a)) (.cons rfl .nil) (hsp H hO hS)) fun r s' h=>?_
  cases r with
  | error e=>exact (hCX H e s' h).elim
  | ok fl=>
   cases fl with
   | next=>exact False.elim h
   | brk=>exact False.elim h
   | cont=>exact False.elim h
   | ret u=>
    obtain ⟨v,H',os,bare,un,hok',r',q⟩:=h
    have q':v=.bl true:=q
    subst q'
    obtain rfl:u=Value.bool true:=r'
    refine ⟨rfl,OldK.of_keep fun b o e=>?_,os,bare⟩
    cases q:H b with
    | none=>exact un.keep b o e q (by intro z; exact absurd (show b∈([]:List Addr) from z) (by simp)) (by simp)
    | some u=>
     rcases hO b with z | ⟨ob,xs,z⟩
     ·rw [q] at z; cases z
     ·have z2:=un.frzs b ob _ z
      obtain ⟨e1,_⟩:=hok b _ z
      obtain ⟨e2,_⟩:=hok' b _ z2
      rw [e] at e1; cases e1
      exact e2
 cases hk:K.lookup a with
 | some o=>
  have e:=KX a o hk
  rw [ha] at e
  cases e
  refine core (fun _=>none) (fun _=>.inl rfl) (.inr ⟨_,vs.toArray,_,hk,rfl,rfl,rfl,by rw [List.size_toArray,lenV]; exact hl,by simpa using rv⟩) (fun b u z=>by have z':(none:Option HO)=some u:=z; cases z') (fun b z=>absurd rfl z) fun z=>absurd rfl z
 | none=>
  refine core (fun b=>if b=a then some (.frz { cls:=.type "list",data:=.seq vs.toArray } (.lst (ns.map V.int))) else none) (fun b=>?_) (.inl (.inr ⟨{ cls:=.type "list",data:=.seq vs.toArray },if_pos rfl⟩)) (fun b u z=>?_) (fun b z=>?_) fun _=>hk
  ·by_cases hb:b=a
   ·exact .inr ⟨_,_,if_pos hb⟩
   ·exact .inl (if_neg hb)
  ·by_cases hb:b=a
   ·have z':=(if_pos hb).symm.trans z
    cases z'
    subst hb
    exact ⟨ha,by rw [zLM]; exact hl,vs,_,rv,ha⟩
   ·have z':=(if_neg hb).symm.trans z
    cases z'
  ·by_cases hb:b=a
   ·exact hb
   ·exact absurd (if_neg hb) z
end L2
namespace L2
open PySem PySem.Spec PyProof.Rows
abbrev KOf {K:PySem.W.Frag} {h:Heap} (_:K.In h):PySem.W.Frag:=K
theorem walk_of {l:PySem.W.OpenLaw} {n k:Nat} {q:Program} {loose:List Str} {XP:(Str->Option Value)->Heap->Prop} {YP:World->Heap->Prop} {d:DefRec} {K:Params->PySem.W.Frag} {CX:World->CXT} {sp:World->Sp} {x:Str}
  (hn:l.most=some n) (hn2:n<=sizeLine) (hdf:d.params.defaults=[]) (hr:Room k callerA)
  (hY:∀ (w:World) (h:Heap),YP w h->(K w.params).In h)
  (F:∀ (w:World) (mg:Str->Option Value) (fa:Addr) (h:Heap),(K w.params).In h->h.Ns mainGlobals mg->mg d.name=some (.ref fa)->
   ∃ fd:FuncData,(∀ (s:Shared) (u:Value),BindsTo s fd ⟨[u],[]⟩ [(x,u)]) ∧
    ∀ base:Heap,(K w.params).In base->base.Ns mainGlobals mg->FnOk l.prog w (K w.params) mg base (CX w) k fa fd [x] (sp w))
  (hsp:∀ (w:World) (H:Hp) (a:Addr) (ns:List Int),ns.length<=n->Only H->SqL (K w.params) H a (ns.map V.int)->sp w [.ref a] H (fun v _=>v=.bl true) fun _ _ _=>False)
  (hCX:∀ (w:World) (H:Hp) (s:Shared) (e:Value) (s':Shared),CX w [] H s (fun _ _ _=>False) e s'->False) :
  PySem.W.WalkO q loose XP YP l.row.toRowW d [] (fun f vs=>PySem.call f vs):=by
 refine Att.attach_call hn hdf fun w s₀ s₁ mg mb fa o pm cd doc a vs ns G Y ho hd hcd hmg hobj hints hlen hg=>?_
 have KX:=hY w _ Y
 obtain ⟨fd,hb,hF⟩:=F w mg fa _ KX G.T.g hmg
 exact xq7 KX G.T.g G.T.b G.T.builtins G.T.nolimit hg hobj hints (Nat.le_trans hlen hn2) hr hF hb (fun H hO hS=>hsp w H a ns hlen hO hS) fun H e s'=>hCX w H s₁ e s'
end L2
namespace L2
open PySem PySem.Spec PyProof.Rows
def xhb (s:Stmt):Arguments:=match s with
 | .FunctionDef _ a _ _ _ _ _ _ _ _=>a
 | _=>{ posonlyargs:=[],args:=[],vararg:=none,kwonlyargs:=[],kw_defaults:=[],kwarg:=none,defaults:=[] }
def xei (s:Stmt):List Stmt:=match s with
 | .FunctionDef _ _ b _ _ _ _ _ _ _=>b
 | _=>[]
def xac (s:Stmt):Scope:=match s with
 | .FunctionDef _ _ _ _ _ _ sc _ _ _=>sc
 | _=>{ kind:=.function,names:=[],isGenerator:=false,isCoroutine:=false }
abbrev CX0:CXT:=fun _ _ _ _ _ _=>False
abbrev E0:XK:=fun _ _ _=>False
theorem xwm {X:Cx}:xp5 CX0 X E0:=fun _ _ _ _ _ _ _ h=>h.elim
structure Fun (K:PySem.W.Frag) (x qual:Str) (st:Stmt) (f:Addr) (fd:FuncData):Prop where
 ex:∃ (oc:Value) (od:Option Addr) (kV doc pm:Value) (an:Option Addr) (cdv ct:Value) (osl:Array (Option Value)),
  fd=PySem.W.fnOf x qual (xhb st) (xei st) (xac st) .none kV doc pm an cdv ct/\K.lookup f=some ⟨oc,od,.func fd,osl⟩/\PySem.W.codeIn K cdv qual=true
 kp:PySem.W.keepIn K (.ref f)=true
section
variable {P:Program} {w:World} {K:PySem.W.Frag} {mg:Str->Option Value} {base:Heap}
theorem Fun.ok {x qual:Str} {st:Stmt} {f:Addr} {fd:FuncData} {N ps:List Str} {k:Nat} {sp:Sp} (F:Fun K x qual st f fd) (S:FnScope N ps (xac st)) (len:∀ vs H Q E,sp vs H Q E->vs.length=ps.length)
  (hbody:∀ (cdv:Value) (A:Around) (outer:List Env) (s:Shared) (H:Hp) (vs:List V) (Q:VK) (E:XK),Room k (A.deeper (envOfC qual (xac st) s.heap.objs.size f cdv))->sp vs H Q E->
   ∃ t,PSs (cxOf CX0 P w K mg base N qual (xac st) f cdv A outer s H E).nox (xei st) t/\t { nx:=fun _ H'=>Q .non H',rt:=Q } (xf8 N vs) H):FnOk P w K mg base CX0 (k + 1) f fd ps sp:=by
 obtain ⟨oc,od,kV,doc,pm,an,cdv,ct,osl,rfl,lk,hcd⟩:=F.ex
 refine xvr lk hcd S len fun A outer s H vs Q E hr hsp=>?_
 obtain ⟨t,h,q⟩:=hbody cdv A outer s H vs Q E hr hsp
 exact ⟨t,h.nox,q⟩
theorem xvq {x qual:Str} {st:Stmt} {f:Addr} {oc:Value} {od an:Option Addr} {osl:Array (Option Value)} {kV doc pm cdv ct:Value} (l:K.lookup f=some ⟨oc,od,.func (PySem.W.fnOf x qual (xhb st) (xei st) (xac st) .none kV doc pm an cdv ct),osl⟩)
  (c:PySem.W.codeIn K cdv qual=true) (k:PySem.W.keepIn K (.ref f)=true):Fun K x qual st f (PySem.W.fnOf x qual (xhb st) (xei st) (xac st) .none kV doc pm an cdv ct):=⟨⟨oc,od,kV,doc,pm,an,cdv,ct,osl,rfl,l,c⟩,k⟩
end
theorem xcz {A:Around} {k:Nat} (hr:Room k A):A.units + 1 < cLine:=Nat.lt_of_le_of_lt (Nat.add_le_add_left (by decide:1<=64) _) hr.units
section
variable {X:Cx}
theorem pv (i:Nat) {x:Str} {pos:Pos} (hN:X.N[i]?=some x:=by rfl) (hv:Vis X.env.scope x:=by first | exact Or.inl rfl | exact Or.inr (Or.inl rfl) | exact Or.inr (Or.inr rfl)) (hd:(x == ("__debug__":Str))=false:=by decide)
  (hcd:(x == ("__classdict__":Str))=false:=by decide):PE X (.Name x pos) (tVar i):=xuw hN hv hd hcd
end
theorem iteF {A B:Prop} (h:B):if false=true then A else B:=by
 rw [if_neg Bool.false_ne_true]
 exact h
theorem iteT {A B:Prop} (h:A):if true=true then A else B:=by
 rw [if_pos rfl]
 exact h
theorem ite2 {c A B:Prop} [Decidable c] (h1:c->A) (h2:¬ c->B):if c then A else B:=by
 by_cases h:c
 ·rw [if_pos h]
  exact h1 h
 ·rw [if_neg h]
  exact h2 h
theorem xww {c A B:Prop} [Decidable c] (hc:c) (h:B):if (!decide c)=true then A else B:=by
 rw [zDT hc]
 exact iteF h
def Same (H H':Hp):Prop:=∀ b o,H b=some o->H' b=some o
theorem Same.refl (H:Hp):Same H H:=fun _ _ h=>h
theorem Same.trans {H H1 H2:Hp} (a:Same H H1) (b:Same H1 H2):Same H H2:=fun c o h=>b c o (a c o h)
theorem Same.seq {K:PySem.W.Frag} {H H':Hp} {a:Addr} {xs:List V} (e:Same H H') (h:SqL K H a xs):SqL K H' a xs:=by
 rcases h with (h | ⟨o,h⟩) | h
 ·exact .inl (.inl (e _ _ h))
 ·exact .inl (.inr ⟨o,e _ _ h⟩)
 ·exact .inr h
end L2
section
namespace L2
theorem gcut {A:Prop} (h:∀ G:Prop,(A->G)->G):A:=h A id
theorem jAA {p1:Prop} {p2:Prop} {q:Prop} (h1:p1) (h2:p2) (k:q):p1/\p2/\q:=⟨h1,h2,k⟩
theorem jAAA {p1:Prop} {p2:Prop} {p3:Prop} {q:Prop} (h1:p1) (h2:p2) (h3:p3) (k:q):p1/\p2/\p3/\q:=⟨h1,h2,h3,k⟩
theorem xq9 {p1:Prop} {p2:Prop} {p3:Prop} {p4:Prop} {q:Prop} (h1:p1) (h2:p2) (h3:p3) (h4:p4) (k:q):p1/\p2/\p3/\p4/\q:=⟨h1,h2,h3,h4,k⟩
theorem jAE {p1:Prop} {α1:Sort _} {q:α1->Prop} (h1:p1) (x1:α1) (k:q x1):p1/\∃ x1,q x1:=⟨h1,x1,k⟩
theorem jAEA {p1:Prop} {α1:Sort _} {p2:α1->Prop} {q:α1->Prop} (h1:p1) (x1:α1) (h2:p2 x1) (k:q x1):p1/\∃ x1,p2 x1/\q x1:=⟨h1,x1,h2,k⟩
theorem xho {p1:Prop} {α1:Sort _} {p2:α1->Prop} {p3:α1->Prop} {q:α1->Prop} (h1:p1) (x1:α1) (h2:p2 x1) (h3:p3 x1) (k:q x1):p1/\∃ x1,p2 x1/\p3 x1/\q x1:=⟨h1,x1,h2,h3,k⟩
theorem xd5 {p1:Prop} {α1:Sort _} {p2:α1->Prop} {α2:Sort _} {p3:α1->α2->Prop} {p4:α1->α2->Prop} {p5:α1->α2->Prop} {p6:α1->α2->Prop} {p7:α1->α2->Prop} {p8:α1->α2->Prop} {q:α1->α2->Prop} (h1:p1) (x1:α1) (h2:p2 x1) (x2:α2) (h3:p3 x1 x2) (h4:p4 x1 x2) (h5:p5 x1 x2) (h6:p6 x1 x2) (h7:p7 x1 x2) (h8:p8 x1 x2) (k:q x1 x2):p1/\∃ x1,p2 x1/\∃ x2,p3 x1 x2/\p4 x1 x2/\p5 x1 x2/\p6 x1 x2/\p7 x1 x2/\p8 x1 x2/\q x1 x2:=⟨h1,x1,h2,x2,h3,h4,h5,h6,h7,h8,k⟩
theorem xct {p1:Prop} {α1:Sort _} {p2:α1->Prop} {α2:Sort _} {p3:α1->α2->Prop} {p4:α1->α2->Prop} {p5:α1->α2->Prop} {p6:α1->α2->Prop} {α3:Sort _} {p7:α1->α2->α3->Prop} {q:α1->α2->α3->Prop} (h1:p1) (x1:α1) (h2:p2 x1) (x2:α2) (h3:p3 x1 x2) (h4:p4 x1 x2) (h5:p5 x1 x2) (h6:p6 x1 x2) (x3:α3) (h7:p7 x1 x2 x3) (k:q x1 x2 x3):p1/\∃ x1,p2 x1/\∃ x2,p3 x1 x2/\p4 x1 x2/\p5 x1 x2/\p6 x1 x2/\∃ x3,p7 x1 x2 x3/\q x1 x2 x3:=⟨h1,x1,h2,x2,h3,h4,h5,h6,x3,h7,k⟩
theorem jEA {α1:Sort _} {p1:α1->Prop} {q:α1->Prop} (x1:α1) (h1:p1 x1) (k:q x1):∃ x1,p1 x1/\q x1:=⟨x1,h1,k⟩
theorem jEAA {α1:Sort _} {p1:α1->Prop} {p2:α1->Prop} {q:α1->Prop} (x1:α1) (h1:p1 x1) (h2:p2 x1) (k:q x1):∃ x1,p1 x1/\p2 x1/\q x1:=⟨x1,h1,h2,k⟩
theorem xeb {α1:Sort _} {p1:α1->Prop} {p2:α1->Prop} {p3:α1->Prop} {q:α1->Prop} (x1:α1) (h1:p1 x1) (h2:p2 x1) (h3:p3 x1) (k:q x1):∃ x1,p1 x1/\p2 x1/\p3 x1/\q x1:=⟨x1,h1,h2,h3,k⟩
theorem xdd {α1:Sort _} {p1:α1->Prop} {p2:α1->Prop} {p3:α1->Prop} {p4:α1->Prop} {q:α1->Prop} (x1:α1) (h1:p1 x1) (h2:p2 x1) (h3:p3 x1) (h4:p4 x1) (k:q x1):∃ x1,p1 x1/\p2 x1/\p3 x1/\p4 x1/\q x1:=⟨x1,h1,h2,h3,h4,k⟩
theorem xcs {α1:Sort _} {p1:α1->Prop} {p2:α1->Prop} {p3:α1->Prop} {p4:α1->Prop} {p5:α1->Prop} {q:α1->Prop} (x1:α1) (h1:p1 x1) (h2:p2 x1) (h3:p3 x1) (h4:p4 x1) (h5:p5 x1) (k:q x1):∃ x1,p1 x1/\p2 x1/\p3 x1/\p4 x1/\p5 x1/\q x1:=⟨x1,h1,h2,h3,h4,h5,k⟩
theorem xb4 {α1:Sort _} {p1:α1->Prop} {p2:α1->Prop} {p3:α1->Prop} {p4:α1->Prop} {α2:Sort _} {p5:α1->α2->Prop} {q:α1->α2->Prop} (x1:α1) (h1:p1 x1) (h2:p2 x1) (h3:p3 x1) (h4:p4 x1) (x2:α2) (h5:p5 x1 x2) (k:q x1 x2):∃ x1,p1 x1/\p2 x1/\p3 x1/\p4 x1/\∃ x2,p5 x1 x2/\q x1 x2:=⟨x1,h1,h2,h3,h4,x2,h5,k⟩
theorem xd4 {α1:Sort _} {p1:α1->Prop} {p2:α1->Prop} {p3:α1->Prop} {α2:Sort _} {α3:Sort _} {p4:α1->α2->α3->Prop} {α4:Sort _} {α5:Sort _} {p5:α1->α2->α3->α4->α5->Prop} {q:α1->α2->α3->α4->α5->Prop} (x1:α1) (h1:p1 x1) (h2:p2 x1) (h3:p3 x1) (x2:α2) (x3:α3) (h4:p4 x1 x2 x3) (x4:α4) (x5:α5) (h5:p5 x1 x2 x3 x4 x5) (k:q x1 x2 x3 x4 x5):∃ x1,p1 x1/\p2 x1/\p3 x1/\∃ x2,∃ x3,p4 x1 x2 x3/\∃ x4,∃ x5,p5 x1 x2 x3 x4 x5/\q x1 x2 x3 x4 x5:=⟨x1,h1,h2,h3,x2,x3,h4,x4,x5,h5,k⟩
theorem xai {α1:Sort _} {p1:α1->Prop} {p2:α1->Prop} {α2:Sort _} {p3:α1->α2->Prop} {q:α1->α2->Prop} (x1:α1) (h1:p1 x1) (h2:p2 x1) (x2:α2) (h3:p3 x1 x2) (k:q x1 x2):∃ x1,p1 x1/\p2 x1/\∃ x2,p3 x1 x2/\q x1 x2:=⟨x1,h1,h2,x2,h3,k⟩
theorem xbk {α1:Sort _} {p1:α1->Prop} {p2:α1->Prop} {α2:Sort _} {α3:Sort _} {p3:α1->α2->α3->Prop} {p4:α1->α2->α3->Prop} {q:α1->α2->α3->Prop} (x1:α1) (h1:p1 x1) (h2:p2 x1) (x2:α2) (x3:α3) (h3:p3 x1 x2 x3) (h4:p4 x1 x2 x3) (k:q x1 x2 x3):∃ x1,p1 x1/\p2 x1/\∃ x2,∃ x3,p3 x1 x2 x3/\p4 x1 x2 x3/\q x1 x2 x3:=⟨x1,h1,h2,x2,x3,h3,h4,k⟩
theorem xa3 {α1:Sort _} {p1:α1->Prop} {α2:Sort _} {p2:α1->α2->Prop} {p3:α1->α2->Prop} {q:α1->α2->Prop} (x1:α1) (h1:p1 x1) (x2:α2) (h2:p2 x1 x2) (h3:p3 x1 x2) (k:q x1 x2):∃ x1,p1 x1/\∃ x2,p2 x1 x2/\p3 x1 x2/\q x1 x2:=⟨x1,h1,x2,h2,h3,k⟩
theorem xcw {α1:Sort _} {p1:α1->Prop} {α2:Sort _} {p2:α1->α2->Prop} {p3:α1->α2->Prop} {α3:Sort _} {p4:α1->α2->α3->Prop} {q:α1->α2->α3->Prop} (x1:α1) (h1:p1 x1) (x2:α2) (h2:p2 x1 x2) (h3:p3 x1 x2) (x3:α3) (h4:p4 x1 x2 x3) (k:q x1 x2 x3):∃ x1,p1 x1/\∃ x2,p2 x1 x2/\p3 x1 x2/\∃ x3,p4 x1 x2 x3/\q x1 x2 x3:=⟨x1,h1,x2,h2,h3,x3,h4,k⟩
theorem xbu {α1:Sort _} {p1:α1->Prop} {α2:Sort _} {p2:α1->α2->Prop} {α3:Sort _} {p3:α1->α2->α3->Prop} {α4:Sort _} {p4:α1->α2->α3->α4->Prop} {α5:Sort _} {q:α1->α2->α3->α4->α5->Prop} (x1:α1) (h1:p1 x1) (x2:α2) (h2:p2 x1 x2) (x3:α3) (h3:p3 x1 x2 x3) (x4:α4) (h4:p4 x1 x2 x3 x4) (x5:α5) (k:q x1 x2 x3 x4 x5):∃ x1,p1 x1/\∃ x2,p2 x1 x2/\∃ x3,p3 x1 x2 x3/\∃ x4,p4 x1 x2 x3 x4/\∃ x5,q x1 x2 x3 x4 x5:=⟨x1,h1,x2,h2,x3,h3,x4,h4,x5,k⟩
theorem xam {α1:Sort _} {p1:α1->Prop} {α2:Sort _} {p2:α1->α2->Prop} {α3:Sort _} {p3:α1->α2->α3->Prop} {α4:Sort _} {p4:α1->α2->α3->α4->Prop} {α5:Sort _} {p5:α1->α2->α3->α4->α5->Prop} {q:α1->α2->α3->α4->α5->Prop} (x1:α1) (h1:p1 x1) (x2:α2) (h2:p2 x1 x2) (x3:α3) (h3:p3 x1 x2 x3) (x4:α4) (h4:p4 x1 x2 x3 x4) (x5:α5) (h5:p5 x1 x2 x3 x4 x5) (k:q x1 x2 x3 x4 x5):∃ x1,p1 x1/\∃ x2,p2 x1 x2/\∃ x3,p3 x1 x2 x3/\∃ x4,p4 x1 x2 x3 x4/\∃ x5,p5 x1 x2 x3 x4 x5/\q x1 x2 x3 x4 x5:=⟨x1,h1,x2,h2,x3,h3,x4,h4,x5,h5,k⟩
theorem xa2 {α1:Sort _} {p1:α1->Prop} {α2:Sort _} {p2:α1->α2->Prop} {α3:Sort _} {p3:α1->α2->α3->Prop} {α4:Sort _} {α5:Sort _} {q:α1->α2->α3->α4->α5->Prop} (x1:α1) (h1:p1 x1) (x2:α2) (h2:p2 x1 x2) (x3:α3) (h3:p3 x1 x2 x3) (x4:α4) (x5:α5) (k:q x1 x2 x3 x4 x5):∃ x1,p1 x1/\∃ x2,p2 x1 x2/\∃ x3,p3 x1 x2 x3/\∃ x4,∃ x5,q x1 x2 x3 x4 x5:=⟨x1,h1,x2,h2,x3,h3,x4,x5,k⟩
theorem xa8 {α1:Sort _} {p1:α1->Prop} {α2:Sort _} {p2:α1->α2->Prop} {α3:Sort _} {p3:α1->α2->α3->Prop} {α4:Sort _} {α5:Sort _} {p4:α1->α2->α3->α4->α5->Prop} {p5:α1->α2->α3->α4->α5->Prop} {q:α1->α2->α3->α4->α5->Prop} (x1:α1) (h1:p1 x1) (x2:α2) (h2:p2 x1 x2) (x3:α3) (h3:p3 x1 x2 x3) (x4:α4) (x5:α5) (h4:p4 x1 x2 x3 x4 x5) (h5:p5 x1 x2 x3 x4 x5) (k:q x1 x2 x3 x4 x5):∃ x1,p1 x1/\∃ x2,p2 x1 x2/\∃ x3,p3 x1 x2 x3/\∃ x4,∃ x5,p4 x1 x2 x3 x4 x5/\p5 x1 x2 x3 x4 x5/\q x1 x2 x3 x4 x5:=⟨x1,h1,x2,h2,x3,h3,x4,x5,h4,h5,k⟩
theorem xbp {α1:Sort _} {p1:α1->Prop} {α2:Sort _} {p2:α1->α2->Prop} {α3:Sort _} {α4:Sort _} {p3:α1->α2->α3->α4->Prop} {p4:α1->α2->α3->α4->Prop} {q:α1->α2->α3->α4->Prop} (x1:α1) (h1:p1 x1) (x2:α2) (h2:p2 x1 x2) (x3:α3) (x4:α4) (h3:p3 x1 x2 x3 x4) (h4:p4 x1 x2 x3 x4) (k:q x1 x2 x3 x4):∃ x1,p1 x1/\∃ x2,p2 x1 x2/\∃ x3,∃ x4,p3 x1 x2 x3 x4/\p4 x1 x2 x3 x4/\q x1 x2 x3 x4:=⟨x1,h1,x2,h2,x3,x4,h3,h4,k⟩
theorem xdx {α1:Sort _} {p1:α1->Prop} {α2:Sort _} {p2:α1->α2->Prop} {α3:Sort _} {α4:Sort _} {p3:α1->α2->α3->α4->Prop} {p4:α1->α2->α3->α4->Prop} {α5:Sort _} {q:α1->α2->α3->α4->α5->Prop} (x1:α1) (h1:p1 x1) (x2:α2) (h2:p2 x1 x2) (x3:α3) (x4:α4) (h3:p3 x1 x2 x3 x4) (h4:p4 x1 x2 x3 x4) (x5:α5) (k:q x1 x2 x3 x4 x5):∃ x1,p1 x1/\∃ x2,p2 x1 x2/\∃ x3,∃ x4,p3 x1 x2 x3 x4/\p4 x1 x2 x3 x4/\∃ x5,q x1 x2 x3 x4 x5:=⟨x1,h1,x2,h2,x3,x4,h3,h4,x5,k⟩
theorem xcf {α1:Sort _} {p1:α1->Prop} {α2:Sort _} {p2:α1->α2->Prop} {α3:Sort _} {α4:Sort _} {p3:α1->α2->α3->α4->Prop} {p4:α1->α2->α3->α4->Prop} {α5:Sort _} {p5:α1->α2->α3->α4->α5->Prop} {q:α1->α2->α3->α4->α5->Prop} (x1:α1) (h1:p1 x1) (x2:α2) (h2:p2 x1 x2) (x3:α3) (x4:α4) (h3:p3 x1 x2 x3 x4) (h4:p4 x1 x2 x3 x4) (x5:α5) (h5:p5 x1 x2 x3 x4 x5) (k:q x1 x2 x3 x4 x5):∃ x1,p1 x1/\∃ x2,p2 x1 x2/\∃ x3,∃ x4,p3 x1 x2 x3 x4/\p4 x1 x2 x3 x4/\∃ x5,p5 x1 x2 x3 x4 x5/\q x1 x2 x3 x4 x5:=⟨x1,h1,x2,h2,x3,x4,h3,h4,x5,h5,k⟩
theorem xa0 {α1:Sort _} {p1:α1->Prop} {α2:Sort _} {p2:α1->α2->Prop} {α3:Sort _} {α4:Sort _} {α5:Sort _} {q:α1->α2->α3->α4->α5->Prop} (x1:α1) (h1:p1 x1) (x2:α2) (h2:p2 x1 x2) (x3:α3) (x4:α4) (x5:α5) (k:q x1 x2 x3 x4 x5):∃ x1,p1 x1/\∃ x2,p2 x1 x2/\∃ x3,∃ x4,∃ x5,q x1 x2 x3 x4 x5:=⟨x1,h1,x2,h2,x3,x4,x5,k⟩
theorem xbt {α1:Sort _} {p1:α1->Prop} {α2:Sort _} {p2:α1->α2->Prop} {α3:Sort _} {α4:Sort _} {α5:Sort _} {p3:α1->α2->α3->α4->α5->Prop} {p4:α1->α2->α3->α4->α5->Prop} {q:α1->α2->α3->α4->α5->Prop} (x1:α1) (h1:p1 x1) (x2:α2) (h2:p2 x1 x2) (x3:α3) (x4:α4) (x5:α5) (h3:p3 x1 x2 x3 x4 x5) (h4:p4 x1 x2 x3 x4 x5) (k:q x1 x2 x3 x4 x5):∃ x1,p1 x1/\∃ x2,p2 x1 x2/\∃ x3,∃ x4,∃ x5,p3 x1 x2 x3 x4 x5/\p4 x1 x2 x3 x4 x5/\q x1 x2 x3 x4 x5:=⟨x1,h1,x2,h2,x3,x4,x5,h3,h4,k⟩
theorem xax {α1:Sort _} {p1:α1->Prop} {α2:Sort _} {p2:α1->α2->Prop} {α3:Sort _} {α4:Sort _} {α5:Sort _} {p3:α1->α2->α3->α4->α5->Prop} {p4:α1->α2->α3->α4->α5->Prop} {p5:α1->α2->α3->α4->α5->Prop} {q:α1->α2->α3->α4->α5->Prop} (x1:α1) (h1:p1 x1) (x2:α2) (h2:p2 x1 x2) (x3:α3) (x4:α4) (x5:α5) (h3:p3 x1 x2 x3 x4 x5) (h4:p4 x1 x2 x3 x4 x5) (h5:p5 x1 x2 x3 x4 x5) (k:q x1 x2 x3 x4 x5):∃ x1,p1 x1/\∃ x2,p2 x1 x2/\∃ x3,∃ x4,∃ x5,p3 x1 x2 x3 x4 x5/\p4 x1 x2 x3 x4 x5/\p5 x1 x2 x3 x4 x5/\q x1 x2 x3 x4 x5:=⟨x1,h1,x2,h2,x3,x4,x5,h3,h4,h5,k⟩
theorem xcn {α1:Sort _} {p1:α1->Prop} {α2:Sort _} {α3:Sort _} {p2:α1->α2->α3->Prop} {p3:α1->α2->α3->Prop} {q:α1->α2->α3->Prop} (x1:α1) (h1:p1 x1) (x2:α2) (x3:α3) (h2:p2 x1 x2 x3) (h3:p3 x1 x2 x3) (k:q x1 x2 x3):∃ x1,p1 x1/\∃ x2,∃ x3,p2 x1 x2 x3/\p3 x1 x2 x3/\q x1 x2 x3:=⟨x1,h1,x2,x3,h2,h3,k⟩
theorem xbx {α1:Sort _} {p1:α1->Prop} {α2:Sort _} {α3:Sort _} {p2:α1->α2->α3->Prop} {p3:α1->α2->α3->Prop} {p4:α1->α2->α3->Prop} {q:α1->α2->α3->Prop} (x1:α1) (h1:p1 x1) (x2:α2) (x3:α3) (h2:p2 x1 x2 x3) (h3:p3 x1 x2 x3) (h4:p4 x1 x2 x3) (k:q x1 x2 x3):∃ x1,p1 x1/\∃ x2,∃ x3,p2 x1 x2 x3/\p3 x1 x2 x3/\p4 x1 x2 x3/\q x1 x2 x3:=⟨x1,h1,x2,x3,h2,h3,h4,k⟩
theorem xbo {α1:Sort _} {p1:α1->Prop} {α2:Sort _} {α3:Sort _} {p2:α1->α2->α3->Prop} {p3:α1->α2->α3->Prop} {α4:Sort _} {p4:α1->α2->α3->α4->Prop} {q:α1->α2->α3->α4->Prop} (x1:α1) (h1:p1 x1) (x2:α2) (x3:α3) (h2:p2 x1 x2 x3) (h3:p3 x1 x2 x3) (x4:α4) (h4:p4 x1 x2 x3 x4) (k:q x1 x2 x3 x4):∃ x1,p1 x1/\∃ x2,∃ x3,p2 x1 x2 x3/\p3 x1 x2 x3/\∃ x4,p4 x1 x2 x3 x4/\q x1 x2 x3 x4:=⟨x1,h1,x2,x3,h2,h3,x4,h4,k⟩
theorem xc7 {α1:Sort _} {p1:α1->Prop} {α2:Sort _} {α3:Sort _} {p2:α1->α2->α3->Prop} {p3:α1->α2->α3->Prop} {α4:Sort _} {p4:α1->α2->α3->α4->Prop} {α5:Sort _} {q:α1->α2->α3->α4->α5->Prop} (x1:α1) (h1:p1 x1) (x2:α2) (x3:α3) (h2:p2 x1 x2 x3) (h3:p3 x1 x2 x3) (x4:α4) (h4:p4 x1 x2 x3 x4) (x5:α5) (k:q x1 x2 x3 x4 x5):∃ x1,p1 x1/\∃ x2,∃ x3,p2 x1 x2 x3/\p3 x1 x2 x3/\∃ x4,p4 x1 x2 x3 x4/\∃ x5,q x1 x2 x3 x4 x5:=⟨x1,h1,x2,x3,h2,h3,x4,h4,x5,k⟩
theorem xet {α1:Sort _} {p1:α1->Prop} {α2:Sort _} {α3:Sort _} {α4:Sort _} {p2:α1->α2->α3->α4->Prop} {p3:α1->α2->α3->α4->Prop} {q:α1->α2->α3->α4->Prop} (x1:α1) (h1:p1 x1) (x2:α2) (x3:α3) (x4:α4) (h2:p2 x1 x2 x3 x4) (h3:p3 x1 x2 x3 x4) (k:q x1 x2 x3 x4):∃ x1,p1 x1/\∃ x2,∃ x3,∃ x4,p2 x1 x2 x3 x4/\p3 x1 x2 x3 x4/\q x1 x2 x3 x4:=⟨x1,h1,x2,x3,x4,h2,h3,k⟩
theorem xc6 {α1:Sort _} {p1:α1->Prop} {α2:Sort _} {α3:Sort _} {α4:Sort _} {p2:α1->α2->α3->α4->Prop} {p3:α1->α2->α3->α4->Prop} {p4:α1->α2->α3->α4->Prop} {p5:α1->α2->α3->α4->Prop} {q:α1->α2->α3->α4->Prop} (x1:α1) (h1:p1 x1) (x2:α2) (x3:α3) (x4:α4) (h2:p2 x1 x2 x3 x4) (h3:p3 x1 x2 x3 x4) (h4:p4 x1 x2 x3 x4) (h5:p5 x1 x2 x3 x4) (k:q x1 x2 x3 x4):∃ x1,p1 x1/\∃ x2,∃ x3,∃ x4,p2 x1 x2 x3 x4/\p3 x1 x2 x3 x4/\p4 x1 x2 x3 x4/\p5 x1 x2 x3 x4/\q x1 x2 x3 x4:=⟨x1,h1,x2,x3,x4,h2,h3,h4,h5,k⟩
theorem xcm {α1:Sort _} {p1:α1->Prop} {α2:Sort _} {α3:Sort _} {α4:Sort _} {α5:Sort _} {q:α1->α2->α3->α4->α5->Prop} (x1:α1) (h1:p1 x1) (x2:α2) (x3:α3) (x4:α4) (x5:α5) (k:q x1 x2 x3 x4 x5):∃ x1,p1 x1/\∃ x2,∃ x3,∃ x4,∃ x5,q x1 x2 x3 x4 x5:=⟨x1,h1,x2,x3,x4,x5,k⟩
theorem xaa {α1:Sort _} {p1:α1->Prop} {α2:Sort _} {α3:Sort _} {α4:Sort _} {α5:Sort _} {p2:α1->α2->α3->α4->α5->Prop} {p3:α1->α2->α3->α4->α5->Prop} {p4:α1->α2->α3->α4->α5->Prop} {p5:α1->α2->α3->α4->α5->Prop} {q:α1->α2->α3->α4->α5->Prop} (x1:α1) (h1:p1 x1) (x2:α2) (x3:α3) (x4:α4) (x5:α5) (h2:p2 x1 x2 x3 x4 x5) (h3:p3 x1 x2 x3 x4 x5) (h4:p4 x1 x2 x3 x4 x5) (h5:p5 x1 x2 x3 x4 x5) (k:q x1 x2 x3 x4 x5):∃ x1,p1 x1/\∃ x2,∃ x3,∃ x4,∃ x5,p2 x1 x2 x3 x4 x5/\p3 x1 x2 x3 x4 x5/\p4 x1 x2 x3 x4 x5/\p5 x1 x2 x3 x4 x5/\q x1 x2 x3 x4 x5:=⟨x1,h1,x2,x3,x4,x5,h2,h3,h4,h5,k⟩
theorem jEE {α1:Sort _} {α2:Sort _} {q:α1->α2->Prop} (x1:α1) (x2:α2) (k:q x1 x2):∃ x1,∃ x2,q x1 x2:=⟨x1,x2,k⟩
theorem jEEA {α1:Sort _} {α2:Sort _} {p1:α1->α2->Prop} {q:α1->α2->Prop} (x1:α1) (x2:α2) (h1:p1 x1 x2) (k:q x1 x2):∃ x1,∃ x2,p1 x1 x2/\q x1 x2:=⟨x1,x2,h1,k⟩
theorem xay {α1:Sort _} {α2:Sort _} {p1:α1->α2->Prop} {p2:α1->α2->Prop} {q:α1->α2->Prop} (x1:α1) (x2:α2) (h1:p1 x1 x2) (h2:p2 x1 x2) (k:q x1 x2):∃ x1,∃ x2,p1 x1 x2/\p2 x1 x2/\q x1 x2:=⟨x1,x2,h1,h2,k⟩
theorem xbg {α1:Sort _} {α2:Sort _} {p1:α1->α2->Prop} {p2:α1->α2->Prop} {p3:α1->α2->Prop} {q:α1->α2->Prop} (x1:α1) (x2:α2) (h1:p1 x1 x2) (h2:p2 x1 x2) (h3:p3 x1 x2) (k:q x1 x2):∃ x1,∃ x2,p1 x1 x2/\p2 x1 x2/\p3 x1 x2/\q x1 x2:=⟨x1,x2,h1,h2,h3,k⟩
theorem xc2 {α1:Sort _} {α2:Sort _} {p1:α1->α2->Prop} {p2:α1->α2->Prop} {p3:α1->α2->Prop} {p4:α1->α2->Prop} {q:α1->α2->Prop} (x1:α1) (x2:α2) (h1:p1 x1 x2) (h2:p2 x1 x2) (h3:p3 x1 x2) (h4:p4 x1 x2) (k:q x1 x2):∃ x1,∃ x2,p1 x1 x2/\p2 x1 x2/\p3 x1 x2/\p4 x1 x2/\q x1 x2:=⟨x1,x2,h1,h2,h3,h4,k⟩
theorem xb3 {α1:Sort _} {α2:Sort _} {p1:α1->α2->Prop} {p2:α1->α2->Prop} {p3:α1->α2->Prop} {p4:α1->α2->Prop} {p5:α1->α2->Prop} {q:α1->α2->Prop} (x1:α1) (x2:α2) (h1:p1 x1 x2) (h2:p2 x1 x2) (h3:p3 x1 x2) (h4:p4 x1 x2) (h5:p5 x1 x2) (k:q x1 x2):∃ x1,∃ x2,p1 x1 x2/\p2 x1 x2/\p3 x1 x2/\p4 x1 x2/\p5 x1 x2/\q x1 x2:=⟨x1,x2,h1,h2,h3,h4,h5,k⟩
theorem xcd {α1:Sort _} {α2:Sort _} {p1:α1->α2->Prop} {p2:α1->α2->Prop} {p3:α1->α2->Prop} {p4:α1->α2->Prop} {p5:α1->α2->Prop} {p6:α1->α2->Prop} {q:α1->α2->Prop} (x1:α1) (x2:α2) (h1:p1 x1 x2) (h2:p2 x1 x2) (h3:p3 x1 x2) (h4:p4 x1 x2) (h5:p5 x1 x2) (h6:p6 x1 x2) (k:q x1 x2):∃ x1,∃ x2,p1 x1 x2/\p2 x1 x2/\p3 x1 x2/\p4 x1 x2/\p5 x1 x2/\p6 x1 x2/\q x1 x2:=⟨x1,x2,h1,h2,h3,h4,h5,h6,k⟩
theorem xcy {α1:Sort _} {α2:Sort _} {p1:α1->α2->Prop} {p2:α1->α2->Prop} {p3:α1->α2->Prop} {p4:α1->α2->Prop} {α3:Sort _} {p5:α1->α2->α3->Prop} {q:α1->α2->α3->Prop} (x1:α1) (x2:α2) (h1:p1 x1 x2) (h2:p2 x1 x2) (h3:p3 x1 x2) (h4:p4 x1 x2) (x3:α3) (h5:p5 x1 x2 x3) (k:q x1 x2 x3):∃ x1,∃ x2,p1 x1 x2/\p2 x1 x2/\p3 x1 x2/\p4 x1 x2/\∃ x3,p5 x1 x2 x3/\q x1 x2 x3:=⟨x1,x2,h1,h2,h3,h4,x3,h5,k⟩
theorem xap {α1:Sort _} {α2:Sort _} {p1:α1->α2->Prop} {p2:α1->α2->Prop} {p3:α1->α2->Prop} {α3:Sort _} {α4:Sort _} {p4:α1->α2->α3->α4->Prop} {α5:Sort _} {q:α1->α2->α3->α4->α5->Prop} (x1:α1) (x2:α2) (h1:p1 x1 x2) (h2:p2 x1 x2) (h3:p3 x1 x2) (x3:α3) (x4:α4) (h4:p4 x1 x2 x3 x4) (x5:α5) (k:q x1 x2 x3 x4 x5):∃ x1,∃ x2,p1 x1 x2/\p2 x1 x2/\p3 x1 x2/\∃ x3,∃ x4,p4 x1 x2 x3 x4/\∃ x5,q x1 x2 x3 x4 x5:=⟨x1,x2,h1,h2,h3,x3,x4,h4,x5,k⟩
theorem xe9 {α1:Sort _} {α2:Sort _} {p1:α1->α2->Prop} {p2:α1->α2->Prop} {α3:Sort _} {p3:α1->α2->α3->Prop} {q:α1->α2->α3->Prop} (x1:α1) (x2:α2) (h1:p1 x1 x2) (h2:p2 x1 x2) (x3:α3) (h3:p3 x1 x2 x3) (k:q x1 x2 x3):∃ x1,∃ x2,p1 x1 x2/\p2 x1 x2/\∃ x3,p3 x1 x2 x3/\q x1 x2 x3:=⟨x1,x2,h1,h2,x3,h3,k⟩
theorem xdc {α1:Sort _} {α2:Sort _} {p1:α1->α2->Prop} {p2:α1->α2->Prop} {α3:Sort _} {p3:α1->α2->α3->Prop} {α4:Sort _} {α5:Sort _} {p4:α1->α2->α3->α4->α5->Prop} {p5:α1->α2->α3->α4->α5->Prop} {q:α1->α2->α3->α4->α5->Prop} (x1:α1) (x2:α2) (h1:p1 x1 x2) (h2:p2 x1 x2) (x3:α3) (h3:p3 x1 x2 x3) (x4:α4) (x5:α5) (h4:p4 x1 x2 x3 x4 x5) (h5:p5 x1 x2 x3 x4 x5) (k:q x1 x2 x3 x4 x5):∃ x1,∃ x2,p1 x1 x2/\p2 x1 x2/\∃ x3,p3 x1 x2 x3/\∃ x4,∃ x5,p4 x1 x2 x3 x4 x5/\p5 x1 x2 x3 x4 x5/\q x1 x2 x3 x4 x5:=⟨x1,x2,h1,h2,x3,h3,x4,x5,h4,h5,k⟩
theorem xan {α1:Sort _} {α2:Sort _} {p1:α1->α2->Prop} {p2:α1->α2->Prop} {α3:Sort _} {α4:Sort _} {p3:α1->α2->α3->α4->Prop} {p4:α1->α2->α3->α4->Prop} {α5:Sort _} {q:α1->α2->α3->α4->α5->Prop} (x1:α1) (x2:α2) (h1:p1 x1 x2) (h2:p2 x1 x2) (x3:α3) (x4:α4) (h3:p3 x1 x2 x3 x4) (h4:p4 x1 x2 x3 x4) (x5:α5) (k:q x1 x2 x3 x4 x5):∃ x1,∃ x2,p1 x1 x2/\p2 x1 x2/\∃ x3,∃ x4,p3 x1 x2 x3 x4/\p4 x1 x2 x3 x4/\∃ x5,q x1 x2 x3 x4 x5:=⟨x1,x2,h1,h2,x3,x4,h3,h4,x5,k⟩
theorem xeh {α1:Sort _} {α2:Sort _} {α3:Sort _} {p1:α1->α2->α3->Prop} {p2:α1->α2->α3->Prop} {q:α1->α2->α3->Prop} (x1:α1) (x2:α2) (x3:α3) (h1:p1 x1 x2 x3) (h2:p2 x1 x2 x3) (k:q x1 x2 x3):∃ x1,∃ x2,∃ x3,p1 x1 x2 x3/\p2 x1 x2 x3/\q x1 x2 x3:=⟨x1,x2,x3,h1,h2,k⟩
theorem xbi {α1:Sort _} {α2:Sort _} {α3:Sort _} {p1:α1->α2->α3->Prop} {p2:α1->α2->α3->Prop} {p3:α1->α2->α3->Prop} {q:α1->α2->α3->Prop} (x1:α1) (x2:α2) (x3:α3) (h1:p1 x1 x2 x3) (h2:p2 x1 x2 x3) (h3:p3 x1 x2 x3) (k:q x1 x2 x3):∃ x1,∃ x2,∃ x3,p1 x1 x2 x3/\p2 x1 x2 x3/\p3 x1 x2 x3/\q x1 x2 x3:=⟨x1,x2,x3,h1,h2,h3,k⟩
theorem xbf {α1:Sort _} {α2:Sort _} {α3:Sort _} {p1:α1->α2->α3->Prop} {p2:α1->α2->α3->Prop} {p3:α1->α2->α3->Prop} {p4:α1->α2->α3->Prop} {q:α1->α2->α3->Prop} (x1:α1) (x2:α2) (x3:α3) (h1:p1 x1 x2 x3) (h2:p2 x1 x2 x3) (h3:p3 x1 x2 x3) (h4:p4 x1 x2 x3) (k:q x1 x2 x3):∃ x1,∃ x2,∃ x3,p1 x1 x2 x3/\p2 x1 x2 x3/\p3 x1 x2 x3/\p4 x1 x2 x3/\q x1 x2 x3:=⟨x1,x2,x3,h1,h2,h3,h4,k⟩
theorem xcc {α1:Sort _} {α2:Sort _} {α3:Sort _} {p1:α1->α2->α3->Prop} {p2:α1->α2->α3->Prop} {p3:α1->α2->α3->Prop} {p4:α1->α2->α3->Prop} {p5:α1->α2->α3->Prop} {q:α1->α2->α3->Prop} (x1:α1) (x2:α2) (x3:α3) (h1:p1 x1 x2 x3) (h2:p2 x1 x2 x3) (h3:p3 x1 x2 x3) (h4:p4 x1 x2 x3) (h5:p5 x1 x2 x3) (k:q x1 x2 x3):∃ x1,∃ x2,∃ x3,p1 x1 x2 x3/\p2 x1 x2 x3/\p3 x1 x2 x3/\p4 x1 x2 x3/\p5 x1 x2 x3/\q x1 x2 x3:=⟨x1,x2,x3,h1,h2,h3,h4,h5,k⟩
theorem xb2 {α1:Sort _} {α2:Sort _} {α3:Sort _} {p1:α1->α2->α3->Prop} {p2:α1->α2->α3->Prop} {p3:α1->α2->α3->Prop} {p4:α1->α2->α3->Prop} {p5:α1->α2->α3->Prop} {p6:α1->α2->α3->Prop} {q:α1->α2->α3->Prop} (x1:α1) (x2:α2) (x3:α3) (h1:p1 x1 x2 x3) (h2:p2 x1 x2 x3) (h3:p3 x1 x2 x3) (h4:p4 x1 x2 x3) (h5:p5 x1 x2 x3) (h6:p6 x1 x2 x3) (k:q x1 x2 x3):∃ x1,∃ x2,∃ x3,p1 x1 x2 x3/\p2 x1 x2 x3/\p3 x1 x2 x3/\p4 x1 x2 x3/\p5 x1 x2 x3/\p6 x1 x2 x3/\q x1 x2 x3:=⟨x1,x2,x3,h1,h2,h3,h4,h5,h6,k⟩
theorem xdb {α1:Sort _} {α2:Sort _} {α3:Sort _} {p1:α1->α2->α3->Prop} {p2:α1->α2->α3->Prop} {p3:α1->α2->α3->Prop} {p4:α1->α2->α3->Prop} {p5:α1->α2->α3->Prop} {p6:α1->α2->α3->Prop} {p7:α1->α2->α3->Prop} {q:α1->α2->α3->Prop} (x1:α1) (x2:α2) (x3:α3) (h1:p1 x1 x2 x3) (h2:p2 x1 x2 x3) (h3:p3 x1 x2 x3) (h4:p4 x1 x2 x3) (h5:p5 x1 x2 x3) (h6:p6 x1 x2 x3) (h7:p7 x1 x2 x3) (k:q x1 x2 x3):∃ x1,∃ x2,∃ x3,p1 x1 x2 x3/\p2 x1 x2 x3/\p3 x1 x2 x3/\p4 x1 x2 x3/\p5 x1 x2 x3/\p6 x1 x2 x3/\p7 x1 x2 x3/\q x1 x2 x3:=⟨x1,x2,x3,h1,h2,h3,h4,h5,h6,h7,k⟩
theorem xdw {α1:Sort _} {α2:Sort _} {α3:Sort _} {p1:α1->α2->α3->Prop} {p2:α1->α2->α3->Prop} {p3:α1->α2->α3->Prop} {p4:α1->α2->α3->Prop} {α4:Sort _} {p5:α1->α2->α3->α4->Prop} {q:α1->α2->α3->α4->Prop} (x1:α1) (x2:α2) (x3:α3) (h1:p1 x1 x2 x3) (h2:p2 x1 x2 x3) (h3:p3 x1 x2 x3) (h4:p4 x1 x2 x3) (x4:α4) (h5:p5 x1 x2 x3 x4) (k:q x1 x2 x3 x4):∃ x1,∃ x2,∃ x3,p1 x1 x2 x3/\p2 x1 x2 x3/\p3 x1 x2 x3/\p4 x1 x2 x3/\∃ x4,p5 x1 x2 x3 x4/\q x1 x2 x3 x4:=⟨x1,x2,x3,h1,h2,h3,h4,x4,h5,k⟩
theorem xsc {α1:Sort _} {α2:Sort _} {α3:Sort _} {α4:Sort _} {p1:α1->α2->α3->α4->Prop} {q:α1->α2->α3->α4->Prop} (x1:α1) (x2:α2) (x3:α3) (x4:α4) (h1:p1 x1 x2 x3 x4) (k:q x1 x2 x3 x4):∃ x1,∃ x2,∃ x3,∃ x4,p1 x1 x2 x3 x4/\q x1 x2 x3 x4:=⟨x1,x2,x3,x4,h1,k⟩
theorem xmp {α1:Sort _} {α2:Sort _} {α3:Sort _} {α4:Sort _} {p1:α1->α2->α3->α4->Prop} {p2:α1->α2->α3->α4->Prop} {p3:α1->α2->α3->α4->Prop} {q:α1->α2->α3->α4->Prop} (x1:α1) (x2:α2) (x3:α3) (x4:α4) (h1:p1 x1 x2 x3 x4) (h2:p2 x1 x2 x3 x4) (h3:p3 x1 x2 x3 x4) (k:q x1 x2 x3 x4):∃ x1,∃ x2,∃ x3,∃ x4,p1 x1 x2 x3 x4/\p2 x1 x2 x3 x4/\p3 x1 x2 x3 x4/\q x1 x2 x3 x4:=⟨x1,x2,x3,x4,h1,h2,h3,k⟩
theorem xaw {α1:Sort _} {α2:Sort _} {α3:Sort _} {α4:Sort _} {p1:α1->α2->α3->α4->Prop} {p2:α1->α2->α3->α4->Prop} {p3:α1->α2->α3->α4->Prop} {p4:α1->α2->α3->α4->Prop} {q:α1->α2->α3->α4->Prop} (x1:α1) (x2:α2) (x3:α3) (x4:α4) (h1:p1 x1 x2 x3 x4) (h2:p2 x1 x2 x3 x4) (h3:p3 x1 x2 x3 x4) (h4:p4 x1 x2 x3 x4) (k:q x1 x2 x3 x4):∃ x1,∃ x2,∃ x3,∃ x4,p1 x1 x2 x3 x4/\p2 x1 x2 x3 x4/\p3 x1 x2 x3 x4/\p4 x1 x2 x3 x4/\q x1 x2 x3 x4:=⟨x1,x2,x3,x4,h1,h2,h3,h4,k⟩
theorem xa5 {α1:Sort _} {α2:Sort _} {α3:Sort _} {α4:Sort _} {p1:α1->α2->α3->α4->Prop} {p2:α1->α2->α3->α4->Prop} {p3:α1->α2->α3->α4->Prop} {p4:α1->α2->α3->α4->Prop} {p5:α1->α2->α3->α4->Prop} {q:α1->α2->α3->α4->Prop} (x1:α1) (x2:α2) (x3:α3) (x4:α4) (h1:p1 x1 x2 x3 x4) (h2:p2 x1 x2 x3 x4) (h3:p3 x1 x2 x3 x4) (h4:p4 x1 x2 x3 x4) (h5:p5 x1 x2 x3 x4) (k:q x1 x2 x3 x4):∃ x1,∃ x2,∃ x3,∃ x4,p1 x1 x2 x3 x4/\p2 x1 x2 x3 x4/\p3 x1 x2 x3 x4/\p4 x1 x2 x3 x4/\p5 x1 x2 x3 x4/\q x1 x2 x3 x4:=⟨x1,x2,x3,x4,h1,h2,h3,h4,h5,k⟩
theorem xbh {α1:Sort _} {α2:Sort _} {α3:Sort _} {α4:Sort _} {p1:α1->α2->α3->α4->Prop} {p2:α1->α2->α3->α4->Prop} {p3:α1->α2->α3->α4->Prop} {p4:α1->α2->α3->α4->Prop} {p5:α1->α2->α3->α4->Prop} {p6:α1->α2->α3->α4->Prop} {q:α1->α2->α3->α4->Prop} (x1:α1) (x2:α2) (x3:α3) (x4:α4) (h1:p1 x1 x2 x3 x4) (h2:p2 x1 x2 x3 x4) (h3:p3 x1 x2 x3 x4) (h4:p4 x1 x2 x3 x4) (h5:p5 x1 x2 x3 x4) (h6:p6 x1 x2 x3 x4) (k:q x1 x2 x3 x4):∃ x1,∃ x2,∃ x3,∃ x4,p1 x1 x2 x3 x4/\p2 x1 x2 x3 x4/\p3 x1 x2 x3 x4/\p4 x1 x2 x3 x4/\p5 x1 x2 x3 x4/\p6 x1 x2 x3 x4/\q x1 x2 x3 x4:=⟨x1,x2,x3,x4,h1,h2,h3,h4,h5,h6,k⟩
theorem xes {α1:Sort _} {α2:Sort _} {α3:Sort _} {α4:Sort _} {p1:α1->α2->α3->α4->Prop} {p2:α1->α2->α3->α4->Prop} {p3:α1->α2->α3->α4->Prop} {p4:α1->α2->α3->α4->Prop} {α5:Sort _} {q:α1->α2->α3->α4->α5->Prop} (x1:α1) (x2:α2) (x3:α3) (x4:α4) (h1:p1 x1 x2 x3 x4) (h2:p2 x1 x2 x3 x4) (h3:p3 x1 x2 x3 x4) (h4:p4 x1 x2 x3 x4) (x5:α5) (k:q x1 x2 x3 x4 x5):∃ x1,∃ x2,∃ x3,∃ x4,p1 x1 x2 x3 x4/\p2 x1 x2 x3 x4/\p3 x1 x2 x3 x4/\p4 x1 x2 x3 x4/\∃ x5,q x1 x2 x3 x4 x5:=⟨x1,x2,x3,x4,h1,h2,h3,h4,x5,k⟩
theorem xas {α1:Sort _} {α2:Sort _} {α3:Sort _} {α4:Sort _} {α5:Sort _} {q:α1->α2->α3->α4->α5->Prop} (x1:α1) (x2:α2) (x3:α3) (x4:α4) (x5:α5) (k:q x1 x2 x3 x4 x5):∃ x1,∃ x2,∃ x3,∃ x4,∃ x5,q x1 x2 x3 x4 x5:=⟨x1,x2,x3,x4,x5,k⟩
theorem xbn {α1:Sort _} {α2:Sort _} {α3:Sort _} {α4:Sort _} {α5:Sort _} {p1:α1->α2->α3->α4->α5->Prop} {p2:α1->α2->α3->α4->α5->Prop} {p3:α1->α2->α3->α4->α5->Prop} {p4:α1->α2->α3->α4->α5->Prop} {q:α1->α2->α3->α4->α5->Prop} (x1:α1) (x2:α2) (x3:α3) (x4:α4) (x5:α5) (h1:p1 x1 x2 x3 x4 x5) (h2:p2 x1 x2 x3 x4 x5) (h3:p3 x1 x2 x3 x4 x5) (h4:p4 x1 x2 x3 x4 x5) (k:q x1 x2 x3 x4 x5):∃ x1,∃ x2,∃ x3,∃ x4,∃ x5,p1 x1 x2 x3 x4 x5/\p2 x1 x2 x3 x4 x5/\p3 x1 x2 x3 x4 x5/\p4 x1 x2 x3 x4 x5/\q x1 x2 x3 x4 x5:=⟨x1,x2,x3,x4,x5,h1,h2,h3,h4,k⟩
theorem xat {α1:Sort _} {α2:Sort _} {α3:Sort _} {α4:Sort _} {α5:Sort _} {p1:α1->α2->α3->α4->α5->Prop} {p2:α1->α2->α3->α4->α5->Prop} {p3:α1->α2->α3->α4->α5->Prop} {p4:α1->α2->α3->α4->α5->Prop} {p5:α1->α2->α3->α4->α5->Prop} {q:α1->α2->α3->α4->α5->Prop} (x1:α1) (x2:α2) (x3:α3) (x4:α4) (x5:α5) (h1:p1 x1 x2 x3 x4 x5) (h2:p2 x1 x2 x3 x4 x5) (h3:p3 x1 x2 x3 x4 x5) (h4:p4 x1 x2 x3 x4 x5) (h5:p5 x1 x2 x3 x4 x5) (k:q x1 x2 x3 x4 x5):∃ x1,∃ x2,∃ x3,∃ x4,∃ x5,p1 x1 x2 x3 x4 x5/\p2 x1 x2 x3 x4 x5/\p3 x1 x2 x3 x4 x5/\p4 x1 x2 x3 x4 x5/\p5 x1 x2 x3 x4 x5/\q x1 x2 x3 x4 x5:=⟨x1,x2,x3,x4,x5,h1,h2,h3,h4,h5,k⟩
end L2
end
section
namespace L2
open PySem PySem.Spec PyProof.Rows
def clOf (env:Env):List (Str×NameKind)->List (Str×Addr)->List (Str×Addr)
 | [],cs=>cs
 | (n,k) :: r,cs=>clOf env r (if k == .free then match env.cells.lookup n with | some a=>(n,a) :: cs | none=>cs else cs)
theorem xkg {env:Env} {x:Str} {c:Addr}:∀ {ns:List (Str×NameKind)} {cs:List (Str×Addr)},(∀ p∈cs,env.cells.lookup p.1=some p.2)->(clOf env ns cs).lookup x=some c->env.cells.lookup x=some c
 | [],cs,h,e=>by
  unfold clOf at e
  exact h (x,c) (PySem.mem_of_lookup e)
 | (n,k) :: r,cs,h,e=>by
  unfold clOf at e
  refine xkg (ns:=r) ?_ e
  intro p hp
  split at hp
  ·split at hp
   ·rename_i a ea
    rcases zMC hp with rfl | hp
    ·exact ea
    ·exact h p hp
   ·exact h p hp
  ·exact h p hp
theorem xe2 {x:Str}:∀ {cs:List (Str×Addr)},(∃ c,(x,c)∈cs)->∃ c,cs.lookup x=some c
 | [],⟨_,h⟩=>nomatch h
 | (n,a) :: r,⟨c,h⟩=>by
  rw [List.lookup_cons]
  cases e:x == n with
  | true=>exact ⟨a,rfl⟩
  | false=>
   rcases zMC h with h | h
   ·cases h
    rw [beq_self_eq_true] at e; cases e
   ·exact xe2 ⟨c,h⟩
theorem xm0 {env:Env} {x:Str}:∀ {ns:List (Str×NameKind)} {cs:List (Str×Addr)},((∃ c,(x,c)∈cs)\/((x,NameKind.free)∈ns/\∃ c,env.cells.lookup x=some c))->∃ c,(x,c)∈clOf env ns cs
 | [],cs,h=>by
  unfold clOf
  rcases h with h | ⟨h,_⟩
  ·exact h
  ·cases h
 | (n,k) :: r,cs,h=>by
  unfold clOf
  refine xm0 (ns:=r) ?_
  rcases h with ⟨c,h⟩ | ⟨h,c,hc⟩
  ·refine .inl ⟨c,?_⟩
   split
   ·split
    ·exact List.mem_cons_of_mem _ h
    ·exact h
   ·exact h
  ·rcases zMC h with h | h
   ·cases h
    refine .inl ⟨c,?_⟩
    rw [if_pos (by decide),hc]
    exact List.mem_cons_self
   ·exact .inr ⟨h,c,hc⟩
theorem xfo {sc:Scope} {env:Env} (h:∀ p∈sc.names,p.2=NameKind.free->∃ c,env.cells.lookup p.1=some c):closureFor sc env=pure (clOf env sc.names []):=by
 have go:∀ (ns:List (Str×NameKind)) (cs:List (Str×Addr)),(∀ p∈ns,p.2=NameKind.free->∃ c,env.cells.lookup p.1=some c)->
   (forIn ns cs fun (x:Str×NameKind) (r:List (Str×Addr))=>(if (x.2 == NameKind.free)=true then do
     let y <- cellOf env x.1
     pure (ForInStep.yield ((x.1,y) :: r)) else pure (ForInStep.yield r):Sem (ForInStep (List (Str×Addr)))))=(pure (clOf env ns cs):Sem (List (Str×Addr))):=by
  intro ns
  induction ns with
  | nil=>intro cs _; rfl
  | cons p r ih=>
   intro cs hp
   obtain ⟨n,k⟩:=p
   rw [List.forIn_cons]
   unfold clOf
   by_cases hk:k=NameKind.free
   ·subst hk
    obtain ⟨c,hc⟩:=hp (n,.free) List.mem_cons_self rfl
    have e1:cellOf env n=pure c:=by unfold cellOf; rw [hc]
    simp only [beq_self_eq_true,if_true,e1,hc,pure_bind]
    exact ih _ fun q hq=>hp q (List.mem_cons_of_mem _ hq)
   ·have hb:(k == NameKind.free)=false:=by simpa using hk
    simp only [hb,Bool.false_eq_true,if_false,pure_bind]
    exact ih _ fun q hq=>hp q (List.mem_cons_of_mem _ hq)
 unfold closureFor
 have:=go sc.names [] h
 simp only [bind_pure_comp,id_map'] at this ⊢
 rw [this]
 rfl
end L2
end
section
namespace L2
open PySem PySem.Spec PyProof.Rows
theorem xcu {env:Env} {x:Str} {k':NameKind}:∀ {ns:List (Str×NameKind)},
  (ns.map fun (n,k)=>if (k == NameKind.free && env.scope.kind == .function && env.kindOf n == some .cell) then (n,NameKind.cell) else (n,k)).lookup x=some k'->
  ∃ k,ns.lookup x=some k/\(k'=k\/(k=.free/\k'=.cell))
 | [],h=>by simp at h
 | (n,k) :: r,h=>by
  have h':List.lookup x ((if (k == NameKind.free && env.scope.kind == .function && env.kindOf n == some .cell)=true then (n,NameKind.cell) else (n,k)) :: (r.map fun (n,k)=>if (k == NameKind.free && env.scope.kind == .function && env.kindOf n == some .cell) then (n,NameKind.cell) else (n,k)))=some k':=h
  rw [List.lookup_cons]
  by_cases hc:(k == NameKind.free && env.scope.kind == .function && env.kindOf n == some .cell)=true
  ·rw [if_pos hc,List.lookup_cons] at h'
   cases e:x == n with
   | true=>
    rw [e] at h'
    cases h'
    refine ⟨k,rfl,.inr ⟨?_,rfl⟩⟩
    rw [Bool.and_eq_true,Bool.and_eq_true] at hc
    exact eq_of_beq hc.1.1
   | false=>
    rw [e] at h'
    exact xcu h'
  ·rw [if_neg hc,List.lookup_cons] at h'
   cases e:x == n with
   | true=>
    rw [e] at h'
    cases h'
    exact ⟨_,rfl,.inl rfl⟩
   | false=>
    rw [e] at h'
    exact xcu h'
theorem xe6 {env:Env} {x:Str} {k:NameKind}:∀ {ns:List (Str×NameKind)},ns.lookup x=some k->
  ∃ k',(ns.map fun (n,k)=>if (k == NameKind.free && env.scope.kind == .function && env.kindOf n == some .cell) then (n,NameKind.cell) else (n,k)).lookup x=some k'/\(k'=k\/(k=.free/\k'=.cell))
 | [],h=>by simp at h
 | (n,k0) :: r,h=>by
  show ∃ k',List.lookup x ((if (k0 == NameKind.free && env.scope.kind == .function && env.kindOf n == some .cell)=true then (n,NameKind.cell) else (n,k0)) :: (r.map fun (n,k)=>if (k == NameKind.free && env.scope.kind == .function && env.kindOf n == some .cell) then (n,NameKind.cell) else (n,k)))=some k'/\_
  rw [List.lookup_cons] at h
  by_cases hc:(k0 == NameKind.free && env.scope.kind == .function && env.kindOf n == some .cell)=true
  ·rw [if_pos hc,List.lookup_cons]
   cases e:x == n with
   | true=>
    rw [e] at h
    cases h
    refine ⟨_,rfl,.inr ⟨?_,rfl⟩⟩
    rw [Bool.and_eq_true,Bool.and_eq_true] at hc
    exact eq_of_beq hc.1.1
   | false=>
    rw [e] at h
    exact xe6 h
  ·rw [if_neg hc,List.lookup_cons]
   cases e:x == n with
   | true=>
    rw [e] at h
    cases h
    exact ⟨_,rfl,.inl rfl⟩
   | false=>
    rw [e] at h
    exact xe6 h
abbrev Cap:=List (Option Nat)
def capt (ix:Cap) (σ:St):St:=ix.map fun o=>(o.bind fun j=>σ[j]?).join
def xrk (N N':List Str) (sc sc':Scope) (ix:Cap):Bool:=
 (ix.length == N'.length) && (sc'.kind == .function) &&
 (sc'.names.all fun p=>p.2 != .cell && (p.2 != .local || sc'.names.lookup p.1 == some .local) && (p.2 != .free || (sc.names.lookup p.1 == some .cell || sc.names.lookup p.1 == some .free))) &&
 (List.range ix.length).all fun k=>match ix[k]? with
  | some (some j)=>match N'[k]? with
   | some x=>N[j]? == some x && sc'.names.lookup x == some .free
   | none=>false
  | _=>true
structure CapOk (N N':List Str) (sc sc':Scope) (ix:Cap):Prop where
 len:ix.length=N'.length
 kind:sc'.kind=.function
 nocell:∀ p∈sc'.names,p.2≠.cell
 loc:∀ p∈sc'.names,p.2=.local->sc'.names.lookup p.1=some .local
 fre:∀ p∈sc'.names,p.2=.free->sc.names.lookup p.1=some .cell\/sc.names.lookup p.1=some .free
 cap:∀ (k j:Nat),ix[k]?=some (some j)->∃ x,N'[k]?=some x/\N[j]?=some x/\sc'.names.lookup x=some .free
theorem xm2 {N N':List Str} {sc sc':Scope} {ix:Cap} (h:xrk N N' sc sc' ix=true):CapOk N N' sc sc' ix:=by
 unfold xrk at h
 simp only [Bool.and_eq_true,List.all_eq_true,beq_iff_eq] at h
 obtain ⟨⟨⟨h1,h2⟩,h3⟩,h4⟩:=h
 refine ⟨h1,h2,fun p hp=>?_,fun p hp hl=>?_,fun p hp hf=>?_,fun k j hk=>?_⟩
 ·have:=(h3 p hp).1.1
  simpa using this
 ·have:=(h3 p hp).1.2
  rw [hl] at this
  simpa using this
 ·have:=(h3 p hp).2
  rw [hf] at this
  simpa using this
 ·have hlt:k < ix.length:=(zES hk).1
  have:=h4 k (List.mem_range.mpr hlt)
  rw [hk] at this
  simp only at this
  cases e:N'[k]? with
  | none=>rw [e] at this; simp at this
  | some x=>
   rw [e] at this
   simp only [Bool.and_eq_true,beq_iff_eq] at this
   exact ⟨x,rfl,this.1,this.2⟩
abbrev Cx.comp (X:Cx) (sc:Scope) (N':List Str) (C:Addr) (s₀:Shared) (H₀:Hp) (ex:List Addr):Cx:=
 { X with N:=N',s₀:=s₀,H₀:=H₀,env:=compEnvC sc (clOf X.env sc.names []) C X.env,outer:=X.stack,stack:=X.stack,ex:=ex,fn:=fun _=>false,pn:=[],xe:=fun _ _=>False }
def Ext (σ σ':St):Prop:=σ.length=σ'.length/\∀ (i:Nat) v,σ[i]?=some (some v)->σ'[i]?=some (some v)
theorem xd7 {σ:St} {i:Nat} {v:Option V} (h:σ[i]?=some none):Ext σ (σ.set i v):=by
 refine ⟨by simp,fun j w e=>?_⟩
 by_cases hj:i=j
 ·subst hj; rw [h] at e; cases e
 ·rw [List.getElem?_set_ne hj]; exact e
def PTs (X:Cx) (ifs:List Expr) (t:TT):Prop:=
 ∀ (pins:List (Addr×Obj)) (s:Shared) (σ:St) (H:Hp) (Q:Bool->Hp->Prop),Inv X pins σ H s->t σ H Q->
  wpAny (model X.prog X.w) X.A (forIn ifs true fun c r=>if r=true then do let ok <- isTrue c X.env (eval c X.env); pure (ForInStep.yield ok) else pure (ForInStep.yield r)) (TP X pins σ Q) X.xe s
def tYes:TT:=fun _ H Q=>Q true H
theorem xby {X:Cx}:PTs X [] tYes:=fun _ _ _ H _ I h=>wpAny_tests_nil ⟨H,I,h⟩
theorem xeg {X:Cx} {c:Expr} {t:TT} (h:PT X c t):PTs X [c] t:=fun pins s σ H Q I hw=>wpAny_tests_one (h pins s σ H Q I hw)
def xhh (J:It) (ix:Cap) (g:TG) (tt:TT) (te:TE) (σ:St) (H1:Hp) (Q:VK):Prop:=∃ W:Nat->Nat->List V->Hp->Prop,(∃ m,W 0 m [] H1)/\∀ i m ys H,W i m ys H->
 (J.stop i H/\∀ D,H D=none->Q (.ref D) (upd H D (.lst ys))) ∨
 (J.go i H/\ys.length < sizeLine/\∀ x H',J.yld i H x H'->g x (capt ix σ) H' fun σ2 H2=>Ext (capt ix σ) σ2/\tt σ2 H2 fun b H3=>
  if b=true then te σ2 H3 fun y H4=>∃ m',m' < m/\W (i + 1) m' (ys++[y]) H4 else ∃ m',m' < m/\W (i + 1) m' ys H3)
def xud (ix:Cap) (wi:TI) (g:TG) (tt:TT) (te:TE):TE:=fun σ H Q=>wi σ H fun J H1=>xhh J ix g tt te σ H1 Q
theorem HOk.track {P:Program} {w:World} {H:Hp} {h:Heap} {a:Addr} {o:HO} (x:HOk P w H h) (hn:H a=none) (new:ObjOk P w (upd H a o) h a o):HOk P w (upd H a o) h:=fun b u e=>by
 by_cases hb:b=a
 ·subst hb; rw [ups] at e; cases e; exact new
 ·rw [xaz hb] at e
  exact (x b u e).stay (fun c v _ q=>q) (fun c q=>by rw [xaz (neN q hn)]; exact q) fun c xs q=>by rw [xaz (neN q hn)]; exact q
theorem xey {prog:Program} {w:World} {A:Around} {R:Result->Shared->Prop} {s:Shared} {elt target iter:Expr} {ifs:List Expr} {scope:Scope} {pos:Pos} {it acc:Value} {env:Env} (I:Nat->Shared->Prop)
  (turn:∀ n s,I n s->wpAny (model prog w) A (pyNext it) (fun r s₁=>match r with
   | none=>R (.ok .next) s₁
   | some v=>wpAny (model prog w) A (letOwnedTupleGo target it v) (fun _ s₁'=>wpAny (model prog w) A (assign target env v) (fun _ s₂=>
     wpAny (model prog w) A (forIn ifs true fun c r=>if r=true then do let ok <- isTrue c env (eval c env); pure (ForInStep.yield ok) else pure (ForInStep.yield r)) (fun ok s₃=>
      if ok=true then wpAny (model prog w) A (eval elt env) (fun x s₄=>
       wpAny (model prog w) A (call (.builtin "list.append") [acc,x]) (fun _ s₅=>∃ m,m < n/\I m s₅) (notedBy (model prog w) A env fun e s'=>R (.error e) s') s₄) (notedBy (model prog w) A env fun e s'=>R (.error e) s') s₃
      else ∃ m,m < n/\I m s₃) (notedBy (model prog w) A env fun e s'=>R (.error e) s') s₂) (notedBy (model prog w) A env fun e s'=>R (.error e) s') s₁') (notedBy (model prog w) A env fun e s'=>R (.error e) s') s₁) (notedBy (model prog w) A env fun e s'=>R (.error e) s') s)
  (n:Nat) (h:I n s) :
  codeAny (model prog w) A (.compLoop (.ListComp elt [⟨target,iter,ifs,0⟩] scope pos) 0 it acc env) R s:=by
 refine codeAny_loop rfl I (fun n s hI=>?_) n h
 show wpAny _ A ((compTurn (.ListComp elt [⟨target,iter,ifs,0⟩] scope pos) 0 it acc env).onRaise (fun x=>do noteFrame x env; theTreesLotGoes x)) _ _ s
 refine wpAny_noted ?_
 rw [compTurn_list]
 refine wpAny_bind (wpAny_standAt (wpAny_bind (wpAny_mono (turn n s hI) (fun r s₁ h₁=>?_) fun _ _ h'=>h')))
 cases r with
 | none=>exact wpAny_pure h₁
 | some v=>
  refine wpAny_bind (wpAny_mono h₁ (fun _ s₁' h₁'=>?_) fun _ _ h'=>h')
  refine wpAny_bind (wpAny_mono h₁' (fun _ s₂ h₂=>wpAny_bind (wpAny_mono h₂ (fun ok s₃ h₃=>?_) fun _ _ h'=>h')) fun _ _ h'=>h')
  cases ok with
  | false=>exact wpAny_pure ⟨rfl,h₃⟩
  | true=>
   exact wpAny_bind (wpAny_bind (wpAny_mono h₃ (fun x s₄ h₄=>wpAny_bind (wpAny_mono h₄ (fun _ s₅ h₅=>wpAny_pure (wpAny_pure ⟨rfl,h₅⟩)) fun _ _ h'=>h')) fun _ _ h'=>h'))
section
variable {X:Cx}
theorem xhv {M:Model} {A:Around} {α:Type} {t:Sem α} {Q:α->Shared->Prop} {E:Value->Shared->Prop} {s:Shared} (h:wpAny M A t Q (fun _ _=>False) s):wpAny M A t Q E s:=wpAny_mono h (fun _ _ q=>q) fun _ _ z=>z.elim
theorem xh1 {elt tg iter:Expr} {ifs:List Expr} {sc:Scope} {pos:Pos} {N':List Str} {ix:Cap} {g:TG} {tt:TT} {te:TE} {pins:List (Addr×Obj)} {σ:St} {s:Shared} {Q:VK} {RR:Value->Addr->Result->Shared->Prop} {E:Value->Shared->Prop}
  {itv:Value} (hc:X.calm=true) (ok:CapOk X.N N' X.env.scope sc ix)
  (hg:∀ C s₀ H₀ ex,PG (X.comp sc N' C s₀ H₀ ex) tg g) (ht:∀ C s₀ H₀ ex,PTs (X.comp sc N' C s₀ H₀ ex) ifs tt) (he:∀ C s₀ H₀ ex,PE (X.comp sc N' C s₀ H₀ ex) elt te)
  (hi:PIE X pins σ tg (fun J H1=>xhh J ix g tt te σ H1 Q) itv s)
  (fin:∀ (D C:Addr) (s':Shared) (H':Hp) (m:Str->Option Value),Inv X pins σ H' s'->Q (.ref D) H'->s'.heap.Ns C m->H' C=none->C≠X.env.locals->X.s₀.heap.objs.size<=C->(∀ x c,X.env.cells.lookup x=some c->c≠C)->(∀ p∈X.pn++pins,p.1≠C)->
   RR (.ref D) C (.ok .next) s') :
  wpAny (model X.prog X.w) X.A (newList []) (fun acc s₃=>wpAny (model X.prog X.w) X.A (newFunctionEnv sc X.env.globals (clOf X.env sc.names []) [] X.env.qual none .none (some X.env)) (fun cenv s₄=>
   codeAny (model X.prog X.w) X.A (.compStart (.ListComp elt [⟨tg,iter,ifs,0⟩] sc pos) 0 itv acc { cenv with scope:=relabel sc X.env }) (RR acc cenv.locals) s₄) E s₃) E s:=by
 obtain ⟨it,fp,tn,J,H2,rfl,I2,T,st2,f2,W,⟨m0,w0⟩,turn⟩:=hi
 refine wpAny_newObj_type (wpAny_newFunctionEnv ok.nocell (by intro y hy; simp at hy) (fun h₁ hns₁ hsb₁=>?_) ok.kind)
 dsimp only at hns₁ hsb₁ ⊢
 generalize hHD:s.heap.push { cls:=.type "list",dict:=none,data:=.seq ([]:List Value).toArray }=hD at hns₁ hsb₁ ⊢
 have hCs:hD.objs.size=s.heap.objs.size + 1:=by rw [<- hHD,Heap.size_push]
 have upC:s.heap.objs.size < hD.objs.size:=by rw [hCs]; exact Nat.lt_succ_self _
 have hDC:s.heap.objs.size≠hD.objs.size:=by rw [hCs]; exact Nat.ne_of_lt (Nat.lt_succ_self _)
 have below:∀ b o,s.heap.get? b=some o->b≠hD.objs.size/\b≠s.heap.objs.size:=fun b o e=>by
  have:=Heap.lt_size e
  exact ⟨Nat.ne_of_lt (by rw [hCs]; exact Nat.lt_succ_of_lt this),Nat.ne_of_lt this⟩
 have old:∀ b o,s.heap.get? b=some o->h₁.get? b=some o:=fun b o e=>hsb₁.extBut b o (below b o e).1 (zPO _ (hHD ▸ zPO _ e))
 have hacc:h₁.get? s.heap.objs.size=some { cls:=.type "list",data:=.seq ([]:List Value).toArray 0 }:=hsb₁.extBut _ _ hDC (zPO _ (hHD ▸ Heap.get?_push_size _ rfl))
 have fpo:∀ b∈fp,b < s.heap.objs.size:=fun b hb=>let ⟨o,e,_⟩:=T.obj _ _ st2 b hb; Heap.lt_size e
 have cellX:∀ x c,(clOf X.env sc.names []).lookup x=some c->X.env.cells.lookup x=some c:=fun x c e=>xkg (fun p hp=>absurd hp (by simp)) e
 have cellLt:∀ x c,X.env.cells.lookup x=some c->c < s.heap.objs.size:=fun x c e=>let ⟨v,z⟩:=I2.cell x c e; z.lt
 have hasC:∀ x,(x,NameKind.free)∈sc.names->∃ c,(clOf X.env sc.names []).lookup x=some c:=fun x hx=>by
  have h1:=I2.ok.has x (ok.fre (x,.free) hx rfl)
  exact xe2 (xm0 (.inr ⟨hx,h1⟩))
 have okX:(X.comp sc N' hD.objs.size s H2 fp).Ok:=by
  refine ⟨I2.ok.mod,ok.kind,I2.ok.glob,I2.ok.blt,?_,?_,?_,?_,I2.ok.hd,I2.ok.frames,.inl rfl,?_,I2.bs,Nat.le_trans I2.ok.bsz I2.sz,?_,?_,I2.stack,I2.stkFree⟩
  ·exact Nat.le_of_lt upC
  ·intro x y c h1 h2
   exact I2.ok.inj x y c (cellX x c h1) (cellX y c h2)
  ·intro x hx
   have hx':(relabel sc X.env).names.lookup x=some .cell\/(relabel sc X.env).names.lookup x=some .free:=hx
   have:∃ k,sc.names.lookup x=some k/\(k=.free\/k=.cell):=by
    rcases hx' with h | h
    ·obtain ⟨k,e,z⟩:=xcu h
     rcases z with z | ⟨z,_⟩
     ·exact ⟨k,e,.inr z.symm⟩
     ·exact ⟨k,e,.inl z⟩
    ·obtain ⟨k,e,z⟩:=xcu h
     rcases z with z | ⟨_,z⟩
     ·exact ⟨k,e,.inl z.symm⟩
     ·cases z
   obtain ⟨k,e,z⟩:=this
   rcases z with rfl | rfl
   ·exact hasC x (PySem.mem_of_lookup e)
   ·exact absurd rfl (ok.nocell _ (PySem.mem_of_lookup e))
  ·intro x c h _
   cases h
  ·intro b hb
   refine ⟨?_,fun x c e=>(f2 b hb).2.2.2.2.1 x c (cellX x c e)⟩
   exact Nat.ne_of_lt (by rw [hCs]; exact Nat.lt_succ_of_lt (fpo b hb))
  ·intro b o e hb
   rcases (f2 b hb).2.2.2.1 with z | z
   ·exact I2.ok.noex b o e z
   ·exact absurd (Nat.lt_of_lt_of_le (Heap.lt_size (I2.ok.bs b o e).1) z) (Nat.lt_irrefl _)
  ·intro b hb z
   rcases zMC (I2.stkSub b z) with z | z
   ·exact (f2 b hb).2.1 z
   ·exact (f2 b hb).2.2.1 z
 have hnD:H2 s.heap.objs.size=none:=I2.hok.fresh (Nat.le_refl _)
 have hnC:H2 hD.objs.size=none:=I2.hok.fresh (Nat.le_of_lt upC)
 have nofsD:∀ a,s.heap.objs.size<=a->a ∉ frs X.stack:=fun a ha z=>by
  rcases zMC (I2.stkSub a z) with z | z
  ·exact absurd (Nat.lt_of_lt_of_le I2.lt ha) (by rw [z]; exact Nat.lt_irrefl _)
  ·exact I2.nofs ha z
 have xf8:Inv (X.comp sc N' hD.objs.size s H2 fp) [(s.heap.objs.size,{ cls:=.type "list",data:=.seq ([]:List Value).toArray 0 })] (capt ix σ) H2 { s with heap:=h₁,toks:=s.toks + ([]:List (Str×Value)).length }:=by
  refine ⟨okX,rfl,I2.bare,Un.kept old,⟨_,hns₁,?_⟩,fun x c e=>?_,hnC,fun x c e=>I2.freeC x c (cellX x c e),fun p hp=>?_,I2.hok.kept old,?_⟩
  ·intro i x v hN hv hvis
   have hl:i < ix.length:=by rw [ok.len]; exact (zES hN).1
   have hv':(ix.map fun o=>(o.bind fun j=>σ[j]?).join)[i]?=some (some v):=hv
   rw [zGM,zGA hl] at hv'
   have hv'':((ix[i].bind fun j=>σ[j]?).join)=some v:=Option.some.inj hv'
   cases ej:ix[i] with
   | none=>rw [ej] at hv''; cases hv''
   | some j=>
    rw [ej] at hv''
    have hσ:σ[j]?=some (some v):=by
     have z:(σ[j]?).join=some v:=hv''
     cases q:σ[j]? with
     | none=>rw [q] at z; cases z
     | some o=>rw [q] at z; exact congrArg some z
    obtain ⟨x',e1,e2,e3⟩:=ok.cap i j (by rw [zGA hl,ej])
    rw [show N'[i]?=some x from hN] at e1
    cases e1
    have hk:=ok.fre (x,.free) (PySem.mem_of_lookup e3) rfl
    obtain ⟨m,hm,hl'⟩:=I2.loc
    obtain ⟨u,ru,lk⟩:=hl' j x v e2 hσ (hk.elim (fun z=>.inr (.inl z)) fun z=>.inr (.inr z))
    refine ⟨u,ru,.inr ⟨?_,?_⟩⟩
    ·show (relabel sc X.env).names.lookup x=some .cell\/(relabel sc X.env).names.lookup x=some .free
     obtain ⟨k',q1,q2⟩:=xe6 (env:=X.env) e3
     rcases q2 with q2 | ⟨_,q2⟩
     ·exact .inr (q1.trans (congrArg some q2))
     ·exact .inl (q1.trans (congrArg some q2))
    ·obtain ⟨c,hc'⟩:=hasC x (PySem.mem_of_lookup e3)
     refine ⟨c,hc',?_⟩
     rcases lk with ⟨z,_⟩ | ⟨_,c',ec,⟨o,ho,hd⟩⟩
     ·have z':X.env.scope.names.lookup x=some .local:=z
      rcases hk with hk | hk
      ·rw [z'] at hk; cases hk
      ·rw [z'] at hk; cases hk
     ·rw [cellX x c hc'] at ec
      cases ec
      exact ⟨o,old _ _ ho,hd⟩
  ·obtain ⟨v,o,ho,hd⟩:=I2.cell x c (cellX x c e)
   exact ⟨v,o,old _ _ ho,hd⟩
  ·have e:p=(s.heap.objs.size,{ cls:=.type "list",data:=.seq ([]:List Value).toArray 0 }):=by simpa using hp
   subst e
   exact ⟨hacc,hnD,hDC,nofsD _ (Nat.le_refl _),fun v z=>by cases z⟩
  ·show (ix.map _).length=N'.length
   rw [zLM]
   exact ok.len
 have st1:tn 0 h₁:=T.keep _ _ _ st2 fun b hb o e=>old b o e
 have loop:∀ s₃:Shared,s₃={ s with heap:=h₁,toks:=s.toks + ([]:List (Str×Value)).length }->
   codeAny (model X.prog X.w) X.A (.compLoop (.ListComp elt [⟨tg,iter,ifs,0⟩] sc pos) 0 (.ref it) (.ref s.heap.objs.size) (compEnvC sc (clOf X.env sc.names []) hD.objs.size X.env))
    (RR (.ref s.heap.objs.size) hD.objs.size) s₃:=by
  rintro s₃ rfl
  have fpI:∀ {H':Hp} {o:Obj},(∀ b∈fp,H' b=none)->∀ b∈fp,FpOk (X.comp sc N' hD.objs.size s H2 fp) [(s.heap.objs.size,o)] H' b:=fun {H' o} hn b hb=>by
   have hlt:=fpo b hb
   refine ⟨hn b hb,(okX.exf b hb).1,okX.exfs b hb,.inl hb,(okX.exf b hb).2,fun p hp=>?_⟩
   have e:p=(s.heap.objs.size,o):=by simpa using hp
   subst e
   exact Nat.ne_of_gt hlt
  refine xey (fun n s'=>∃ i ys its k H',Inv (X.comp sc N' hD.objs.size s H2 fp) [(s.heap.objs.size,{ cls:=.type "list",data:=.seq its.toArray k })] (capt ix σ) H' s'/\Vals ys its/\ys.length<=sizeLine/\tn i s'.heap/\(∀ b∈fp,H' b=none)/\W i n ys H')
   ?_ m0 ⟨0,[],[],0,H2,xf8,.nil,Nat.zero_le _,st1,fun b hb=>(f2 b hb).1,w0⟩
  rintro n s4 ⟨i,ys,its,k,H4,I4,r4,z4,st4,fr4,w4⟩
  rcases turn i n ys H4 w4 with ⟨stop,q⟩ | ⟨go,hz,step⟩
  ·refine xhv (thn (T.done (X.comp sc N' hD.objs.size s H2 fp) rfl rfl rfl hc i _ s4 _ H4 (fun _ _=>False) I4 (fpI fr4) st4 stop) fun r s5 ⟨hr,I5⟩=>?_)
   subst hr
   show RR (.ref s.heap.objs.size) hD.objs.size (.ok .next) s5
   obtain ⟨pD,nD,_,_,_⟩:=I5.pin (s.heap.objs.size,{ cls:=.type "list",data:=.seq its.toArray k }) (by simp)
   obtain ⟨m5,hm5,_⟩:=I5.loc
   have okD:HOk X.prog X.w (upd H4 s.heap.objs.size (.lst ys)) s5.heap:=I5.hok.track nD ⟨z4,its,k,r4,pD⟩
   have un:Un (frs X.stack) fp H2 (upd H4 s.heap.objs.size (.lst ys)) s.heap s5.heap:=by
    have B:Un (frs X.stack) fp H2 H4 s.heap s5.heap:=I5.base
    have ne:∀ b u,H2 b=some u->b≠s.heap.objs.size:=fun b u e=>neN e hnD
    refine ⟨B.keep,B.slot,fun b o e n hb=>?_,B.there,fun b xs e=>?_,fun b o u e=>?_,fun b ps e=>?_⟩
    ·rw [xaz (below b o e).2]; exact B.free b o e n hb
    ·rw [xaz (ne b _ e)]; exact B.tups b xs e
    ·rw [xaz (ne b _ e)]; exact B.frzs b o u e
    ·rw [xaz (ne b _ e)]; exact B.tbls b ps e
   have IX:Inv X pins σ (upd H4 s.heap.objs.size (.lst ys)) s5:=I2.call' (ch:=fp) I5.os un okD I5.bare fun b hb=>⟨(f2 b hb).2.2.2.1,(f2 b hb).2.1,(f2 b hb).2.2.2.2.1,(f2 b hb).2.2.2.2.2⟩
   refine fin _ _ s5 _ m5 IX (q _ nD) hm5 ?_ (Nat.ne_of_gt (Nat.lt_trans I2.lt upC)) (Nat.le_of_lt (Nat.lt_of_le_of_lt I2.sz upC)) (fun x c e=>Nat.ne_of_lt (Nat.lt_trans (cellLt x c e) upC)) (fun p hp=>Nat.ne_of_lt (Nat.lt_trans (Heap.lt_size (I2.pin p hp).1) upC))
   rw [xaz (Ne.symm hDC)]; exact I5.free
  ·refine xhv (thn (T.item (X.comp sc N' hD.objs.size s H2 fp) rfl rfl rfl hc i _ s4 _ H4 (fun _ _=>False) I4 (fpI fr4) st4 go) fun r s5 ⟨u,hr,h5⟩=>?_)
   subst hr
   refine xhv (thn h5 fun _ s6 ⟨x,H6,I6,r6,y6,st6,fr6⟩=>?_)
   have I6':=I6.pinned (fpI fr6) (T.obj _ _ st6)
   refine xhv (thn (hg _ _ _ _ _ s6 _ H6 x u _ I6' r6 (step x H6 y6)) fun _ s7 ⟨σ7,H7,I7,x7,q7⟩=>?_)
   refine xhv (thn (ht _ _ _ _ _ s7 σ7 H7 _ I7 q7) fun b s8 ⟨H8,I8,q8⟩=>?_)
   have back:∀ {s9:Shared} {H9:Hp},Inv (X.comp sc N' hD.objs.size s H2 fp) ([(s.heap.objs.size,{ cls:=.type "list",data:=.seq its.toArray k })]++xja fp s6.heap) σ7 H9 s9->
     Inv (X.comp sc N' hD.objs.size s H2 fp) [(s.heap.objs.size,{ cls:=.type "list",data:=.seq its.toArray k })] (capt ix σ) H9 s9/\tn (i + 1) s9.heap/\(∀ b∈fp,H9 b=none):=fun {s9 H9} J9=>by
    refine ⟨(J9.unpinned).weak x7.1 x7.2,T.keep _ _ _ st6 fun b hb o e=>(J9.pin (b,o) (List.mem_append_right _ (List.mem_append_right _ (xeq hb e)))).1,fun b hb=>?_⟩
    obtain ⟨o,e,d⟩:=T.obj _ _ st6 b hb
    exact (J9.pin (b,o) (List.mem_append_right _ (List.mem_append_right _ (xeq hb e)))).2.1
   cases b with
   | false=>
    rw [if_neg Bool.false_ne_true] at q8 ⊢
    obtain ⟨m',hm,w8⟩:=q8
    obtain ⟨J8,st8,fr8⟩:=back I8
    exact ⟨m',hm,i + 1,ys,its,k,H8,J8,r4,z4,st8,fr8,w8⟩
   | true=>
    rw [if_pos rfl] at q8 ⊢
    refine xhv (thn (he _ _ _ _ _ s8 σ7 H8 _ I8 q8) fun y s9 ⟨v9,H9,I9,r9,q9⟩=>?_)
    obtain ⟨m',hm,w9⟩:=q9
    obtain ⟨J9,st9,fr9⟩:=back I9
    obtain ⟨pD,nD,neC,nf,_⟩:=J9.pin (s.heap.objs.size,{ cls:=.type "list",data:=.seq its.toArray k }) (by simp)
    have hlen:=r4.length
    refine call_meets F.slot_list_append ⟨_,pD,rfl⟩ F.entry_list_append (F.args_list_append_2 _ _) (PySem.list_append s.heap.objs.size its.toArray k y (by rw [List.size_toArray]; omega)) ⟨pD,?_⟩
    have q:=PySem.IsL.update pD (·.push y)
    have ep:its.toArray.push y=(its++[y]).toArray:=by simp
    dsimp only at q
    rw [ep] at q
    obtain ⟨k',q⟩:∃ k',(s9.heap.update s.heap.objs.size (Obj.mapSeq (·.push y))).get? s.heap.objs.size=some { cls:=.type "list",data:=.seq (its++[y]).toArray k' }:=⟨_,q⟩
    have J0:Inv (X.comp sc N' hD.objs.size s H2 fp) [] (capt ix σ) H9 s9:=J9.pins_of fun p hp=>absurd hp (by simp)
    have J1:Inv (X.comp sc N' hD.objs.size s H2 fp) [] (capt ix σ) H9 { s9 with heap:=s9.heap.update s.heap.objs.size (Obj.mapSeq (·.push y)) }:=
     J0.turned (it:=s.heap.objs.size) (t':=s9.toks) (fun b o hb e=>(Heap.get?_update_other _ _ (Ne.symm hb)).trans e) nD neC (.inr (Nat.le_refl _)) (fun x c e=>Nat.ne_of_lt (cellLt x c (cellX x c e))) fun p hp=>absurd hp (by simp)
    refine ⟨m',hm,i + 1,ys++[v9],its++[y],k',H9,J1.pins_of fun p hp=>?_,r4.append (.cons r9 .nil),?_,T.keep _ _ _ st9 fun b hb o e=>(Heap.get?_update_other _ _ ?_).trans e,fr9,w9⟩
    ·have e:p=_:=zMO hp
     subst e
     exact ⟨q,nD,neC,nf,fun v z=>by cases z⟩
    ·rw [zLA,List.length_singleton]; omega
    ·exact Nat.ne_of_gt (fpo b hb)
 exact codeAny_compStart_list (loop _ rfl) (T.self _ 0 _ _ _ st1 (loop _ rfl))
theorem Inv.letGo {pins:List (Addr×Obj)} {σ:St} {H:Hp} {s:Shared} {C:Addr} {h':Heap} (I:Inv X pins σ H s) (hs:Heap.SameBut C s.heap h') (h0:H C=none) (h1:C≠X.env.locals) (h2:X.s₀.heap.objs.size<=C) (h3:∀ x c,X.env.cells.lookup x=some c->c≠C)
  (h4:∀ p∈X.pn++pins,p.1≠C):Inv X pins σ H { s with heap:=h' }:=I.turned (t':=s.toks) (fun b o hb e=>(hs.2 b hb).trans e) h0 h1 (.inr h2) h3 h4
theorem xbv {elt tg iter:Expr} {ifs:List Expr} {sc:Scope} {pos:Pos} (N':List Str) (ix:Cap) {wi:TI} {g:TG} {tt:TT} {te:TE} (hc:X.calm=true) (hok:xrk X.N N' X.env.scope sc ix=true)
  (hi:PI X tg iter wi) (hg:∀ C s₀ H₀ ex,PG (X.comp sc N' C s₀ H₀ ex) tg g) (ht:∀ C s₀ H₀ ex,PTs (X.comp sc N' C s₀ H₀ ex) ifs tt) (he:∀ C s₀ H₀ ex,PE (X.comp sc N' C s₀ H₀ ex) elt te)
  (hs:∀ x,foldedSetIterable iter X.env x=pure x:=by intro _; rfl):PE X (.ListComp elt [⟨tg,iter,ifs,0⟩] sc pos) (xud ix wi g tt te):=by
 intro pins s σ H Q I h
 have ok:=xm2 hok
 rw [eval_ListComp]
 refine wpAny_comprehension_free (use:=none) rfl hs (xfo fun p hp hk=>I.ok.has p.1 (ok.fre p hp hk)) ok.kind ok.loc (thn (hi pins s σ H _ I h) fun v s1 h1=>thn h1 fun itv s2 h2=>?_)
 refine xh1 (RR:=fun acc C=>compPost (model X.prog X.w) X.A X.xe none (EP X pins σ Q) acc C) hc ok hg ht he h2 ?_
 intro D C s' H' m I' q hm h0 h1 h2 h3 h4
 exact ⟨m,hm,fun h' hsb=>⟨.ref D,H',I'.letGo hsb h0 h1 h2 h3 h4,rfl,q⟩⟩
theorem xcq {elt tg iter:Expr} {ifs:List Expr} {sc:Scope} {pos spos py:Pos} {i:Nat} {y:Str} (N':List Str) (ix:Cap) {wi:TI} {g:TG} {tt:TT} {te:TE} (hc:X.calm=true) (hok:xrk X.N N' X.env.scope sc ix=true)
  (hN:X.N.Nodup) (hy:X.N[i]?=some y) (hx:Loc X.env.scope y)
  (hi:PI X tg iter wi) (hg:∀ C s₀ H₀ ex,PG (X.comp sc N' C s₀ H₀ ex) tg g) (ht:∀ C s₀ H₀ ex,PTs (X.comp sc N' C s₀ H₀ ex) ifs tt) (he:∀ C s₀ H₀ ex,PE (X.comp sc N' C s₀ H₀ ex) elt te)
  (hs:∀ x,foldedSetIterable iter X.env x=pure x:=by intro _; rfl) (hsw:swapsWith (.ListComp elt [⟨tg,iter,ifs,0⟩] sc pos) (some (.Name y py)) spos.line X.env=pure true:=by rfl)
  (hf:X.fn y=true\/X.env.scope.names.lookup y=some .local:=by first | exact .inl rfl | exact .inr rfl | assumption) :
  PS X (.Assign [.Name y py] (.ListComp elt [⟨tg,iter,ifs,0⟩] sc pos) spos) (tAsg (xud ix wi g tt te) (xka i)):=by
 intro pins s σ H D I h
 have ok:=xm2 hok
 rw [exec_Assign_Name_used _ _ _ _ hsw]
 refine wpAny_bind (wpAny_standAt (wpAny_bind ?_))
 show wpAny _ X.A (do let _ <- comprehension (.ListComp elt [⟨tg,iter,ifs,0⟩] sc pos) sc X.env _ (newList []) false (eval iter X.env) (some (assign (.Name y py) X.env))) _ _ s
 refine wpAny_bind (wpAny_mono (wpAny_comprehension_free (use:=some (assign (.Name y py) X.env)) (Q:=fun _ s'=>SP X pins D .next s') rfl hs (xfo fun p hp hk=>I.ok.has p.1 (ok.fre p hp hk)) ok.kind ok.loc
  (thn (hi pins s σ H _ I h) fun v s1 h1=>thn h1 fun itv s2 h2=>?_)) (fun _ s' hq=>wpAny_pure (wpAny_pure hq)) fun _ _ e=>e)
 refine xh1 (Q:=fun x H1=>xka i x σ H1 D.nx) (RR:=fun acc C=>compPost (model X.prog X.w) X.A X.xe (some (assign (.Name y py) X.env)) (fun _ s'=>SP X pins D .next s') acc C) hc ok hg ht he h2 ?_
 intro Dl C s' H' m I' q hm h0 h1 h2 h3 h4
 refine wpAny_assign_Name (xi2 I' hN hy hx (v:=.ref Dl) rfl (fun s3 I3 sb=>?_) hf)
 obtain ⟨a,hsb,ha⟩:=sb
 have hne:C≠a:=by
  rcases ha with e | e
  ·rw [e]; exact h1
  ·exact Ne.symm (h3 y a e)
 exact ⟨m,hm.sameBut hsb hne,fun h' hs'=>⟨_,H',I3.letGo hs' h0 h1 h2 h3 h4,q⟩⟩
end
section
variable {ix:Cap} {tt:TT} {te:TE} {g:TG} {σ:St} {H:Hp} {Q:VK}
def Nxt (Pv:Nat->List V->Hp->Prop) (n i:Nat) (ys:List V):VK:=fun y H2=>∃ m',m' < n - i/\m'=n - (i + 1)/\i + 1<=n/\(ys++[y]).length=i + 1/\Pv (i + 1) (ys++[y]) H2
theorem nxt {Pv:Nat->List V->Hp->Prop} {n i:Nat} {ys:List V} {y:V} {H2:Hp} (hi:i < n) (hl:ys.length=i) (h:Pv (i + 1) (ys++[y]) H2):Nxt Pv n i ys y H2:=
 ⟨n - (i + 1),by omega,rfl,hi,by rw [zLA,List.length_singleton,hl],h⟩
theorem xew {lo:Int} {n j:Nat} (Pv:Nat->List V->Hp->Prop) (hj:(capt ix σ)[j]?=some none) (h0:Pv 0 [] H) (hn:n < sizeLine)
  (hs:∀ i ys H,i < n->ys.length=i->Pv i ys H->te ((capt ix σ).set j (some (.int (lo + i)))) H (Nxt Pv n i ys))
  (hd:∀ ys H,ys.length=n->Pv n ys H->∀ D,H D=none->Q (.ref D) (upd H D (.lst ys))):xhh (Itr lo n) ix (xka j) tYes te σ H Q:=by
 refine ⟨fun i m ys H=>m=n - i/\i<=n/\ys.length=i/\Pv i ys H,⟨n,by simp,Nat.zero_le _,rfl,h0⟩,?_⟩
 rintro i m ys H ⟨rfl,hi,hl,p⟩
 by_cases hlt:i < n
 ·refine .inr ⟨hlt,by omega,fun x H' y=>?_⟩
  obtain ⟨e,y⟩:=y
  subst e y
  refine ⟨xd7 hj,?_⟩
  unfold tYes
  dsimp only
  rw [if_pos rfl]
  exact hs i ys _ hlt hl p
 ·have e:i=n:=by omega
  subst e
  exact .inl ⟨Nat.le_refl _,hd ys H hl p⟩
theorem xp0 {K:PySem.W.Frag} {a:Addr} {xs:List V} {j:Nat} (Pv:Nat->List V->Hp->Prop) (hj:(capt ix σ)[j]?=some none) (h0:Pv 0 [] H) (hn:xs.length < sizeLine) (hl':∀ i ys H,i<=xs.length->Pv i ys H->SqL K H a xs)
  (hs:∀ i x ys H,xs[i]?=some x->ys.length=i->Pv i ys H->te ((capt ix σ).set j (some x)) H (Nxt Pv xs.length i ys))
  (hd:∀ ys H,ys.length=xs.length->Pv xs.length ys H->∀ D,H D=none->Q (.ref D) (upd H D (.lst ys))):xhh (Itl K a) ix (xka j) tYes te σ H Q:=by
 refine ⟨fun i m ys H=>m=xs.length - i/\i<=xs.length/\ys.length=i/\Pv i ys H,⟨xs.length,by simp,Nat.zero_le _,rfl,h0⟩,?_⟩
 rintro i m ys H ⟨rfl,hi,hl,p⟩
 have q:=hl' i ys H hi p
 by_cases hlt:i < xs.length
 ·refine .inr ⟨⟨xs,xs[i],q,by simp [hlt]⟩,by omega,fun v H' y=>?_⟩
  obtain ⟨e,y⟩:=y
  subst e
  refine ⟨xd7 hj,?_⟩
  unfold tYes
  dsimp only
  rw [if_pos rfl]
  exact hs i v ys _ (y xs q) hl p
 ·have e:i=xs.length:=by omega
  subst e
  exact .inl ⟨⟨xs,q,Nat.le_refl _⟩,hd ys H hl p⟩
theorem xfn {K:PySem.W.Frag} {a:Addr} {xs:List V} {j:Nat} (Pv:Nat->List V->Hp->Prop) (hj:(capt ix σ)[j]?=some none) (h0:Pv 0 [] H) (hn:xs.length < sizeLine) (hl':∀ i ys H,i<=xs.length->Pv i ys H->SqT K H a xs)
  (hs:∀ i x ys H,xs[i]?=some x->ys.length=i->Pv i ys H->te ((capt ix σ).set j (some x)) H (Nxt Pv xs.length i ys))
  (hd:∀ ys H,ys.length=xs.length->Pv xs.length ys H->∀ D,H D=none->Q (.ref D) (upd H D (.lst ys))):xhh (Itt K a) ix (xka j) tYes te σ H Q:=by
 refine ⟨fun i m ys H=>m=xs.length - i/\i<=xs.length/\ys.length=i/\Pv i ys H,⟨xs.length,by simp,Nat.zero_le _,rfl,h0⟩,?_⟩
 rintro i m ys H ⟨rfl,hi,hl,p⟩
 have q:=hl' i ys H hi p
 by_cases hlt:i < xs.length
 ·refine .inr ⟨⟨xs,xs[i],q,by simp [hlt]⟩,by omega,fun v H' y=>?_⟩
  obtain ⟨e,y⟩:=y
  subst e
  refine ⟨xd7 hj,?_⟩
  unfold tYes
  dsimp only
  rw [if_pos rfl]
  exact hs i v ys _ (y xs q) hl p
 ·have e:i=xs.length:=by omega
  subst e
  exact .inl ⟨⟨xs,q,Nat.le_refl _⟩,hd ys H hl p⟩
end
end L2
end
section
namespace L2
open PySem PySem.Spec PyProof.Rows
section
variable {X:Cx}
def xxe (i j:Int):Prop:=0 < j/\j < 2 ^ 64
theorem xb1:OpR X (binaryOp .FloorDiv) (rI xxe fun i j=>.int (i / j)):=opI fun i j _ _ _ _ _ hc q=>by
 have h1:(0:Int) < j:=hc.1
 have h2:j < 2 ^ 64:=hc.2
 refine floordiv_int (by omega) (by rw [Int.fdiv_eq_ediv_of_nonneg i (by omega)]; exact q) (.inl (PyProof.noPylong_of_log2 ?_))
 have h3:j.natAbs < 2 ^ 64:=by omega
 have h0:j.natAbs≠0:=by omega
 have h4:j.natAbs.log2 < 64:=(Nat.log2_lt h0).mpr h3
 omega
theorem xna {ys:List Str}:∀ {us:List Value},Vals (ys.map V.str) us->StrsAre us ys:=by
 induction ys with
 | nil=>intro us r; rw [List.map_nil] at r; cases r; exact .nil
 | cons n ns ih=>
  intro us r
  rw [List.map_cons] at r
  cases r with
  | cons r1 r2=>
   obtain ⟨t,e⟩:=r1
   subst e
   exact .cons n t (ih r2)
def xwj (K:PySem.W.Frag):V->List V->Hp->VK->Prop:=fun x vs H Q=>∃ (sep:Str) (p:Addr) (ys:List Str),x=.str sep/\vs=[.ref p]/\SqL K H p (ys.map V.str)/\(ys.map (·.length)).sum + ys.length * sep.length<=16777216/\Q (.str (Txt.join sep ys)) H
theorem xte:MtR X "str.join" (xwj X.K):=by
 intro pins s σ H x vs v us Q I rx rv h
 obtain ⟨sep,p,ys,rfl,rfl,hq,hz,q⟩:=h
 obtain ⟨t,rfl⟩:=rx
 obtain ⟨u,rfl,ru⟩:=rv.one
 cases ru
 obtain ⟨its,r,pl,_⟩:=I.list hq
 exact join_list pl.isList (by simpa using xna r) hz fun t' k=>⟨.str _,H,I.tok k,⟨t',rfl⟩,q⟩
def rSlS:V->Option Int->Option Int->Hp->VK->Prop:=fun x lo hi H Q=>∃ z:Str,x=.str z/\z.length<=sizeLine/\Q (.str (Txt.slice z lo hi)) H
theorem xrz:SlR X rSlS:=by
 intro pins s σ H x v vl vu lo hi sl Q I rx hs pl pu h
 obtain ⟨z,rfl,hz,q⟩:=h
 obtain ⟨t,rfl⟩:=rx
 refine ⟨"str",_,F.slot_str_getitem.lookup,typeIs_str _ _ _,?_⟩
 have hq:∀ (o:Str),o=Txt.slice z lo hi->o.length<=sizeLine/\∀ t' k,EP X pins σ Q (.str o t') { s with toks:=k }:=fun o e=>by
  subst e
  exact ⟨Nat.le_trans (Txt.slice_le z _ _) hz,fun t' k=>⟨.str _,H,I.tok k,⟨t',rfl⟩,q⟩⟩
 obtain ⟨os,hos,hcs,hds⟩:=hs
 cases pl with
 | none=>
  cases pu with
  | none=>exact wpAny_getItem_str_slice (l:=none) (u:=none) (st:=none) ⟨os,hos,hcs,hds⟩ rfl (post_val_or_str (hq _ rfl))
  | int j uj=>exact wpAny_getItem_str_slice (l:=none) (u:=some (j,uj)) (st:=none) ⟨os,hos,hcs,hds⟩ rfl (post_val_or_str (hq _ rfl))
 | int i ui=>
  cases pu with
  | none=>exact wpAny_getItem_str_slice (l:=some (i,ui)) (u:=none) (st:=none) ⟨os,hos,hcs,hds⟩ rfl (post_val_or_str (hq _ rfl))
  | int j uj=>exact wpAny_getItem_str_slice (l:=some (i,ui)) (u:=some (j,uj)) (st:=none) ⟨os,hos,hcs,hds⟩ rfl (post_val_or_str (hq _ rfl))
theorem xly:xfz X (.builtin "isinstance") (fun xs H Q=>∃ x y c t b,xs=[x,y]/\(∀ u,RelV y u->u=c)/\TyOf X.K H x t/\PySem.W.kitOne X.K t c=some b/\Q (.bl b) H):=by
 intro pins s σ H xs us Q I r h
 obtain ⟨x,y,c,t,b,rfl,hy,ty,e,q⟩:=h
 obtain ⟨u,v,rfl,ru,rv⟩:=r.two
 obtain rfl:=hy v rv
 exact xpl I ru ty e fun tk=>⟨.bl b,H,I.tok tk,rfl,q⟩
def eqVs:List V->List V->Bool
 | [],[]=>true
 | x :: xs,y :: ys=>eqV x y && eqVs xs ys
 | _,_=>false
theorem xmx:∀ {xs ys:List V},xs.length≠ys.length->eqVs xs ys=false
 | [],[],h=>absurd rfl h
 | [],_ :: _,_=>rfl
 | _ :: _,[],_=>rfl
 | x :: xs,y :: ys,h=>by
  show (eqV x y && eqVs xs ys)=false
  rw [xmx (xs:=xs) (ys:=ys) (by simpa using h),Bool.and_false]
theorem xh0:∀ {xs ys:List V},xs.length=ys.length->(List.range xs.length).all (fun i=>eqV (xs.getD i .non) (ys.getD i .non))=eqVs xs ys
 | [],[],_=>rfl
 | [],_ :: _,h=>by cases h
 | _ :: _,[],h=>by cases h
 | x :: xs,y :: ys,h=>by
  rw [List.length_cons,List.range_succ_eq_map,List.all_cons,List.all_map]
  show (eqV x y && (List.range xs.length).all (fun i=>eqV (xs.getD i .non) (ys.getD i .non)))=(eqV x y && eqVs xs ys)
  rw [xh0 (xs:=xs) (ys:=ys) (by simpa using h)]
end
def SameBut (a:Addr) (H H':Hp):Prop:=∀ b o,H b=some o->b≠a->H' b=some o
theorem SameBut.refl (a:Addr) (H:Hp):SameBut a H H:=fun _ _ h _=>h
theorem SameBut.trans {a:Addr} {H H1 H2:Hp} (h:SameBut a H H1) (k:SameBut a H1 H2):SameBut a H H2:=fun b o e n=>k b o (h b o e n) n
theorem SameBut.upd (a:Addr) (H:Hp) (o:HO):SameBut a H (upd H a o):=fun b u e n=>by rw [xaz n]; exact e
theorem Same.but {a:Addr} {H H':Hp} (h:Same H H'):SameBut a H H':=fun b o e _=>h b o e
theorem Same.new {H:Hp} {p:Addr} (h:H p=none) (o:HO):Same H (upd H p o):=fun b u q=>by rw [xaz (neN q h)]; exact q
theorem xcg {H H':Hp} {p:Addr} (h:Same H H') (n:H' p=none):H p=none:=by
 cases e:H p with
 | none=>rfl
 | some o=>rw [h p o e] at n; cases n
end L2
end
section
namespace L2
open PySem PySem.Spec PyProof.Rows
structure DefTx (K:PySem.W.Frag) (mg:Str->Option Value) (x:Str) (st:Stmt) (ps:List Str):Prop where
 ex:∃ (f:Addr) (fd:FuncData),Fun K x x st f fd/\mg x=some (.ref f)/\∀ us:List Value,us.length=ps.length->bindArgs fd ⟨us,[]⟩=pure (ps.zip us)
structure DefIs (P:Program) (w:World) (K:PySem.W.Frag) (mg:Str->Option Value) (base:Heap) (n:Nat) (x:Str) (ps:List Str) (sp:Sp):Prop where
 ex:∃ (f:Addr) (fd:FuncData),FnOk P w K mg base CX0 n f fd ps sp/\Binds K fd ps []/\PySem.W.keepIn K (.ref f)=true/\mg x=some (.ref f)/\∃ oc od osl,K.lookup f=some ⟨oc,od,.func fd,osl⟩
theorem xkb {K:PySem.W.Frag} {x:Str} {st:Stmt} {f:Addr} {fd:FuncData} (F:Fun K x x st f fd):∃ oc od osl,K.lookup f=some ⟨oc,od,.func fd,osl⟩:=by
 obtain ⟨oc,od,kV,doc,pm,an,cdv,ct,osl,_,l,_⟩:=F.ex
 exact ⟨oc,od,osl,l⟩
section
variable {P:Program} {w:World} {K:PySem.W.Frag} {mg:Str->Option Value} {base:Heap} {n m:Nat} {x:Str} {ps N:List Str} {sp:Sp} {st:Stmt}
theorem DefIs.mono (D:DefIs P w K mg base n x ps sp) (h:n<=m):DefIs P w K mg base m x ps sp:=by
 obtain ⟨f,fd,F,r⟩:=D.ex
 exact ⟨f,fd,F.mono h,r⟩
theorem DefIs.imp {sp':Sp} (D:DefIs P w K mg base n x ps sp) (h:∀ vs H Q E,sp' vs H Q E->sp vs H Q E):DefIs P w K mg base n x ps sp':=by
 obtain ⟨f,fd,F,r⟩:=D.ex
 exact ⟨f,fd,F.imp h,r⟩
theorem DefIs.of (T:DefTx K mg x st ps) (S:FnScope N ps (xac st)) (len:∀ vs H Q E,sp vs H Q E->vs.length=ps.length)
  (hbody:∀ (f:Addr) (cdv:Value) (A:Around) (outer:List Env) (s:Shared) (H:Hp) (vs:List V) (Q:VK) (E:XK),Room n (A.deeper (envOfC x (xac st) s.heap.objs.size f cdv))->sp vs H Q E->
   ∃ t,PSs (cxOf CX0 P w K mg base N x (xac st) f cdv A outer s H E).nox (xei st) t/\t { nx:=fun _ H'=>Q .non H',rt:=Q } (xf8 N vs) H):DefIs P w K mg base (n + 1) x ps sp:=by
 obtain ⟨f,fd,F,m,b⟩:=T.ex
 exact ⟨f,fd,F.ok S len (fun cdv A outer s H vs Q E hr h=>hbody f cdv A outer s H vs Q E hr h),Binds.all b,F.kp,m,xkb F⟩
theorem DefIs.none (T:DefTx K mg x st ps) (no:∀ vs H Q E,¬ sp vs H Q E):DefIs P w K mg base n x ps sp:=by
 obtain ⟨f,fd,F,m,b⟩:=T.ex
 exact ⟨f,fd,⟨fun vs H Q E h=>absurd h (no vs H Q E),fun A outer s H args us vs Q E _ _ _ _ h=>absurd h (no vs H Q E)⟩,Binds.all b,F.kp,m,xkb F⟩
end
section
variable {X:Cx} {n:Nat} {x:Str} {ps:List Str} {sp:Sp} {e:Expr} {es:List Expr} {p pos:Pos} {t:TA}
theorem pd (D:DefIs X.prog X.w X.K X.mg X.base n x ps sp) (hr:Room n X.A) (ha:PA X (e :: es) t) (hg:Gl X x:=by rfl) (hdb:(x == ("__debug__":Str))=false:=by decide)
  (he:starEach (e :: es) X.env=(false,eval e X.env) :: starEach es X.env:=by rfl) (hpl:(backTo pos (starEach es X.env)).any (·.1)=false:=by rfl):PE X (.Call (.Name x p) (e :: es) [] pos) (xug sp [] E0 t):=by
 obtain ⟨f,fd,F,b,k,m,_⟩:=D.ex
 exact xs1 F hr hg m k b .nil xwm ha hdb he hpl
theorem xgx {i:Int} (hm:∃ t,X.mg x=some (.int i t)) (hg:Gl X x:=by rfl) (hd:(x == ("__debug__":Str))=false:=by decide):PE X (.Name x pos) (tC (.int i)):=by
 obtain ⟨t,h⟩:=hm
 exact xs0 hg h ⟨t,rfl⟩ hd
theorem xuy {T:String} (hm:X.mg x=none) (hv:bootBuiltins x=some (.type T)) (hg:Gl X x:=by rfl) (hn:x≠"__name__":=by decide) (hd:(x == ("__debug__":Str))=false:=by decide):PE X (.Name x pos) (tC (.ty T)):=xs2 hg hm hv rfl hn hd
end
def Fed (a:Addr) (H H':Hp):Prop:=SameBut a H H'/\∃ p q:Int,H' a=some (.lst [.int p,.int q])
theorem Fed.trans {a:Addr} {H H1 H2:Hp} (h:Fed a H H1) (k:Fed a H1 H2):Fed a H H2:=⟨h.1.trans k.1,k.2⟩
theorem Fed.of {a:Addr} {H:Hp} {p q:Int}:Fed a H (upd H a (.lst [.int p,.int q])):=⟨SameBut.upd a H _,p,q,ups⟩
theorem Fed.refl {a:Addr} {H:Hp} {p q:Int} (h:H a=some (.lst [.int p,.int q])):Fed a H H:=⟨SameBut.refl a H,p,q,h⟩
theorem Fed.same {a:Addr} {H H' H'':Hp} (h:Fed a H H') (s:Same H' H''):Fed a H H'':=by
 obtain ⟨k,p,q,e⟩:=h
 exact ⟨k.trans s.but,p,q,s _ _ e⟩
theorem Fed.back {a:Addr} {H H0 H':Hp} (n:H a=none) (s:Same H H0) (h:Fed a H0 H'):Same H H':=fun b o e=>h.1 b o (s b o e) (neN e n)
end L2
namespace L2
open PySem PySem.Spec PyProof.Rows
theorem deftx_mk {K:PySem.W.Frag} {h:Heap} {mg:Str->Option Value} (X:K.In h) (G:h.Ns mainGlobals mg) {x:Str} {st:Stmt} {ps:List Str} {f:Addr} {oc:Value} {od an:Option Addr} {osl:Array (Option Value)} {kV doc pm cdv ct:Value}
  (a:PySem.W.nsIn K mainGlobals x=some (some (.ref f))) (l:K.lookup f=some ⟨oc,od,.func (PySem.W.fnOf x x (xhb st) (xei st) (xac st) .none kV doc pm an cdv ct),osl⟩)
  (c:PySem.W.codeIn K cdv x=true) (k:PySem.W.keepIn K (.ref f)=true)
  (b:∀ (kV doc pm:Value) (an:Option Addr) (cdv ct:Value) (us:List Value),us.length=ps.length->bindArgs (PySem.W.fnOf x x (xhb st) (xei st) (xac st) .none kV doc pm an cdv ct) ⟨us,[]⟩=pure (ps.zip us)):DefTx K mg x st ps:=by
 have F:=xvq (st:=st) l c k
 exact ⟨f,_,F,PySem.W.mg_of X G a,b kV doc pm an cdv ct⟩
theorem law_top {P:Program} {w:World} {K:PySem.W.Frag} {mg:Str->Option Value} {n:Nat} {x y:Str} {st:Stmt} {sp:Sp} {fa:Addr} (T:DefTx K mg x st [y]) (hmg:mg x=some (.ref fa)) (D:∀ base,DefIs P w K mg base n x [y] sp) :
  ∃ fd:FuncData,(∀ (s:Shared) (u:Value),BindsTo s fd ⟨[u],[]⟩ [(y,u)])/\∀ base:Heap,K.In base->base.Ns mainGlobals mg->FnOk P w K mg base CX0 n fa fd [y] sp:=by
 obtain ⟨f,fd,F,m,b⟩:=T.ex
 rw [hmg] at m
 cases m
 refine ⟨fd,fun s u=>.of_eq (b [u] rfl),fun base _ _=>?_⟩
 obtain ⟨f',fd',G,_,_,m',oc,od,osl,l⟩:=(D base).ex
 rw [hmg] at m'
 cases m'
 obtain ⟨oc2,od2,osl2,l2⟩:=xkb F
 rw [l] at l2
 cases l2
 exact G
theorem gint_mk {K:PySem.W.Frag} {h:Heap} {mg:Str->Option Value} (X:K.In h) (G:h.Ns mainGlobals mg) {x:Str} {i:Int} {t:Tok} (a:PySem.W.nsIn K mainGlobals x=some (some (.int i t))):∃ t,mg x=some (.int i t):=⟨t,PySem.W.mg_of X G a⟩
end L2
end
section
namespace Zt
open PySem
section
variable {prog:Program} {w:World} {A:Around} {E:Value->Shared->Prop} {s:Shared}
theorem xju {it l:Addr} {i:Nat} {items} {x:Value} {Q:Value->Shared->Prop} (hit:s.heap.IsTupleIter it l i)
  (hl:s.heap.IsTuple l items) (hx:items[i]?=some x)
  (hQ:∀ h',h'.IsTupleIter it l (i + 1)->Heap.SameBut it s.heap h'->Q x { s with heap:=h' }) :
  wpAny (model prog w) A (Builtin.SmallTypes.nextOf (.ref it)) Q E s:=by
 obtain ⟨o,ho,hc,hd⟩:=id hit
 obtain ⟨ol,hol,_,nl,hdl⟩:=hl
 unfold Builtin.SmallTypes.nextOf
 refine wpAny_bind (wpAny_callSpecial?_slot (name:=Str.ofString "__next__") hit.typeIs F.slot_tuple_iterator_next
  (wpAny_call_entry F.slot_tuple_iterator_next hit.typeIs F.entry_tuple_iterator_next ?_ (F.args_tuple_iterator_next_1 _)))
 show wpAny _ _ (field (.ref it) 0 >>= _) _ _ s
 refine wpAny_bind (wpAny_field ho hd (x:=.ref l) rfl ?_)
 show wpAny _ _ (if (Value.ref l == Value.none)=true then _ else _) _ _ s
 rw [if_neg (show ¬ ((Value.ref l == Value.none)=true) from Bool.false_ne_true)]
 show wpAny _ _ (field (.ref it) 1 >>= _) _ _ s
 refine wpAny_bind (wpAny_field ho hd (x:=.int i 0) rfl ?_)
 show wpAny _ _ (seqItems? (.ref l) >>= _) _ _ s
 refine wpAny_bind (wpAny_seqItems hol hdl ?_)
 simp only [Int.toNat_natCast,hx]
 refine wpAny_bind (wpAny_setField ho hd (by simp) (wpAny_pure ⟨x,rfl,wpAny_pure (hQ _ ?_ (Heap.SameBut.update ..))⟩))
 exact ⟨_,Heap.get?_update_self _ ho (Obj.isFreed_of_fields (Obj.data_mapFields hd _)),(Obj.cls_mapFields ..).trans hc,by
  rw [Obj.data_mapFields hd]; simp [rawInt]⟩
theorem xq2 {it l:Addr} {i:Nat} {items} {Q:Value->Shared->Prop} (hh:A.handled=none)
  (hit:s.heap.IsTupleIter it l i) (hl:s.heap.IsTuple l items) (hx:items[i]?=none)
  (hE:∀ h' e,Heap.ExtBut it s.heap h'->(∃ o,h'.get? e=some o/\o.cls=.type "StopIteration")->E (.ref e) { s with heap:=h' }) :
  wpAny (model prog w) A (Builtin.SmallTypes.nextOf (.ref it)) Q E s:=by
 obtain ⟨o,ho,hc,hd⟩:=id hit
 obtain ⟨ol,hol,_,nl,hdl⟩:=hl
 unfold Builtin.SmallTypes.nextOf
 refine wpAny_bind (wpAny_callSpecial?_slot (name:=Str.ofString "__next__") hit.typeIs F.slot_tuple_iterator_next
  (wpAny_call_entry F.slot_tuple_iterator_next hit.typeIs F.entry_tuple_iterator_next ?_ (F.args_tuple_iterator_next_1 _)))
 show wpAny _ _ (field (.ref it) 0 >>= _) _ _ s
 refine wpAny_bind (wpAny_field ho hd (x:=.ref l) rfl ?_)
 show wpAny _ _ (if (Value.ref l == Value.none)=true then _ else _) _ _ s
 rw [if_neg (show ¬ ((Value.ref l == Value.none)=true) from Bool.false_ne_true)]
 show wpAny _ _ (field (.ref it) 1 >>= _) _ _ s
 refine wpAny_bind (wpAny_field ho hd (x:=.int i 0) rfl ?_)
 show wpAny _ _ (seqItems? (.ref l) >>= _) _ _ s
 refine wpAny_bind (wpAny_seqItems hol hdl ?_)
 simp only [Int.toNat_natCast,hx]
 refine wpAny_bind (wpAny_rule (wpAny_bind (wpAny_setField ho hd (by simp) ?_)))
 show wpAny _ _ (newExc (.type "StopIteration") [] >>= _) _ _ _
 refine wpAny_bind ?_
 simp only [newExc,newTuple]
 refine wpAny_bind (wpAny_newObj_type ?_ (by size_fits))
 refine wpAny_bind (m:=firstArgMember _ _) (wpAny_of_eq (a:=Value.none) (by first | rfl | (simp only [firstArgMember]; rfl)) ?_)
 refine wpAny_newObj_type ?_ (by size_fits)
 simp only [raiseNew]
 refine wpAny_bind (wpAny_handled ?_)
 first | rw [show A.in1.handled=none from hh] | rw [hh]
 refine wpAny_bind (wpAny_pure (wpAny_throw ?_))
 exact hE _ _ (((Heap.SameBut.update ..).extBut.push _).push _) ⟨_,Heap.get?_push_size _ rfl,rfl⟩
abbrev xsi (h:Heap) (z TI TO:Addr) (f0 f1:Value):Prop:=
 h.get? z=some { cls:=.type "zip",dict:=none,data:=.fields #[f0,f1,.bool false,.ref TI,.ref TO],slots:=#[] }
def Free (h:Heap) (z TI TO:Addr):Prop:=xsi h z TI TO .none (.bool false)\/∃ (T:Addr) (b:Bool) (o:Obj),xsi h z TI TO (rawInt T) (.bool b)/\h.get? T=some o/\T≠z
structure Zs (h:Heap) (z TI TO i1 i2 l1 l2:Addr) (xs ys:Array Value) (k:Nat):Prop where
 zip:Free h z TI TO
 ti:IsPair h TI (.ref i1) (.ref i2)
 to:∃ a b,IsPair h TO a b
 it1:h.IsTupleIter i1 l1 k
 it2:h.IsTupleIter i2 l2 k
 t1:h.IsTuple l1 xs
 t2:h.IsTuple l2 ys
structure Nx (prog:Program) (w:World) (it l:Addr) (xs:Array Value) (P:Heap->Nat->Prop):Prop where
 item:∀ {A:Around} {E:Value->Shared->Prop} {s:Shared} {Q:Value->Shared->Prop} {i:Nat} {x:Value},P s.heap i->xs[i]?=some x->(∀ h',P h' (i + 1)->Heap.SameBut it s.heap h'->Q x { s with heap:=h' })->wpAny (model prog w) A (Builtin.SmallTypes.nextOf (.ref it)) Q E s
 last:∀ {A:Around} {E:Value->Shared->Prop} {s:Shared} {Q:Value->Shared->Prop} {i:Nat},A.handled=none->P s.heap i->xs[i]?=none->(∀ h' e,Heap.ExtBut it s.heap h'->(∃ o,h'.get? e=some o/\o.cls=.type "StopIteration")->E (.ref e) { s with heap:=h' })->wpAny (model prog w) A (Builtin.SmallTypes.nextOf (.ref it)) Q E s
 kept:∀ {h h':Heap} {i:Nat},P h i->(∀ o,h.get? it=some o->h'.get? it=some o)->(∀ o,h.get? l=some o->h'.get? l=some o)->P h' i
 there:∀ {h:Heap} {i:Nat},P h i->∃ o,h.get? it=some o
theorem Nx.ext {it l a:Addr} {xs:Array Value} {P:Heap->Nat->Prop} (N:Nx prog w it l xs P) {h h':Heap} {i:Nat} (p:P h i) (e:Heap.ExtBut a h h') (ha:it≠a) (hl:l≠a):P h' i:=N.kept p (fun o q=>e _ _ ha q) fun o q=>e _ _ hl q
structure Zg (P1:Heap->Nat->Prop) (h:Heap) (z TI TO i1 i2 l2:Addr) (ys:Array Value) (k:Nat):Prop where
 zip:Free h z TI TO
 ti:IsPair h TI (.ref i1) (.ref i2)
 to:∃ a b,IsPair h TO a b
 p1:P1 h k
 it2:h.IsTupleIter i2 l2 k
 t2:h.IsTuple l2 ys
theorem xvp {P1:Heap->Nat->Prop} {z TI TO i1 i2 l1 l2:Addr} {k1 k2:Nat} {xs ys:Array Value} {x y a b:Value} {Q:Value->Shared->Prop} (D:ZipApart z TI TO i1 i2 l1 l2)
  (hz:IsZip s.heap z TI TO .none) (hTI:IsPair s.heap TI (.ref i1) (.ref i2)) (hTO:IsPair s.heap TO a b)
  (N1:Nx prog w i1 l1 xs P1) (h1:P1 s.heap k1) (h2:s.heap.IsTupleIter i2 l2 k2) (hl2:s.heap.IsTuple l2 ys) (hx:xs[k1]?=some x) (hy:ys[k2]?=some y)
  (hQ:∀ h',IsZip h' z TI TO (rawInt s.heap.objs.size)->IsPair h' TO x y->P1 h' (k1 + 1)->h'.IsTupleIter i2 l2 (k2 + 1)->IsPair h' s.heap.objs.size x y->h'.objs.size=s.heap.objs.size + 1->
   (∀ c o,c≠z->c≠TO->c≠i1->c≠i2->s.heap.get? c=some o->h'.get? c=some o)->Q (.ref s.heap.objs.size) { s with heap:=h' }) :
  wpAny (model prog w) A (Builtin.«zip.__next__» ⟨[.ref z],[]⟩) (fun fin s'=>∃ v,fin=.done (.ret v)/\Q v s') E s:=by
 show wpAny _ _ (field (.ref z) 2 >>= _) _ _ _
 refine wpAny_bind (wpAny_field hz rfl (x:=.bool false) rfl ?_)
 show wpAny _ _ (field (.ref z) 3 >>= _) _ _ _
 refine wpAny_bind (wpAny_field hz rfl (x:=.ref TI) rfl ?_)
 refine wpAny_bind (wpAny_seqItems hTI rfl ?_)
 show wpAny _ _ (Builtin.SmallTypes.ownedTupleIsFree (.ref z) >>= _) _ _ _
 refine wpAny_bind ?_
 unfold Builtin.SmallTypes.ownedTupleIsFree
 refine wpAny_bind (wpAny_field hz rfl (x:=.none) rfl (wpAny_pure ?_))
 simp only [if_true]
 refine wpAny_bind (wpAny_rule ?_)
 refine wpAny_bind (wpAny_field hz rfl (x:=.ref TO) rfl ?_)
 refine wpAny_bind (wpAny_setField_rec hz (by simp) fun h₁ hz₁ hs₁=>?_)
 replace hz₁:IsZip h₁ z TI TO .ellipsis:=hz₁
 refine wpAny_bind ?_
 simp only [List.zipIdx_cons,List.zipIdx_nil,List.forIn_cons,List.forIn_nil]
 refine wpAny_bind (wpAny_bind (wpAny_onRaise ?_))
 show wpAny _ _ (Builtin.SmallTypes.nextOf (.ref i1) >>= _) _ _ _
 refine wpAny_bind (N1.item (N1.ext h1 hs₁.extBut D.i1z D.l1z) hx fun h₂ h1₂ hs₂=>wpAny_pure ?_)
 have hTO₂:IsPair h₂ TO a b:=hs₂.extBut _ _ D.TOi1 (hs₁.extBut _ _ D.TOz hTO)
 refine wpAny_bind (wpAny_seqItems hTO₂ rfl ?_)
 refine wpAny_bind (wpAny_updateSeq_pair hTO₂ fun h₃ hTO₃ hs₃=>?_)
 replace hTO₃:IsPair h₃ TO x b:=hTO₃
 refine wpAny_bind (wpAny_letGo (wpAny_pure ?_))
 refine wpAny_bind (wpAny_bind (wpAny_onRaise ?_))
 show wpAny _ _ (Builtin.SmallTypes.nextOf (.ref i2) >>= _) _ _ _
 refine wpAny_bind (xju (((h2.extBut hs₁.extBut D.i2z).extBut hs₂.extBut D.i12.symm).extBut hs₃.extBut D.TOi2.symm)
  (((hl2.extBut hs₁.extBut D.l2z).extBut hs₂.extBut D.l2i1).extBut hs₃.extBut D.l2TO) hy fun h₄ h2₄ hs₄=>wpAny_pure ?_)
 have hTO₄:IsPair h₄ TO x b:=hs₄.extBut _ _ D.TOi2 hTO₃
 refine wpAny_bind (wpAny_seqItems hTO₄ rfl ?_)
 refine wpAny_bind (wpAny_updateSeq_pair hTO₄ fun h₅ hTO₅ hs₅=>?_)
 replace hTO₅:IsPair h₅ TO x y:=hTO₅
 refine wpAny_bind (wpAny_letGo (wpAny_pure (wpAny_pure ?_)))
 refine wpAny_bind (wpAny_seqItems hTO₅ rfl ?_)
 refine wpAny_bind (wpAny_newTuple ?_)
 have hsz:h₅.objs.size=s.heap.objs.size:=by rw [hs₅.1,hs₄.1,hs₃.1,hs₂.1,hs₁.1]
 have hz₅:IsZip h₅ z TI TO .ellipsis:=hs₅.extBut _ _ D.TOz.symm (hs₄.extBut _ _ D.i2z.symm (hs₃.extBut _ _ D.TOz.symm (hs₂.extBut _ _ D.i1z.symm hz₁)))
 have hk₅:∀ c o,c≠z->c≠TO->c≠i1->c≠i2->s.heap.get? c=some o->h₅.get? c=some o:=fun c o c1 c2 c3 c4 e=>
  hs₅.extBut _ _ c2 (hs₄.extBut _ _ c4 (hs₃.extBut _ _ c2 (hs₂.extBut _ _ c3 (hs₁.extBut _ _ c1 e))))
 have h1₅:P1 h₅ (k1 + 1):=N1.ext (N1.ext (N1.ext h1₂ hs₃.extBut D.TOi1.symm D.l1TO) hs₄.extBut D.i12 D.l1i2) hs₅.extBut D.TOi1.symm D.l1TO
 have h2₅:h₅.IsTupleIter i2 l2 (k2 + 1):=h2₄.extBut hs₅.extBut D.TOi2.symm
 have hzlt:z < h₅.objs.size:=Heap.lt_size hz₅
 show wpAny _ _ (Builtin.SmallTypes.ownedTupleHandOut (.ref z) (.ref h₅.objs.size) >>= _) _ _ _
 refine wpAny_bind ?_
 unfold Builtin.SmallTypes.ownedTupleHandOut
 have hz₆:IsZip (h₅.push { cls:=.type "tuple",data:=.seq #[x,y] }) z TI TO .ellipsis:=zPO _ hz₅
 refine wpAny_bind (wpAny_setField_rec hz₆ (by simp) fun h₇ hz₇ hs₇=>?_)
 replace hz₇:IsZip h₇ z TI TO (rawInt h₅.objs.size):=hz₇
 refine wpAny_setField_rec hz₇ (by simp) fun h₈ hz₈ hs₈=>?_
 replace hz₈:IsZip h₈ z TI TO (rawInt h₅.objs.size):=hz₈
 have up:∀ c o,c≠z->h₅.get? c=some o->h₈.get? c=some o:=fun c o c1 e=>hs₈.extBut _ _ c1 (hs₇.extBut _ _ c1 (zPO _ e))
 have hT₈:IsPair h₈ h₅.objs.size x y:=hs₈.extBut _ _ (Nat.ne_of_gt hzlt) (hs₇.extBut _ _ (Nat.ne_of_gt hzlt) (Heap.get?_push_size _ rfl))
 have hz8:h₈.objs.size=h₅.objs.size + 1:=by rw [hs₈.1,hs₇.1,Heap.size_push]
 rw [hsz] at hz₈ hT₈ hz8
 refine wpAny_pure ⟨_,rfl,?_⟩
 show Q (.ref h₅.objs.size) _
 rw [hsz]
 exact hQ h₈ hz₈ (up _ _ D.TOz hTO₅) (N1.kept h1₅ (fun o e=>up _ o D.i1z e) fun o e=>up _ o D.l1z e) (h2₅.at fun o e=>up _ o D.i2z e) hT₈ hz8 fun c o c1 c2 c3 c4 e=>up c o c1 (hk₅ c o c1 c2 c3 c4 e)
theorem xxa {a:Addr} {o:Obj} {Q:Option Obj->Shared->Prop} (ho:s.heap.get? a=some o) (h:Q (some o) s):wpAny (model prog w) A (loadIfAlive a) Q E s:=by
 intro Γ p hΓ
 unfold loadIfAlive
 first
  | (rw [Sem.wp_loadIfAlive,ho]; exact h)
  | (simp only [Sem.wp_loadIfAlive,ho]; exact h)
theorem xw3 {P1:Heap->Nat->Prop} {z TI TO i1 i2 l1 l2:Addr} {k:Nat} {xs ys:Array Value} {Q:Fin->Shared->Prop} (hh:A.handled=none) (D:ZipApart z TI TO i1 i2 l1 l2) (N1:Nx prog w i1 l1 xs P1) (S:Zg P1 s.heap z TI TO i1 i2 l2 ys k) (hx:xs[k]?=none)
  (hE:∀ h' e,(∀ c o,c≠z->c≠i1->s.heap.get? c=some o->h'.get? c=some o)->(∃ o,h'.get? e=some o/\o.cls=.type "StopIteration")->E (.ref e) { s with heap:=h' }) :
  wpAny (model prog w) A (Builtin.«zip.__next__» ⟨[.ref z],[]⟩) Q E s:=by
 obtain ⟨hz,hTI,⟨a,b,hTO⟩,h1,h2,hl2⟩:=S
 rcases hz with hz | ⟨T,bb,oT,hz,hT,hTz⟩
 ·show wpAny _ _ (field (.ref z) 2 >>= _) _ _ _
  refine wpAny_bind (wpAny_field hz rfl (x:=.bool false) rfl ?_)
  show wpAny _ _ (field (.ref z) 3 >>= _) _ _ _
  refine wpAny_bind (wpAny_field hz rfl (x:=.ref TI) rfl ?_)
  refine wpAny_bind (wpAny_seqItems hTI rfl ?_)
  show wpAny _ _ (Builtin.SmallTypes.ownedTupleIsFree (.ref z) >>= _) _ _ _
  refine wpAny_bind ?_
  unfold Builtin.SmallTypes.ownedTupleIsFree
  refine wpAny_bind (wpAny_field hz rfl (x:=.none) rfl (wpAny_pure ?_))
  simp only [if_true]
  refine wpAny_bind (wpAny_rule ?_)
  refine wpAny_bind (wpAny_field hz rfl (x:=.ref TO) rfl ?_)
  refine wpAny_bind (wpAny_setField_rec hz (by simp) fun h₁ hz₁ hs₁=>?_)
  replace hz₁:IsZip h₁ z TI TO .ellipsis:=hz₁
  refine wpAny_bind ?_
  simp only [List.zipIdx_cons,List.zipIdx_nil,List.forIn_cons,List.forIn_nil]
  refine wpAny_bind (wpAny_bind (wpAny_onRaise ?_))
  show wpAny _ _ (Builtin.SmallTypes.nextOf (.ref i1) >>= _) _ _ _
  refine wpAny_bind (N1.last hh (N1.ext h1 hs₁.extBut D.i1z D.l1z) hx fun h₂ e hs₂ he=>?_)
  obtain ⟨oe,hoe,hce⟩:=he
  have hz₂:IsZip h₂ z TI TO .ellipsis:=hs₂ _ _ D.i1z.symm hz₁
  have hez:e≠z:=fun x=>by subst x; rw [hz₂] at hoe; cases hoe; simp at hce
  refine wpAny_setField_rec hz₂ (by simp) fun h₃ _ hs₃=>hE h₃ e (fun c o c1 c3 x=>hs₃.extBut _ _ c1 (hs₂ _ _ c3 (hs₁.extBut _ _ c1 x))) ⟨oe,hs₃.extBut _ _ hez hoe,hce⟩
 ·show wpAny _ _ (field (.ref z) 2 >>= _) _ _ _
  refine wpAny_bind (wpAny_field hz rfl (x:=.bool false) rfl ?_)
  show wpAny _ _ (field (.ref z) 3 >>= _) _ _ _
  refine wpAny_bind (wpAny_field hz rfl (x:=.ref TI) rfl ?_)
  refine wpAny_bind (wpAny_seqItems hTI rfl ?_)
  show wpAny _ _ (Builtin.SmallTypes.ownedTupleIsFree (.ref z) >>= _) _ _ _
  refine wpAny_bind ?_
  unfold Builtin.SmallTypes.ownedTupleIsFree
  refine wpAny_bind (wpAny_field hz rfl (x:=rawInt T) rfl ?_)
  show wpAny _ _ (loadIfAlive ((T:Int).toNat) >>= _) _ _ _
  rw [Int.toNat_natCast]
  refine wpAny_bind (xxa hT ?_)
  simp only [Option.isNone_some,Bool.false_eq_true,if_false]
  refine wpAny_bind (wpAny_field hz rfl (x:=.bool bb) rfl ?_)
  cases bb with
  | true=>
   simp only [bne_self_eq_false,Bool.false_eq_true,if_false]
   refine wpAny_pure ?_
   simp only [Bool.false_eq_true,if_false,List.forIn_toArray,List.forIn_cons,List.forIn_nil]
   refine wpAny_bind (wpAny_bind (wpAny_bind (wpAny_holding ?_)))
   show wpAny _ _ (Builtin.SmallTypes.nextOf (.ref i1) >>= _) _ _ _
   exact wpAny_bind (N1.last hh h1 hx fun h₂ e hs₂ he=>hE h₂ e (fun c o c1 c3 x=>hs₂ _ _ c3 x) he)
  | false=>
   rw [if_pos (by rfl)]
   refine wpAny_bind (wpAny_setField_rec hz (by simp) fun h₁ hz₁ hs₁=>?_)
   refine wpAny_pure ?_
   simp only [Bool.false_eq_true,if_false,List.forIn_toArray,List.forIn_cons,List.forIn_nil]
   refine wpAny_bind (wpAny_bind (wpAny_bind (wpAny_holding ?_)))
   show wpAny _ _ (Builtin.SmallTypes.nextOf (.ref i1) >>= _) _ _ _
   exact wpAny_bind (N1.last hh (N1.ext h1 hs₁.extBut D.i1z D.l1z) hx fun h₂ e hs₂ he=>hE h₂ e (fun c o c1 c3 x=>hs₂ _ _ c3 (hs₁.extBut _ _ c1 x)) he)
theorem gEnd {P1:Heap->Nat->Prop} {z TI TO i1 i2 l1 l2:Addr} {k:Nat} {xs ys:Array Value} {Q:Option Value->Shared->Prop} (hh:A.handled=none) (D:ZipApart z TI TO i1 i2 l1 l2) (N1:Nx prog w i1 l1 xs P1) (S:Zg P1 s.heap z TI TO i1 i2 l2 ys k) (hx:xs[k]?=none)
  (hQ:∀ h',(∀ c o,c≠z->c≠i1->s.heap.get? c=some o->h'.get? c=some o)->Q none { s with heap:=h' }):wpAny (model prog w) A (pyNext (.ref z)) Q E s:=by
 have hT:s.TypeIs (.ref z) "zip":=by
  rcases S.zip with hz | ⟨T,bb,oT,hz,_⟩ <;> exact ⟨_,hz,rfl⟩
 unfold pyNext
 refine wpAny_bind (wpAny_attempt (wpAny_callSpecial?_slot (name:=Str.ofString "__next__") hT F.slot_zip_next
  (wpAny_call_entry F.slot_zip_next hT F.entry_zip_next (xw3 hh D N1 S hx fun h' e hk he=>?_) (F.args_zip_next_1 _))))
 obtain ⟨o,ho,hc⟩:=he
 refine wpAny_bind (wpAny_isInstance (T:="StopIteration") (b:=true) ⟨o,ho,hc⟩ isSubtype_stop ?_)
 exact wpAny_pure (hQ _ hk)
theorem nxT {it l:Addr} {xs:Array Value} (hne:l≠it):Nx prog w it l xs fun h k=>h.IsTupleIter it l k/\h.IsTuple l xs where
 item:=fun p hx hQ=>xju p.1 p.2 hx fun h' a s=>hQ h' ⟨a,p.2.extBut s.extBut hne⟩ s
 last:=fun hh p hx hE=>xq2 hh p.1 p.2 hx hE
 kept:=fun p a b=>⟨p.1.at a,p.2.at b⟩
 there:=fun p=>by obtain ⟨o,e,_⟩:=p.1; exact ⟨o,e⟩
theorem item_first {z TI TO i1 i2 l1 l2:Addr} {k1 k2:Nat} {xs ys:Array Value} {x y a b:Value} {Q:Value->Shared->Prop} (D:ZipApart z TI TO i1 i2 l1 l2)
  (hz:IsZip s.heap z TI TO .none) (hTI:IsPair s.heap TI (.ref i1) (.ref i2)) (hTO:IsPair s.heap TO a b)
  (h1:s.heap.IsTupleIter i1 l1 k1) (h2:s.heap.IsTupleIter i2 l2 k2) (hl1:s.heap.IsTuple l1 xs) (hl2:s.heap.IsTuple l2 ys) (hx:xs[k1]?=some x) (hy:ys[k2]?=some y)
  (hQ:∀ h',IsZip h' z TI TO (rawInt s.heap.objs.size)->IsPair h' TO x y->h'.IsTupleIter i1 l1 (k1 + 1)->h'.IsTupleIter i2 l2 (k2 + 1)->IsPair h' s.heap.objs.size x y->h'.objs.size=s.heap.objs.size + 1->
   (∀ c o,c≠z->c≠TO->c≠i1->c≠i2->s.heap.get? c=some o->h'.get? c=some o)->Q (.ref s.heap.objs.size) { s with heap:=h' }) :
  wpAny (model prog w) A (Builtin.«zip.__next__» ⟨[.ref z],[]⟩) (fun fin s'=>∃ v,fin=.done (.ret v)/\Q v s') E s:=xvp D hz hTI hTO (nxT D.l1i1) ⟨h1,hl1⟩ h2 hl2 hx hy fun h' b1 b2 b3 b4 b5 b6 b7=>hQ h' b1 b2 b3.1 b4 b5 b6 b7
theorem pyNext_end {z TI TO i1 i2 l1 l2:Addr} {k:Nat} {xs ys:Array Value} {Q:Option Value->Shared->Prop} (hh:A.handled=none) (D:ZipApart z TI TO i1 i2 l1 l2) (S:Zs s.heap z TI TO i1 i2 l1 l2 xs ys k) (hx:xs[k]?=none)
  (hQ:∀ h',(∀ c o,c≠z->c≠i1->s.heap.get? c=some o->h'.get? c=some o)->Q none { s with heap:=h' }):wpAny (model prog w) A (pyNext (.ref z)) Q E s:=gEnd hh D (nxT D.l1i1) ⟨S.zip,S.ti,S.to,⟨S.it1,S.t1⟩,S.it2,S.t2⟩ hx hQ
end
abbrev zH1 (h:Heap) (l1:Addr):Heap:=h.push { cls:=.type "tuple_iterator",data:=.fields #[.ref l1,.int 0 0] }
abbrev zH2 (h:Heap) (l1 l2:Addr):Heap:=(zH1 h l1).push { cls:=.type "tuple_iterator",data:=.fields #[.ref l2,.int 0 0] }
abbrev zH3 (h:Heap) (l1 l2:Addr):Heap:=(zH2 h l1 l2).push { cls:=.type "tuple",data:=.seq #[.ref h.objs.size,.ref (zH1 h l1).objs.size] }
abbrev zH4 (h:Heap) (l1 l2:Addr):Heap:=(zH3 h l1 l2).push { cls:=.type "tuple",data:=.seq #[.none,.none] }
abbrev zH5 (h:Heap) (l1 l2:Addr):Heap:=(zH4 h l1 l2).push { cls:=.type "zip",data:=.fields #[.none,.bool false,.bool false,.ref (zH2 h l1 l2).objs.size,.ref (zH3 h l1 l2).objs.size] }
theorem xpa (l1 l2:Addr) (xs ys:Array Value) :
  Meets (Builtin.«zip.__new__» ⟨[.type "zip",.ref l1,.ref l2],[]⟩) (fun _ R s=>s.heap.IsTuple l1 xs/\s.heap.IsTuple l2 ys ∧
   R (.ok (.ret (.ref (zH4 s.heap l1 l2).objs.size))) { s with heap:=zH5 s.heap l1 l2 }):=
 .of_wp fun prog w A R s h=>by
  obtain ⟨hp,g,d,tk,os⟩:=s; obtain ⟨hl1,hl2,h⟩:=h
  have hsub:=sub_zip
  have hL1:Heap.IsTuple (Shared.heap ⟨hp,g,d,tk,os⟩) l1 xs:=hl1
  have hL2:Heap.IsTuple (Shared.heap ⟨hp.push { cls:=.type "tuple_iterator",data:=.fields #[.ref l1,.int 0 0] },g,d,tk,os⟩) l2 ys:=Heap.IsTuple.push hl2 _
  wp_walk using wpAny_pyIter_tuple hL1,wpAny_pyIter_tuple hL2
  exact ⟨_,rfl,h⟩
end Zt
end
section
namespace L2
open PySem PySem.Spec PyProof.Rows
abbrev TJ:=St->Hp->Str->VK->Prop
def PJ (X:Cx) (es:List Expr) (t:TJ):Prop:=
 ∀ (pins:List (Addr×Obj)) (s:Shared) (σ:St) (H:Hp) (out:Str) (Q:VK),Inv X pins σ H s->t σ H out Q->wpAny (model X.prog X.w) X.A (joinParts out (evalEach es X.env)) (EP X pins σ Q) X.xe s
def jNil:TJ:=fun _ H out Q=>out.length<=sizeLine/\Q (.str out) H
def jLit (x:Str) (t:TJ):TJ:=fun σ H out Q=>(out++x).length<=sizeLine/\t σ H (out++x) Q
def jStr (te:TE) (t:TJ):TJ:=fun σ H out Q=>te σ H fun v H1=>∃ x,v=.str x/\x.length<=sizeLine/\(out++x).length<=sizeLine/\t σ H1 (out++x) Q
def jInt (te:TE) (t:TJ):TJ:=fun σ H out Q=>te σ H fun v H1=>∃ i:Int,v=.int i/\i.natAbs.log2 < 1920/\(out++Str.ofString (toString i)).length<=sizeLine/\t σ H1 (out++Str.ofString (toString i)) Q
section
variable {X:Cx} {e e1 e2:Expr} {es:List Expr} {te:TE} {t:TJ} {pos:Pos}
theorem xdp:PJ X [] jNil:=fun _ _ _ H out _ I h=>joinParts_nilE (joinParts_nil ⟨.str out,H,I.tok _,⟨_,rfl⟩,h.2⟩ h.1)
theorem xbz {x:Str} {j} (h:PJ X es t):PJ X (.Constant (.str x) j pos :: es) (jLit x t):=by
 intro pins s σ H out Q I hw
 refine joinParts_consE (joinParts_cons (thn (pS (X:=X) pins s σ H (fun v H'=>v=.str x/\H'=H) I ⟨rfl,rfl⟩) fun v s1 ⟨z,H1,I1,r,e1,e2⟩=>?_))
 subst e1 e2
 obtain ⟨t',rfl⟩:=r
 exact ⟨hw.1,h pins s1 σ _ _ Q I1 hw.2⟩
theorem xcx (he:PE X e te) (h:PJ X es t):PJ X (.FormattedValue e (-1) none pos :: es) (jStr te t):=by
 intro pins s σ H out Q I hw
 refine joinParts_consE (joinParts_cons (FormattedValue_plain (thn (he pins s σ H _ I hw) fun v s1 ⟨z,H1,I1,r,x,e,hz,hl,q⟩=>?_)))
 subst e
 obtain ⟨t',rfl⟩:=r
 exact formatField_str (fun t'' tk=>⟨hl,h pins _ σ H1 _ Q (I1.tok tk) q⟩) hz
theorem xr2 (he:PE X e te) (h:PJ X es t):PJ X (.FormattedValue e (-1) none pos :: es) (jInt te t):=by
 intro pins s σ H out Q I hw
 refine joinParts_consE (joinParts_cons (FormattedValue_plain (thn (he pins s σ H _ I hw) fun v s1 ⟨z,H1,I1,r,i,e,hz,hl,q⟩=>?_)))
 subst e
 obtain ⟨t',rfl⟩:=r
 exact formatField_int_small hz ⟨hl,h pins _ σ H1 _ Q (I1.tok _) q⟩
theorem xcr (h:PJ X (e1 :: e2 :: es) t):PE X (.JoinedStr (e1 :: e2 :: es) pos) (fun σ H Q=>t σ H Str.empty Q):=fun pins s σ H Q I hw=>JoinedStr_many (h pins s σ H _ Q I hw)
end
section
variable {X:Cx}
def rNeE (K:PySem.W.Frag):R2:=fun x y H Q=>∃ a b xs,x=.ref a/\y=.ref b/\SqL K H a xs/\SqL K H b []/\Q (.bl (!xs.isEmpty)) H
theorem xr4 (hu:X.A.units < cLine):OpR X (compareOp .NotEq) (rNeE X.K):=by
 intro pins s σ H x y v u Q I rx ry h
 obtain ⟨a,b,xs,rfl,rfl,ha,hb,q⟩:=h
 cases rx
 cases ry
 obtain ⟨its,r1,p1,_⟩:=I.list ha
 obtain ⟨its2,r2,p2,_⟩:=I.list hb
 have l1:=r1.length
 have l2:=r2.length
 cases xs with
 | nil=>
  refine PySem.EqBoolInt.of_rcne (SeqAt.RcNeAt.lists (e:=fun _=>true) p1.isList p2.isList (by simp only [List.size_toArray]; omega) hu fun j h1 h2=>?_) ⟨.bl _,H,I,rfl,?_⟩
  ·simp only [List.size_toArray] at h1
   simp at l1
   omega
  ·have:its=[]:=List.eq_nil_of_length_eq_zero (by simpa using l1.symm)
   subst this
   exact q
 | cons x xs=>
  refine PySem.EqBoolInt.of_rcne (SeqAt.RcNeAt.lists_lengths p1.isList p2.isList (by simp only [List.size_toArray]; simp at l1 l2 ⊢; omega) hu) ⟨.bl _,H,I,rfl,?_⟩
  simpa using q
end
end L2
end
section
namespace L2
open PySem PySem.Spec PyProof.Rows
section
variable {es:List Expr} {env:Env}
theorem zso {c k p}:starEach (.Constant c k p :: es) env=(false,eval (.Constant c k p) env) :: starEach es env:=rfl
theorem zsn {x p}:starEach (.Name x p :: es) env=(false,eval (.Name x p) env) :: starEach es env:=rfl
theorem zsc {a b c d}:starEach (.Call a b c d :: es) env=(false,eval (.Call a b c d) env) :: starEach es env:=rfl
theorem xaq {a b c d}:starEach (.BinOp a b c d :: es) env=(false,eval (.BinOp a b c d) env) :: starEach es env:=rfl
theorem zss {a b c}:starEach (.Subscript a b c :: es) env=(false,eval (.Subscript a b c) env) :: starEach es env:=rfl
theorem sT {a b c}:starEach (.Tuple a b c :: es) env=(false,eval (.Tuple a b c) env) :: starEach es env:=rfl
theorem xl8 {a b c d}:starEach (.Compare a b c d :: es) env=(false,eval (.Compare a b c d) env) :: starEach es env:=rfl
theorem xn9 {a b c}:starEach (.BoolOp a b c :: es) env=(false,eval (.BoolOp a b c) env) :: starEach es env:=rfl
theorem xbl {a b}:starEach (.JoinedStr a b :: es) env=(false,eval (.JoinedStr a b) env) :: starEach es env:=rfl
theorem xb8 {a b c d}:starEach (.ListComp a b c d :: es) env=(false,eval (.ListComp a b c d) env) :: starEach es env:=rfl
theorem xqg {a b c d}:starEach (.IfExp a b c d :: es) env=(false,eval (.IfExp a b c d) env) :: starEach es env:=rfl
end
end L2
end
section
namespace M
open PySem
inductive D where
 | int (i:Int)
 | str (x:Str)
 | tup (ds:List D)
inductive All2 {α β:Type} (R:α->β->Prop):List α->List β->Prop where
 | nil:All2 R [] []
 | cons {a b as bs} (h:R a b) (t:All2 R as bs):All2 R (a :: as) (b :: bs)
theorem All2.length {α β:Type} {R:α->β->Prop} {as:List α} {bs:List β} (h:All2 R as bs):as.length=bs.length:=by
 induction h with
 | nil=>rfl
 | cons _ _ ih=>simp [ih]
theorem All2.imp {α β:Type} {R S:α->β->Prop} {as:List α} {bs:List β} (h:All2 R as bs) (f:∀ a b,R a b->S a b):All2 S as bs:=by
 induction h with
 | nil=>exact .nil
 | cons h _ ih=>exact .cons (f _ _ h) ih
theorem All2.get {α β:Type} {R:α->β->Prop} {as:List α} {bs:List β} (h:All2 R as bs):∀ {i:Nat} {a:α},as[i]?=some a->∃ b,bs[i]?=some b/\R a b:=by
 induction h with
 | nil=>intro i a e; simp at e
 | cons h _ ih=>
  intro i a e
  cases i with
  | zero=>simp at e; subst e; exact ⟨_,by simp,h⟩
  | succ i=>simpa using ih (i:=i) (a:=a) (by simpa using e)
def S (s:String):Str:=Str.ofString s
def xfi (c:Nat):Bool:=97<=c && c<=122
def xnq (x:List Nat):Bool:=1<=x.length && x.length<=6 && x.all xfi && x != [110,117,109] && x != [105,116]
def Name (x:Str):Prop:=xnq x.cps.toList=true
theorem Name.le {x:Str} (h:Name x):x.cps.toList.length<=6:=by
 unfold Name xnq at h
 simp only [Bool.and_eq_true,decide_eq_true_eq] at h
 exact h.1.1.1.2
def numS (n:Int):Str:=Str.ofString (toString n)
theorem xo1 (m:Nat):(numS (m:Int)).cps.toList=(Nat.toDigits 10 m).map Char.toNat:=by
 unfold numS
 rw [Str.ofString_eq_toList]
 show (Nat.repr m).toList.map Char.toNat=_
 rw [Nat.toList_repr]
end M
end
section
namespace M
open PySem
def L (x:Str):List Nat:=x.cps.toList
def ofL (l:List Nat):Str:=⟨l.toArray⟩
theorem xed (l:List Nat):L (ofL l)=l:=rfl
theorem xu7 (x:Str):ofL (L x)=x:=by
 cases x
 rfl
theorem xp7 {x y:Str} (h:L x=L y):x=y:=by
 rw [<- xu7 x,<- xu7 y,h]
theorem xex (x y:Str):L (x++y)=L x++L y:=by
 show (x.cps++y.cps).toList=_
 simp [L]
theorem xfr (x:Str):(L x).length=x.length:=by
 simp [L,Str.length]
end M
end
section
namespace M
open PySem L2
mutual
def RelD (H:Hp):V->D->Prop
 | v,.int i=>v=.int i
 | v,.str x=>v=.str x
 | v,.tup ds=>∃ a vs,v=.ref a/\H a=some (.tup vs)/\RelDs H vs ds
def RelDs (H:Hp):List V->List D->Prop
 | vs,[]=>vs=[]
 | vs,d :: ds=>∃ v r,vs=v :: r/\RelD H v d/\RelDs H r ds
end
mutual
theorem RelD.same {H H':Hp} (s:Same H H'):∀ {v:V} (d:D),RelD H v d->RelD H' v d
 | v,.int i,h=>h
 | v,.str x,h=>h
 | v,.tup ds,⟨a,vs,e,ha,h⟩=>⟨a,vs,e,s _ _ ha,RelDs.same s ds h⟩
theorem RelDs.same {H H':Hp} (s:Same H H'):∀ {vs:List V} (ds:List D),RelDs H vs ds->RelDs H' vs ds
 | vs,[],h=>h
 | vs,d :: ds,⟨v,r,e,h1,h2⟩=>⟨v,r,e,RelD.same s d h1,RelDs.same s ds h2⟩
end
theorem RelDs.length {H:Hp}:∀ {vs:List V} {ds:List D},RelDs H vs ds->vs.length=ds.length
 | vs,[],h=>by rw [show vs=[] from h]; rfl
 | vs,d :: ds,⟨v,r,e,_,h2⟩=>by rw [e,List.length_cons,List.length_cons,RelDs.length h2]
theorem RelDs.append {H:Hp}:∀ {vs us:List V} {ds es:List D},RelDs H vs ds->RelDs H us es->RelDs H (vs++us) (ds++es)
 | vs,us,[],es,h,k=>by rw [show vs=[] from h]; exact k
 | vs,us,d :: ds,es,⟨v,r,e,h1,h2⟩,k=>by subst e; exact ⟨v,r++us,rfl,h1,RelDs.append h2 k⟩
theorem RelDs.get {H:Hp}:∀ {vs:List V} {ds:List D} {i:Nat} {v:V},RelDs H vs ds->vs[i]?=some v->∃ d,ds[i]?=some d/\RelD H v d
 | vs,[],i,v,h,e=>by rw [show vs=[] from h] at e; simp at e
 | vs,d :: ds,0,v,⟨u,r,e0,h1,_⟩,e=>by
  subst e0
  simp at e
  subst e
  exact ⟨d,rfl,h1⟩
 | vs,d :: ds,i + 1,v,⟨u,r,e0,_,h2⟩,e=>by
  subst e0
  obtain ⟨x,hx,hr⟩:=RelDs.get (i:=i) (v:=v) h2 (by simpa using e)
  exact ⟨x,by simpa using hx,hr⟩
end M
namespace M
open PySem L2
theorem iteKF {c A B:Prop} [Decidable c] (h:decide c=false) (b:B):if decide c=true then A else B:=by
 rw [h]
 exact b
theorem iteKT {c A B:Prop} [Decidable c] (h:decide c=true) (a:A):if decide c=true then A else B:=by
 rw [h]
 exact a
theorem xnw {c:Bool} {A B:Prop} (h:c=false) (b:B):if c=true then A else B:=by
 rw [h]
 exact b
end M
end
section
namespace M
open PySem L2
mutual
theorem RelD.tups {H H':Hp} (s:∀ b vs,H b=some (.tup vs)->H' b=some (.tup vs)):∀ {v:V} (d:D),RelD H v d->RelD H' v d
 | v,.int i,h=>h
 | v,.str x,h=>h
 | v,.tup ds,⟨a,vs,e,ha,h⟩=>⟨a,vs,e,s _ _ ha,RelDs.tups s ds h⟩
theorem RelDs.tups {H H':Hp} (s:∀ b vs,H b=some (.tup vs)->H' b=some (.tup vs)):∀ {vs:List V} (ds:List D),RelDs H vs ds->RelDs H' vs ds
 | vs,[],h=>h
 | vs,d :: ds,⟨v,r,e,h1,h2⟩=>⟨v,r,e,RelD.tups s d h1,RelDs.tups s ds h2⟩
end
theorem xaj {a:Addr} {H H':Hp} (hf:∃ p q:Int,H a=some (.lst [.int p,.int q])) (f:Fed a H H'):∀ b vs,H b=some (.tup vs)->H' b=some (.tup vs):=fun b vs e=>f.1 b _ e fun z=>by
 obtain ⟨p,q,h⟩:=hf
 rw [z,h] at e
 cases e
def xdh (c:Nat):Str:=⟨#[c]⟩
theorem xj6:∀ cs:List Nat,Txt.join (S "") (cs.map xdh)=ofL cs:=by
 have h:∀ cs:List Nat,L (Str.join (S "") (cs.map xdh))=cs:=by
  intro cs
  induction cs with
  | nil=>rfl
  | cons c r ih=>
   cases r with
   | nil=>rfl
   | cons d r=>
    show L (xdh c++S ""++Str.join (S "") ((d :: r).map xdh))=_
    rw [xex,xex,ih]
    have e:L (S "")=[]:=by walk_at "k"
    rw [e]
    rfl
 intro cs
 apply xp7
 show L (Builtin.Str.glued (S "") (cs.map xdh))=cs
 rw [StrLaws.glued_eq_join,h]
theorem xky (cs:List Nat):((cs.map xdh).map (·.length)).sum=cs.length:=by
 induction cs with
 | nil=>rfl
 | cons c r ih=>
  show (xdh c).length + ((r.map xdh).map (·.length)).sum=r.length + 1
  rw [ih,show (xdh c).length=1 from rfl]
  omega
theorem xm4 {α:Type} {cs:List α} {r:Int} (h0:0<=r) (h:r < (cs.length:Int)):∃ c∈cs,atI cs r=some c:=by
 have hk:r.toNat < cs.length:=by omega
 have ek:r=((r.toNat:Nat):Int):=by omega
 refine ⟨cs[r.toNat],List.getElem_mem hk,?_⟩
 have q:atI cs ((r.toNat:Nat):Int)=some cs[r.toNat]:=xbb (zGA hk)
 rw [<- ek] at q
 exact q
end M
end
section
namespace L2
open PySem PySem.Spec PyProof.Rows
section
variable {κ:Type} [DecidableEq κ]
def valV (kvs:List (κ×V)) (k:κ):Option V:=(kvs.find? fun kv=>decide (kv.1=k)).map (·.2)
def putK (kvs:List (κ×V)) (k:κ) (v:V):List (κ×V):=
 if (kvs.any fun kv=>decide (kv.1=k))=true then kvs.map (fun kv=>if kv.1=k then (kv.1,v) else kv) else kvs++[(k,v)]
def xip (kvs:List (κ×V)) (k:κ):List (κ×V):=kvs.filter fun kv=>decide (kv.1≠k)
theorem xci {p:κ×V} {r:List (κ×V)} {k:κ} (e:p.1=k):valV (p :: r) k=some p.2:=by simp [valV,List.find?_cons,e]
theorem xcj {p:κ×V} {r:List (κ×V)} {k:κ} (e:¬ p.1=k):valV (p :: r) k=valV r k:=by simp [valV,List.find?_cons,e]
theorem xgc (k:κ):∀ kvs:List (κ×V),(kvs.any fun kv=>decide (kv.1=k))=(valV kvs k).isSome
 | []=>rfl
 | p :: r=>by
  rw [List.any_cons]
  by_cases e:p.1=k
  ·simp only [xci e,zDT e,Bool.true_or,Option.isSome_some]
  ·rw [xcj e,zDF e,Bool.false_or]; exact xgc k r
theorem xl5 (k j:κ) (y:V):∀ kvs:List (κ×V),valV (kvs.map fun kv=>if kv.1=k then (kv.1,y) else kv) j=(valV kvs j).map fun x=>if j=k then y else x
 | []=>rfl
 | p :: r=>by
  have ih:=xl5 k j y r
  rw [List.map_cons]
  by_cases h:p.1=k
  ·rw [if_pos h]
   by_cases e:p.1=j
   ·rw [xci (p:=(p.1,y)) e,xci e,Option.map_some,if_pos (e.symm.trans h)]
   ·rw [xcj (p:=(p.1,y)) e,xcj e,ih]
  ·rw [if_neg h]
   by_cases e:p.1=j
   ·rw [xci (p:=p) e,xci e,Option.map_some,if_neg (fun z=>h (e.trans z))]
   ·rw [xcj (p:=p) e,xcj e,ih]
theorem xiz (k j:κ) (y:V):∀ kvs:List (κ×V),valV kvs k=none->valV (kvs++[(k,y)]) j=if j=k then some y else valV kvs j
 | [],_=>by
  by_cases e:k=j
  ·rw [if_pos e.symm]; exact xci (p:=(k,y)) e
  ·rw [if_neg (fun z=>e z.symm)]; exact xcj (p:=(k,y)) e
 | p :: r,hn=>by
  rw [List.cons_append]
  have hk:¬ p.1=k:=fun z=>by rw [xci z] at hn; cases hn
  rw [xcj hk] at hn
  have ih:=xiz k j y r hn
  by_cases e:p.1=j
  ·rw [xci e,xci e,if_neg (fun z=>hk (e.trans z))]
  ·rw [xcj e,xcj e,ih]
theorem xek (kvs:List (κ×V)) (k j:κ) (y:V):valV (putK kvs k y) j=if j=k then some y else valV kvs j:=by
 unfold putK
 by_cases a:(kvs.any fun kv=>decide (kv.1=k))=true
 ·rw [if_pos a,xl5]
  rw [xgc] at a
  by_cases e:j=k
  ·obtain ⟨x,hx⟩:=Option.isSome_iff_exists.mp a
   rw [if_pos e,e,hx,Option.map_some,if_pos rfl]
  ·rw [if_neg e]
   cases valV kvs j with
   | none=>rfl
   | some x=>rw [Option.map_some,if_neg e]
 ·rw [if_neg a]
  refine xiz k j y kvs ?_
  rw [xgc] at a
  cases q:valV kvs k with
  | none=>rfl
  | some x=>rw [q] at a; exact (a rfl).elim
theorem xd3 (kvs:List (κ×V)) (k:κ) (v:V):(putK kvs k v).length<=kvs.length + 1:=by
 unfold putK
 split
 ·rw [zLM]; omega
 ·rw [zLA,List.length_cons,List.length_nil]; omega
theorem RelO.isSome_eq {o:Option V} {u:Option Value} (r:RelO o u):o.isSome=u.isSome:=by
 cases o with
 | none=>cases u with
  | none=>rfl
  | some _=>exact (show False from r).elim
 | some _=>cases u with
  | none=>exact (show False from r).elim
  | some _=>rfl
theorem KV.val {kvs:List (κ×V)} {vs:List (κ×Value)} (r:KV kvs vs) (k:κ):RelO (valV kvs k) (valueAt vs k):=by
 unfold KV at r
 induction r with
 | nil=>exact True.intro
 | @cons p q ps qs h t ih=>
  obtain ⟨h1,h2⟩:=h
  by_cases e:p.1=k
  ·have e':q.1=k:=h1.symm.trans e
   have b:valueAt (q :: qs) k=some q.2:=by simp [valueAt,List.find?_cons,e']
   rw [xci e,b]; exact h2
  ·have e':¬ q.1=k:=fun z=>e (h1.trans z)
   have b:valueAt (q :: qs) k=valueAt qs k:=by simp [valueAt,List.find?_cons,e']
   rw [xcj e,b]; exact ih
theorem KV.any {kvs:List (κ×V)} {vs:List (κ×Value)} (r:KV kvs vs) (k:κ):(kvs.any fun kv=>decide (kv.1=k))=vs.any fun kv=>decide (kv.1=k):=by
 unfold KV at r
 induction r with
 | nil=>rfl
 | cons h t ih=>rw [List.any_cons,List.any_cons,ih,h.1]
theorem KV.repl {kvs:List (κ×V)} {vs:List (κ×Value)} (r:KV kvs vs) (k:κ) {y:V} {u:Value} (ry:RelV y u) :
  KV (kvs.map fun kv=>if kv.1=k then (kv.1,y) else kv) (vs.map fun kv=>if kv.1=k then (kv.1,u) else kv):=by
 unfold KV at r ⊢
 induction r with
 | nil=>exact .nil
 | @cons p q ps qs h t ih=>
  rw [List.map_cons,List.map_cons]
  refine .cons ?_ ih
  obtain ⟨h1,h2⟩:=h
  by_cases e:p.1=k
  ·rw [if_pos e,if_pos (h1.symm.trans e)]; exact ⟨h1,ry⟩
  ·rw [if_neg e,if_neg (fun z=>e (h1.trans z))]; exact ⟨h1,h2⟩
theorem KV.put {kvs:List (κ×V)} {vs:List (κ×Value)} (r:KV kvs vs) (k:κ) {y:V} {u:Value} (ry:RelV y u):KV (putK kvs k y) (stored vs k u):=by
 unfold putK stored
 rw [r.any k]
 by_cases e:(vs.any fun kv=>decide (kv.1=k))=true
 ·rw [if_pos e,if_pos e]; exact r.repl k ry
 ·rw [if_neg e,if_neg e]; exact Paired.snoc r ⟨rfl,ry⟩
theorem KV.drop {kvs:List (κ×V)} {vs:List (κ×Value)} (r:KV kvs vs) (k:κ):KV (xip kvs k) (without vs k):=by
 unfold KV at r ⊢
 unfold xip without
 induction r with
 | nil=>exact .nil
 | @cons p q ps qs h t ih=>
  obtain ⟨h1,h2⟩:=h
  rw [List.filter_cons,List.filter_cons]
  by_cases e:p.1=k
  ·have a:¬ decide (p.1≠k)=true:=by simp [e]
   have b:¬ decide (q.1≠k)=true:=by simp [h1.symm.trans e]
   rw [if_neg a,if_neg b]; exact ih
  ·have e':¬ q.1=k:=fun z=>e (h1.trans z)
   have a:decide (p.1≠k)=true:=by simp [e]
   have b:decide (q.1≠k)=true:=by simp [e']
   rw [if_pos a,if_pos b]; exact .cons ⟨h1,h2⟩ ih
theorem KV.length {kvs:List (κ×V)} {vs:List (κ×Value)} (r:KV kvs vs):kvs.length=vs.length:=Paired.length r
theorem xrg (kvs:List (κ×V)) (k:κ):(xip kvs k).length<=kvs.length:=List.length_filter_le _ _
end
theorem xlq {P:Program} {w:World} {k:Key} {u:Value} (r:RelV (kV k) u):(xbw P w).is k u=true:=by
 cases k with
 | inl i=>obtain ⟨t,e⟩:=(show ∃ t,u=Value.int i t from r); subst e; exact xlo P w i t
 | inr x=>obtain ⟨t,e⟩:=(show ∃ t,u=Value.str x t from r); subst e; exact xln P w x t
theorem xj7 {P:Program} {w:World}:∀ {ks:List Key} {us:List Value},Vals (ks.map kV) us->ItemsAre (xbw P w) ks us
 | [],_,r=>by rw [List.map_nil] at r; cases r; exact .nil
 | k :: ks,_,r=>by
  rw [List.map_cons] at r
  cases r with
  | cons h t=>exact .cons (xlq h) (xj7 t)
abbrev KT (H:Hp):List (List Key×V)->List (List Key×Addr×Value)->Prop:=Paired fun p q=>p.1=q.1/\H q.2.1=some (.tup (p.1.map kV))/\RelV p.2 q.2.2
theorem KT.val {H:Hp} {kvs:List (List Key×V)} {xs:List (List Key×Addr×Value)} (r:KT H kvs xs) (k:List Key):RelO (valV kvs k) ((atKey xs k).map (·.2)):=by
 induction r with
 | nil=>exact True.intro
 | @cons p q ps qs h t ih=>
  obtain ⟨h1,_,h2⟩:=h
  by_cases e:p.1=k
  ·have e':q.1=k:=h1.symm.trans e
   have b:atKey (q :: qs) k=some q.2:=by simp [atKey,List.find?_cons,e']
   rw [xci e,b]; exact h2
  ·have e':¬ q.1=k:=fun z=>e (h1.trans z)
   have b:atKey (q :: qs) k=atKey qs k:=by simp [atKey,List.find?_cons,e']
   rw [xcj e,b]; exact ih
theorem KT.repl {H:Hp} {kvs:List (List Key×V)} {xs:List (List Key×Addr×Value)} (r:KT H kvs xs) (k:List Key) {y:V} {u:Value} (ry:RelV y u) :
  KT H (kvs.map fun kv=>if kv.1=k then (kv.1,y) else kv) (xs.map (putAt k u)):=by
 induction r with
 | nil=>exact .nil
 | @cons p q ps qs h t ih=>
  rw [List.map_cons,List.map_cons]
  refine .cons ?_ ih
  obtain ⟨h1,h2,h3⟩:=h
  unfold putAt
  by_cases e:p.1=k
  ·rw [if_pos e,if_pos (h1.symm.trans e)]; exact ⟨h1,h2,ry⟩
  ·rw [if_neg e,if_neg (fun z=>e (h1.trans z))]; exact ⟨h1,h2,h3⟩
theorem KT.put {H:Hp} {kvs:List (List Key×V)} {xs:List (List Key×Addr×Value)} (r:KT H kvs xs) (k:List Key) {b:Addr} {y:V} {u:Value} (hb:H b=some (.tup (k.map kV))) (ry:RelV y u) :
  KT H (putK kvs k y) (storedH xs k b u):=by
 have e:(kvs.any fun kv=>decide (kv.1=k))=(atKey xs k).isSome:=by
  rw [xgc,(r.val k).isSome_eq,Option.isSome_map]
 unfold putK storedH
 rw [e]
 by_cases q:(atKey xs k).isSome=true
 ·rw [if_pos q,if_pos q]; exact r.repl k ry
 ·rw [if_neg q,if_neg q]; exact Paired.snoc r ⟨rfl,hb,ry⟩
theorem KT.keeps {H H':Hp} {kvs:List (List Key×V)} {xs:List (List Key×Addr×Value)} (r:KT H kvs xs) (ht:∀ b ys,H b=some (.tup ys)->H' b=some (.tup ys)):KT H' kvs xs:=
 Paired.mapP r fun _ _ z=>⟨z.1,ht _ _ z.2.1,z.2.2⟩
section
variable {P:Program} {w:World} {H:Hp} {h:Heap} {a:Addr}
theorem xut {u:HO} (ok:HOk P w H h) (e:Rd H a u):ObjOk P w H h a u:=e.ok ok
theorem xkf {kvs:List (Key×V)} (ok:HOk P w H h) (e:Rd H a (.dK kvs)):kvs.length<=sizeLine/\(a == sysModules)=false/\∃ vs,KV kvs vs/\h.DictOf (xbw P w) a vs:=
 show ObjOk P w H h a (.dK kvs) from xut ok e
theorem xvu {kvs:List (Key×V)} (ok:HOk P w H h) (e:H a=some (.dK kvs)):kvs.length<=sizeLine/\(a == sysModules)=false/\∃ vs,KV kvs vs/\h.DictOf (xbw P w) a vs:=xkf ok (.inl e)
theorem xj5 {ks:List Key} (ok:HOk P w H h) (e:H a=some (.tup (ks.map kV))):(tupleKind (xbw P w)).is h ks a:=by
 obtain ⟨_,its,r,o,h1,h2,n,h3,_⟩:=(show ObjOk P w H h a (.tup (ks.map kV)) from ok a _ e)
 exact ⟨o,its.toArray,n,h1,h2,h3,by simpa using xj7 r⟩
theorem xnx {kvs:List (List Key×V)} (ok:HOk P w H h) (e:Rd H a (.dT kvs)):kvs.length<=sizeLine/\(a == sysModules)=false ∧
  ∃ xs,KT H kvs xs/\h.DictOfH (tupleKind (xbw P w)) a xs:=by
 obtain ⟨z,y,xs,r,o,es,ep,h1,h2,h3,h4,h5⟩:=(show ObjOk P w H h a (.dT kvs) from xut ok e)
 refine ⟨z,y,xs,r,o,es,ep,h1,h2,h3,h4,fun x hx=>?_,h5⟩
 have all:∀ {l:List (List Key×V)} {m:List (List Key×Addr×Value)},KT H l m->∀ x∈m,(tupleKind (xbw P w)).is h x.1 x.2.1:=by
  intro l m q
  induction q with
  | nil=>intro x hx; exact nomatch hx
  | @cons p q ps qs hq t ih=>
   intro x hx
   rcases zMC hx with e | hx
   ·subst e
    exact xj5 ok (by rw [<- hq.1]; exact hq.2.1)
   ·exact ih x hx
 exact all r x hx
theorem xw6 {kvs:List (List Key×V)} (ok:HOk P w H h) (e:H a=some (.dT kvs)):kvs.length<=sizeLine/\(a == sysModules)=false ∧
  ∃ xs,KT H kvs xs/\h.DictOfH (tupleKind (xbw P w)) a xs:=xnx ok (.inl e)
end
def DGet (H:Hp) (a:Addr) (y:V) (r:Option V):Prop:=
 (∃ kvs k,Rd H a (.dK kvs)/\y=kV k/\r=valV kvs k)\/∃ kvs k b,Rd H a (.dT kvs)/\y=.ref b/\H b=some (.tup (k.map kV))/\r=valV kvs k
def DPut (H:Hp) (a:Addr) (y v:V) (H':Hp):Prop:=
 (∃ kvs k,H a=some (.dK kvs)/\y=kV k/\kvs.length < sizeLine/\H'=upd H a (.dK (putK kvs k v))) ∨
 ∃ kvs k b,H a=some (.dT kvs)/\y=.ref b/\H b=some (.tup (k.map kV))/\kvs.length < sizeLine/\H'=upd H a (.dT (putK kvs k v))
theorem DGet.k {H:Hp} {a:Addr} {kvs:List (Key×V)} {k:Key} (e:H a=some (.dK kvs)):DGet H a (kV k) (valV kvs k):=.inl ⟨kvs,k,.inl e,rfl,rfl⟩
theorem DPut.k {H:Hp} {a:Addr} {kvs:List (Key×V)} {k:Key} {v:V} (e:H a=some (.dK kvs)) (hl:kvs.length < sizeLine):DPut H a (kV k) v (upd H a (.dK (putK kvs k v))):=.inl ⟨kvs,k,e,rfl,hl,rfl⟩
section
variable {X:Cx} {pins:List (Addr×Obj)} {σ:St} {H:Hp} {s:Shared} {a:Addr} {y v:V} {u r:Value} {o:Option V} {A:Around} {E:Value->Shared->Prop}
theorem Inv.big (I:Inv X pins σ H s):sysModules < s.heap.objs.size:=by
 have h:mainGlobals < s.heap.objs.size:=(I.mod.glob.keeps I.bk).lt
 exact Nat.lt_trans (by decide) h
theorem xpz {Q:Value->Shared->Prop} (hu:A.units + 1 < cLine) (I:Inv X pins σ H s) (g:DGet H a y (some v)) (ry:RelV y u) (h:∀ w' s',Inv X pins σ H s'->RelV v w'->Q w' s') :
  wpAny (model X.prog X.w) A (getItem (.ref a) u) Q E s:=by
 rcases g with ⟨kvs,k,e,ey,l⟩ | ⟨kvs,k,b,e,ey,eb,l⟩
 ·subst ey
  obtain ⟨z,hd,vs,rel,dd⟩:=xkf I.hok e
  obtain ⟨w',hw,rw'⟩:=RelO.some_of (v:=v) (o:=valueAt vs k) (by rw [l]; exact rel.val k)
  exact wpAny_getItem_of (xlq ry) dd.mapOf hw (h w' _ (I.tok _) rw')
 ·subst ey
  cases (show u=Value.ref b from ry)
  obtain ⟨z,hd,xs,rel,dd⟩:=xnx I.hok e
  obtain ⟨w',hw,rw'⟩:=RelO.some_of (v:=v) (o:=(atKey xs k).map (·.2)) (by rw [l]; exact rel.val k)
  obtain ⟨p,hp,hp2⟩:=zMS hw
  refine wpAny_getItem_heap (tupleKind_room_in1 hu) (xj5 I.hok eb) dd hp ?_
  rw [hp2]
  exact h w' _ (I.tok _) rw'
theorem d_in {Q:Value->Shared->Prop} (hu:A.units + 1 < cLine) (I:Inv X pins σ H s) (g:DGet H a y o) (ry:RelV y u) (h:∀ s',Inv X pins σ H s'->Q (.bool o.isSome) s') :
  wpAny (model X.prog X.w) A (compareOp .In u (.ref a)) Q E s:=by
 rcases g with ⟨kvs,k,e,ey,l⟩ | ⟨kvs,k,b,e,ey,eb,l⟩
 ·subst ey
  obtain ⟨z,hd,vs,rel,dd⟩:=xkf I.hok e
  refine wpAny_in_of (xlq ry) hd dd.mapOf ?_
  rw [<- (rel.val k).isSome_eq,<- l]
  exact h _ (I.tok _)
 ·subst ey
  cases (show u=Value.ref b from ry)
  obtain ⟨z,hd,xs,rel,dd⟩:=xnx I.hok e
  refine wpAny_in_heap (tupleKind_room_in1 hu) (xj5 I.hok eb) hd dd ?_
  have q:=(rel.val k).isSome_eq
  rw [Option.isSome_map] at q
  rw [<- q,<- l]
  exact h _ (I.tok _)
theorem xtq {Q:Value->Shared->Prop} (hu:A.units + 1 < cLine) (I:Inv X pins σ H s) (g:DGet H a y o) (ry:RelV y u) (h:∀ s',Inv X pins σ H s'->Q (.bool (!o.isSome)) s') :
  wpAny (model X.prog X.w) A (compareOp .NotIn u (.ref a)) Q E s:=by
 rcases g with ⟨kvs,k,e,ey,l⟩ | ⟨kvs,k,b,e,ey,eb,l⟩
 ·subst ey
  obtain ⟨z,hd,vs,rel,dd⟩:=xkf I.hok e
  refine wpAny_notIn_of (xlq ry) hd dd.mapOf ?_
  rw [<- (rel.val k).isSome_eq,<- l]
  exact h _ (I.tok _)
 ·subst ey
  cases (show u=Value.ref b from ry)
  obtain ⟨z,hd,xs,rel,dd⟩:=xnx I.hok e
  refine wpAny_notIn_heap (tupleKind_room_in1 hu) (xj5 I.hok eb) hd dd ?_
  have q:=(rel.val k).isSome_eq
  rw [Option.isSome_map] at q
  rw [<- q,<- l]
  exact h _ (I.tok _)
theorem xlx {h':Heap} {t':Nat} {ob:HO} (I:Inv X pins σ H s) (mu:Mut (H a)) (hs:Heap.SameBut a s.heap h') (he:∃ q,h'.get? a=some q) (new:ObjOk X.prog X.w (upd H a ob) h' a ob) :
  Inv X pins σ (upd H a ob) { s with heap:=h',toks:=t' }:=
 I.write (x:=a) (e:=a) mu (.inl rfl) (fun b q hb z=>(hs.2 b hb).trans z) he new
theorem xmy {P:Program} {w:World} {H':Hp} {h':Heap} {kvs:List (Key×V)} {vs:List (Key×Value)} (z:kvs.length<=sizeLine) (hd:(a == sysModules)=false) (rel:KV kvs vs) (dd:h'.DictOf (xbw P w) a vs) :
  ObjOk P w H' h' a (.dK kvs):=⟨z,hd,vs,rel,dd⟩
theorem xpy {H':Hp} {Q:Unit->Shared->Prop} (hu:A.units + 1 < cLine) (I:Inv X pins σ H s) (g:DPut H a y v H') (ry:RelV y u) (rv:RelV v r) (h:∀ s',Inv X pins σ H' s'->Q () s') :
  wpAny (model X.prog X.w) A (setItem (.ref a) u r) Q E s:=by
 rcases g with ⟨kvs,k,e,ey,l,eH⟩ | ⟨kvs,k,b,e,ey,eb,l,eH⟩
 ·subst ey eH
  obtain ⟨z,hd,vs,rel,dd⟩:=xvu I.hok e
  have hz:vs.length<=sizeLine:=by rw [<- rel.length]; exact z
  have hl:(putK kvs k v).length<=sizeLine:=by have:=xd3 kvs k v; omega
  refine wpAny_setItem_pairs (hsz:=hz) (xlq ry) dd fun h' dd' hs=>h _ ?_
  have he:∃ q,h'.get? a=some q:=let ⟨q,_,_,hq,_⟩:=dd'; ⟨q,hq⟩
  exact xlx I (by rw [e]; exact True.intro) hs he (xmy hl hd (rel.put k rv) dd')
 ·subst ey eH
  cases (show u=Value.ref b from ry)
  obtain ⟨z,hd,xs,rel,dd⟩:=xw6 I.hok e
  have hz:xs.length<=sizeLine:=by rw [<- Paired.length rel]; exact z
  have hl:(putK kvs k v).length<=sizeLine:=by have:=xd3 kvs k v; omega
  refine wpAny_setItem_heap (hsz:=hz) (tupleKind_room_in1 hu) (xj5 I.hok eb) dd fun h' dd' hs=>h _ ?_
  obtain ⟨q,es,ep,hq,h2,h3,h4,_,h5⟩:=dd'
  refine xlx I (by rw [e]; exact True.intro) hs ⟨q,hq⟩ ⟨hl,hd,_,(rel.put k eb rv).keeps fun c ys ec=>?_,q,es,ep,hq,h2,h3,h4,h5⟩
  rw [xaz (xwr ec e (fun z=>nomatch z))]
  exact ec
end
section
variable {X:Cx} {pins:List (Addr×Obj)} {σ:St} {H:Hp} {s:Shared} {a:Addr} {kvs:List (Key×V)} {k:Key} {u:Value} {A:Around} {E:Value->Shared->Prop}
theorem xw7 {v:V} {more:List Value} {Q:Value->Shared->Prop} (I:Inv X pins σ H s) (e:H a=some (.dK kvs)) (ry:RelV (kV k) u) (l:valV kvs k=some v) (hm:more=[]\/∃ x,more=[x])
  (h:∀ w' s',Inv X pins σ (upd H a (.dK (xip kvs k))) s'->RelV v w'->Q w' s'):wpAny (model X.prog X.w) A (call (.builtin "dict.pop") (.ref a :: u :: more)) Q E s:=by
 obtain ⟨z,hd,vs,rel,dd⟩:=xvu I.hok e
 obtain ⟨w',hw,rw'⟩:=RelO.some_of (v:=v) (o:=valueAt vs k) (by rw [<- l]; exact rel.val k)
 have hp:(keyPart u).isSome=true:=by
  cases k with
  | inl i=>obtain ⟨t,q⟩:=(show ∃ t,u=Value.int i t from ry); subst q; rfl
  | inr x=>obtain ⟨t,q⟩:=(show ∃ t,u=Value.str x t from ry); subst q; rfl
 have ha:argsOk "dict.pop" ⟨.ref a :: u :: more,[]⟩:=by
  rcases hm with q | ⟨x,q⟩
  ·subst q; exact PySem.F.args_dict_pop_2 _ _
  ·subst q; exact PySem.F.args_dict_pop_3 _ _ _
 refine call_meetsIn PySem.F.slot_dict_pop dd.typeIs PySem.F.entry_dict_pop ha (meets_dict_pop_there (xbw X.prog X.w) a (xlq ry) more hm hp)
  ⟨vs,w',dd,by rw [<- rel.length]; exact z,hw,fun h' dd' hs=>h w' _ ?_ rw'⟩
 have he:∃ q,h'.get? a=some q:=let ⟨q,_,_,hq,_⟩:=dd'; ⟨q,hq⟩
 exact xlx I (by rw [e]; exact True.intro) hs he (xmy (Nat.le_trans (xrg kvs k) z) hd (rel.drop k) dd')
theorem xw8 {Q:Value->Shared->Prop} (I:Inv X pins σ H s) (e:Rd H a (.dK kvs)) (h:∀ t s',Inv X pins σ H s'->Q (.int kvs.length t) s'):wpAny (model X.prog X.w) A (call (.builtin "len") [.ref a]) Q E s:=by
 obtain ⟨z,hd,vs,rel,dd⟩:=xkf I.hok e
 refine call_len_dict hd dd (by rw [<- rel.length]; rw [sizeLine_eq] at z; omega) ?_
 rw [<- rel.length]
 exact h _ _ (I.tok _)
end
def NoSl (i:Expr):Prop:=∀ ov iv,subscripted i false ov iv=operate [ov,iv] (getItem ov iv)
theorem xsr {prog:Program} {w:World} {A:Around} {E:Value->Shared->Prop} {s:Shared} {env:Env} {value slice:Expr} {pos:Pos} {T id:String} {Q:Value->Shared->Prop}
  (hl:typeLookup (.type T) "__getitem__"=pure (some (.builtin id))) (hs:NoSl slice)
  (h:wpAny (model prog w) A (eval value env) (fun o s₁=>wpAny (model prog w) A (eval slice env) (fun i s₂=>s₂.TypeIs o T/\wpAny (model prog w) A (getItem o i) Q E s₂) E s₁) E s) :
  wpAny (model prog w) A (eval (.Subscript value slice pos) env) Q E s:=by
 refine Subscript_ (wpAny_mono h (fun o s₁ h₁=>wpAny_mono h₁ (fun i s₂ h₂=>?_) fun _ _ x=>x) fun _ _ x=>x)
 obtain ⟨hT,h₂⟩:=h₂
 unfold subscriptTail
 refine wpAny_bind ?_
 rw [getitemInPython_of_ne hT.not_modules]
 refine wpAny_bind (wpAny_specialOf hT hl ?_)
 have fin:wpAny (model prog w) A (subscripted slice false o i) (fun r s₃=>wpAny (model prog w) A (letTemporaryGo value o r >>= fun _=>pure r) Q E s₃) E s₂:=by
  rw [hs o i]
  exact wpAny_operating (wpAny_mono h₂ (fun r s₃ h₃=>wpAny_bind (wpAny_letTemporaryGo (wpAny_pure h₃))) fun _ _ x=>x)
 first
  | exact wpAny_pure (wpAny_bind fin)
  | exact wpAny_bind (wpAny_pure (wpAny_bind fin))
  | exact wpAny_bind fin
theorem xlw {X:Cx} {pins:List (Addr×Obj)} {σ:St} {H:Hp} {s:Shared} {a:Addr} {y:V} {o:Option V} (I:Inv X pins σ H s) (g:DGet H a y o):s.TypeIs (.ref a) "dict":=by
 rcases g with ⟨kvs,k,e,_,_⟩ | ⟨kvs,k,b,e,_,_,_⟩
 ·obtain ⟨_,_,vs,_,dd⟩:=xkf I.hok e
  exact dd.typeIs
 ·obtain ⟨_,_,xs,_,dd⟩:=xnx I.hok e
  exact dd.typeIs
def xwa (td ty:TE):TE:=fun σ H Q=>td σ H fun x H1=>ty σ H1 fun y H2=>∃ a v,x=.ref a/\DGet H2 a y (some v)/\Q v H2
def tDIn (ty td:TE):TE:=fun σ H Q=>ty σ H fun y H1=>td σ H1 fun x H2=>∃ a o,x=.ref a/\DGet H2 a y o/\Q (.bl o.isSome) H2
def xsq (ty td:TE):TE:=fun σ H Q=>ty σ H fun y H1=>td σ H1 fun x H2=>∃ a o,x=.ref a/\DGet H2 a y o/\Q (.bl (!o.isSome)) H2
def xwh (td ty tv:TE):TS:=fun D σ H=>tv σ H fun v H1=>td σ H1 fun x H2=>ty σ H2 fun y H3=>∃ a H4,x=.ref a/\DPut H3 a y v H4/\D.nx σ H4
section
variable {X:Cx} {o i e value:Expr} {pos pos' tpos:Pos} {td ty tv:TE}
theorem xia (hu:X.A.units + 1 < cLine) (ho:PE X o td) (hi:PE X i ty) (hs:NoSl i):PE X (.Subscript o i pos) (xwa td ty):=by
 intro pins s σ H Q I h
 refine xsr PySem.F.slot_dict_getitem.lookup hs (thn (ho pins s σ H _ I h) fun u s1 ⟨x,H1,I1,rx,q1⟩=>thn (hi pins s1 σ H1 _ I1 q1) fun iv s2 ⟨y,H2,I2,ry,a,v,ex,g,q2⟩=>?_)
 subst ex
 obtain rfl:u=Value.ref a:=rx
 exact ⟨xlw I2 g,xpz hu I2 g ry fun w' s3 I3 rw'=>⟨v,H2,I3,rw',q2⟩⟩
theorem xu1 (hu:X.A.units + 1 < cLine) (hi:PE X i ty) (ho:PE X o td):PC X .In i o (tDIn ty td):=by
 intro pins s σ H Q I h
 refine thn (hi pins s σ H _ I h) fun iv s1 ⟨y,H1,I1,ry,q1⟩=>thn (ho pins s1 σ H1 _ I1 q1) fun u s2 ⟨x,H2,I2,rx,a,ov,ex,g,q2⟩=>?_
 subst ex
 obtain rfl:u=Value.ref a:=rx
 exact d_in hu I2 g ry fun s3 I3=>⟨.bl ov.isSome,H2,I3,rfl,q2⟩
theorem xjc (hu:X.A.units + 1 < cLine) (hi:PE X i ty) (ho:PE X o td):PC X .NotIn i o (xsq ty td):=by
 intro pins s σ H Q I h
 refine thn (hi pins s σ H _ I h) fun iv s1 ⟨y,H1,I1,ry,q1⟩=>thn (ho pins s1 σ H1 _ I1 q1) fun u s2 ⟨x,H2,I2,rx,a,ov,ex,g,q2⟩=>?_
 subst ex
 obtain rfl:u=Value.ref a:=rx
 exact xtq hu I2 g ry fun s3 I3=>⟨.bl (!ov.isSome),H2,I3,rfl,q2⟩
theorem xsz (hu:X.A.units + 1 < cLine) (ho:PE X o td) (hi:PE X i ty) (hv:PE X value tv) (hs:swapsWith value (some (.Subscript o i pos')) pos.line X.env=pure false) :
  PS X (.Assign [.Subscript o i pos'] value pos) (xwh td ty tv):=by
 intro pins s σ H D I h
 refine wpAny_Assign_Subscript (thn (hv pins s σ H _ I h) fun r s1 ⟨v,H1,I1,rv,q1⟩=>thn (ho pins s1 σ H1 _ I1 q1) fun u s2 ⟨x,H2,I2,rx,q2⟩=>thn (hi pins s2 σ H2 _ I2 q2) fun iv s3 ⟨y,H3,I3,ry,a,H4,ex,g,q3⟩=>?_) hs
 subst ex
 obtain rfl:u=Value.ref a:=rx
 exact xpy hu I3 g ry rv fun s4 I4=>⟨σ,H4,I4,q3⟩
end
def xav (kvs more:List (Key×V)):List (Key×V):=more.foldl (fun acc kv=>putK acc kv.1 kv.2) kvs
theorem KV.merge:∀ {more:List (Key×V)} {rs:List (Key×Value)} {kvs:List (Key×V)} {vs:List (Key×Value)},KV more rs->KV kvs vs->KV (xav kvs more) (merged vs rs):=by
 intro more rs kvs vs r
 unfold KV at r
 induction r generalizing kvs vs with
 | nil=>intro q; exact q
 | @cons p q ps qs h t ih=>
  intro r0
  have e:KV (putK kvs p.1 p.2) (stored vs q.1 q.2):=by
   have:=r0.put p.1 h.2
   rw [<- h.1]; exact this
  exact ih e
theorem xcl:∀ (more kvs:List (Key×V)),(xav kvs more).length<=kvs.length + more.length
 | [],kvs=>by show kvs.length<=kvs.length + 0; omega
 | p :: r,kvs=>by
  have h1:=xcl r (putK kvs p.1 p.2)
  have h2:=xd3 kvs p.1 p.2
  show (xav (putK kvs p.1 p.2) r).length<=_
  rw [List.length_cons]; omega
structure M1 (X:Cx) (o:Expr) (m:Str) (apos:Pos) (e:Expr) (cpos:Pos):Prop where
 base:attributeBase o m X.env (eval o X.env)=eval o X.env
 few:((backTo cpos (starEach [e] X.env)).all (fun x=>!x.1) && (backToKw cpos (keywordEach [] X.env)).all (fun x=>x.1.isSome)
  && decide (([e]:List Expr).length + ([]:List Keyword).length + (if ([]:List Keyword).isEmpty then 0 else 1) < 30))=true
 line:(apos.endLine == cpos.line)=true
 trees:backTo cpos (starEach [e] X.env)=[(false,eval e X.env)]
def IsD (H:Hp) (a:Addr):Prop:=(∃ kvs,Rd H a (.dK kvs))\/∃ kvs,Rd H a (.dT kvs)
theorem xvm {X:Cx} {pins:List (Addr×Obj)} {σ:St} {H:Hp} {s:Shared} {a:Addr} (I:Inv X pins σ H s) (d:IsD H a) :
  s.TypeIs (.ref a) "dict"/\(∀ b,Value.ref a=.ref b->∃ ob,s.heap.get? b=some ob/\ob.dict=none)/\(a == sysModules)=false:=by
 rcases d with ⟨kvs,e⟩ | ⟨kvs,e⟩
 ·obtain ⟨_,hd,vs,_,dd⟩:=xkf I.hok e
  refine ⟨dd.typeIs,fun b q=>?_,hd⟩
  cases q
  obtain ⟨ob,_,_,h1,h2,_⟩:=dd
  exact ⟨ob,h1,h2.2.1⟩
 ·obtain ⟨_,hd,xs,_,dd⟩:=xnx I.hok e
  refine ⟨dd.typeIs,fun b q=>?_,hd⟩
  cases q
  obtain ⟨ob,_,_,h1,h2,_⟩:=dd
  exact ⟨ob,h1,h2.2.1⟩
def xuc (td ty:TE):TE:=fun σ H Q=>td σ H fun x H1=>∃ a,x=.ref a/\IsD H1 a/\ty σ H1 fun y H2=>∃ kvs k v,H2 a=some (.dK kvs)/\y=kV k/\valV kvs k=some v/\Q v (upd H2 a (.dK (xip kvs k)))
section
variable {X:Cx} {o e f:Expr} {apos cpos:Pos} {td ty tx:TE}
theorem xqr (ho:PE X o td) (he:PE X e ty) (m:M1 X o "pop" apos e cpos):PE X (.Call (.Attribute o "pop" apos) [e] [] cpos) (xuc td ty):=by
 intro pins s σ H Q I h
 refine wpAny_Call_method m.base m.few m.line PySem.F.plainAttrs_dict PySem.F.slot_dict_pop PySem.F.type_dict_pop (thn (ho pins s σ H _ I h) fun u s1 ⟨x,H1,I1,rx,a,ex,d,q1⟩=>?_)
 subst ex
 obtain rfl:u=Value.ref a:=rx
 obtain ⟨t1,t2,_⟩:=xvm I1 d
 refine ⟨t1,t2,?_⟩
 rw [m.trees]
 refine Calls.callWith_builtin rfl (Calls.evalArgs_plain (Calls.spliced_cons (thn (he pins s1 σ H1 _ I1 q1) fun iv s2 ⟨y,H2,I2,ry,kvs,k,v,ea,ey,l,q2⟩=>Calls.spliced_nil ?_)))
 subst ey
 exact xw7 I2 ea ry l (.inl rfl) fun w' s3 I3 rw'=>⟨v,_,I3,rw',q2⟩
end
section
variable {X:Cx} {pins:List (Addr×Obj)} {σ:St} {H:Hp} {s:Shared} {a:Addr} {kvs:List (Key×V)} {A:Around} {E:Value->Shared->Prop}
theorem xrh {Q:Value->Shared->Prop} (I:Inv X pins σ H s) (e:Rd H a (.dK kvs)) (h:∀ p s',H p=none->Inv X pins σ (upd H p (.dK kvs)) s'->Q (.ref p) s'):wpAny (model X.prog X.w) A (call (.type "dict") [.ref a]) Q E s:=by
 obtain ⟨z,hd,vs,rel,dd⟩:=xkf I.hok e
 refine kt_call_dict hd dd (by rw [<- rel.length]; exact z) fun h' dd' hs=>?_
 refine h _ _ (I.hok.fresh (Nat.le_refl _)) (I.laid (a:=s.heap.objs.size) (o:=.dK kvs) (t':=s.toks) (fun b q hq=>?_) (Nat.le_refl _) (xmy z (beq_eq_false_iff_ne.mpr (Ne.symm (Nat.ne_of_lt I.big))) rel dd'))
 exact (hs.2 b (Nat.ne_of_lt (Heap.lt_size hq))).trans (zPO _ hq)
end
end L2
namespace L2
open PySem PySem.Spec PyProof.Rows
section
variable {X:Cx}
theorem xp4:xfz X (.builtin "len") (fun xs H Q=>∃ a kvs,xs=[V.ref a]/\H a=some (.dK kvs)/\Q (.int kvs.length) H):=by
 intro pins s σ H xs us Q I r h
 obtain ⟨a,kvs,rfl,ha,q⟩:=h
 obtain ⟨u,rfl,ru⟩:=xf6 r
 cases ru
 exact xw8 I (.inl ha) fun t s' I'=>⟨.int kvs.length,H,I',⟨t,rfl⟩,q⟩
end
section
variable {κ:Type} [DecidableEq κ]
theorem xll:∀ {l:List κ} {k:κ},l.Nodup->¬ k∈l->(l++[k]).Nodup
 | [],k,_,_=>by simp
 | a :: r,k,h,hk=>by
  obtain ⟨h1,h2⟩:=List.nodup_cons.mp h
  show (a :: (r++[k])).Nodup
  refine List.nodup_cons.mpr ⟨fun m=>?_,xll h2 fun m=>hk (List.mem_cons.mpr (Or.inr m))⟩
  rcases zMA m with q | q
  ·exact h1 q
  ·exact hk (List.mem_cons.mpr (Or.inl (zMO q).symm))
end
end L2
end
section
namespace L2
open PySem PySem.Spec PyProof.Rows
section
variable {X:Cx}
theorem xh2:xfz X (.type "dict") (fun xs H Q=>∃ a kvs,xs=[V.ref a]/\H a=some (.dK kvs)/\∀ p,H p=none->Q (.ref p) (upd H p (.dK kvs))):=by
 intro pins s σ H xs us Q I r h
 obtain ⟨a,kvs,rfl,ha,q⟩:=h
 obtain ⟨u,rfl,ru⟩:=xf6 r
 cases ru
 exact xrh I (.inl ha) fun p s' hp I'=>⟨.ref p,_,I',rfl,q p hp⟩
end
section
variable {ix:Cap} {tt:TT} {te:TE} {g:TG} {σ:St} {H:Hp} {Q:VK}
def NxtG (Pv:Nat->List V->Hp->Prop) (n i:Nat) (ys:List V):VK:=fun y H2=>∃ m',m' < n - i/\m'=n - (i + 1)/\i + 1<=n/\(ys++[y]).length<=i + 1/\Pv (i + 1) (ys++[y]) H2
def NxtN (Pv:Nat->List V->Hp->Prop) (n i:Nat) (ys:List V):Hp->Prop:=fun H2=>∃ m',m' < n - i/\m'=n - (i + 1)/\i + 1<=n/\ys.length<=i + 1/\Pv (i + 1) ys H2
theorem nxtG {Pv:Nat->List V->Hp->Prop} {n i:Nat} {ys:List V} {y:V} {H2:Hp} (hi:i < n) (hl:ys.length<=i) (h:Pv (i + 1) (ys++[y]) H2):NxtG Pv n i ys y H2:=
 ⟨n - (i + 1),by omega,rfl,hi,by rw [zLA,List.length_singleton]; omega,h⟩
theorem nxtN {Pv:Nat->List V->Hp->Prop} {n i:Nat} {ys:List V} {H2:Hp} (hi:i < n) (hl:ys.length<=i) (h:Pv (i + 1) ys H2):NxtN Pv n i ys H2:=
 ⟨n - (i + 1),by omega,rfl,hi,by omega,h⟩
theorem xco {K:PySem.W.Frag} {a:Addr} {xs:List V} (Pv:Nat->List V->Hp->Prop) (h0:Pv 0 [] H) (hn:xs.length < sizeLine) (hl':∀ i ys H,i<=xs.length->Pv i ys H->SqT K H a xs)
  (hs:∀ i x ys H,xs[i]?=some x->i < xs.length->ys.length<=i->Pv i ys H->g x (capt ix σ) H fun σ2 H2=>Ext (capt ix σ) σ2/\tt σ2 H2 fun b H3=>if b=true then te σ2 H3 (NxtG Pv xs.length i ys) else NxtN Pv xs.length i ys H3)
  (hd:∀ ys H,ys.length<=xs.length->Pv xs.length ys H->∀ D,H D=none->Q (.ref D) (upd H D (.lst ys))):xhh (Itt K a) ix g tt te σ H Q:=by
 refine ⟨fun i m ys H=>m=xs.length - i/\i<=xs.length/\ys.length<=i/\Pv i ys H,⟨xs.length,by simp,Nat.zero_le _,Nat.le_refl _,h0⟩,?_⟩
 rintro i m ys H ⟨rfl,hi,hl,p⟩
 have q:=hl' i ys H hi p
 by_cases hlt:i < xs.length
 ·refine .inr ⟨⟨xs,xs[i],q,by simp [hlt]⟩,by omega,fun v H' y=>?_⟩
  obtain ⟨e,y⟩:=y
  subst e
  exact hs i v ys _ (y xs q) hlt hl p
 ·have e:i=xs.length:=by omega
  subst e
  exact .inl ⟨⟨xs,q,Nat.le_refl _⟩,hd ys H hl p⟩
theorem xch {K:PySem.W.Frag} {a:Addr} {xs:List V} (Pv:Nat->List V->Hp->Prop) (h0:Pv 0 [] H) (hn:xs.length < sizeLine) (hl':∀ i ys H,i<=xs.length->Pv i ys H->SqL K H a xs)
  (hs:∀ i x ys H,xs[i]?=some x->i < xs.length->ys.length<=i->Pv i ys H->g x (capt ix σ) H fun σ2 H2=>Ext (capt ix σ) σ2/\tt σ2 H2 fun b H3=>if b=true then te σ2 H3 (NxtG Pv xs.length i ys) else NxtN Pv xs.length i ys H3)
  (hd:∀ ys H,ys.length<=xs.length->Pv xs.length ys H->∀ D,H D=none->Q (.ref D) (upd H D (.lst ys))):xhh (Itl K a) ix g tt te σ H Q:=by
 refine ⟨fun i m ys H=>m=xs.length - i/\i<=xs.length/\ys.length<=i/\Pv i ys H,⟨xs.length,by simp,Nat.zero_le _,Nat.le_refl _,h0⟩,?_⟩
 rintro i m ys H ⟨rfl,hi,hl,p⟩
 have q:=hl' i ys H hi p
 by_cases hlt:i < xs.length
 ·refine .inr ⟨⟨xs,xs[i],q,by simp [hlt]⟩,by omega,fun v H' y=>?_⟩
  obtain ⟨e,y⟩:=y
  subst e
  exact hs i v ys _ (y xs q) hlt hl p
 ·have e:i=xs.length:=by omega
  subst e
  exact .inl ⟨⟨xs,q,Nat.le_refl _⟩,hd ys H hl p⟩
theorem ext2 {σ:St} {i j:Nat} {v w:Option V} (h:σ[i]?=some none) (k:σ[j]?=some none):Ext σ ((σ.set i v).set j w):=by
 refine ⟨by simp,fun n w' e=>?_⟩
 have h1:i≠n:=fun z=>by subst z; rw [h] at e; cases e
 have h2:j≠n:=fun z=>by subst z; rw [k] at e; cases e
 rw [List.getElem?_set_ne h2,List.getElem?_set_ne h1]
 exact e
end
section
variable {X:Cx}
def xuu:V->List V->Hp->VK->Prop:=fun x vs H Q=>∃ l,∃ ys:List Str,∃ z j,x=.ref l/\vs=[.str z]/\H l=some (.lst (ys.map V.str))/\ys.findIdx? (fun y=>decide (y=z))=some j/\Q (.int (j:Nat)) H
theorem xq5:MtM X "list.index" xuu:=by
 intro pins s σ H x vs v us Q I rx rv h
 obtain ⟨l,ys,z,j,rfl,rfl,hH,hj,q⟩:=h
 cases rx
 obtain ⟨u,rfl,ru⟩:=rv.one
 obtain ⟨z0,its,n,r,hl,e⟩:=I.lstM hH
 have fs:(ys.map V.str).all xfl=true:=by
  rw [List.all_eq_true]
  intro y hy
  obtain ⟨y',_,rfl⟩:=zMP hy
  rfl
 obtain ⟨h1,h2,h3⟩:=List.findIdx?_eq_some_iff_getElem.mp hj
 rw [zLM] at hl z0
 have at':∀ i (hi:i < ys.length) (hi2:i < its.toArray.size),eqU (.str z) its.toArray[i]=decide (ys[i]=z):=fun i hi hi2=>by
  obtain ⟨u',e',r'⟩:=r.get (i:=i) (x:=.str ys[i]) (by rw [zGM,zGA hi]; rfl)
  have g:its.toArray[i]=u':=by
   have:its[i]?=some its[i]:=zGA (by omega)
   rw [e'] at this
   simpa using (Option.some.inj this).symm
  rw [g,xps r' rfl]
  show (ys[i] == z)=_
  rw [Bool.eq_iff_iff]
  simp
 refine call_meets F.slot_list_index ⟨_,e,rfl⟩ F.entry_list_index (F.args_list_index_2 _ _) (SeqAt.list_indexAt l its.toArray n none #[] u (eqU (.str z)) j (by simp; omega) ?_ ?_ ?_) ⟨e,fun y hy=>xer ru rfl r fs y (by simpa using hy),⟨.int j,H,I.tok _,⟨_,rfl⟩,q⟩⟩
 ·rw [sizeLine_eq] at z0
  omega
 ·rw [at' j h1 (by simp; omega)]
  exact h2
 ·intro m hm hlt
  rw [at' m (by omega) hm]
  have:=h3 m hlt
  simpa using this
end
end L2
namespace L2
open PySem PySem.Spec PyProof.Rows
theorem xi1:∀ {ns:List Int},(∀ n∈ns,0<=n/\n<=1000000)->0<=ns.sum/\ns.sum<=1000000 * (ns.length:Int)
 | [],_=>by simp
 | n :: ns,h=>by
  have h1:=h n (by simp)
  have h2:=xi1 (ns:=ns) fun m hm=>h m (List.mem_cons_of_mem _ hm)
  rw [List.sum_cons,List.length_cons]
  push_cast
  omega
section
variable {X:Cx}
theorem xkh (hc:X.calm=true):xfz X (.builtin "sum") (fun xs H Q=>∃ p,∃ ns:List Int,xs=[.ref p]/\SqL X.K H p (ns.map V.int)/\(∀ n∈ns,0<=n/\n<=1000000)/\ns.length<=1000/\Q (.int ns.sum) H):=by
 intro pins s σ H xs us Q I r h
 obtain ⟨p,ns,rfl,hq,hb,hlen,q⟩:=h
 obtain ⟨u,rfl,ru⟩:=xf6 r
 cases ru
 obtain ⟨its,rv,pl,hz⟩:=I.list hq
 have hi:=xhy rv
 obtain ⟨xs,e⟩:=hi.allInts.items
 have hns:ns=xs.toList.map (·.1):=by rw [<- hi.numsOf,<- nums_intItems,<- e]
 have hl:=pl.isList
 rw [e] at hl
 have hsz:xs.size=ns.length:=by rw [hns,zLM,Array.length_toList]
 refine sum_intList (I.ok.hd hc) hl (fun j hj=>?_) fun h' tk t' k=>⟨.int ns.sum,H,I.kept k,?_,q⟩
 ·have hm:numAt xs j∈ns:=by
   rw [hns,numAt_eq]
   exact getD_mem (by rw [zLM,Array.length_toList]; exact hj)
  have h1:=hb _ hm
  have h2:=xi1 (ns:=ns.take (j + 1)) fun n hn=>hb n (List.mem_of_mem_take hn)
  have h3:(ns.take (j + 1)).length<=1000:=Nat.le_trans (List.length_take_le _ _) (by omega)
  rw [preSum_eq,<- hns]
  unfold InLong
  omega
 ·refine ⟨t',?_⟩
  rw [preSum_eq,<- hns,zTL (by omega)]
theorem xki (hc:X.calm=true):xfz X (.builtin "max") (fun xs H Q=>∃ p,∃ ns:List Int,xs=[.ref p]/\SqL X.K H p (ns.map V.int)/\ns≠[]/\∀ m,m∈ns->(∀ n∈ns,n<=m)->Q (.int m) H):=by
 intro pins s σ H xs us Q I r h
 obtain ⟨p,ns,rfl,hq,hne,q⟩:=h
 obtain ⟨u,rfl,ru⟩:=xf6 r
 cases ru
 obtain ⟨its,rv,pl,hz⟩:=I.list hq
 have hi:=xhy rv
 obtain ⟨xs,e⟩:=hi.allInts.items
 have hns:ns=xs.toList.map (·.1):=by rw [<- hi.numsOf,<- nums_intItems,<- e]
 have hl:=pl.isList
 rw [e] at hl
 have hsz:xs.size=ns.length:=by rw [hns,zLM,Array.length_toList]
 have hp:0 < ns.length:=List.length_pos_iff.mpr hne
 refine max_intList (I.ok.hd hc) hl (by omega) fun v h' tk hv k=>?_
 obtain ⟨t,rfl⟩:=intItems_at hv
 obtain ⟨h1,h2⟩:=argBest_gt (numAt xs) (xs.size - 1)
 refine ⟨.int _,H,I.kept k,⟨t,rfl⟩,q _ ?_ fun a ha=>?_⟩
 ·rw [hns,numAt_eq]
  exact getD_mem (by rw [zLM,Array.length_toList]; omega)
 ·rw [hns] at ha
  obtain ⟨j,hj,rfl⟩:=mem_getD ha
  rw [zLM,Array.length_toList] at hj
  rw [<- numAt_eq]
  exact h2 j (by omega)
end
end L2
namespace L2
open PySem PySem.Spec PyProof.Rows
section
variable {X:Cx} {K:PySem.W.Frag}
theorem xd6 (h:X.K=K):IxR X (rIxT K):=by subst h; exact xal
theorem xmr (h:X.K=K):IxR X (rIxL K):=by subst h; exact iL
theorem xd2 {es:List Expr} {k:Nat} {t:TGs} {n:Nat} {pos:Pos} (hK:X.K=K) (hc:X.calm=true) (h:PGs X es t)
  (hn:(assignEach es X.env).length=n:=by rfl) (hst:(assignEach es X.env).findIdx? (·.1)=none:=by rfl):PG X (.Tuple es k pos) (gTup K n t):=by subst hK; exact xck hc h hn hst
end
end L2
end
section
namespace Zt
open PySem PySem.Spec PyProof.Rows
section
variable {prog:Program} {w:World} {A:Around} {E:Value->Shared->Prop} {s:Shared}
theorem call_zipN {l1 l2:Addr} {xs ys:Array Value} {Q:Value->Shared->Prop} (hl1:s.heap.IsTuple l1 xs) (hl2:s.heap.IsTuple l2 ys)
  (h:∀ h',IsZip h' (s.heap.objs.size + 4) (s.heap.objs.size + 2) (s.heap.objs.size + 3) .none->IsPair h' (s.heap.objs.size + 2) (.ref s.heap.objs.size) (.ref (s.heap.objs.size + 1))->(∃ a b,IsPair h' (s.heap.objs.size + 3) a b)->
   h'.IsTupleIter s.heap.objs.size l1 0->h'.IsTupleIter (s.heap.objs.size + 1) l2 0->(∀ c o,s.heap.get? c=some o->h'.get? c=some o)->Q (.ref (s.heap.objs.size + 4)) { s with heap:=h' }) :
  wpAny (model prog w) A (call (.type "zip") [.ref l1,.ref l2]) Q E s:=by
 refine callType_new F.called_zip (by decide) (F.typeCall_zip_2 _ _) (F.newCall_zip_2 _ _) (fun obj=>F.args_object_init_3 obj _ _) F.entry_zip_new
  (xpa l1 l2 xs ys) ⟨hl1,hl2,?_⟩
 have z1:(zH1 s.heap l1).objs.size=s.heap.objs.size + 1:=Heap.size_push ..
 have z2:(zH2 s.heap l1 l2).objs.size=s.heap.objs.size + 2:=by rw [Heap.size_push,z1]
 have z3:(zH3 s.heap l1 l2).objs.size=s.heap.objs.size + 3:=by rw [Heap.size_push,z2]
 have z4:(zH4 s.heap l1 l2).objs.size=s.heap.objs.size + 4:=by rw [Heap.size_push,z3]
 have g5:(zH5 s.heap l1 l2).get? (zH4 s.heap l1 l2).objs.size=some _:=Heap.get?_push_size _ rfl
 have g4:(zH5 s.heap l1 l2).get? (zH3 s.heap l1 l2).objs.size=some _:=zPO _ (Heap.get?_push_size _ rfl)
 have g3:(zH5 s.heap l1 l2).get? (zH2 s.heap l1 l2).objs.size=some _:=zPO _ (zPO _ (Heap.get?_push_size _ rfl))
 have g2:(zH5 s.heap l1 l2).get? (zH1 s.heap l1).objs.size=some _:=zPO _ (zPO _ (zPO _ (Heap.get?_push_size _ rfl)))
 have g1:(zH5 s.heap l1 l2).get? s.heap.objs.size=some _:=zPO _ (zPO _ (zPO _ (zPO _ (Heap.get?_push_size _ rfl))))
 have kp:∀ c o,s.heap.get? c=some o->(zH5 s.heap l1 l2).get? c=some o:=fun c o e=>zPO _ (zPO _ (zPO _ (zPO _ (zPO _ e))))
 show _/\_
 rw [z2,z3,z4] at g5
 rw [z1,z2] at g3
 rw [z3] at g4
 rw [z1] at g2
 rw [z4]
 exact ⟨⟨_,g5,rfl⟩,h _ g5 g3 ⟨_,_,g4⟩ ⟨_,g1,rfl,rfl⟩ ⟨_,g2,rfl,rfl⟩ kp⟩
end
end Zt
namespace L2
open PySem PySem.Spec PyProof.Rows
section
variable {X:Cx} {pins:List (Addr×Obj)} {σ:St} {H:Hp} {s:Shared} {h':Heap}
theorem Inv.turnedM {t':Nat} {fp:List Addr} (I:Inv X pins σ H s) (k:∀ b o,b ∉ fp->s.heap.get? b=some o->h'.get? b=some o) (hf:∀ b∈fp,FpOk X pins H b):Inv X pins σ H { s with heap:=h',toks:=t' }:=by
 have nit:∀ b u,H b=some u->b ∉ fp:=fun b u e z=>by rw [(hf b z).1] at e; cases e
 refine I.step (g':=s.gens) (d':=s.drawn) (ch:=fp) (fun b hb=>?_) (fun b o _ _ hc e _=>k b o hc e) (fun b o _ _ hc e _=>⟨o.slots,k b o hc e⟩) (fun _ _ _ _ n=>n)
  (fun b o hc e=>⟨o,k b o hc e⟩) (fun _ _ e=>e) (fun _ _ _ e=>e) (fun b ps e=>⟨#[],by rw [e]; simp⟩) (fun m hm=>?_) (fun b u e=>?_) I.bare
 ·obtain ⟨f0,f1,f2,f3,f4,f5⟩:=hf b hb
  exact ⟨f3,f1,f4,f5⟩
 ·obtain ⟨o,es,ep,ho,r⟩:=hm
  exact ⟨o,es,ep,k _ o (fun z=>(hf _ z).2.1 rfl) ho,r⟩
 ·refine (I.hok b u e).stay (fun c v hc q=>k c v ?_ q) (fun _ q=>q) fun _ _ q=>q
  rcases hc with z | z
  ·rw [z]; exact nit b u e
  ·exact nit c _ z
end
theorem xls {h:Heap} {o u:Obj} {b:Addr} (e:(h.push o).get? b=some u) (q:b≠h.objs.size):h.get? b=some u:=by
 rwa [Heap.get?_push_ne h b o q] at e
section
variable {X:Cx}
def Itz (K:PySem.W.Frag) (a b:Addr):It:=
  ⟨fun i H=>∃ xs ys x y,SqT K H a xs/\SqT K H b ys/\xs[i]?=some x/\ys[i]?=some y,fun i H x H'=>∃ p u v,x=.ref p/\H p=none/\H'=upd H p (.tup [u,v])/\(∀ xs,SqT K H a xs->xs[i]?=some u)/\∀ ys,SqT K H b ys->ys[i]?=some v,
   fun i H=>∃ xs ys,SqT K H a xs/\SqT K H b ys/\xs.length<=i⟩
theorem xqa {P:Program} {w:World} {K:PySem.W.Frag} {elts:List Expr} {x1} {pos:Pos} {a b z TI TO i1 i2:Addr} (D:ZipApart z TI TO i1 i2 a b) :
  Turn P w K (.Tuple elts x1 pos) (Itz K a b) [z,TI,TO,i1,i2] z (fun i h=>IsZip h z TI TO .none/\IsPair h TI (.ref i1) (.ref i2)/\(∃ u v,IsPair h TO u v)/\h.IsTupleIter i1 a i/\h.IsTupleIter i2 b i) where
 mem:=by simp
 obj:=fun i h st c hc=>by
  obtain ⟨s1,s2,⟨u,v,s3⟩,s4,s5⟩:=st
  simp only [List.mem_cons,List.not_mem_nil,or_false] at hc
  rcases hc with rfl | rfl | rfl | rfl | rfl
  ·exact ⟨_,s1,fun v z=>by cases z⟩
  ·exact ⟨_,s2,fun v z=>by cases z⟩
  ·exact ⟨_,s3,fun v z=>by cases z⟩
  ·obtain ⟨o,e,c,d⟩:=s4
   exact ⟨o,e,fun v z=>by rw [d] at z; cases z⟩
  ·obtain ⟨o,e,c,d⟩:=s5
   exact ⟨o,e,fun v z=>by rw [d] at z; cases z⟩
 keep:=fun i h h' st k=>by
  obtain ⟨s1,s2,⟨u,v,s3⟩,s4,s5⟩:=st
  exact ⟨k z (by simp) _ s1,k TI (by simp) _ s2,⟨u,v,k TO (by simp) _ s3⟩,s4.at fun o q=>k i1 (by simp) o q,s5.at fun o q=>k i2 (by simp) o q⟩
 item:=by
  intro X hP hw hK hc i pins s σ H E I hf st hg
  subst hP hw hK
  obtain ⟨xs,ys,x,y,hq,hq',hx,hy⟩:=hg
  obtain ⟨its,rv,p,hz⟩:=I.tuple hq
  obtain ⟨its',rv',p',hz'⟩:=I.tuple hq'
  obtain ⟨u,hu,ru⟩:=rv.get hx
  obtain ⟨u',hu',ru'⟩:=rv'.get hy
  obtain ⟨s1,s2,⟨_,_,s3⟩,s4,s5⟩:=st
  have hT:s.TypeIs (.ref z) "zip":=⟨_,s1,rfl⟩
  unfold pyNext
  refine wpAny_bind (wpAny_attempt (wpAny_callSpecial?_slot (name:=Str.ofString "__next__") hT F.slot_zip_next
   (wpAny_call_entry F.slot_zip_next hT F.entry_zip_next
    (Zt.item_first D s1 s2 s3 s4 s5 p p' (x:=u) (y:=u') (by simpa using hu) (by simpa using hu') fun h1 a1 a2 a3 a4 a5 a6 a7=>wpAny_pure ⟨_,rfl,wpAny_letOwnedTupleGo_zip a1 fun h2 b1 b2=>?_⟩) (F.args_zip_next_1 _))))
  have hp0:H s.heap.objs.size=none:=I.hok.fresh (Nat.le_refl _)
  have g1:(s.heap.push { cls:=.type "tuple",data:=.seq #[u,u'] }).get? s.heap.objs.size=some { cls:=.type "tuple",data:=.seq #[u,u'] }:=Heap.get?_push_size _ rfl
  have I1:Inv X pins σ (upd H s.heap.objs.size (.tup [x,y])) { s with heap:=s.heap.push { cls:=.type "tuple",data:=.seq #[u,u'] },toks:=s.toks }:=
   I.laid (fun b o q=>zPO _ q) (Nat.le_refl _) ⟨by show 2<=sizeLine; decide,[u,u'],.cons ru (.cons ru' .nil),⟨_,g1,rfl,_,rfl,rfl⟩⟩
  have lt:∀ c∈[z,TI,TO,i1,i2],c≠s.heap.objs.size:=fun c hc=>by
   simp only [List.mem_cons,List.not_mem_nil,or_false] at hc
   rcases hc with rfl | rfl | rfl | rfl | rfl
   ·exact Nat.ne_of_lt (Heap.lt_size s1)
   ·exact Nat.ne_of_lt (Heap.lt_size s2)
   ·exact Nat.ne_of_lt (Heap.lt_size s3)
   ·obtain ⟨o,q,_⟩:=s4
    exact Nat.ne_of_lt (Heap.lt_size q)
   ·obtain ⟨o,q,_⟩:=s5
    exact Nat.ne_of_lt (Heap.lt_size q)
  have hf1:∀ c∈[z,TI,TO,i1,i2],FpOk X pins (upd H s.heap.objs.size (.tup [x,y])) c:=fun c hc=>by
   refine ⟨?_,(hf c hc).2⟩
   rw [xaz (lt c hc)]
   exact (hf c hc).1
  have I2:Inv X pins σ (upd H s.heap.objs.size (.tup [x,y])) { s with heap:=h2,toks:=s.toks }:=
   I1.turnedM (t':=s.toks) (fun c o hb q=>by
    have nb:c≠z/\c≠TI/\c≠TO/\c≠i1/\c≠i2:=by simpa using hb
    have q1:h1.get? c=some o:=by
     by_cases e:c=s.heap.objs.size
     ·subst e
      have q':(s.heap.push { cls:=.type "tuple",data:=.seq #[u,u'] }).get? s.heap.objs.size=some o:=q
      rw [g1] at q'
      cases q'
      exact a5
     ·exact a7 c o nb.1 nb.2.2.1 nb.2.2.2.1 nb.2.2.2.2 (xls q e)
    exact (b2.2 c nb.1).trans q1) hf1
  refine ⟨.ref s.heap.objs.size,_,I2,rfl,⟨_,x,y,rfl,hp0,rfl,fun zs hy'=>by rw [I.tuple_inj hy' hq]; exact hx,fun zs hy'=>by rw [I.tuple_inj hy' hq']; exact hy⟩,⟨b1,?_,⟨_,_,(b2.2 _ D.TOz).trans a2⟩,a3.at fun o q=>(b2.2 _ D.i1z).trans q,a4.at fun o q=>(b2.2 _ D.i2z).trans q⟩,fun c hc=>(hf1 c hc).1⟩
  exact (b2.2 _ D.TIz).trans (a7 _ _ D.TIz D.TITO D.TIi1 D.TIi2 s2)
 done:=by
  intro X hP hw hK hc i pins s σ H E I hf st hg
  subst hP hw hK
  obtain ⟨xs,ys,hq,hq',hx⟩:=hg
  obtain ⟨its,rv,p,hz⟩:=I.tuple hq
  obtain ⟨its',rv',p',hz'⟩:=I.tuple hq'
  obtain ⟨s1,s2,s3,s4,s5⟩:=st
  have hl:=rv.length
  exact Zt.pyNext_end (I.ok.hd hc) D ⟨.inl s1,s2,s3,s4,s5,p,p'⟩ (by simp; omega) fun h' kk=>⟨rfl,I.turnedM (t':=s.toks) (fun c o hb q=>by
   have nb:c≠z/\c≠TI/\c≠TO/\c≠i1/\c≠i2:=by simpa using hb
   exact kk c o nb.1 nb.2.2.2.1 q) hf⟩
 self:=fun _ _ _ _ _ st h=>wpAny_pyIter_zip st.1 h
def iZip (K:PySem.W.Frag) (ta:TA):TI:=fun σ H R=>ta σ H fun vs H1=>∃ a b,vs=[.ref a,.ref b]/\(∃ xs,SqT K H1 a xs)/\(∃ ys,SqT K H1 b ys)/\R (Itz K a b) H1
theorem xuv {a b:Expr} {ta:TA} {p pos:Pos} {elts:List Expr} {x1} {tp:Pos} (hg:Gl X "zip") (hm:X.mg "zip"=none) (ha:PA X [a,b] ta) (hs:starEach [a,b] X.env=[(false,eval a X.env),(false,eval b X.env)]:=by rfl) (hs2:starEach [b] X.env=[(false,eval b X.env)]:=by rfl) :
  PI X (.Tuple elts x1 tp) (.Call (.Name "zip" p) [a,b] [] pos) (iZip X.K ta):=by
 intro pins s σ H R I h
 refine Call_ (xdu I hg hm PyProof.Rows.boot_zip (PyProof.Rows.callWith_type1 (thn (ha pos pins s σ H _ I h) fun us s1 ⟨vs,H1,I1,r1,q1⟩=>?_) (by rw [hs,hs2]) (by rw [hs2]; rfl)))
 obtain ⟨l1,l2,e,⟨xs,hx⟩,⟨ys,hy⟩,q⟩:=q1
 subst e
 obtain ⟨u1,u2,rfl,e1,e2⟩:=r1.two
 cases e1
 cases e2
 obtain ⟨its,rx,tx,hzx⟩:=I1.tuple hx
 obtain ⟨jts,ry,ty,hzy⟩:=I1.tuple hy
 have a1:l1 < s1.heap.objs.size:=by obtain ⟨_,e,_⟩:=tx; exact Heap.lt_size e
 have a2:l2 < s1.heap.objs.size:=by obtain ⟨_,e,_⟩:=ty; exact Heap.lt_size e
 have D:=PyProof.Rows.zipApart_new a1 a2
 refine Zt.call_zipN tx ty fun h1 z1 z2 z3 z4 z5 kp=>wpAny_pyIter_zip z1 ?_
 refine ⟨s1.heap.objs.size + 4,[s1.heap.objs.size + 4,s1.heap.objs.size + 2,s1.heap.objs.size + 3,s1.heap.objs.size,s1.heap.objs.size + 1],_,_,H1,rfl,I1.kept (t':=s1.toks) kp,xqa D,⟨z1,z2,z3,z4,z5⟩,fun c hc=>?_,q⟩
 have hc':s1.heap.objs.size<=c:=by
  simp only [List.mem_cons,List.not_mem_nil,or_false] at hc
  rcases hc with z | z | z | z | z <;> subst z <;> first | exact Nat.le_add_right _ _ | exact Nat.le_refl _
 exact I1.fpOk hc' (I1.hok.fresh hc')
theorem xto {K:PySem.W.Frag} {a b:Addr} {xs ys:List V} {g:TG} {tb:TS} {D:Ends} {σ:St} {H:Hp} (hxy:xs.length=ys.length) (Pv:Nat->St->Hp->Prop) (h0:Pv 0 σ H) (hl:∀ i σ H,i<=xs.length->Pv i σ H->SqT K H a xs/\SqT K H b ys)
  (hs:∀ i x y σ H p,xs[i]?=some x->ys[i]?=some y->Pv i σ H->H p=none->g (.ref p) σ (upd H p (.tup [x,y])) fun σ2 H2=>tb { D with nx:=Pv (i + 1),ct:=Pv (i + 1),bk:=D.nx } σ2 H2) (hd:∀ σ H,Pv xs.length σ H->D.nx σ H) :
  ∃ W:Nat->Nat->St->Hp->Prop,(∃ m,W 0 m σ H)/\∀ i m σ H,W i m σ H->
   ((Itz K a b).stop i H/\D.nx σ H)\/((Itz K a b).go i H/\∃ N:St->Hp->Prop,(∀ σ' H',N σ' H'->∃ m',m' < m/\W (i + 1) m' σ' H')/\∀ x H',(Itz K a b).yld i H x H'->g x σ H' fun σ2 H2=>tb { D with nx:=N,ct:=N,bk:=D.nx } σ2 H2):=by
 refine ⟨fun i m σ H=>m=xs.length - i/\i<=xs.length/\Pv i σ H,⟨xs.length,by simp,Nat.zero_le _,h0⟩,?_⟩
 rintro i m σ H ⟨rfl,hi,p⟩
 have q:=hl i σ H hi p
 by_cases hlt:i < xs.length
 ·refine .inr ⟨⟨xs,ys,xs[i],ys[i]'(by omega),q.1,q.2,by simp [hlt],by simp [<- hxy,hlt]⟩,Pv (i + 1),fun σ' H' p'=>⟨xs.length - (i + 1),by omega,rfl,hlt,p'⟩,fun x H' y=>?_⟩
  obtain ⟨pp,u,v,rfl,hp,rfl,hu,hv⟩:=y
  exact hs i u v σ H pp (hu xs q.1) (hv ys q.2) p hp
 ·have e:i=xs.length:=by omega
  subst e
  exact .inl ⟨⟨xs,ys,q.1,q.2,Nat.le_refl _⟩,hd σ H p⟩
end
end L2
end
section
namespace M
open PySem L2
structure Kn where
 name:Str
 rc:Bool
 parts:List (Str×Str)
def Kn.sort (k:Kn):Str:=if k.rc=true then S "rec" else S "alt"
def xiq (p:Str×Str):D:=.tup [.str p.1,.str p.2]
def xhd (ps:List (Str×Str)):D:=.tup (ps.map xiq)
def Kn.d (k:Kn):D:=.tup [.str k.name,.str k.sort,xhd k.parts]
def xfm (ks:List Kn):D:=.tup (ks.map Kn.d)
def kAt (ks:List Kn) (x:Str):Option Kn:=ks.find? fun k=>decide (k.name=x)
def xst:Option Kn->V
 | some k=>.str k.sort
 | none=>.non
def xos:Option Kn->D
 | some k=>xhd k.parts
 | none=>.tup []
def KsAt (H:Hp) (v:V) (ks:List Kn):Prop:=RelD H v (xfm ks)/\ks.length<=100/\∀ k∈ks,k.parts.length<=100
theorem KsAt.same {H H':Hp} {v:V} {ks:List Kn} (h:KsAt H v ks) (s:Same H H'):KsAt H' v ks:=⟨h.1.same s _,h.2⟩
abbrev En:=Str->Option D
def En.put (e:En) (x:Str) (d:D):En:=fun y=>if y=x then some d else e y
def EnAt (H:Hp) (p:Addr) (m:Nat) (e:En):Prop:=
 ∃ kvs,H p=some (.dK kvs)/\kvs.length<=m/\∀ x,(e x=none->valV kvs (Sum.inr x)=none)/\∀ d,e x=some d->∃ v,valV kvs (Sum.inr x)=some v/\RelD H v d
theorem EnAt.same {H H':Hp} {p:Addr} {m:Nat} {e:En} (h:EnAt H p m e) (s:Same H H'):EnAt H' p m e:=by
 obtain ⟨kvs,h1,h2,h3⟩:=h
 refine ⟨kvs,s _ _ h1,h2,fun x=>⟨(h3 x).1,fun d hd=>?_⟩⟩
 obtain ⟨v,hv,r⟩:=(h3 x).2 d hd
 exact ⟨v,hv,r.same s _⟩
theorem EnAt.mono {H:Hp} {p:Addr} {m m':Nat} {e:En} (h:EnAt H p m e) (l:m<=m'):EnAt H p m' e:=by
 obtain ⟨kvs,h1,h2,h3⟩:=h
 exact ⟨kvs,h1,by omega,h3⟩
theorem EnAt.put {H H':Hp} {p q:Addr} {m:Nat} {e:En} {kvs:List (Key×V)} (hp:H p=some (.dK kvs)) (hl:kvs.length<=m) (h:∀ x,(e x=none->valV kvs (Sum.inr x)=none)/\∀ d,e x=some d->∃ v,valV kvs (Sum.inr x)=some v/\RelD H v d)
  (s:Same H H') {x:Str} {v:V} {d:D} (hv:RelD H' v d) (hq:H' q=some (.dK (putK kvs (Sum.inr x) v))):EnAt H' q (m + 1) (e.put x d):=by
 refine ⟨_,hq,by have:=xd3 kvs (Sum.inr x) v; omega,fun y=>?_⟩
 rw [xek]
 unfold En.put
 by_cases hy:y=x
 ·subst hy
  rw [if_pos rfl,if_pos rfl]
  refine ⟨fun z=>(by cases z),fun d' e'=>?_⟩
  cases e'
  exact ⟨v,rfl,hv⟩
 ·have hy':¬ (Sum.inr y:Key)=Sum.inr x:=fun z=>hy (Sum.inr.inj z)
  rw [if_neg hy,if_neg hy']
  refine ⟨(h y).1,fun d' e'=>?_⟩
  obtain ⟨u,hu,r⟩:=(h y).2 d' e'
  exact ⟨u,hu,r.same s _⟩
def opV (s:Str) (x y:Int):Int:=
 if s=S "+" then (x + y) % 4294967296 else if s=S "-" then (x - y) % 4294967296 else if s=S "*" then x * y % 4294967296 else if s=S "<" then (if x < y then 1 else 0) else (if x=y then 1 else 0)
def Nm (x:Int):Prop:=0<=x/\x < 4294967296
theorem xu5 (s:Str) (x y:Int):Nm (opV s x y):=by
 have h:∀ z:Int,Nm (z % 4294967296):=fun z=>⟨Int.emod_nonneg _ (by decide),Int.emod_lt_of_pos _ (by decide)⟩
 unfold opV
 split
 ·exact h _
 split
 ·exact h _
 split
 ·exact h _
 split
 ·split <;> exact ⟨by decide,by decide⟩
 ·split <;> exact ⟨by decide,by decide⟩
abbrev tNum (n:Int):D:=.tup [.str (S "num"),.int n]
abbrev tBox (x:Str):D:=.tup [.str (S "box"),.str x]
abbrev tOpD (s:Str) (a b:D):D:=.tup [.str (S "op"),.str s,a,b]
abbrev tRec (k:Str) (es:List D):D:=.tup [.str (S "rec"),.str k,.tup es]
abbrev tGet (a:D) (f:Str):D:=.tup [.str (S "get"),a,.str f]
abbrev tTag (k t:Str) (a:D):D:=.tup [.str (S "tag"),.str k,.str t,a]
abbrev dArm (r:Str×Str×D):D:=.tup [.str r.1,.str r.2.1,r.2.2]
abbrev xgq (a:D) (rs:List (Str×Str×D)):D:=.tup [.str (S "case"),a,.tup (rs.map dArm)]
abbrev tIfD (a b c:D):D:=.tup [.str (S "if"),a,b,c]
def xfq (env:En) (d v:D):Prop:=(∃ n,d=tNum n/\v=.int n)\/∃ x,env x=some v/\d=tBox x
def NodeEv (ks:List Kn) (R:En->D->D->Prop) (env:En) (d v:D):Prop:=
 (∃ s a b x y,R env a (.int x)/\R env b (.int y)/\Nm x/\Nm y/\d=tOpD s a b/\v=.int (opV s x y)) ∨
 (∃ k es vs,es.length<=1000/\All2 (R env) es vs/\d=tRec k es/\v=.tup [.str k,.tup vs]) ∨
 (∃ a k vs f kn i,R env a (.tup [.str k,.tup vs])/\kAt ks k=some kn/\(kn.parts.map (·.1)).findIdx? (fun z=>decide (z=f))=some i/\vs[i]?=some v/\d=tGet a f) ∨
 (∃ k t a x,R env a x/\d=tTag k t a/\v=.tup [.str k,.str t,x]) ∨
 (∃ a rs k t x y e,rs.length<=1000/\R env a (.tup [.str k,.str t,x])/\rs.find? (fun r=>decide (r.1=t))=some (t,y,e)/\R (env.put y x) e v/\d=xgq a rs) ∨
 (∃ a b c x,R env a (.int x)/\R env (if x=0 then c else b) v/\d=tIfD a b c)
def Ev (ks:List Kn):Nat->En->D->D->Prop
 | 0=>xfq
 | n + 1=>fun env d v=>xfq env d v\/NodeEv ks (Ev ks n) env d v
def xku (env:En) (d:D) (k:Str):Prop:=(∃ n,Nm n/\d=tNum n/\k=S "num")\/∃ x,env x=some (.str k)/\d=tBox x
def xca (kn:Kn) (f:Str):Option Str:=(kn.parts.find? fun p=>decide (p.1=f)).map (·.2)
abbrev RKn:=En->D->Str->Prop
def OpKd (R:RKn):RKn:=fun env d k=>∃ s a b,R env a (S "num")/\R env b (S "num")/\d=tOpD s a b/\k=S "num"
def xxc (ks:List Kn) (R:RKn):RKn:=fun env d k=>∃ es kn,kAt ks k=some kn/\kn.rc=true/\All2 (fun e (p:Str×Str)=>R env e p.2) es kn.parts/\d=tRec k es
def xxd (ks:List Kn) (R:RKn):RKn:=fun env d k=>∃ a k1 f kn,R env a k1/\kAt ks k1=some kn/\kn.rc=true/\xca kn f=some k/\d=tGet a f
def xxb (ks:List Kn) (R:RKn):RKn:=fun env d k=>∃ t a kn k1,kAt ks k=some kn/\kn.rc=false/\xca kn t=some k1/\R env a k1/\d=tTag k t a
def xvx (cs:Prop) (ks:List Kn) (R:RKn):RKn:=fun env d k=>cs/\∃ a,∃ rs:List (Str×Str×D),∃ k1 kn,R env a k1/\kAt ks k1=some kn/\kn.rc=false/\rs≠[]/\rs.length=kn.parts.length/\(rs.map (·.1)).Nodup ∧
  (∀ r∈rs,env r.2.1=none/\∃ k2,xca kn r.1=some k2/\R (env.put r.2.1 (.str k2)) r.2.2 k)/\d=xgq a rs
def IfKd (R:RKn):RKn:=fun env d k=>∃ a b c,R env a (S "num")/\R env b k/\R env c k/\d=tIfD a b c
def NodeKd (cs:Prop) (ks:List Kn) (R:RKn):RKn:=fun env d k=>OpKd R env d k\/xxc ks R env d k\/xxd ks R env d k\/xxb ks R env d k\/xvx cs ks R env d k\/IfKd R env d k
def Kd (cs:Prop) (ks:List Kn):Nat->En->D->Str->Prop
 | 0=>xku
 | n + 1=>fun env d k=>xku env d k\/NodeKd cs ks (Kd cs ks n) env d k
theorem xc0 {α:Type} {p:α->Bool} {xs:List α} {i:Nat} {a:α} (h:(xs.take i).find? p=none) (ha:xs[i]?=some a):(p a=true->xs.find? p=some a)/\(p a=false->(xs.take (i + 1)).find? p=none):=by
 have hi:i < xs.length:=(zES ha).1
 have e:xs[i]=a:=(zES ha).2
 refine ⟨fun hp=>?_,fun hp=>?_⟩
 ·have e2:xs=xs.take i++a :: xs.drop (i + 1):=by
   rw [<- e,<- List.drop_eq_getElem_cons hi,List.take_append_drop]
  rw [e2,List.find?_append,h]
  simp [hp]
 ·rw [zTA,ha,List.find?_append,h]
  simp [hp]
theorem Same.new2 {H:Hp} {p:Addr} (h:H p=none) (o o':HO):Same H (upd (upd H p o) p o'):=fun b u q=>by
 have hb:=neN q h
 rw [xaz hb,xaz hb]
 exact q
end M
end
section
namespace St
open PySem PySem.Spec PyProof.Rows
def met (val:Nat->Str) (i:Nat):List Str:=((List.range i).map val).foldl step_dedup []
theorem xc4 (val:Nat->Str) (i:Nat):met val (i + 1)=step_dedup (met val i) (val i):=by
 unfold met
 rw [List.range_succ,zAP,List.foldl_append]
 rfl
theorem met_len (val:Nat->Str):∀ i,(met val i).length<=i
 | 0=>Nat.le_refl _
 | i + 1=>by
  have ih:=met_len val i
  rw [xc4]
  unfold step_dedup
  split
  ·omega
  ·rw [zLA,List.length_singleton]
   omega
theorem xpx (l:List Str) (v k:Str):(step_dedup l v).any (· == k)=(l.any (· == k) || decide (k=v)):=by
 unfold step_dedup
 split
 ·rename_i h
  by_cases e:k=v
  ·subst e
   rw [h,Bool.true_or]
  ·rw [zDF e,Bool.or_false]
 ·rw [List.any_append]
  congr 1
  rw [Bool.eq_iff_iff]
  simp
  exact eq_comm
theorem xpw (l:List Str) (v:Str):(step_dedup l v).length=if l.any (· == v) then l.length else l.length + 1:=by
 unfold step_dedup
 split <;> simp
theorem xkz:∀ {vs:List Value} {ns:List Str},StrsAre vs ns->∀ (i:Nat) (v:Value),vs[i]?=some v->∃ t,v=.str (ns.getD i Str.empty) t
 | _,_,.nil,i,v,h=>by simp at h
 | _,_,.cons n t r,0,v,h=>by
  simp at h
  exact ⟨t,h.symm⟩
 | _,_,.cons n t r,i + 1,v,h=>by
  obtain ⟨t',e⟩:=xkz r i v (by simpa using h)
  exact ⟨t',by simpa using e⟩
section
variable {prog:Program} {w:World} {A:Around} {R:Result->Shared->Prop} {I:Addr} {fp wr:List Addr} {G:Array GenState->Array GenState->Prop} {n:Nat} {P:Nat->Value->Prop} {St:Nat->Shared->Prop}
theorem upd_loop (W:WalksS prog w A.in1 I fp wr G n P St) (S:Addr) (hSf:S ∉ fp)
  (val:Nat->Str) (hval:∀ i v,P i v->∃ t,v=.str (val i) t) (hb:n + 1 < scanBound) :
  ∀ (k i:Nat) (s:Shared),n - i=k->i<=n->St i s->
   s.heap.SetOf (PySem.strKind prog w) S (fun k'=>(met val i).any (· == k')) (met val i).length->
   (∀ s',Moved (S :: wr) G s s'->s'.heap.SetOf (PySem.strKind prog w) S (fun k'=>(met val n).any (· == k')) (met val n).length->R (.ok (.ret .none)) s')->
   codeAny (model prog w) A (.builtin "set.update.loop" ⟨[.ref S,.ref I],[]⟩) R s:=by
 have hSw:S ∉ wr:=fun h=>hSf (W.sub _ h)
 have hsub:∀ b∈wr,b∈S :: wr:=fun b hb=>List.mem_cons_of_mem _ hb
 intro k
 induction k with
 | zero=>
  intro i s hk hi hst hS hR
  have hin:i=n:=by omega
  subst hin
  refine codeAny_builtin F.entry_set_update_loop ?_
  rw [Around.under_plainId F.plain_set_update_loop _]
  show wpAny _ A.in1 (pyNext (.ref I) >>= _) _ _ s
  refine wpAny_bind (W.done s _ _ hst fun s' hm=>?_)
  show wpAny _ A.in1 (ret Value.none) _ _ s'
  exact wpAny_pure (hR s' (hm.mono hsub) (by
   obtain ⟨o,es,ep,t,ho,rest⟩:=hS
   exact ⟨o,es,ep,t,hm.heap S _ hSw ho,rest⟩))
 | succ k ih=>
  intro i s hk hi hst hS hR
  have hlt:i < n:=by omega
  refine codeAny_builtin F.entry_set_update_loop ?_
  rw [Around.under_plainId F.plain_set_update_loop _]
  show wpAny _ A.in1 (pyNext (.ref I) >>= _) _ _ s
  refine wpAny_bind (W.item i s _ _ hlt hst fun v s' hP hst' hm=>?_)
  obtain ⟨t,rfl⟩:=hval i v hP
  have hS':s'.heap.SetOf (PySem.strKind prog w) S (fun k'=>(met val i).any (· == k')) (met val i).length:=by
   obtain ⟨o,es,ep,tb,ho,rest⟩:=hS
   exact ⟨o,es,ep,tb,hm.heap S _ hSw ho,rest⟩
  show wpAny _ A.in1 (holding [Value.str (val i) t] (setAdd S (.str (val i) t)) >>= _) _ _ s'
  refine wpAny_bind (wpAny_holding ?_)
  unfold setAdd
  refine wpAny_holding ?_
  refine wpAny_bind ((PySem.strKind prog w).pyHash (k:=val i) (PySem.strKind_is _ _ _ _) ?_)
  have hroom:(met val i).length + 1 < scanBound:=by have:=met_len val i; omega
  refine wpAny_setAddHashed_of (knd:=PySem.strKind prog w) (s:={ s' with toks:=s'.toks + 1 }) (PySem.strKind_is _ _ _ _) rfl hS' hroom fun h' hsb hS2=>?_
  have hSi:h'.SetOf (PySem.strKind prog w) S (fun k'=>(met val (i + 1)).any (· == k')) (met val (i + 1)).length:=
   SetOf_congr hS2 (fun k'=>by rw [xc4,xpx]) (by rw [xc4,xpw])
  refine wpAny_pure ⟨plainId_quiet F.plain_set_update_loop _,ih (i + 1) _ (by omega) hlt (W.frame _ s' _ _ hst' (Nat.le_succ _) fun b hb o e=>?_) hSi fun s'' hm'' hS''=>?_⟩
  ·rw [hsb.2 b (fun h:b=S=>hSf (by rw [<- h]; exact hb))]; exact e
  ·refine hR s'' (Moved.trans W.gtrans ((hm.mono hsub).then_heap (Nat.le_succ _) fun b o hb e=>?_) hm'') hS''
   rw [hsb.2 b (fun h:b=S=>hb (by rw [h]; exact List.mem_cons_self))]; exact e
end
section
variable {prog:Program} {w:World} {A:Around} {E:Value->Shared->Prop} {s:Shared}
set_option maxRecDepth 100000 in
set_option maxHeartbeats 3200000 in
theorem call_set_strs {l:Addr} {items:Array Value} {ns:List Str} {Q:Value->Shared->Prop}
  (hh:A.handled=none) (hl:s.heap.IsList l items) (hi:StrsAre items.toList ns) (hb:items.size + 1 < scanBound)
  (h:∀ (h':Heap) (tk:Nat),h'.SetOf (PySem.strKind prog w) s.heap.objs.size (fun k'=>(met (fun i=>ns.getD i Str.empty) items.size).any (· == k')) (met (fun i=>ns.getD i Str.empty) items.size).length->
   (∀ b o,b < s.heap.objs.size->s.heap.get? b=some o->h'.get? b=some o)->Q (.ref s.heap.objs.size) { s with heap:=h',toks:=tk }) :
  wpAny (model prog w) A (call (.type "set") [.ref l]) Q E s:=by
 obtain ⟨c,tl,hmro⟩:=F.called_set.mro
 have hmade:=F.called_set.made
 have hsub:=F.called_set.sub
 refine wpAny_call (codeAny_of_tree ?_)
 show wpAny _ _ (callAny (.type "set") _) _ _ _
 refine wpAny_pure ⟨Code.quiet_builtin _ (by walk_at "k"),codeAny_builtin F.entry_type_call ?_⟩
 rw [Around.under_plain (weight_type_call_type "set" [.ref l] []) rfl]
 have h1:=F.called_set.notType
 have h2:=F.called_set.canCreate
 have hct:=F.typeCall_set_1 (.ref l)
 repeat (any_goals (first | assumption | wp_step))
 refine codeAny_mono (code_set_new_1 (.ref l) (E:=E) (Q₁:=fun obj s₁=>∃ led:Bool,obj=.ref s.heap.objs.size/\s₁={ s with heap:=s.heap.push { cls:=.type "set",dict:=none,data:=.set #[] 0 (.fresh 0 0 led) } }) fun led=>⟨led,rfl,rfl⟩) fun r s₁ hr=>?_
 cases r with
 | error e=>exact hr
 | ok fl=>
  cases fl with
  | ret obj=>
   obtain ⟨led,rfl,rfl⟩:=hr
   have hS:(s.heap.push { cls:=.type "set",dict:=none,data:=.set #[] 0 (.fresh 0 0 led) }).get? s.heap.objs.size=some { cls:=.type "set",dict:=none,data:=.set #[] 0 (.fresh 0 0 led) }:=Heap.get?_push_size _ rfl
   have hT:Shared.TypeIs { s with heap:=s.heap.push { cls:=.type "set",dict:=none,data:=.set #[] 0 (.fresh 0 0 led) } } (.ref s.heap.objs.size) "set":=⟨_,hS,rfl⟩
   have hli:=F.called_set.init.lookup
   have hbi:=F.called_set.init.bind (.ref s.heap.objs.size)
   repeat (any_goals (first | assumption | wp_step))
   refine codeAny_mono (codeAny_call_builtin (R:=wants (fun r s₂=>r=.none/\∃ h' tk,s₂={ s with heap:=h',toks:=tk } ∧
     h'.SetOf (PySem.strKind prog w) s.heap.objs.size (fun k'=>(met (fun i=>ns.getD i Str.empty) items.size).any (· == k')) (met (fun i=>ns.getD i Str.empty) items.size).length ∧
     (∀ b o,b < s.heap.objs.size->s.heap.get? b=some o->h'.get? b=some o)) E) F.called_set.init.plain F.entry_set_init (check_set_init_1 hT ?_)) fun r₂ s₂ hr₂=>?_
   ·obtain ⟨ol,hol,hcl,nl,hdl⟩:=hl
    obtain ⟨ocls,odict,odata,oslots⟩:=ol
    simp only at hcl hdl
    subst hcl; subst hdl
    have hol':(s.heap.push { cls:=.type "set",dict:=none,data:=.set #[] 0 (.fresh 0 0 led) }).get? l=some { cls:=.type "list",dict:=odict,data:=.seq items nl,slots:=oslots }:=zPO _ hol
    have hsls:=F.sub_list_set
    have hslf:=F.sub_list_frozenset
    have hne:(Value.type "list" == Value.type "dict")=false:=by decide
    have hl1:(s.heap.push { cls:=.type "set",dict:=none,data:=.set #[] 0 (.fresh 0 0 led) }).IsList l items:=⟨_,hol',rfl,nl,rfl⟩
    unfold Builtin.«set.__init__» noKeywords Builtin.Frozenset.updateFrom
    generalize hPI:pyIter=PI
    wp_walk
    subst hPI
    refine wpAny_pyIter_list hl1 ?_
    refine wpAny_bind (wpAny_runValue ?_)
    have hlS:l < s.heap.objs.size:=Heap.lt_size hol
    have hh3:A.in1.in1.in1.handled=none:=by simp [hh]
    have hneI:l≠(s.heap.push { cls:=.type "set",dict:=none,data:=.set #[] 0 (.fresh 0 0 led) }).objs.size:=by
     rw [Heap.size_push]; exact Nat.ne_of_lt (Nat.lt_succ_of_lt hlS)
    have hSf:s.heap.objs.size ∉ [(s.heap.push { cls:=.type "set",dict:=none,data:=.set #[] 0 (.fresh 0 0 led) }).objs.size,l]:=by
     rw [Heap.size_push]; simp only [List.mem_cons,List.mem_singleton,List.not_mem_nil,or_false,not_or]
     exact ⟨Nat.ne_of_lt (Nat.lt_succ_self _),Nat.ne_of_gt hlS⟩
    have hval:∀ (i:Nat) (v:Value),items[i]?=some v->∃ t,v=.str ((fun i=>ns.getD i Str.empty) i) t:=fun i v hv=>
     xkz hi i v (by rw [Array.getElem?_toList]; exact hv)
    refine upd_loop ((Walks.list hh3 _ l hneI items).toS) s.heap.objs.size
     hSf (fun i=>ns.getD i Str.empty) hval hb (items.size - 0) 0 _ (by omega) (Nat.zero_le _)
     ⟨⟨_,Heap.get?_push_size _ rfl,rfl,rfl⟩,(hl1.push _)⟩ ?hS0 ?hR
    case hS0=>
     have hget:((s.heap.push { cls:=.type "set",dict:=none,data:=.set #[] 0 (.fresh 0 0 led) }).push { cls:=.type "list_iterator",data:=.fields #[.ref l,.int 0 0] }).get? s.heap.objs.size
       = some { cls:=.type "set",dict:=none,data:=.set #[] 0 (.fresh 0 0 led) }:=zPO _ hS
     exact SetOf_congr ((setObjOf_fresh (knd:=PySem.strKind prog w) led).setOf hget (by unfold scanBound; omega)) (fun _=>rfl) rfl
    case hR=>
     intro s' hm hS'
     obtain ⟨h',g',d',tk',os'⟩:=s'
     have eg:g'=s.gens:=hm.gens
     have ed:d'=s.drawn:=hm.drawn
     have eo:os'=s.os:=hm.os
     subst eg; subst ed; subst eo
     show wpAny _ _ _ _ _ _
     refine wpAny_pure ?_
     show wpAny _ _ (ret Value.none) _ _ _
     refine wpAny_pure ⟨rfl,h',tk',rfl,hS',fun b o hb e=>?_⟩
     have hb1:b≠s.heap.objs.size:=Nat.ne_of_lt hb
     have hb2:b≠(s.heap.push { cls:=.type "set",dict:=none,data:=.set #[] 0 (.fresh 0 0 led) }).objs.size:=by
      rw [Heap.size_push]; exact Nat.ne_of_lt (Nat.lt_succ_of_lt hb)
     exact hm.heap b o (by simp only [List.mem_cons,List.mem_singleton,List.not_mem_nil,or_false,not_or]; exact ⟨hb1,hb2⟩) (zPO _ (zPO _ e))
   ·cases r₂ with
    | error e=>exact hr₂
    | ok fl₂=>
     cases fl₂ with
     | ret r=>
      obtain ⟨rfl,h',tk,rfl,hS',hk'⟩:=hr₂
      repeat (any_goals (first | assumption | wp_step))
      exact h _ _ hS' hk'
     | _=>exact hr₂.elim
  | _=>exact hr.elim
end
end St
end
section
namespace St
open PySem PySem.Spec PyProof.Rows
theorem xe4:entryFor table "set.__iter__"=some Builtin.«frozenset.__iter__»:=
 entryFor_alias (id':="frozenset.__iter__") (by kernel_rfl) rfl (by walk_at "k") (by kernel_rfl)
theorem slot_si_next:Slot "set_iterator" "__next__" "set_iterator.__next__":=
 .of (owner:="set_iterator") (n:="__next__") (by rw [typeLookup_type,builtinLookup_eq_fast]; kernel_rfl) (by walk_at "k") (by walk_at "k") (by walk_at "k")
  (by first | exact .inl (by walk_at "k") | exact .inr (by walk_at "k")) (by rw [isSubtype_type]; kernel_rfl)
theorem xc5:entryFor table "set_iterator.__next__"=some Builtin.«set_iterator.__next__»:=entryFor_of_tree (by kernel_rfl)
theorem xdj (a:Value):argsOk "set_iterator.__next__" ⟨[a],[]⟩:=by unfold argsOk; kernel_rfl
theorem xf1:Slot "set_iterator" "__iter__" "set_iterator.__iter__":=
 .of (owner:="set_iterator") (n:="__iter__") (by rw [typeLookup_type,builtinLookup_eq_fast]; kernel_rfl) (by walk_at "k") (by walk_at "k") (by walk_at "k")
  (by first | exact .inl (by walk_at "k") | exact .inr (by walk_at "k")) (by rw [isSubtype_type]; kernel_rfl)
theorem xio:entryFor table "set_iterator.__iter__"=some Builtin.«dict_keyiterator.__iter__»:=
 entryFor_alias (id':="dict_keyiterator.__iter__") (by kernel_rfl) (by first | rfl | decide +kernel | (unfold String.splitOn; simp +decide [String.splitOnAux])) (by walk_at "k") (by kernel_rfl)
theorem xkp (a:Value):argsOk "set_iterator.__iter__" ⟨[a],[]⟩:=by unfold argsOk; kernel_rfl
section
variable {prog:Program} {w:World} {A:Around} {E:Value->Shared->Prop} {s:Shared} {a:Addr} {ep:Nat} {t:SetTable}
theorem xw2 {Q:Bool->Shared->Prop} (hT:s.TypeIs (.ref a) "set") (h:Q false s):wpAny (model prog w) A (Builtin.List.listLengthHint (.ref a)) Q E s:=by
 unfold Builtin.List.listLengthHint
 refine wpAny_bind (wpAny_specialOf hT F.slot_set_len.lookup ?_)
 generalize hid:("set.__len__":String)=id0
 wp_delta
 rw [show splitId id0=some ("set","__len__") from by subst hid; decide +kernel]
 subst hid
 refine wpAny_bind (wpAny_isInstance (T:="set") (b:=true) hT (by rw [isSubtype_type]; kernel_rfl) ?_)
 refine wpAny_ite_split (fun hab=>absurd hab (by decide)) (fun _=>?_)
 refine wpAny_ite_split (fun _=>?_) (fun hab=>absurd (by walk_at "k") hab)
 refine wpAny_bind (wpAny_typeOf hT ?_)
 exact wpAny_pure h
end
end St
end
section
namespace M
open PySem L2
mutual
def D.deep:D->Nat
 | .int _=>0
 | .str _=>0
 | .tup ds=>xhp ds + 1
def xhp:List D->Nat
 | []=>0
 | d :: ds=>max d.deep (xhp ds)
end
theorem xhc:∀ {ds:List D} {d:D},d∈ds->d.deep<=xhp ds
 | e :: ds,d,h=>by
  show d.deep<=max e.deep (xhp ds)
  rcases zMC h with rfl | h
  ·omega
  ·have:=xhc h
   omega
theorem xmz {n:Nat}:∀ {ds:List D},(∀ d∈ds,d.deep<=n)->xhp ds<=n
 | [],_=>Nat.zero_le _
 | e :: ds,h=>by
  show max e.deep (xhp ds)<=n
  have h1:=h e (by simp)
  have h2:=xmz (ds:=ds) fun d hd=>h d (List.mem_cons_of_mem _ hd)
  omega
section
variable {X:Cx} {pins:List (Addr×Obj)} {σ:St} {H:Hp} {s:Shared}
theorem xms {vs:List V} {its:List Value} (r:Vals vs its) {j:Nat} (h1:j < its.toArray.size):∃ x,vs[j]?=some x/\RelV x its.toArray[j]:=by
 have hl:=r.length
 have h:j < its.length:=by simpa using h1
 obtain ⟨u,e,q⟩:=r.get (i:=j) (x:=vs[j]'(by omega)) (zGA _)
 have g:its.toArray[j]=u:=by
  have:its[j]?=some its[j]:=zGA h
  rw [e] at this
  simpa using (Option.some.inj this).symm
 exact ⟨vs[j]'(by omega),zGA _,by rw [g]; exact q⟩
theorem xvt (I:Inv X pins σ H s):∀ (n:Nat) (d:D) {x y:V} {u v:Value} {A:Around},d.deep<=n->RelD H x d->RelD H y d->RelV x u->RelV y v->A.units + n < cLine->SeqAt.EqAt A s u v true
 | n,.int i,x,y,u,v,A,_,hx,hy,ru,rv,_=>by
  cases hx
  cases hy
  obtain ⟨t,rfl⟩:=ru
  obtain ⟨t',rfl⟩:=rv
  have:=SeqAt.EqAt.int_int (A:=A) (s:=s) i t i t'
  rw [beq_self_eq_true] at this
  exact this
 | n,.str z,x,y,u,v,A,_,hx,hy,ru,rv,_=>by
  cases hx
  cases hy
  obtain ⟨t,rfl⟩:=ru
  obtain ⟨t',rfl⟩:=rv
  have:=SeqAt.EqAt.str_str (A:=A) (s:=s) z t z t'
  rw [beq_self_eq_true] at this
  exact this
 | 0,.tup ds,x,y,u,v,A,h,_,_,_,_,_=>absurd h (Nat.not_succ_le_zero _)
 | n + 1,.tup ds,x,y,u,v,A,h,hx,hy,ru,rv,hA=>by
  obtain ⟨a,vs,rfl,ha,rvs⟩:=hx
  obtain ⟨b,ws,rfl,hb,rws⟩:=hy
  obtain rfl:u=.ref a:=ru
  obtain rfl:v=.ref b:=rv
  by_cases hab:a=b
  ·subst hab
   exact SeqAt.EqAt.same _
  ·obtain ⟨its,r1,p1,_⟩:=I.tuple (SqT.of (K:=X.K) ha)
   obtain ⟨its2,r2,p2,_⟩:=I.tuple (SqT.of (K:=X.K) hb)
   have l1:=r1.length
   have l2:=r2.length
   have l3:=rvs.length
   have l4:=rws.length
   have:=SeqAt.EqAt.of_refs hab (SeqAt.RcAt.tuples (A:=A) (e:=fun _=>true) p1 p2 (by omega) fun j h1 h2=>?_)
   ·have e:((List.range (min its.toArray.size its2.toArray.size)).all (fun _=>true) && its.toArray.size == its2.toArray.size)=true:=by
     rw [show its.toArray.size=its2.toArray.size by simp only [List.size_toArray]; omega]
     simp
    rw [e] at this
    exact this
   ·obtain ⟨x1,e1,q1⟩:=xms r1 h1
    obtain ⟨x2,e2,q2⟩:=xms r2 h2
    obtain ⟨d1,f1,g1⟩:=rvs.get e1
    obtain ⟨d2,f2,g2⟩:=rws.get e2
    rw [f1] at f2
    cases f2
    refine xvt I n d1 ?_ g1 g2 q1 q2 (by show A.units + 1 + n < cLine; omega)
    have:=xhc (zMG f1)
    have h':xhp ds + 1<=n + 1:=h
    omega
def rNeD:R2:=fun x y H Q=>∃ d:D,RelD H x d/\RelD H y d/\d.deep<=190/\Q (.bl false) H
theorem xr5 (hu:X.A.units + 200 < cLine):OpR X (compareOp .NotEq) rNeD:=by
 intro pins s σ H x y v u Q I rx ry h
 obtain ⟨d,hx,hy,hd,q⟩:=h
 cases d with
 | int i=>
  cases hx
  cases hy
  exact xhk pins s σ H _ _ _ _ Q I rx ry ⟨rfl,by rw [zDT rfl]; exact q⟩
 | str z=>
  cases hx
  cases hy
  exact xhk pins s σ H _ _ _ _ Q I rx ry ⟨rfl,by rw [zDT rfl]; exact q⟩
 | tup ds=>
  obtain ⟨a,vs,rfl,ha,rvs⟩:=hx
  obtain ⟨b,ws,rfl,hb,rws⟩:=hy
  obtain rfl:v=.ref a:=rx
  obtain rfl:u=.ref b:=ry
  obtain ⟨its,r1,p1,_⟩:=I.tuple (SqT.of (K:=X.K) ha)
  obtain ⟨its2,r2,p2,_⟩:=I.tuple (SqT.of (K:=X.K) hb)
  have l1:=r1.length
  have l2:=r2.length
  have l3:=rvs.length
  have l4:=rws.length
  refine PySem.EqBoolInt.of_rcne (SeqAt.RcNeAt.tuples (e:=fun _=>true) p1 p2 (by omega) fun j h1 h2=>?_) ⟨.bl false,H,I,?_,q⟩
  ·obtain ⟨x1,e1,q1⟩:=xms r1 h1
   obtain ⟨x2,e2,q2⟩:=xms r2 h2
   obtain ⟨d1,f1,g1⟩:=rvs.get e1
   obtain ⟨d2,f2,g2⟩:=rws.get e2
   rw [f1] at f2
   cases f2
   refine xvt I 190 d1 ?_ g1 g2 q1 q2 (by show X.A.units + 1 + 190 < cLine; omega)
   have:=xhc (zMG f1)
   have h':xhp ds + 1<=190:=hd
   omega
  ·have e:((List.range (min its.toArray.size its2.toArray.size)).all (fun _=>true) && its.toArray.size == its2.toArray.size)=true:=by
    rw [show its.toArray.size=its2.toArray.size by simp only [List.size_toArray]; omega]
    simp
   rw [e]
   rfl
end
end M
end
section
namespace M
open PySem L2
def five:List Nat:=[113,120,122,118,119]
def nmA (cs:List Nat) (a:Nat) (b:Int) (k:Nat):List Nat:=cs.take a++(97 + ((b + 5 * (k:Int)) % 26).toNat) :: cs.drop a
def nmB (cs:List Nat) (a:Nat) (b:Int) (k:Nat):List Nat:=nmA cs a b (k - k % 2)++List.replicate (k % 2) 113
def xl1 (nms:List Str):Prop:=nms.length=26/\nms.Nodup/\∀ z∈nms,Name z
theorem xg2 (cs:List Nat) (a:Nat) (b:Int) (k:Nat):(nmA cs a b k).length=cs.length + 1:=by
 unfold nmA
 rw [zLA,List.length_cons,List.length_take,List.length_drop]
 omega
theorem xg1 (cs:List Nat) (a:Nat) (b:Int) (k:Nat):(nmB cs a b k).length=cs.length + 1 + k % 2:=by
 unfold nmB
 rw [zLA,xg2,List.length_replicate]
theorem xo5 {cs:List Nat} {a:Nat} {b:Int} {k j:Nat} (hk:k < 26) (hj:j < 26) (h:nmA cs a b k=nmA cs a b j):k=j:=by
 unfold nmA at h
 have h2:=List.append_cancel_left h
 have h3:=(List.cons.inj h2).1
 omega
theorem xtd {cs:List Nat} {a:Nat} {b:Int} {k j:Nat} (hk:k < 26) (hj:j < 26) (h:nmB cs a b k=nmB cs a b j):k=j:=by
 have hl:=congrArg List.length h
 rw [xg1,xg1] at hl
 have hm:k % 2=j % 2:=by omega
 unfold nmB at h
 rw [hm] at h
 have h2:=List.append_cancel_right h
 have h3:=xo5 (by omega) (by omega) h2
 omega
theorem xjs {f:Nat->Str} (h:∀ k j,k < 26->j < 26->f k=f j->k=j):((List.range 26).map f).Nodup:=by
 refine List.pairwise_map.mpr (List.Pairwise.imp_of_mem (fun hi hj hlt e=>?_) (List.pairwise_lt_range (n:=26)))
 have:=h _ _ (List.mem_range.mp hi) (List.mem_range.mp hj) e
 omega
theorem xg8:∀ c∈five,xfi c=true:=by decide
theorem xj3 (i:Int):xfi (97 + (i % 26).toNat)=true:=by
 unfold xfi
 have h1:0<=i % 26:=Int.emod_nonneg _ (by decide)
 have h2:i % 26 < 26:=Int.emod_lt_of_pos _ (by decide)
 rw [Bool.and_eq_true,decide_eq_true_eq,decide_eq_true_eq]
 omega
theorem xo7 {l:List Nat} (h1:1<=l.length) (h6:l.length<=6) (hl:∀ c∈l,xfi c=true) (h5:l.length=1\/∃ c∈l,c∈five):Name (ofL l):=by
 show xnq l=true
 unfold xnq
 have ne:∀ z:List Nat,z.length≠1->(∀ c∈z,c ∉ five)->(l != z)=true:=fun z hz hc=>by
  rw [bne_iff_ne]
  intro e
  subst e
  rcases h5 with h5 | ⟨c,hm,h5⟩
  ·exact hz h5
  ·exact hc c hm h5
 rw [ne [110,117,109] (by decide) (by decide),ne [105,116] (by decide) (by decide),zDT h1,zDT h6,List.all_eq_true.mpr hl]
 rfl
theorem mem_nmA {cs:List Nat} {a:Nat} {b:Int} {k c:Nat}:c∈nmA cs a b k ↔ c∈cs\/c=97 + ((b + 5 * (k:Int)) % 26).toNat:=by
 unfold nmA
 rw [List.mem_append,List.mem_cons]
 have e:c∈cs ↔ c∈cs.take a\/c∈cs.drop a:=by
  rw [<- List.mem_append,List.take_append_drop]
 rw [e]
 constructor
 ·rintro (h | h | h)
  ·exact .inl (.inl h)
  ·exact .inr h
  ·exact .inl (.inr h)
 ·rintro ((h | h) | h)
  ·exact .inl h
  ·exact .inr (.inr h)
  ·exact .inr (.inl h)
theorem xq1 {cs:List Nat} {a:Nat} {b:Int} {k:Nat} (hc:cs.length<=4) (h5:∀ c∈cs,c∈five):Name (ofL (nmA cs a b k)):=by
 refine xo7 (by rw [xg2]; omega) (by rw [xg2]; omega) (fun c hm=>?_) ?_
 ·rcases mem_nmA.mp hm with h | h
  ·exact xg8 c (h5 c h)
  ·rw [h]; exact xj3 _
 ·cases cs with
  | nil=>exact .inl (by rw [xg2]; rfl)
  | cons c r=>exact .inr ⟨c,mem_nmA.mpr (.inl (by simp)),h5 c (by simp)⟩
theorem xq0 {cs:List Nat} {a:Nat} {b:Int} {k:Nat} (hc:cs.length<=4) (h5:∀ c∈cs,c∈five):Name (ofL (nmB cs a b k)):=by
 refine xo7 (by rw [xg1]; omega) (by rw [xg1]; omega) (fun c hm=>?_) ?_
 ·unfold nmB at hm
  rcases zMA hm with hm | hm
  ·rcases mem_nmA.mp hm with h | h
   ·exact xg8 c (h5 c h)
   ·rw [h]; exact xj3 _
  ·rw [(List.mem_replicate.mp hm).2]; decide
 ·by_cases hk:k % 2=0
  ·cases cs with
   | nil=>exact .inl (by rw [xg1,hk]; rfl)
   | cons c r=>exact .inr ⟨c,by unfold nmB; exact List.mem_append_left _ (mem_nmA.mpr (.inl (by simp))),h5 c (by simp)⟩
  ·refine .inr ⟨113,?_,by decide⟩
   unfold nmB
   exact List.mem_append_right _ (List.mem_replicate.mpr ⟨by omega,rfl⟩)
theorem nmsA {cs:List Nat} {a:Nat} {b:Int} (hc:cs.length<=4) (h5:∀ c∈cs,c∈five):xl1 ((List.range 26).map fun k=>ofL (nmA cs a b k)):=by
 refine ⟨by simp,xjs fun k j hk hj e=>xo5 hk hj (congrArg L e),fun z hz=>?_⟩
 obtain ⟨k,_,rfl⟩:=zMP hz
 exact xq1 hc h5
theorem nmsB {cs:List Nat} {a:Nat} {b:Int} (hc:cs.length<=4) (h5:∀ c∈cs,c∈five):xl1 ((List.range 26).map fun k=>ofL (nmB cs a b k)):=by
 refine ⟨by simp,xjs fun k j hk hj e=>xtd hk hj (congrArg L e),fun z hz=>?_⟩
 obtain ⟨k,_,rfl⟩:=zMP hz
 exact xq0 hc h5
theorem xqi (x:Str) {j:Int} (h0:0<=j) (h1:j<=x.length):Txt.slice x none (some j)=ofL ((L x).take j.toNat):=by
 have e:Txt.slice x none (some j)=StrLaws.sliceText x none (some j):=rfl
 rw [e,StrLaws.sliceText_to ⟨h0,by rw [show x.cps.toList.length=x.length by simp [Str.length]]; exact h1⟩]
 show ofL ((((L x).drop 0).take (j - 0).toNat))=_
 rw [List.drop_zero,Int.sub_zero]
theorem xnb (x:Str) {j:Int} (h0:0<=j) (h1:j<=x.length):Txt.slice x (some j) none=ofL ((L x).drop j.toNat):=by
 have e:Txt.slice x (some j) none=StrLaws.sliceText x (some j) none:=rfl
 rw [e,StrLaws.sliceText_from ⟨h0,by rw [show x.cps.toList.length=x.length by simp [Str.length]]; exact h1⟩]
 apply xp7
 show ((L x).drop j.toNat).take _=(L x).drop j.toNat
 refine zTL ?_
 rw [List.length_drop]
 show (L x).length - j.toNat<=(((L x).length:Int) - j).toNat
 omega
theorem xpd {i:Int} (h0:0<=i) (h:i < 26):atI (S "abcdefghijklmnopqrstuvwxyz").cps.toList i=some (97 + i.toNat):=by
 have all:∀ k,k < 26->(S "abcdefghijklmnopqrstuvwxyz").cps.toList[k]?=some (97 + k):=by walk_at "k"
 have ek:i=((i.toNat:Nat):Int):=by omega
 have q:=xbb (all i.toNat (by omega))
 rw [<- ek] at q
 exact q
theorem xtp {i:Int} (h0:0<=i) (h:i < 5):∃ c∈five,atI (S "qxzvw").cps.toList i=some c:=by
 have e:(S "qxzvw").cps.toList=five:=by walk_at "k"
 rw [e]
 exact xm4 h0 h
theorem xo6 (cs:List Nat) (a ch:Nat):ofL (cs.take a)++(⟨#[ch]⟩:Str)++ofL (cs.drop a)=ofL (cs.take a++ch :: cs.drop a):=by
 apply xp7
 rw [xex,xex,xed,xed,xed]
 show cs.take a++[ch]++cs.drop a=_
 simp
end M
namespace L2
open PySem PySem.Spec PyProof.Rows
theorem xs5 {X:Cx}:OpR X (binaryOp .Mult) (fun x y H Q=>∃ i n,x=.str i/\y=.int n/\(n=0\/n=1)/\Q (.str (if n=1 then i else Str.empty)) H):=by
 intro pins s σ H x y v u Q I rx ry h
 obtain ⟨i,n,rfl,rfl,hn,q⟩:=h
 obtain ⟨t,rfl⟩:=rx
 obtain ⟨t',rfl⟩:=ry
 refine SB.mul ?_ fun t' k=>⟨.str _,H,I.tok k,⟨t',rfl⟩,?_⟩
 ·rcases hn with rfl | rfl
  ·exact ⟨by decide,fun h=>absurd (by decide) h,fun h=>absurd (by decide) h⟩
  ·exact ⟨by decide,fun _ h=>by simp at h,fun _ h=>by simp at h⟩
 ·have e:Txt.mul i n=if n=1 then i else Str.empty:=by
   rcases hn with rfl | rfl
   ·rfl
   ·unfold Txt.mul
    rw [if_neg (by decide),if_pos (by simp),if_pos rfl]
  rw [e]
  exact q
end L2
end
section
namespace M
open PySem L2
structure KWf (ks:List Kn):Prop where
 nd:(ks.map Kn.name).Nodup
 nm:∀ k∈ks,Name k.name
 ref:∀ (i:Nat) (k:Kn),ks[i]?=some k->∀ p∈k.parts,p.2=S "num"\/∃ j,∃ k':Kn,j < i/\ks[j]?=some k'/\k'.name=p.2
 alt:∀ k∈ks,k.rc=false->k.parts≠[]
 few:ks.length<=6
 pts:∀ k∈ks,k.parts.length<=5
 pnd:∀ k:Kn,k∈ks->(k.parts.map (fun p:Str×Str=>p.1)).Nodup
 pnm:∀ k:Kn,k∈ks->∀ p∈k.parts,Name p.1
theorem xg3 {x:Str} (h:Name x):x≠S "num":=fun e=>by
 rw [e] at h
 exact absurd (show xnq (S "num").cps.toList=true from h) (by walk_at "k")
theorem KWf.nil:KWf []:=⟨List.nodup_nil,(fun _ h=>nomatch h),(fun i k h=>by simp at h),(fun _ h=>nomatch h),Nat.zero_le _,(fun _ h=>nomatch h),(fun _ h=>nomatch h),(fun _ h=>nomatch h)⟩
theorem xc8 {α:Type} {f:α->Str}:∀ {xs:List α} {i:Nat} {a:α},(xs.map f).Nodup->xs[i]?=some a->xs.find? (fun z=>decide (f z=f a))=some a
 | x :: xs,0,a,nd,h=>by
  simp at h
  subst h
  rw [List.find?_cons,zDT rfl]
 | x :: xs,i + 1,a,nd,h=>by
  have h':xs[i]?=some a:=by simpa using h
  rw [List.map_cons,List.nodup_cons] at nd
  have hne:f x≠f a:=fun e=>nd.1 (by rw [e]; exact List.mem_map_of_mem (zMG h'))
  rw [List.find?_cons,zDF hne]
  exact xc8 nd.2 h'
theorem KWf.at {ks:List Kn} (w:KWf ks) {i:Nat} {k:Kn} (h:ks[i]?=some k):kAt ks k.name=some k:=xc8 (f:=Kn.name) w.nd h
theorem KWf.no {ks:List Kn} {x:Str} (h:∀ k∈ks,k.name≠x):kAt ks x=none:=by
 unfold kAt
 rw [List.find?_eq_none]
 intro k hk
 simpa using h k hk
theorem KWf.num {ks:List Kn} (w:KWf ks):kAt ks (S "num")=none:=KWf.no fun k hk=>xg3 (w.nm k hk)
def KIn (ks:List Kn) (n:Nat) (x:Str):Prop:=x=S "num"\/∃ j k,j < n/\ks[j]?=some k/\k.name=x
theorem KIn.mono {ks:List Kn} {n m:Nat} {x:Str} (h:KIn ks n x) (l:n<=m):KIn ks m x:=by
 rcases h with h | ⟨j,k,hj,h⟩
 ·exact .inl h
 ·exact .inr ⟨j,k,by omega,h⟩
theorem KIn.ap {ks more:List Kn} {n:Nat} {x:Str} (h:KIn ks n x):KIn (ks++more) n x:=by
 rcases h with h | ⟨j,k,hj,h1,h2⟩
 ·exact .inl h
 ·exact .inr ⟨j,k,hj,by rw [List.getElem?_append_left (zES h1).1]; exact h1,h2⟩
theorem KIn.of {ks:List Kn} {x:Str} (h:x=S "num"\/∃ k∈ks,k.name=x):KIn ks ks.length x:=by
 rcases h with h | ⟨k,hk,h⟩
 ·exact .inl h
 ·obtain ⟨j,hj,e⟩:=zMI hk
  exact .inr ⟨j,k,hj,by rw [<- e]; exact zGA hj,h⟩
theorem KWf.snoc {ks:List Kn} (w:KWf ks) {k:Kn} (h1:k.name ∉ ks.map Kn.name) (h2:Name k.name) (h3:∀ p∈k.parts,KIn ks ks.length p.2) (h4:k.rc=false->k.parts≠[]) (h5:ks.length < 6) (h6:k.parts.length<=5)
  (h7:(k.parts.map (·.1)).Nodup) (h8:∀ p∈k.parts,Name p.1):KWf (ks++[k]):=by
 have mem:∀ {q:Kn->Prop},(∀ z∈ks,q z)->q k->∀ z∈ks++[k],q z:=fun a b z hz=>by
  rcases zMA hz with hz | hz
  ·exact a z hz
  ·rw [zMO hz]; exact b
 refine ⟨?_,mem w.nm h2,?_,mem w.alt h4,by rw [zLA,List.length_singleton]; omega,mem w.pts h6,mem w.pnd h7,mem w.pnm h8⟩
 ·rw [zAP]
  exact xll w.nd h1
 ·intro i z hz p hp
  by_cases hi:i < ks.length
  ·rw [List.getElem?_append_left hi] at hz
   exact KIn.ap (w.ref i z hz p hp)
  ·rw [List.getElem?_append_right (by omega)] at hz
   have hi0:i - ks.length=0:=by
    have:=(zES hz).1
    simp at this
    omega
   rw [hi0] at hz
   simp at hz
   subst hz
   exact (h3 p hp).ap.mono (by omega)
def maxD:List Int->Int
 | []=>0
 | n :: ns=>max n (maxD ns)
theorem xih:∀ {ns:List Int} {n:Int},n∈ns->n<=maxD ns
 | m :: ns,n,h=>by
  show n<=max m (maxD ns)
  rcases zMC h with rfl | h
  ·omega
  ·have:=xih h
   omega
theorem xgk:∀ {ns:List Int},ns≠[]->(∀ n∈ns,0<=n)->maxD ns∈ns
 | [n],_,h=>by
  have h0:=h n (by simp)
  show max n 0∈[n]
  rw [Int.max_eq_left h0]
  simp
 | n :: m :: ns,_,h=>by
  have ih:=xgk (ns:=m :: ns) (by simp) fun x hx=>h x (List.mem_cons_of_mem _ hx)
  show max n (maxD (m :: ns))∈n :: m :: ns
  rcases Int.le_total n (maxD (m :: ns)) with e | e
  ·rw [Int.max_eq_right e]; exact List.mem_cons_of_mem _ ih
  ·rw [Int.max_eq_left e]; simp
theorem xtf {ns:List Int} {m:Int} (hn:ns≠[]) (h0:∀ n∈ns,0<=n) (hm:m∈ns) (h:∀ n∈ns,n<=m):m=maxD ns:=by
 have h1:=xih hm
 have h2:=h _ (xgk hn h0)
 omega
def szF:Nat->List Kn->Str->Int
 | 0,_,_=>1
 | n + 1,ks,x=>match kAt ks x with
  | none=>1
  | some k=>1 + (if k.rc=true then (k.parts.map fun p=>szF n ks p.2).sum else maxD (k.parts.map fun p=>szF n ks p.2))
theorem xgr {ks:List Kn} (hp:∀ k∈ks,k.parts.length<=5):∀ (n:Nat) (x:Str),1<=szF n ks x/\szF n ks x<=6 ^ n
 | 0,x=>by simp [szF]
 | n + 1,x=>by
  unfold szF
  have p1:(1:Int)<=6 ^ n:=Int.pow_pos (by decide)
  have e6:(6:Int) ^ (n + 1)=6 * 6 ^ n:=by rw [Int.pow_succ,Int.mul_comm]
  cases hk:kAt ks x with
  | none=>simp only; omega
  | some k=>
   simp only
   have hk5:=hp k (zMF hk)
   have all:∀ m∈k.parts.map (fun p=>szF n ks p.2),1<=m/\m<=6 ^ n:=fun m hm=>by
    obtain ⟨p,_,rfl⟩:=zMP hm
    exact xgr hp n p.2
   have hl:(k.parts.map (fun p=>szF n ks p.2)).length<=5:=by rw [zLM]; exact hk5
   generalize k.parts.map (fun p=>szF n ks p.2)=ns at all hl ⊢
   have hs:∀ (l:List Int),(∀ m∈l,1<=m/\m<=(6:Int) ^ n)->0<=l.sum/\l.sum<=l.length * 6 ^ n:=by
    intro l
    induction l with
    | nil=>intro _; simp
    | cons a r ih=>
     intro h
     have h1:=h a (by simp)
     have h2:=ih fun m hm=>h m (List.mem_cons_of_mem _ hm)
     rw [List.sum_cons,List.length_cons]
     push_cast
     rw [Int.add_mul]
     omega
   have hm:0<=maxD ns/\maxD ns<=6 ^ n:=by
    by_cases he:ns=[]
    ·subst he; simp [maxD]; omega
    ·have:=all _ (xgk he fun m hm=>by have:=all m hm; omega)
     omega
   have h1:=hs ns all
   have h2:(ns.length:Int) * 6 ^ n<=5 * 6 ^ n:=Int.mul_le_mul_of_nonneg_right (by omega) (by omega)
   split <;> omega
def KsSeq (H:Hp) (v:V) (ks:List Kn):Prop:=∃ a vs,v=.ref a/\(H a=some (.lst vs)\/H a=some (.tup vs))/\RelDs H vs (ks.map Kn.d)
theorem KsSeq.same {H H':Hp} {v:V} {ks:List Kn} (h:KsSeq H v ks) (s:Same H H'):KsSeq H' v ks:=by
 obtain ⟨a,vs,e,h1,h2⟩:=h
 exact ⟨a,vs,e,h1.imp (s _ _) (s _ _),h2.same s _⟩
theorem KWf.ksAt {ks:List Kn} (w:KWf ks) {H:Hp} {v:V} (h:RelD H v (xfm ks)):KsAt H v ks:=⟨h,by have:=w.few; omega,fun k hk=>by have:=w.pts k hk; omega⟩
theorem KsAt.seq {H:Hp} {v:V} {ks:List Kn} (h:KsAt H v ks):KsSeq H v ks:=by
 obtain ⟨a,vs,e,h1,h2⟩:=h.1
 exact ⟨a,vs,e,.inr h1,h2⟩
def xi6:Option Kn->Str
 | some k=>k.sort
 | none=>S "num"
end M
namespace L2
open PySem PySem.Spec PyProof.Rows
theorem xwk {X:Cx} {tg it:Expr} {w1 w2:TI} (h1:PI X tg it w1) (h2:PI X tg it w2):PI X tg it (fun σ H R=>w1 σ H R\/w2 σ H R):=fun pins s σ H R I h=>by
 rcases h with h | h
 ·exact h1 pins s σ H R I h
 ·exact h2 pins s σ H R I h
end L2
namespace L2
theorem xgn {σ:St} {H:Hp} {A B:Hp->Prop} (h:A H):tYes σ H (fun b H3=>if b=true then A H3 else B H3):=by
 unfold tYes
 show if true=true then A H else B H
 rw [if_pos rfl]
 exact h
end L2
namespace M
open PySem L2
theorem Fed.put {f p:Addr} {H H':Hp} (h:Fed f H H') (hp:H p=none) (hf:p≠f) (o:HO):Fed f H (upd H' p o):=by
 obtain ⟨s,x,y,e⟩:=h
 refine ⟨fun b u hb nb=>?_,x,y,?_⟩
 ·rw [xaz (neN hb hp)]
  exact s b u hb nb
 ·rw [xaz (Ne.symm hf)]
  exact e
theorem xbj {H:Hp} {p:Addr} {us:List V} (h:H p=some (.lst us)) (o:HO):∀ b vs,H b=some (.tup vs)->upd H p o b=some (.tup vs):=fun b vs hb=>by
 rw [xaz fun e=>by rw [e,h] at hb; cases hb]
 exact hb
theorem xml {ks:List Kn} {r:Int} (h0:0<=r) (h:r < 1 + (ks.length:Int)):∃ x,atI ([V.str (S "num")]++(ks.map Kn.name).map V.str) r=some (.str x)/\KIn ks ks.length x:=by
 have e:[V.str (S "num")]++(ks.map Kn.name).map V.str=(S "num" :: ks.map Kn.name).map V.str:=rfl
 obtain ⟨z,hz,hv⟩:=xm4 (cs:=(S "num" :: ks.map Kn.name).map V.str) h0 (by rw [zLM,List.length_cons,zLM]; push_cast; omega)
 obtain ⟨y,hy,rfl⟩:=zMP hz
 refine ⟨y,by rw [e]; exact hv,?_⟩
 rcases zMC hy with rfl | hy
 ·exact .inl rfl
 ·obtain ⟨k,hk,rfl⟩:=zMP hy
  exact KIn.of (.inr ⟨k,hk,rfl⟩)
theorem xl6 {ys:List Str} {i:Nat} (h:i < ys.length):atI (ys.map V.str) (0 + (i:Int))=some (.str ys[i]):=by
 rw [Int.zero_add]
 exact xbb (by rw [zGM,zGA h]; rfl)
end M
namespace M
open PySem L2
theorem xvv {nms:List Str} (h:nms.length=26):cutV (nms.map V.str) (some 8) (some 12)=((nms.drop 8).take 4).map V.str:=by
 unfold cutV HT.sIx
 rw [zLM,h,List.map_take,List.map_drop]
 rfl
theorem xwn {nms:List Str} (h:xl1 nms) (i:Nat):(((nms.drop 8).take 4).take i).Nodup/\∀ z∈((nms.drop 8).take 4).take i,Name z:=by
 have hs:(((nms.drop 8).take 4).take i).Sublist nms:=((List.take_sublist _ _).trans (List.take_sublist _ _)).trans (List.drop_sublist _ _)
 exact ⟨h.2.1.sublist hs,fun z hz=>h.2.2 z (hs.subset hz)⟩
theorem xo3 {nms:List Str} (h:nms.Nodup) {i:Nat} (hi:i < nms.length):nms[i] ∉ nms.take i:=fun hm=>by
 obtain ⟨j,hj,e⟩:=zMI hm
 rw [List.length_take] at hj
 rw [List.getElem_take] at e
 have:=(List.getElem_inj h).mp e
 omega
def xvw (nms:List Str) (ks:List Kn):Prop:=KWf ks/\ks.length<=4/\ks.map Kn.name=nms.take ks.length/\∀ k∈ks,k.parts.length<=4/\k.parts.map (·.1)=((nms.drop 8).take 4).take k.parts.length
end M
end
section
namespace M
open PySem L2
theorem xvo {A:Around} {k:Nat} (hr:Room k A):A.units + 200 < cLine:=by
 have:=hr.un
 omega
theorem KIn.look {ks:List Kn} (wf:KWf ks) {m:Nat} {x:Str} (h:KIn ks m x):(x=S "num"/\kAt ks x=none)\/∃ j k,m=j + 1/\kAt ks x=some k/\k.name=x/\k∈ks/\∀ p∈k.parts,KIn ks j p.2:=by
 rcases h with rfl | ⟨j,k,hj,hk,rfl⟩
 ·exact .inl ⟨rfl,wf.num⟩
 ·refine .inr ⟨m - 1,k,by omega,wf.at hk,rfl,zMG hk,fun p hp=>?_⟩
  rcases wf.ref j k hk p hp with z | ⟨i,k2,hi,z⟩
  ·exact .inl z
  ·exact .inr ⟨i,k2,by omega,z⟩
end M
end
section
namespace L2
open PySem PySem.Spec PyProof.Rows
theorem xwy {P:Program} {w:World} {k:Key} {v:Value} (h:(xbw P w).is k v=true):RelV (kV k) v:=by
 cases k with
 | inl i=>
  have h':Value.isInt i v=true:=h
  unfold Value.isInt at h'
  split at h' <;> simp_all [RelV,kV]
 | inr x=>
  have h':Value.isStrOf x v=true:=h
  unfold Value.isStrOf at h'
  split at h' <;> simp_all [RelV,kV]
theorem xkw:∀ {xs:List V} {us:List Value},xs.length=us.length->(∀ (i:Nat) x u,xs[i]?=some x->us[i]?=some u->RelV x u)->Vals xs us
 | [],[],_,_=>.nil
 | [],_ :: _,h,_=>by simp at h
 | _ :: _,[],h,_=>by simp at h
 | x :: xs,u :: us,h,k=>.cons (k 0 x u rfl rfl) (xkw (by simpa using h) fun i y w hy hw=>k (i + 1) y w (by simpa using hy) (by simpa using hw))
theorem KV.get {κ:Type} {kvs:List (κ×V)} {vs:List (κ×Value)} (r:KV kvs vs) {i:Nat} {p:κ×V} {q:κ×Value} (hp:kvs[i]?=some p) (hq:vs[i]?=some q):p.1=q.1:=by
 unfold KV at r
 induction r generalizing i with
 | nil=>simp at hp
 | cons h t ih=>
  cases i with
  | zero=>
   simp at hp hq
   subst hp hq
   exact h.1
  | succ i=>exact ih (by simpa using hp) (by simpa using hq)
end L2
end
section
namespace St
open PySem PySem.Spec PyProof.Rows
theorem xjy {ns:List Str} (nd:ns.Nodup):∀ i,i<=ns.length->met (fun i=>ns.getD i Str.empty) i=ns.take i
 | 0,_=>rfl
 | i + 1,h=>by
  rw [xc4,xjy nd i (by omega)]
  have e:ns.getD i Str.empty=ns[i]:=by simp [List.getD,zGA (show i < ns.length by omega)]
  show step_dedup (ns.take i) (ns.getD i Str.empty)=_
  rw [e]
  unfold step_dedup
  rw [if_neg,zTA,zGA (show i < ns.length by omega)]
  ·rfl
  ·intro hc
   obtain ⟨x,hx,he⟩:=List.any_eq_true.mp hc
   have he':x=ns[i]:=by simpa using he
   subst he'
   obtain ⟨j,hj,hje⟩:=List.getElem_of_mem hx
   rw [List.length_take] at hj
   rw [List.getElem_take] at hje
   have:=(List.getElem_inj nd).mp hje
   omega
end St
namespace L2
open PySem PySem.Spec PyProof.Rows
theorem xge:∀ {ns:List Str} {us:List Value},Vals (ns.map V.str) us->StrsAre us ns
 | [],_,h=>by cases h; exact .nil
 | x :: r,_,h=>by
  cases h with
  | cons a b=>
   obtain ⟨t,rfl⟩:=a
   constructor; exact xge b
end L2
end
section
namespace M
open PySem L2
theorem xhr {ks:List Kn} {k:Kn} {x:Str} (h:kAt ks x=some k) (n:Nat):szF (n + 1) ks x=1 + (if k.rc=true then (k.parts.map fun p=>szF n ks p.2).sum else maxD (k.parts.map fun p=>szF n ks p.2)):=by
 conv=>lhs; unfold szF
 rw [h]
theorem xee {ks:List Kn} {x:Str} (h:kAt ks x=none):∀ n,szF n ks x=1
  | 0=>rfl
  | n + 1 => by conv => lhs; unfold szF
                rw [h]
theorem xqe {ks:List Kn} (w:KWf ks) (j:Nat):∀ (x:Str),KIn ks j x->∀ n,j + 1<=n->szF n ks x=szF (j + 1) ks x:=by
 induction j with
 | zero=>
  intro x h n hn
  rcases h.look w with ⟨rfl,e⟩ | ⟨i,k,e0,_⟩
  ·rw [xee e,xee e]
  ·cases e0
 | succ j ih=>
  intro x h n hn
  rcases h.look w with ⟨rfl,e⟩ | ⟨i,k,e0,e,_,_,hp⟩
  ·rw [xee e,xee e]
  ·cases e0
   obtain ⟨m,rfl⟩:∃ m,n=m + 1:=⟨n - 1,by omega⟩
   have this:(k.parts.map fun p=>szF m ks p.2)=k.parts.map fun p=>szF (j + 1) ks p.2:=List.map_congr_left fun p hp'=>ih p.2 (hp p hp') m (by omega)
   rw [xhr e,xhr e,this]
def sz (ks:List Kn) (x:Str):Int:=szF 7 ks x
theorem xuh {ks:List Kn} (w:KWf ks):sz ks (S "num")=1:=xee w.num _
theorem xwd {ks:List Kn} (w:KWf ks) (x:Str):1<=sz ks x:=(xgr w.pts 7 x).1
def inSz (k:Kn) (f:Str->Int):Int:=if k.rc=true then (k.parts.map fun p=>f p.2).sum else maxD (k.parts.map fun p=>f p.2)
theorem xhz {k:Kn} {f g:Str->Int} (h:∀ p∈k.parts,f p.2=g p.2):inSz k f=inSz k g:=by
 unfold inSz
 rw [List.map_congr_left (g:=fun p=>g p.2) h]
theorem xwe {ks:List Kn} (w:KWf ks) {i:Nat} {k:Kn} (h:ks[i]?=some k):sz ks k.name=1 + inSz k (sz ks):=by
 have hf:=w.few
 have hi:i < ks.length:=(zES h).1
 show szF 7 ks k.name=_
 rw [xhr (w.at h)]
 show 1 + inSz k (szF 6 ks)=_
 rw [xhz (g:=sz ks)]
 intro p hp
 have hin:KIn ks 5 p.2:=KIn.mono (n:=i) (w.ref i k h p hp) (by omega)
 exact (xqe w 5 p.2 hin 7 (by omega)).symm
theorem xvk {ks more:List Kn} {x:Str} {k:Kn} (h:kAt ks x=some k):kAt (ks++more) x=some k:=by
 unfold kAt at h ⊢
 rw [List.find?_append,h]
 rfl
theorem xrq {ks more:List Kn} (w:KWf ks) (w2:KWf (ks++more)):∀ (n:Nat) (x:Str),KIn ks ks.length x->szF n (ks++more) x=szF n ks x
 | 0,_,_=>rfl
 | n + 1,x,h=>by
  rcases h.look w with ⟨rfl,e⟩ | ⟨i,k,e0,e,_,_,hp⟩
  ·rw [xee e,xee w2.num]
  ·rw [xhr e,xhr (xvk e),List.map_congr_left (g:=fun p=>szF n ks p.2) fun p hp'=>xrq w w2 n p.2 ((hp p hp').mono (by omega))]
theorem xui {ks more:List Kn} (w:KWf ks) (w2:KWf (ks++more)) {x:Str} (h:KIn ks ks.length x):sz (ks++more) x=sz ks x:=xrq w w2 7 x h
def Fit (ks:List Kn):Prop:=∀ k∈ks,sz ks k.name<=30
theorem Fit.nil:Fit []:=fun _ h=>nomatch h
theorem Fit.snoc {ks:List Kn} {k:Kn} (w:KWf ks) (w2:KWf (ks++[k])) (f:Fit ks) (hp:∀ p∈k.parts,KIn ks ks.length p.2) (hb:inSz k (sz ks)<=29):Fit (ks++[k]):=by
 intro z hz
 rcases zMA hz with hz | hz
 ·rw [xui w w2 (KIn.of (.inr ⟨z,hz,rfl⟩))]
  exact f z hz
 ·rw [zMO hz,xwe w2 (i:=ks.length) (by simp),xhz (g:=sz ks) fun p hp'=>xui w w2 (hp p hp')]
  omega
end M
end
section
set_option maxHeartbeats 1000000
namespace L2
open PySem PySem.Spec PySem.W PySem.Calls PyProof.Rows
open Builtin Builtin.ObjectAttr
section
variable {prog:Program} {w:World} {A:Around} {E:Value->Shared->Prop} {s:Shared} {K:Frag} {x C:Addr} {ox:Obj} {od:Option Obj} {name:Str}
structure XCls (K:Frag) (C:Addr):Prop where
 ga:findIn K (.ref C) "__getattribute__"=some (some (.builtin "BaseException.__getattribute__"))
 gk:findIn K (.ref C) "__getattr__"=some none
 mb:mroIn K C (.type "BaseException")=some true
 mo:mroIn K C (.type "object")=some true
 hd:hasDictIn K C=true
 ca:findIn K (.ref C) "__class__"=some (some (.builtin "object.__class__"))
 cn:specialIn K (.builtin "object.__class__") "__get__"=some (some (.builtin "getset_descriptor.__get__"))
 ct:takesIn K (.builtin "object.__class__")=some true
end
section
variable {prog:Program} {w:World} {A:Around} {E:Value->Shared->Prop} {h:Heap} {g:Array GenState} {d:Drawn} {t:Nat} {os:OsState}
variable {nm q:Str} {C N:Addr} {bs bm bmB:List Value} {hdct:Bool} {sn:List Str} {sub:List Value} {ab:Bool} {col:Option Bool} {dd:Option Addr} {k0 k1 k2 k3 k5:Option Value} {B newId initId:String}
abbrev newExc (C t:Addr) (dx:Option Addr):Obj:={ cls:=.ref C,dict:=dx,data:=.fields #[.ref t,.none,.none,.none,.bool false,.none] }
abbrev xfx (rest:List Value):Obj:={ cls:=.type "tuple",data:=.seq rest.toArray }
theorem xin (F:ExcBaseFacts B newId initId bmB) (T:OwnTail h bmB bm) {rest:List Value} {init:Value} {Q:Fin->Shared->Prop}
  (hC:h.get? C=some (excClassObj nm q C N bs bm hdct sn sub ab col dd k0 k1 k2 k3 k5 newId)) (hi:Looks (model prog w) h (typeLookup (.ref C) "__init__") (some init))
  (hb:∀ self,Looks (model prog w) h (bindSpecial init self) (init,[self]))
  (hq:wpAny (model prog w) A (call init (.ref (h.objs.size + 1) :: rest)) (fun r s'=>r=.none/\Q (.done (.ret (.ref (h.objs.size + 1)))) s') E ⟨(h.push (xfx rest)).push (newExc C h.objs.size none),g,d,t,os⟩) (hrest:rest.length<=sizeLine) :
  wpAny (model prog w) A (Builtin.«type.__call__» ⟨.ref C :: rest,[]⟩) Q E ⟨h,g,d,t,os⟩:=by
 repeat (first | with_reducible refine wpAny_loadPart_at hC ?_ | with_reducible refine wpAny_madeBy_exc hC ?_ | wp_step)
 refine codeAny_call_builtin_code (Code.quiet_builtin _ F.quiet) (wpAny_check_new_subT F T hC ?_)
 refine codeAny_exc_new_subT F T hC ?_ hrest
 show wpAny _ _ _ _ _ _
 have up:∀ b o,h.get? b=some o->((h.push (xfx rest)).push (newExc C h.objs.size none)).get? b=some o:=fun b o e=>zPO _ (zPO _ e)
 have hC₁:=up _ _ hC
 have hget:((h.push (xfx rest)).push (newExc C h.objs.size none)).get? (h.objs.size + 1)=some (newExc C h.objs.size none):=by heap_get
 have hcC:(Value.ref C :: bm).contains (.ref C)=true:=by simp
 unfold isInstance
 repeat (first | with_reducible refine wpAny_loadPart_at hget ?_ | (with_reducible refine wpAny_isSubtype_exc hC₁ ?_; rw [hcC]) | wp_step)
 show wpAny _ _ (typeLookup (.ref C) _) _ _ _
 refine hi _ _ _ _ up ?_
 refine wpAny_holding (wpAny_bind (hb _ _ _ _ _ up ?_))
 refine wpAny_bind (wpAny_mono hq (fun r s' hr=>?_) fun _ _ x=>x)
 obtain ⟨rfl,hQ⟩:=hr
 wp_walk
 exact hQ
theorem xrd (F:ExcBaseFacts B newId initId bmB) (T:OwnTail h bmB bm) {rest:List Value} {init:Value} {Q:Value->Shared->Prop}
  (hC:h.get? C=some (excClassObj nm q C N bs bm hdct sn sub ab col dd k0 k1 k2 k3 k5 newId)) (hi:Looks (model prog w) h (typeLookup (.ref C) "__init__") (some init))
  (hb:∀ self,Looks (model prog w) h (bindSpecial init self) (init,[self]))
  (hq:wpAny (model prog w) (A.under (.builtin "type.__call__" ⟨.ref C :: rest,[]⟩)) (call init (.ref (h.objs.size + 1) :: rest)) (fun r s'=>r=.none/\Q (.ref (h.objs.size + 1)) s') E
   ⟨(h.push (xfx rest)).push (newExc C h.objs.size none),g,d,t,os⟩) (hrest:rest.length<=sizeLine) :
  wpAny (model prog w) A (call (.ref C) rest) Q E ⟨h,g,d,t,os⟩:=by
 have f1:=tc_lookup
 have f2:=tc_bind (.ref C)
 have hT:(⟨h,g,d,t,os⟩:Shared).TypeIs (.ref C) "type":=⟨_,hC,rfl⟩
 refine wpAny_call (codeAny_of_tree ?_)
 show wpAny _ _ (callAny (.ref C) _) _ _ _
 repeat (any_goals (first | assumption | with_reducible refine wpAny_loadPart_at hC ?_ | wp_step))
 refine ⟨rfl,?_⟩
 refine codeAny_call_builtin_at (Code.quiet_builtin _ (by walk_at "k")) entry_typeCall (wpAny_check_type_call_sub hC (xin F T hC hi hb ?_ hrest))
 exact wpAny_mono hq (fun r s' z=>z) fun _ _ z=>z
theorem xrc (F:ExcBaseFacts B newId initId bmB) (T:OwnTail h bmB bm) {e t0:Addr} {rest:List Value} {Q:Value->Shared->Prop}
  (hC:h.get? C=some (excClassObj nm q C N bs bm hdct sn sub ab col dd k0 k1 k2 k3 k5 newId)) (he:h.get? e=some (newExc C t0 none))
  (hq:∀ h',(∀ b o,b≠e->h.get? b=some o->h'.get? b=some o)->h'.get? e=some (newExc C h.objs.size none)->Q .none ⟨h',g,d,t,os⟩) (hrest:rest.length<=sizeLine) :
  wpAny (model prog w) A (call (.builtin initId) (.ref e :: rest)) Q E ⟨h,g,d,t,os⟩:=by
 refine wpAny_call (codeAny_call_builtin F.init.plain F.initEntry (wpAny_check_init_subT F T hC he rfl ?_))
 wp_walk
 show Q .none _
 refine hq _ (fun b o hb e0=>?_) ?_
 ·rw [Heap.get?_update_other _ _ (Ne.symm hb)]
  exact zPO _ e0
 ·exact Heap.get?_update_self _ (zPO _ he) rfl
end
end L2
end
section
set_option maxHeartbeats 1000000
namespace L2
open PySem PySem.Spec PySem.W PySem.Calls PyProof.Rows
open Builtin Builtin.ObjectAttr
def xIn (K:Frag) (C:Addr) (bmB:List Value) (newId:String):Bool:=match K.lookup C with
 | some ⟨.type "type",_,.cls cd,sl⟩=>(match cd.mro,sl.toList with
  | .ref C' :: bm,[_,_,_,_,some (.builtin n),_]=>C' == C && n == newId && !cd.hasDel && cd.hasDict && tailIn K bmB bm
  | _,_=>false)
 | _=>false
def XObj (h:Heap) (C:Addr) (bmB:List Value) (newId:String):Prop:=
 ∃ nm q N bs bm sn sub ab col dd k0 k1 k2 k3 k5,h.get? C=some (excClassObj nm q C N bs bm true sn sub ab col dd k0 k1 k2 k3 k5 newId)/\OwnTail h bmB bm
theorem xh4 {K:Frag} {h:Heap} {C:Addr} {bmB:List Value} {newId:String} (X:K.In h) (e:xIn K C bmB newId=true):XObj h C bmB newId:=by
 unfold xIn at e
 split at e
 ·rename_i dd cd sl ho
  split at e
  ·rename_i C' bm k0 k1 k2 k3 n k5 hm hs
   simp only [Bool.and_eq_true,beq_iff_eq,Bool.not_eq_true'] at e
   obtain ⟨⟨⟨⟨rfl,rfl⟩,hdel⟩,hd⟩,ht⟩:=e
   obtain ⟨nm,bs,mro,ns,qn,hdct,sn,sub,ab,col,del⟩:=cd
   dsimp only at hm hdel hd
   subst hm hdel hd
   obtain ⟨sl⟩:=sl
   dsimp only at hs
   subst hs
   exact ⟨nm,qn,ns,bs,bm,sn,sub,ab,col,dd,k0,k1,k2,k3,k5,X _ _ ho,tail_of_in X ht⟩
  ·cases e
 ·cases e
end L2
end
section
set_option maxHeartbeats 1000000
namespace L2
open PySem PySem.Spec PyProof.Rows
def excO (e C:Addr) (d:Option Addr):HO:=.ext fun h=>∃ t:Addr,h.get? e=some (newExc C t d)
abbrev bmV:List Value:=[.type "ValueError",.type "Exception",.type "BaseException",.type "object"]
structure XCl (K:PySem.W.Frag) (C:Addr):Prop where
 cls:XCls K C
 obj:xIn K C bmV "ValueError.__new__"=true
 kp:PySem.W.keepIn K (.ref C)=true
 sa:PySem.W.findIn K (.ref C) "__setattr__"=some (some (.builtin "object.__setattr__"))
theorem ObjOk.exc {P:Program} {w:World} {H:Hp} {h:Heap} {e C t:Addr} {d:Option Addr} (he:h.get? e=some (newExc C t d)):ObjOk P w H h e (excO e C d):=
 ⟨⟨t,he⟩,⟨_,he⟩,fun h1 h2 ⟨t',a⟩ k=>⟨t',k _ a⟩⟩
theorem HOk.exc {P:Program} {w:World} {H:Hp} {h:Heap} {e C:Addr} {d:Option Addr} (x:HOk P w H h) (q:H e=some (excO e C d)):∃ t,h.get? e=some (newExc C t d):=
 (show ObjOk P w H h e (excO e C d) from x e _ q).1
section
variable {X:Cx} {pins:List (Addr×Obj)} {σ:St} {H:Hp} {s:Shared} {C:Addr} {Q:VK} {us:List Value} {vs:List V} {CX:CXT} {k:Nat} {f:Addr} {fd:FuncData} {ps:List Str} {sp:Sp} {E:XK}
theorem xtn {h:Heap} {rest:List Value} {C:Addr}:((h.push (xfx rest)).push (newExc C h.objs.size none)).get? (h.objs.size + 1)=some (newExc C h.objs.size none):=by heap_get
theorem xsv (M:XCl X.K C) (hi:PySem.W.findIn X.K (.ref C) "__init__"=some (some (.builtin "ValueError.__init__"))) (I:Inv X pins σ H s) (r:Vals vs us) (hl:vs.length<=sizeLine)
  (h:∀ e,H e=none->Q (.ref e) (upd H e (excO e C none))):wpAny (model X.prog X.w) X.A (call (.ref C) us) (EP X pins σ Q) X.xe s:=by
 have hl':us.length<=sizeLine:=by rw [<- r.length]; exact hl
 have kin:=I.kIn
 obtain ⟨nm,qn,N,bs,bm,sn,sub,ab,col,dd,k0,k1,k2,k3,k5,hC,T⟩:=xh4 kin M.obj
 have hq:=h (s.heap.objs.size + 1) (I.hok.fresh (Nat.le_succ _))
 obtain ⟨hh,g,d,t,os⟩:=s
 have up:∀ b o,hh.get? b=some o->((hh.push (xfx us)).push (L2.newExc C hh.objs.size none)).get? b=some o:=fun b o e=>zPO _ (zPO _ e)
 refine xrd PySem.F.excBase_ValueError T hC (PySem.W.looks_findIn kin hi) (fun self=>PySem.W.Looks.of_pure (PySem.F.excBase_ValueError.init.bind self)) ?_ hl'
 refine xrc PySem.F.excBase_ValueError (T.keeps up) (up _ _ hC) xtn (fun h' kk e'=>⟨rfl,?_⟩) hl'
 exact ⟨.ref (hh.objs.size + 1),_,I.laid (t':=t) (fun b u e=>kk b u (fun z=>by have z1:b < hh.objs.size:=Heap.lt_size e; exact absurd z1 (by rw [show b=hh.objs.size + 1 from z]; exact Nat.not_lt.mpr (Nat.le_succ _))) (up b u e)) (Nat.le_succ _) (ObjOk.exc e'),rfl,hq⟩
variable {x:Str} {p pos:Pos} {e:Expr} {es:List Expr} {t:TA}
def tExc (C:Addr) (t:TA):TE:=fun σ H Q=>t σ H fun vs H1=>vs.length<=sizeLine/\∀ e,H1 e=none->Q (.ref e) (upd H1 e (excO e C none))
theorem xea (M:XCl X.K C) (hi:PySem.W.findIn X.K (.ref C) "__init__"=some (some (.builtin "ValueError.__init__"))) (hg:Gl X x) (hm:X.mg x=some (.ref C)) (ha:PA X (e :: es) t)
  (hdb:(x == ("__debug__":Str))=false:=by decide) (he:starEach (e :: es) X.env=(false,eval e X.env) :: starEach es X.env:=by rfl) (hpl:(backTo pos (starEach es X.env)).any (·.1)=false:=by rfl) :
  PE X (.Call (.Name x p) (e :: es) [] pos) (tExc C t):=by
 intro pins s σ H Q I h
 refine wpAny_Call_Name_kw (xg4 I hg hm ?_ hdb)
 refine PySem.W.callWith_K (h₀:=X.base) I.ok.mod.kin M.kp (thn (ha pos pins s σ H _ I h) fun us s1 ⟨vs,H1,I1,r,q⟩=>⟨I1.kIn,?_⟩) he hpl
 exact xsv M hi I1 r q.1 q.2
variable {o value:Expr} {fl:Str} {pos':Pos} {ta tv:TE}
end
end L2
end
section
set_option maxHeartbeats 1000000
end
section
set_option maxHeartbeats 1000000
namespace L2
open PySem PySem.Spec PyProof.Rows
section
variable {X:Cx}
def rNeL (K:PySem.W.Frag):R2:=fun x y H Q=>∃ a b xs ys,x=.ref a/\y=.ref b/\SqL K H a xs/\SqL K H b ys/\xs.all xfl=true/\ys.all xfl=true/\Q (.bl (!eqVs xs ys)) H
theorem xu2 (hu:X.A.units < cLine):OpR X (compareOp .NotEq) (rNeL X.K):=by
 intro pins s σ H x y v u Q I rx ry h
 obtain ⟨a,b,xs,ys,rfl,rfl,ha,hb,fa,fb,q⟩:=h
 cases rx
 cases ry
 obtain ⟨its,r1,p1,_⟩:=I.list ha
 obtain ⟨its2,r2,p2,_⟩:=I.list hb
 have l1:=r1.length
 have l2:=r2.length
 by_cases hl:xs.length=ys.length
 ·refine PySem.EqBoolInt.of_rcne (SeqAt.RcNeAt.lists (e:=fun i=>eqV (xs.getD i .non) (ys.getD i .non)) p1.isList p2.isList (by simp only [List.size_toArray]; omega) hu fun j h1 h2=>?_) ⟨.bl _,H,I,rfl,?_⟩
  ·have j1:j < xs.length:=by simp only [List.size_toArray] at h1; omega
   have j2:j < ys.length:=by simp only [List.size_toArray] at h2; omega
   obtain ⟨u1,e1,q1⟩:=r1.get (i:=j) (x:=xs[j]) (zGA j1)
   obtain ⟨u2,e2,q2⟩:=r2.get (i:=j) (x:=ys[j]) (zGA j2)
   have g1:its.toArray[j]=u1:=by
    have:its[j]?=some its[j]:=zGA (by omega)
    rw [e1] at this
    simpa using (Option.some.inj this).symm
   have g2:its2.toArray[j]=u2:=by
    have:its2[j]?=some its2[j]:=zGA (by omega)
    rw [e2] at this
    simpa using (Option.some.inj this).symm
   rw [g1,g2,List.getD_eq_getElem?_getD,List.getD_eq_getElem?_getD,zGA j1,zGA j2]
   exact xsg q1 q2 (List.all_eq_true.mp fa _ (List.getElem_mem j1)) (List.all_eq_true.mp fb _ (List.getElem_mem j2))
  ·rw [List.size_toArray,<- l1,xh0 hl]
   exact q
 ·refine PySem.EqBoolInt.of_rcne (SeqAt.RcNeAt.lists_lengths p1.isList p2.isList (by simp only [List.size_toArray]; simp; omega) hu) ⟨.bl _,H,I,rfl,?_⟩
  rw [xmx hl] at q
  exact q
end
open PySem.W in
def ad (K:Frag) (x:Str):Addr:=match nsIn K mainGlobals x with | some (some (.ref C))=>C | _=>0
def names11:List Str:=["BadText","Twice","NoName","NoCount","WrongKind","Lacks","NotOwn","Falls","TooBig","NoFit","NoCode"]
def cAt (K:PySem.W.Frag) (i:Nat):Addr:=ad K (names11.getD i "")
open PySem.W in
def xsj (K:Frag) (C:Addr):Bool:=
 findIn K (.ref C) "__getattribute__" == some (some (.builtin "BaseException.__getattribute__")) && (findIn K (.ref C) "__getattr__" == some none && (mroIn K C (.type "BaseException") == some true && (mroIn K C (.type "object") == some true &&
 (hasDictIn K C && (findIn K (.ref C) "__class__" == some (some (.builtin "object.__class__")) && (specialIn K (.builtin "object.__class__") "__get__" == some (some (.builtin "getset_descriptor.__get__")) && (takesIn K (.builtin "object.__class__") == some true &&
 (xIn K C bmV "ValueError.__new__" && (keepIn K (.ref C) && findIn K (.ref C) "__setattr__" == some (some (.builtin "object.__setattr__")))))))))))
theorem xtw {K:PySem.W.Frag} {C:Addr} (e:xsj K C=true):XCl K C:=by
 unfold xsj at e
 simp only [Bool.and_eq_true,beq_iff_eq] at e
 obtain ⟨e1,e2,e3,e4,e5,e6,e7,e8,e9,e10,e11⟩:=e
 exact ⟨⟨e1,e2,e3,e4,e5,e6,e7,e8⟩,e9,e10,e11⟩
end L2
end
section
namespace PySem
open Sem (wp)
section
variable {prog:Program} {w:World} {A:Around} {E:Value->Shared->Prop} {s:Shared}
theorem xfk {a:Addr} {xs:Array Value} {k:Nat} {sl:Array (Option Value)} {name:Str} {Q:Option Value->Shared->Prop}
  (hx:s.heap.get? a=some { cls:=.type "list",dict:=none,data:=.seq xs k,slots:=sl }) (hmiss:typeLookup (.type "list") name=pure none) (hname:(["__module__","__name__","__qualname__","__doc__","__annotations__"]:List Str).contains name=false) (hA:A.handled=none)
  (h:∀ h' tk,(∀ b o,s.heap.get? b=some o->h'.get? b=some o)->Q none { s with heap:=h',toks:=tk }) (hsz:name.length + 100<=sizeLine) :
  wpAny (model prog w) A (getAttr? (.ref a) name) Q E s:=by
 obtain ⟨hp,g,d,tk,os⟩:=s
 have hT:∀ tk',(⟨hp,g,d,tk',os⟩:Shared).TypeIs (.ref a) "list":=fun _=>⟨_,hx,rfl⟩
 have f1:=sub_AttributeError
 have f3:=F.slot_list_getattribute.lookup
 have f4:=F.slot_list_getattribute.bind (.ref a)
 have f5:=am_list_getattr_none
 unfold getAttr? getAttrBy? getAttrBy
 repeat (any_goals (first | assumption | exact hT _ | ((with_reducible show wpAny _ _ (call (Value.builtin "list.__getattribute__") _ _) _ _ _); refine call_meets F.slot_list_getattribute (hT _) am_entry_list_getattribute (F.args_list_getattribute_2 _ _) (meets_getattribute_miss_list a xs k sl name _ hmiss hname hsz) ⟨hx,hA,fun h' tk' e hx'=>?_⟩) | wp_step))
 obtain ⟨t',u',he⟩:=hx'.there
 show wpAny _ _ (getattributeRaised _ _ _ _ _ _ _) _ _ _
 unfold getattributeRaised
 repeat (any_goals (first | assumption | wp_step))
 all_goals first | exact h _ _ hx'.keeps | skip
end
end PySem
namespace L2
open PySem PySem.Spec PyProof.Rows
theorem xcv:plainId "dict.update.loop"=true:=by walk_at "k"
theorem xe3:entryFor table "dict.update.loop"=some Builtin.«dict.update.loop»:=entryFor_of_fast (by kernel_rfl)
section
variable {prog:Program} {w:World} {A:Around} {K:Type} [DecidableEq K] {knd:KeyKind prog w K}
def PairsAt (knd:KeyKind prog w K) (h:Heap):List Value->List (K×Value)->Prop
 | [],[]=>True
 | it :: its,p :: ps=>(∃ a key,it=.ref a/\h.IsTuple a #[key,p.2]/\knd.is p.1 key=true)/\PairsAt knd h its ps
 | _,_=>False
theorem PairsAt.keep {h h':Heap}:∀ {its:List Value} {ps:List (K×Value)},PairsAt knd h its ps->(∀ a xs,h.IsTuple a xs->h'.IsTuple a xs)->PairsAt knd h' its ps
 | [],[],_,_=>trivial
 | it :: its,p :: ps,⟨⟨a,key,e,ha,hk⟩,r⟩,k=>⟨⟨a,key,e,k _ _ ha,hk⟩,PairsAt.keep r k⟩
 | [],_ :: _,h,_=>h.elim
 | _ :: _,[],h,_=>h.elim
theorem xkx {h:Heap} {a d:Addr} {xs:Array Value} {kvs:List (K×Value)} (ht:h.IsTuple a xs) (hd:h.DictOf knd d kvs):a≠d:=fun e=>by
 subst e
 obtain ⟨o,ho,hc,_⟩:=ht
 obtain ⟨t,_,_,ht2,hx2,_⟩:=hd
 have hc2:=hx2.1
 have:o=t:=Option.some.inj (ho.symm.trans ht2)
 subst this
 rw [hc] at hc2
 exact absurd (Value.type.inj hc2) (by decide)
theorem xgp {h:Heap} {a I l:Addr} {i:Nat} {xs:Array Value} (ht:h.IsTuple a xs) (hd:h.IsListIter I l i):a≠I:=fun e=>by
 subst e
 obtain ⟨o,ho,hc,_⟩:=ht
 obtain ⟨t,ht2,hc2,_⟩:=hd
 have:o=t:=Option.some.inj (ho.symm.trans ht2)
 subst this
 rw [hc] at hc2
 exact absurd (Value.type.inj hc2) (by decide)
theorem upd_loop {R:Result->Shared->Prop} {I l d:Addr} {its:List Value} {ps:List (K×Value)} (hh:A.in1.handled=none) (hne:l≠I) (hdl:l≠d) (hdI:I≠d) :
    ∀ (k i:Nat) (s:Shared) (cur:List (K×Value)),its.length - i=k->i<=its.length->s.heap.IsListIter I l i->s.heap.IsList l its.toArray->s.heap.DictOf knd d cur->PairsAt knd s.heap (its.drop i) (ps.drop i)->cur.length + (its.length - i)<=sizeLine->
    (∀ h' tk,h'.DictOf knd d (merged cur (ps.drop i))->(∀ b o,b≠d->b≠I->s.heap.get? b=some o->h'.get? b=some o)->R (.ok (.ret .none)) { s with heap:=h',toks:=tk })->
    codeAny (model prog w) A (.builtin "dict.update.loop" ⟨[.ref d,.ref I,rawInt i,.none],[]⟩) R s:=by
  intro k
  induction k with
  | zero=>
    intro i s cur hk hi hit hl hd hp hsz hR
    have hin:i=its.length:=by omega
    have W:=Walks.list (prog:=prog) (w:=w) (A:=A.in1) hh I l hne its.toArray
    refine codeAny_builtin xe3 ?_
    rw [Around.under_plainId xcv _]
    show wpAny _ A.in1 (pyNext (.ref I) >>= _) _ _ s
    refine wpAny_bind (W.done s _ _ (by have e : its.toArray.size = i := by simp [hin]
                                        rw [e]; exact ⟨hit,hl⟩) fun h' tk hk'=>?_)
    show wpAny _ _ (Builtin.Dict.addKeywords d [] >>= _) _ _ _
    refine wpAny_bind (wpAny_pure (wpAny_pure ?_))
    have hps:ps.drop i=[]:=by
      rw [hin,List.drop_length] at hp
      rw [hin]
      cases hq:ps.drop its.length with
      | nil=>rfl
      | cons p r=>rw [hq] at hp; exact hp.elim
    refine hR h' tk ?_ fun b o hb hbI e=>hk' b o (by simpa using hbI) e
    rw [hps]
    exact hd.at fun o e=>hk' d o (by simpa using (Ne.symm hdI)) e
  | succ k ih=>
    intro i s cur hk hi hit hl hd hp hsz hR
    have hlt:i < its.length:=by omega
    have W:=Walks.list (prog:=prog) (w:=w) (A:=A.in1) hh I l hne its.toArray
    have hdi:its.drop i=its[i] :: its.drop (i + 1):=List.drop_eq_getElem_cons hlt
    rw [hdi] at hp
    obtain ⟨p,r,hpe⟩:∃ p r,ps.drop i=p :: r:=by
      cases hq:ps.drop i with
      | nil=>rw [hq] at hp; exact hp.elim
      | cons p r=>exact ⟨p,r,rfl⟩
    have hpr:ps.drop (i + 1)=r:=by rw [<- List.tail_drop,hpe]; rfl
    rw [hpe] at hp
    obtain ⟨⟨a,key,ea,hta,hkey⟩,hrest⟩:=hp
    refine codeAny_builtin xe3 ?_
    rw [Around.under_plainId xcv _]
    show wpAny _ A.in1 (pyNext (.ref I) >>= _) _ _ s
    refine wpAny_bind (W.item i s _ _ (by simpa using hlt) ⟨hit,hl⟩ fun v h' tk hP hst' hk'=>?_)
    have hv:v=.ref a:=by
      have:its[i]?=some v:=by simpa using hP
      rw [zGA hlt,ea] at this
      exact (Option.some.inj this).symm
    subst hv
    have hta':h'.IsTuple a #[key,p.2]:=hta.at fun o e=>hk' a o (by simpa using xgp hta hit) e
    have hd':h'.DictOf knd d cur:=hd.at fun o e=>hk' d o (by simpa using (Ne.symm hdI)) e
    obtain ⟨oa,hoa,hca,na,hda⟩:=id hta'
    refine wpAny_bind (wpAny_holding (wpAny_bind (wpAny_tryCatch ?_)))
    unfold Builtin.Dict.pairItems
    refine wpAny_bind (wpAny_typeOf ⟨oa,hoa,hca⟩ ?_)
    rw [if_pos (by decide)]
    refine wpAny_bind (wpAny_seqItems hoa hda (wpAny_pure ?_))
    show wpAny _ _ (holding [key,p.2] (dictSet d key p.2)) _ _ _
    refine wpAny_holding (wpAny_dictSet_pairs hkey hd' (fun h2 hd2 hs2=>?_) (by omega))
    have st2:h2.IsListIter I l (i + 1)/\h2.IsList l its.toArray:=⟨hst'.1.at fun o e=>(hs2.2 I hdI).trans e,hst'.2.at fun o e=>(hs2.2 l hdl).trans e⟩
    refine wpAny_pure ⟨plainId_quiet xcv _,ih (i + 1) _ _ (by omega) hlt st2.1 st2.2 hd2 ?_ ?_ fun h3 tk3 hd3 hk3=>?_⟩
    · rw [hpr]
      exact hrest.keep fun b xs hb=>by
        have h1:h'.IsTuple b xs:=hb.at fun o e=>hk' b o (by simpa using xgp hb hit) e
        exact h1.at fun o e=>(hs2.2 b (xkx h1 hd')).trans e
    · have:=stored_length_le cur p.1 p.2
      omega
    · refine hR h3 tk3 ?_ fun b o hb hbI e=>hk3 b o hb hbI ((hs2.2 b hb).trans (hk' b o (by simpa using hbI) e))
      rw [hpe]
      rw [hpr] at hd3
      exact hd3
end
end L2
namespace L2
open PySem PySem.Spec PyProof.Rows
theorem xj1:typeLookup (.type "list") "keys"=pure none:=am_miss_of_fast (by kernel_rfl)
section
variable {prog:Program} {w:World} {A:Around} {E:Value->Shared->Prop} {s:Shared} {K:Type} [DecidableEq K] {knd:KeyKind prog w K}
theorem xf5 {l:Addr} {its:List Value} {n:Nat} {ps:List (K×Value)} {Q:Value->Shared->Prop} (hh:A.handled=none) (hl:s.heap.get? l=some { cls:=.type "list",data:=.seq its.toArray n }) (hp:PairsAt knd s.heap its ps) (hsz:its.length<=sizeLine)
  (h:∀ h' tk,h'.DictOf knd s.heap.objs.size (merged [] ps)->(∀ b o,s.heap.get? b=some o->h'.get? b=some o)->Q (.ref s.heap.objs.size) { s with heap:=h',toks:=tk }) :
  wpAny (model prog w) A (call (.type "dict") [.ref l]) Q E s:=by
 refine callType_codes (Q₁:=fun obj s₁=>obj=.ref s.heap.objs.size/\s₁={ s with heap:=s.heap.push { cls:=.type "dict",data:=.dict #[] } }) F.kt_called_dict (F.kt_typeCall_dict_1 _) F.entry_dict_init (kt_code_dict_new _ ⟨rfl,rfl⟩) ?_
 rintro obj s₁ ⟨rfl,rfl⟩
 have hnew:(s.heap.push { cls:=.type "dict",data:=.dict #[] }).DictOf knd s.heap.objs.size []:=Heap.DictOf.new s.heap
 have ext0:∀ b o,s.heap.get? b=some o->(s.heap.push { cls:=.type "dict",data:=.dict #[] }).get? b=some o:=fun b o e=>zPO _ e
 have hl0:=ext0 _ _ hl
 have hT:(⟨s.heap.push { cls:=.type "dict",data:=.dict #[] },s.gens,s.drawn,s.toks,s.os⟩:Shared).TypeIs (.ref l) "list":=⟨_,hl0,rfl⟩
 have hdl:l≠s.heap.objs.size:=fun e=>absurd (Heap.lt_size hl) (by rw [e]; exact Nat.lt_irrefl _)
 refine ⟨hnew.typeIs,F.args_dict_init_2 _ _,?_⟩
 unfold Builtin.«dict.__init__»
 refine wpAny_bind ?_
 unfold Builtin.Dict.selfAndRest
 refine wpAny_bind (wpAny_notOrdered_dict hnew.typeIs ?_)
 show wpAny _ _ (pure (s.heap.objs.size,[Value.ref l])) _ _ _
 refine wpAny_pure ?_
 show wpAny _ _ (Builtin.Dict.updateFrom "dict.__init__" s.heap.objs.size (.ref l) [] .none) _ _ _
 unfold Builtin.Dict.updateFrom
 refine wpAny_bind (wpAny_typeOf hT ?_)
 rw [if_pos (by decide)]
 refine wpAny_bind (xfk (sl:=#[]) hl0 xj1 (by walk_at "k") hh (fun h1 tk1 k1=>?_) (by walk_at "k"))
 rw [if_pos (show (none:Option Value).isNone=true from rfl)]
 refine wpAny_bind (wpAny_rule ?_)
 have hl1:=k1 _ _ hl0
 have hL1:h1.IsList l its.toArray:=⟨_,hl1,rfl,_,rfl⟩
 refine wpAny_bind (wpAny_pyIter_list hL1 (wpAny_pure ⟨plainId_quiet xcv _,?_⟩))
 have hsz1:s.heap.objs.size < h1.objs.size:=Heap.lt_size (k1 _ _ (Heap.get?_push_size _ rfl))
 have hlI:l < h1.objs.size:=Heap.lt_size hl1
 have ext2:∀ b o,h1.get? b=some o->(h1.push { cls:=.type "list_iterator",data:=.fields #[.ref l,.int 0 0] }).get? b=some o:=fun b o e=>zPO _ e
 refine upd_loop (knd:=knd) (A:=A.in1) (ps:=ps) (l:=l) (d:=s.heap.objs.size) (its:=its) hh (Nat.ne_of_lt hlI) hdl (Nat.ne_of_gt hsz1) its.length 0 _ [] (Nat.sub_zero _) (Nat.zero_le _) ⟨_,Heap.get?_push_size _ rfl,rfl,rfl⟩ (hL1.push _) (hnew.at fun o e=>ext2 _ _ (k1 _ _ e)) (hp.keep fun a xs ha=>ha.at fun o e=>ext2 _ _ (k1 _ _ (ext0 _ _ e))) (by simpa using hsz) fun h3 tk3 hd3 hk3=>?_
 refine ⟨rfl,h h3 tk3 hd3 fun b o e=>hk3 b o ?_ ?_ (ext2 _ _ (k1 _ _ (ext0 _ _ e)))⟩
 ·exact fun z=>absurd (Heap.lt_size e) (by rw [z]; exact Nat.lt_irrefl _)
 ·exact fun z=>absurd (Heap.lt_size e) (by rw [z]; exact Nat.not_lt_of_gt hsz1)
end
end L2
namespace L2
open PySem PySem.Spec PyProof.Rows
def PairsV (H:Hp):List V->List (Key×V)->Prop
 | [],[]=>True
 | y :: ys,kv :: kvs=>(∃ b,y=.ref b/\H b=some (.tup [kV kv.1,kv.2]))/\PairsV H ys kvs
 | _,_=>False
theorem PairsV.length {H:Hp}:∀ {ys:List V} {kvs:List (Key×V)},PairsV H ys kvs->ys.length=kvs.length
 | [],[],_=>rfl
 | y :: ys,kv :: kvs,⟨_,r⟩=>by rw [List.length_cons,List.length_cons,PairsV.length r]
 | [],_ :: _,h=>h.elim
 | _ :: _,[],h=>h.elim
section
variable {X:Cx}
theorem xic {pins:List (Addr×Obj)} {σ:St} {H:Hp} {s:Shared} (I:Inv X pins σ H s):∀ {ys:List V} {its:List Value} {kvs:List (Key×V)},Vals ys its->PairsV H ys kvs->∃ ps,KV kvs ps/\PairsAt (xbw X.prog X.w) s.heap its ps
 | [],_,[],r,_=>by cases r; exact ⟨[],.nil,trivial⟩
 | y :: ys,_,kv :: kvs,r,⟨⟨b,eb,hb⟩,rest⟩=>by
  subst eb
  cases r with
  | cons h t=>
   obtain ⟨ps,hk,hp⟩:=xic I t rest
   obtain ⟨its2,r2,p2,_⟩:=I.tuple (SqT.of (K:=X.K) hb)
   obtain ⟨u1,u2,rfl,e1,e2⟩:=r2.two
   exact ⟨(kv.1,u2) :: ps,.cons ⟨rfl,e2⟩ hk,⟨b,u1,h,p2,xlq e1⟩,hp⟩
 | [],_,_ :: _,_,h=>h.elim
 | _ :: _,_,[],_,h=>h.elim
theorem xc9 (hc:X.calm=true):xfz X (.type "dict") (fun xs H Q=>∃ a ys,∃ kvs:List (Key×V),xs=[.ref a]/\H a=some (.lst ys)/\PairsV H ys kvs/\∀ p,H p=none->Q (.ref p) (upd H p (.dK (xav [] kvs)))):=by
 intro pins s σ H xs us Q I r h
 obtain ⟨a,ys,kvs,rfl,ha,hp,q⟩:=h
 obtain ⟨u,rfl,ru⟩:=xf6 r
 obtain rfl:u=.ref a:=ru
 obtain ⟨hz,its,n,rv,hl⟩:=(show ObjOk X.prog X.w H s.heap a (.lst ys) from I.hok a _ ha)
 obtain ⟨ps,hk,hpa⟩:=xic I rv hp
 have hyl:=hp.length
 refine xf5 (knd:=xbw X.prog X.w) (I.ok.hd hc) hl hpa (by rw [<- rv.length]; exact hz) fun h' tk dd' k'=>?_
 have hz':(xav [] kvs).length<=sizeLine:=by
  have:=xcl kvs []
  rw [List.length_nil] at this
  omega
 exact ⟨.ref s.heap.objs.size,_,I.laid (a:=s.heap.objs.size) (o:=.dK (xav [] kvs)) (t':=tk) k' (Nat.le_refl _) (xmy hz' (beq_eq_false_iff_ne.mpr (Ne.symm (Nat.ne_of_lt I.big))) (hk.merge .nil) dd'),rfl,q _ (I.hok.fresh (Nat.le_refl _))⟩
end
end L2
end
section
namespace L2
open PySem PySem.Spec PySem.W PyProof.Rows M
theorem xth {κ:Type} {kvs:List (κ×V)} {vs:List (κ×Value)} (r:KV kvs vs):kvs.map (·.1)=vs.map (·.1):=by
 unfold KV at r
 induction r with
 | nil=>rfl
 | cons h t ih=>rw [List.map_cons,List.map_cons,ih,h.1]
end L2
end
section
namespace M
open PySem L2
inductive Vk (ks:List Kn):Str->D->Prop
 | num (i:Int) (h:Nm i):Vk ks (S "num") (.int i)
 | rc {x:Str} {k:Kn} {ws:List D} (hk:kAt ks x=some k) (hr:k.rc=true) (hl:ws.length=k.parts.length) (h:∀ (i:Nat) (w:D) (p:Str×Str),ws[i]?=some w->k.parts[i]?=some p->Vk ks p.2 w):Vk ks x (.tup [.str x,.tup ws])
 | al {x:Str} {k:Kn} {p:Str×Str} {w:D} (hk:kAt ks x=some k) (hr:k.rc=false) (hp:p∈k.parts) (h:Vk ks p.2 w):Vk ks x (.tup [.str x,.str p.1,w])
theorem xiw {ks:List Kn} (wf:KWf ks) {x:Str} {v:D} (hx:x=S "num") (h:Vk ks x v):∃ i,Nm i/\v=.int i:=by
 cases h with
 | num i hi=>exact ⟨i,hi,rfl⟩
 | rc hk=>rw [hx,wf.num] at hk; cases hk
 | al hk=>rw [hx,wf.num] at hk; cases hk
theorem xrn {ks:List Kn} (wf:KWf ks) {x:Str} {k:Kn} {v:D} (hx:kAt ks x=some k) (hr:k.rc=true) (h:Vk ks x v):∃ ws,ws.length=k.parts.length/\(∀ (i:Nat) w p,ws[i]?=some w->k.parts[i]?=some p->Vk ks p.2 w)/\v=.tup [.str x,.tup ws]:=by
 cases h with
 | num i hi=>rw [wf.num] at hx; cases hx
 | rc hk hr' hl h=>
  rw [hx] at hk
  cases hk
  exact ⟨_,hl,h,rfl⟩
 | al hk hr'=>
  rw [hx] at hk
  cases hk
  rw [hr] at hr'
  cases hr'
theorem xro {ks:List Kn} (wf:KWf ks) {x:Str} {k:Kn} {v:D} (hx:kAt ks x=some k) (hr:k.rc=false) (h:Vk ks x v):∃ p∈k.parts,∃ w,Vk ks p.2 w/\v=.tup [.str x,.str p.1,w]:=by
 cases h with
 | num i hi=>rw [wf.num] at hx; cases hx
 | rc hk hr'=>
  rw [hx] at hk
  cases hk
  rw [hr] at hr'
  cases hr'
 | @al _ _ p w hk hr' hp h=>
  rw [hx] at hk
  cases hk
  exact ⟨p,hp,w,h,rfl⟩
theorem xkv {ks:List Kn} (wf:KWf ks):∀ (m:Nat) (x:Str) (v:D),KIn ks m x->Vk ks x v->v.deep<=2 * m
 | 0,x,v,hin,h=>by
  rcases hin.look wf with ⟨e,_⟩ | ⟨j,k,e,_⟩
  ·obtain ⟨i,_,rfl⟩:=xiw wf e h
   exact Nat.zero_le _
  ·cases e
 | m + 1,x,v,hin,h=>by
  rcases hin.look wf with ⟨e,_⟩ | ⟨j,k,e,hkx,hn,hm,hp⟩
  ·obtain ⟨i,_,rfl⟩:=xiw wf e h
   exact Nat.zero_le _
  ·cases e
   cases hc:k.rc with
   | true=>
    obtain ⟨ws,hl,hw,rfl⟩:=xrn wf hkx hc h
    have:xhp ws<=2 * m:=xmz fun d hd=>by
     obtain ⟨i,hi,e⟩:=zMI hd
     have hi2:i < k.parts.length:=by omega
     exact xkv wf m _ d (hp _ (List.getElem_mem hi2)) (hw i d k.parts[i] (by rw [<- e]; exact zGA hi) (zGA hi2))
    show max 0 (max (xhp ws + 1) 0) + 1<=2 * (m + 1)
    omega
   | false=>
    obtain ⟨p,hpp,w,hw,rfl⟩:=xro wf hkx hc h
    have:=xkv wf m _ w (hp p hpp) hw
    show max 0 (max 0 (max w.deep 0)) + 1<=2 * (m + 1)
    omega
def FitB (ks:List Kn) (bs:List (Str×Str)) (env:En):Prop:=∀ p∈bs,∃ v,env p.1=some v/\Vk ks p.2 v
theorem FitB.put {ks:List Kn} {bs:List (Str×Str)} {env:En} {y k:Str} {v:D} (h:FitB ks bs env) (hy:∀ p∈bs,p.1≠y) (hv:Vk ks k v):FitB ks (bs++[(y,k)]) (env.put y v):=fun p hp=>by
 unfold En.put
 rcases zMA hp with hp | hp
 ·obtain ⟨v',h1,h2⟩:=h p hp
  exact ⟨v',by rw [if_neg (hy p hp)]; exact h1,h2⟩
 ·rw [zMO hp]
  exact ⟨v,by rw [if_pos rfl],hv⟩
def Sg (s:Str):Prop:=s=S "+"\/s=S "-"\/s=S "*"\/s=S "<"\/s=S "="
def SgD (d:D):Prop:=∀ s a b,d=tOpD s a b->Sg s
def Evs (ks:List Kn):Nat->En->D->D->Prop
 | 0=>xfq
 | n + 1=>fun env d v=>xfq env d v\/(NodeEv ks (Evs ks n) env d v/\SgD d)
theorem All2.imp3 {α β:Type} {R R':α->β->Prop} (k:∀ a b,R a b->R' a b):∀ {as:List α} {bs:List β},All2 R as bs->All2 R' as bs
 | _,_,.nil=>.nil
 | _,_,.cons h t=>.cons (k _ _ h) (All2.imp3 k t)
theorem NodeEv.mono {ks:List Kn} {R R':En->D->D->Prop} (k:∀ env d v,R env d v->R' env d v) {env:En} {d v:D} (h:NodeEv ks R env d v):NodeEv ks R' env d v:=by
 rcases h with ⟨s,a,b,x,y,h1,h2,r⟩ | ⟨kk,es,vs,hl,h1,r⟩ | ⟨a,kk,vs,f,kn,i,h1,r⟩ | ⟨kk,t,a,x,h1,r⟩ | ⟨a,rs,kk,t,x,y,e,hl,h1,hf,h2,r⟩ | ⟨a,b,c,x,h1,h2,r⟩
 ·exact .inl ⟨s,a,b,x,y,k _ _ _ h1,k _ _ _ h2,r⟩
 ·exact .inr (.inl ⟨kk,es,vs,hl,h1.imp3 (k env),r⟩)
 ·exact .inr (.inr (.inl ⟨a,kk,vs,f,kn,i,k _ _ _ h1,r⟩))
 ·exact .inr (.inr (.inr (.inl ⟨kk,t,a,x,k _ _ _ h1,r⟩)))
 ·exact .inr (.inr (.inr (.inr (.inl ⟨a,rs,kk,t,x,y,e,hl,k _ _ _ h1,hf,k _ _ _ h2,r⟩))))
 ·exact .inr (.inr (.inr (.inr (.inr ⟨a,b,c,x,k _ _ _ h1,k _ _ _ h2,r⟩))))
theorem xsf {ks:List Kn}:∀ (n:Nat) (env:En) (d v:D),Evs ks n env d v->Ev ks n env d v
 | 0,_,_,_,h=>h
 | n + 1,env,d,v,h=>by
  rcases h with h | ⟨h,_⟩
  ·exact .inl h
  ·exact .inr (h.mono (xsf n))
theorem xno {h:Str} {r:List D} (hne:h≠S "op"):SgD (.tup (.str h :: r)):=fun s a b e=>by
 have e1:=D.tup.inj e
 have e2:=(List.cons.inj e1).1
 exact absurd (D.str.inj e2) hne
theorem xwg {s:Str} {a b:D} (h:Sg s):SgD (tOpD s a b):=fun s' a' b' e=>by
 have e1:=D.tup.inj e
 have e2:=(List.cons.inj (List.cons.inj e1).2).1
 rw [<- D.str.inj e2]
 exact h
def TmOk (ks:List Kn) (n:Nat) (bs:List (Str×Str)) (d:D) (x:Str):Prop:=∀ env,FitB ks bs env->∃ v,Evs ks n env d v/\Vk ks x v
theorem xpr {ks:List Kn} {n:Nat} {env:En} {d v:D} (h:xfq env d v):Evs ks n env d v:=by
 cases n with
 | zero=>exact h
 | succ n=>exact .inl h
theorem xt0 {ks:List Kn} {n:Nat} {bs:List (Str×Str)} {i:Int} (h:Nm i):TmOk ks n bs (tNum i) (S "num"):=fun env _=>⟨.int i,xpr (.inl ⟨i,rfl,rfl⟩),.num i h⟩
theorem xt2 {ks:List Kn} {n:Nat} {bs:List (Str×Str)} {y x:Str} (h:(y,x)∈bs):TmOk ks n bs (tBox y) x:=fun env hf=>by
 obtain ⟨v,h1,h2⟩:=hf _ h
 exact ⟨v,xpr (.inr ⟨y,h1,rfl⟩),h2⟩
theorem xv2 {ks:List Kn} (wf:KWf ks) {n:Nat} {bs:List (Str×Str)} {s:Str} {a b:D} (hs:Sg s) (ha:TmOk ks n bs a (S "num")) (hb:TmOk ks n bs b (S "num")):TmOk ks (n + 1) bs (tOpD s a b) (S "num"):=fun env hf=>by
 obtain ⟨u,e1,k1⟩:=ha env hf
 obtain ⟨v,e2,k2⟩:=hb env hf
 obtain ⟨i,hi,rfl⟩:=xiw wf rfl k1
 obtain ⟨j,hj,rfl⟩:=xiw wf rfl k2
 exact ⟨_,.inr ⟨.inl ⟨s,a,b,i,j,e1,e2,hi,hj,rfl,rfl⟩,xwg hs⟩,.num _ (xu5 s i j)⟩
theorem xn3 {ks:List Kn} {n:Nat} {bs:List (Str×Str)} {env:En} (hf:FitB ks bs env):∀ {es:List D} {ps:List (Str×Str)},All2 (fun e (p:Str×Str)=>TmOk ks n bs e p.2) es ps->∃ vs,All2 (Evs ks n env) es vs/\vs.length=ps.length/\∀ (i:Nat) w p,vs[i]?=some w->ps[i]?=some p->Vk ks p.2 w
 | _,_,.nil=>⟨[],.nil,rfl,fun i w p h=>by simp at h⟩
 | _,_,.cons h t=>by
  obtain ⟨v,h1,h2⟩:=h env hf
  obtain ⟨vs,k1,k2,k3⟩:=xn3 hf t
  refine ⟨v :: vs,.cons h1 k1,by rw [List.length_cons,List.length_cons,k2],fun i w p hw hp=>?_⟩
  cases i with
  | zero=>
   simp at hw hp
   subst hw hp
   exact h2
  | succ i=>exact k3 i w p (by simpa using hw) (by simpa using hp)
theorem xtz {ks:List Kn} {n:Nat} {bs:List (Str×Str)} {x:Str} {k:Kn} {es:List D} (hk:kAt ks x=some k) (hr:k.rc=true) (hl:k.parts.length<=1000) (h:All2 (fun e (p:Str×Str)=>TmOk ks n bs e p.2) es k.parts):TmOk ks (n + 1) bs (tRec x es) x:=fun env hf=>by
 obtain ⟨vs,h1,h2,h3⟩:=xn3 hf h
 exact ⟨_,.inr ⟨.inr (.inl ⟨x,es,vs,by rw [h.length]; exact hl,h1,rfl,rfl⟩),xno (by walk_at "k")⟩,.rc hk hr h2 h3⟩
theorem xj8 {f:Str}:∀ {l:List Str} {i:Nat},l.Nodup->l[i]?=some f->l.findIdx? (fun z=>decide (z=f))=some i
 | [],i,_,h=>by simp at h
 | y :: l,0,_,h=>by
  simp at h
  subst h
  simp [List.findIdx?_cons]
 | y :: l,i + 1,nd,h=>by
  have hm:f∈l:=zMG (by simpa using h)
  have hne:¬ y=f:=fun e=>by subst e; exact (List.nodup_cons.mp nd).1 hm
  rw [List.findIdx?_cons,zDF hne]
  have:=xj8 (l:=l) (i:=i) (List.nodup_cons.mp nd).2 (by simpa using h)
  simp [this]
theorem xt1 {ks:List Kn} (wf:KWf ks) {n:Nat} {bs:List (Str×Str)} {y:Str} {k:Kn} {a:D} {p:Str×Str} (hk:kAt ks y=some k) (hr:k.rc=true) (hp:p∈k.parts) (h:TmOk ks n bs a y):TmOk ks (n + 1) bs (tGet a p.1) p.2:=fun env hf=>by
 obtain ⟨v,h1,h2⟩:=h env hf
 obtain ⟨ws,hl,hw,rfl⟩:=xrn wf hk hr h2
 obtain ⟨i,hi,e⟩:=zMI hp
 have hi2:i < ws.length:=by omega
 have hm:=zMF hk
 have ei:k.parts[i]?=some p:=by rw [<- e]; exact zGA hi
 exact ⟨ws[i],.inr ⟨.inr (.inr (.inl ⟨a,y,ws,p.1,k,i,h1,hk,xj8 (wf.pnd k hm) (by rw [zGM,ei]; rfl),zGA hi2,rfl⟩)),xno (by walk_at "k")⟩,hw i _ p (zGA hi2) ei⟩
theorem xty {ks:List Kn} {n:Nat} {bs:List (Str×Str)} {x:Str} {k:Kn} {a:D} {p:Str×Str} (hk:kAt ks x=some k) (hr:k.rc=false) (hp:p∈k.parts) (h:TmOk ks n bs a p.2):TmOk ks (n + 1) bs (tTag x p.1 a) x:=fun env hf=>by
 obtain ⟨v,h1,h2⟩:=h env hf
 exact ⟨_,.inr ⟨.inr (.inr (.inr (.inl ⟨x,p.1,a,v,h1,rfl,rfl⟩))),xno (by walk_at "k")⟩,.al hk hr hp h2⟩
theorem xsl {ks:List Kn} (wf:KWf ks) {n:Nat} {bs:List (Str×Str)} {x y:Str} {k:Kn} {a:D} {rs:List (Str×Str×D)} (hk:kAt ks y=some k) (hr:k.rc=false) (ha:TmOk ks n bs a y) (hl:rs.length<=1000) (nd:(rs.map (·.1)).Nodup)
  (h:∀ p∈k.parts,∃ z e,(p.1,z,e)∈rs/\(∀ q∈bs,q.1≠z)/\TmOk ks n (bs++[(z,p.2)]) e x):TmOk ks (n + 1) bs (xgq a rs) x:=fun env hf=>by
 obtain ⟨v,h1,h2⟩:=ha env hf
 obtain ⟨p,hp,w,hw,rfl⟩:=xro wf hk hr h2
 obtain ⟨z,e,hm,hz,he⟩:=h p hp
 obtain ⟨v',h3,h4⟩:=he _ (hf.put hz hw)
 obtain ⟨i,hi,ei⟩:=zMI hm
 have:=xc8 (f:=fun r:Str×Str×D=>r.1) (xs:=rs) (i:=i) (a:=(p.1,z,e)) nd (by rw [<- ei]; exact zGA hi)
 exact ⟨v',.inr ⟨.inr (.inr (.inr (.inr (.inl ⟨a,rs,y,p.1,w,z,e,hl,h1,this,h3,rfl⟩)))),xno (by walk_at "k")⟩,h4⟩
theorem xv3 {ks:List Kn} (wf:KWf ks) {n:Nat} {bs:List (Str×Str)} {x:Str} {a b c:D} (ha:TmOk ks n bs a (S "num")) (hb:TmOk ks n bs b x) (hc:TmOk ks n bs c x):TmOk ks (n + 1) bs (tIfD a b c) x:=fun env hf=>by
 obtain ⟨u,e1,k1⟩:=ha env hf
 obtain ⟨i,hi,rfl⟩:=xiw wf rfl k1
 by_cases h0:i=0
 ·obtain ⟨v,e2,k2⟩:=hc env hf
  exact ⟨v,.inr ⟨.inr (.inr (.inr (.inr (.inr ⟨a,b,c,i,e1,by rw [if_pos h0]; exact e2,rfl⟩)))),xno (by walk_at "k")⟩,k2⟩
 ·obtain ⟨v,e2,k2⟩:=hb env hf
  exact ⟨v,.inr ⟨.inr (.inr (.inr (.inr (.inr ⟨a,b,c,i,e1,by rw [if_neg h0]; exact e2,rfl⟩)))),xno (by walk_at "k")⟩,k2⟩
def smS (f:Str->Int) (k:Kn):Int:=if k.rc=true then (k.parts.map fun p=>f p.2).sum else match k.parts with | []=>0 | p :: _=>f p.2
def hiS (f:Str->Int) (k:Kn):Int:=if k.rc=true then maxD (k.parts.map fun p=>f p.2) else match k.parts with | []=>0 | p :: _=>f p.2
theorem xi7 {f g:Str->Int} {k:Kn} (h:∀ p∈k.parts,f p.2=g p.2):smS f k=smS g k:=by
 unfold smS
 rw [List.map_congr_left h]
 cases hq:k.parts with
 | nil=>rfl
 | cons p r=>
  show (if k.rc=true then _ else f p.2)=(if k.rc=true then _ else g p.2)
  rw [h p (by rw [hq]; simp)]
theorem xj9 {f g:Str->Int} {k:Kn} (h:∀ p∈k.parts,f p.2=g p.2):hiS f k=hiS g k:=by
 unfold hiS
 rw [List.map_congr_left h]
 cases hq:k.parts with
 | nil=>rfl
 | cons p r=>
  show (if k.rc=true then _ else f p.2)=(if k.rc=true then _ else g p.2)
  rw [h p (by rw [hq]; simp)]
def smF:Nat->List Kn->Str->Int
 | 0,_,_=>1
 | n + 1,ks,x=>match kAt ks x with
  | none=>1
  | some k=>1 + smS (smF n ks) k
def hiF:Nat->List Kn->Str->Int
 | 0,_,_=>1
 | n + 1,ks,x=>match kAt ks x with
  | none=>1
  | some k=>1 + hiS (hiF n ks) k
theorem xdz {n:Nat} {ks:List Kn} {x:Str} (h:kAt ks x=none):smF (n + 1) ks x=1:=by unfold smF; rw [h]
theorem xff {n:Nat} {ks:List Kn} {x:Str} {k:Kn} (h:kAt ks x=some k):smF (n + 1) ks x=1 + smS (smF n ks) k:=by
 show (match kAt ks x with | none=>1 | some k=>1 + smS (smF n ks) k)=_
 rw [h]
theorem xeu {n:Nat} {ks:List Kn} {x:Str} (h:kAt ks x=none):hiF (n + 1) ks x=1:=by unfold hiF; rw [h]
theorem xgm {n:Nat} {ks:List Kn} {x:Str} {k:Kn} (h:kAt ks x=some k):hiF (n + 1) ks x=1 + hiS (hiF n ks) k:=by
 show (match kAt ks x with | none=>1 | some k=>1 + hiS (hiF n ks) k)=_
 rw [h]
theorem xuo {ks:List Kn} (wf:KWf ks):∀ (m:Nat) (x:Str),KIn ks m x->smF (m + 2) ks x=smF (m + 1) ks x/\hiF (m + 2) ks x=hiF (m + 1) ks x:=by
 intro m
 induction m with
 | zero=>
  intro x h
  rcases h.look wf with ⟨_,e⟩ | ⟨j,k,e0,_⟩
  ·exact ⟨(xdz e).trans (xdz e).symm,(xeu e).trans (xeu e).symm⟩
  ·cases e0
 | succ m ih=>
  intro x h
  rcases h.look wf with ⟨_,e⟩ | ⟨j,k,e0,hk,hn,hm,hp⟩
  ·exact ⟨(xdz e).trans (xdz e).symm,(xeu e).trans (xeu e).symm⟩
  ·cases e0
   rw [xff hk,xff hk,xgm hk,xgm hk,xi7 fun p hp'=>(ih p.2 (hp p hp')).1,xj9 fun p hp'=>(ih p.2 (hp p hp')).2]
   exact ⟨rfl,rfl⟩
def smK (ks:List Kn) (x:Str):Int:=smF 7 ks x
def hiK (ks:List Kn) (x:Str):Int:=hiF 7 ks x
theorem xun {ks:List Kn} (wf:KWf ks) {m:Nat} {x:Str} (h:KIn ks m x) (hm:m<=6):smF (m + 1) ks x=smK ks x/\hiF (m + 1) ks x=hiK ks x:=by
 have:∀ k,smF (m + k + 1) ks x=smF (m + 1) ks x/\hiF (m + k + 1) ks x=hiF (m + 1) ks x:=fun k=>by
  induction k with
  | zero=>exact ⟨rfl,rfl⟩
  | succ k ih=>
   have u:=xuo wf (m + k) x (h.mono (by omega))
   exact ⟨u.1.trans ih.1,u.2.trans ih.2⟩
 have u:=this (6 - m)
 rw [show m + (6 - m) + 1=7 by omega] at u
 exact ⟨u.1.symm,u.2.symm⟩
theorem xf0 {ks:List Kn} (wf:KWf ks):smK ks (S "num")=1/\hiK ks (S "num")=1:=⟨xdz wf.num,xeu wf.num⟩
theorem xqh {ks:List Kn} (wf:KWf ks) {x:Str} {k:Kn} (hk:kAt ks x=some k):smK ks x=1 + smS (smK ks) k/\hiK ks x=1 + hiS (hiK ks) k:=by
 have hm:=zMF hk
 have hx:k.name=x:=by
  have:=List.find?_some hk
  exact of_decide_eq_true this
 have hin:KIn ks 6 x:=(KIn.of (.inr ⟨k,hm,hx⟩)).mono wf.few
 rcases hin.look wf with ⟨_,e⟩ | ⟨j,k',e0,hk',hn,hm',hp⟩
 ·rw [e] at hk; cases hk
 ·cases e0
  rw [hk] at hk'
  cases hk'
  exact ⟨(xff (n:=6) hk).trans (congrArg (fun z=>1 + z) (xi7 fun p hp'=>(xun wf (hp p hp') (by omega)).1)),(xgm (n:=6) hk).trans (congrArg (fun z=>1 + z) (xj9 fun p hp'=>(xun wf (hp p hp') (by omega)).2))⟩
theorem xi8 {ks:List Kn} (hp:∀ k∈ks,k.parts.length<=5):∀ (n:Nat) (x:Str),(1<=smF n ks x/\smF n ks x<=6 ^ n)/\(1<=hiF n ks x/\hiF n ks x<=n + 1)
 | 0,x=>⟨⟨Int.le_refl _,Int.le_refl _⟩,⟨Int.le_refl _,Int.le_refl _⟩⟩
 | n + 1,x=>by
  have p1:(1:Int)<=6 ^ n:=Int.pow_pos (by decide)
  have e6:(6:Int) ^ (n + 1)=6 * 6 ^ n:=by rw [Int.pow_succ,Int.mul_comm]
  cases hk:kAt ks x with
  | none=>
   rw [xdz hk,xeu hk]
   exact ⟨⟨Int.le_refl _,by rw [e6]; omega⟩,Int.le_refl _,by push_cast; omega⟩
  | some k=>
   rw [xff hk,xgm hk]
   have hk5:=hp k (zMF hk)
   have ih:=fun y=>xi8 hp n y
   have hs:∀ (l:List (Str×Str)),0<=(l.map fun p=>smF n ks p.2).sum/\(l.map fun p=>smF n ks p.2).sum<=l.length * 6 ^ n:=by
    intro l
    induction l with
    | nil=>simp
    | cons a r ih'=>
     have h1:=(ih a.2).1
     rw [List.map_cons,List.sum_cons,List.length_cons]
     push_cast
     rw [Int.add_mul]
     omega
   have hm:∀ (l:List (Str×Str)),0<=maxD (l.map fun p=>hiF n ks p.2)/\maxD (l.map fun p=>hiF n ks p.2)<=n + 1:=by
    intro l
    induction l with
    | nil=>show 0<=(0:Int)/\(0:Int)<=n + 1; omega
    | cons a r ih'=>
     have h1:=(ih a.2).2
     have e:maxD ((a :: r).map fun p=>hiF n ks p.2)=max (hiF n ks a.2) (maxD (r.map fun p=>hiF n ks p.2)):=rfl
     rw [e]
     omega
   have h1:=hs k.parts
   have h2:(k.parts.length:Int) * 6 ^ n<=5 * 6 ^ n:=Int.mul_le_mul_of_nonneg_right (by omega) (by omega)
   have h3:=hm k.parts
   unfold smS hiS
   push_cast
   cases k.rc with
   | true=>
    rw [if_pos rfl,if_pos rfl]
    refine ⟨⟨?_,?_⟩,?_,?_⟩ <;> omega
   | false=>
    rw [if_neg (by decide),if_neg (by decide)]
    cases k.parts with
    | nil=>
     refine ⟨⟨?_,?_⟩,?_,?_⟩ <;> dsimp only <;> omega
    | cons p r=>
     have h4:=ih p.2
     refine ⟨⟨?_,?_⟩,?_,?_⟩ <;> dsimp only <;> omega
theorem xdy {ks:List Kn} (wf:KWf ks) (x:Str):1<=smK ks x/\smK ks x<=279936/\1<=hiK ks x/\hiK ks x<=8:=by
 have:=xi8 wf.pts 7 x
 have e:(6:Int) ^ 7=279936:=by decide
 unfold smK hiK
 omega
end M
end
section
namespace L2
open PySem PySem.Spec PyProof.Rows M
section
variable {X:Cx}
def rEqE (K:PySem.W.Frag):R2:=fun x y H Q=>∃ a b xs,x=.ref a/\y=.ref b/\SqL K H a xs/\SqL K H b []/\Q (.bl xs.isEmpty) H
theorem xr7 (hu:X.A.units < cLine):OpR X (compareOp .Eq) (rEqE X.K):=by
 intro pins s σ H x y v u Q I rx ry h
 obtain ⟨a,b,xs,rfl,rfl,ha,hb,q⟩:=h
 cases rx
 cases ry
 obtain ⟨its,r1,p1,_⟩:=I.list ha
 obtain ⟨its2,r2,p2,_⟩:=I.list hb
 have l1:=r1.length
 have l2:=r2.length
 cases xs with
 | nil=>
  refine SeqAt.eq_listAt (e:=fun _=>true) p1.isList p2.isList (by simp only [List.size_toArray]; omega) hu (fun j h1 h2=>?_) ⟨.bl _,H,I,rfl,?_⟩
  ·simp only [List.size_toArray] at h1
   simp at l1
   omega
  ·have:its=[]:=List.eq_nil_of_length_eq_zero (by simpa using l1.symm)
   subst this
   exact q
 | cons x xs=>
  refine PySem.EqBoolInt.of_rc (SeqAt.RcAt.lists_lengths p1.isList p2.isList (by simp only [List.size_toArray]; simp at l1 l2 ⊢; omega) hu) ⟨.bl _,H,I,rfl,?_⟩
  simpa using q
end
def xm9 (ta:TA):TE:=fun σ H Q=>ta σ H fun vs H1=>∃ i j:Int,vs=[.int i,.int j]/\(0<=i/\i<=1000/\0<=j/\j<=1000)/\∀ l,H1 l=none->Q (.ref l) (upd H1 l (.lst ((List.range (j - i).toNat).map fun (k:Nat)=>V.int (i + (k:Int)))))
section
variable {X:Cx} {a b:Expr} {ta:TA} {p1 p2 q1 q2:Pos}
theorem xjb (hc:X.calm=true) (hg1:Gl X "list") (hm1:X.mg "list"=none) (hg2:Gl X "range") (hm2:X.mg "range"=none) (ha:PA X [a,b] ta)
  (hs2:starEach [a,b] X.env=(false,eval a X.env) :: starEach [b] X.env:=by rfl) (hs3:starEach [b] X.env=[(false,eval b X.env)]:=by rfl)
  (hs1:starEach [Expr.Call (.Name "range" p2) [a,b] [] q2] X.env=[(false,eval (.Call (.Name "range" p2) [a,b] [] q2) X.env)]:=by rfl)
  (hp2:(backTo q2 (starEach [b] X.env)).any (·.1)=false:=by rfl) :
  PE X (.Call (.Name "list" p1) [.Call (.Name "range" p2) [a,b] [] q2] [] q1) (xm9 ta):=by
 intro pins s σ H Q I h
 refine wpAny_Call_Name_kw (xdu I hg1 hm1 PyProof.Rows.boot_list ?_ (by decide) (by decide))
 refine PyProof.Rows.callWith_type1 ?_ hs1 rfl
 rw [hs1]
 refine Calls.spliced_cons ?_
 refine wpAny_Call_Name_kw (xdu I hg2 hm2 boot_range ?_ (by decide) (by decide))
 refine PyProof.Rows.callWith_type1 (thn (ha q2 pins s σ H _ I h) fun us s1 ⟨vs,H1,I1,r1,i,j,e,⟨b1,b2,b3,b4⟩,q⟩=>?_) hs2 hp2
 subst e
 obtain ⟨u1,u2,rfl,⟨t,rfl⟩,⟨t',rfl⟩⟩:=r1.two
 refine call_range_2 (Calls.spliced_nil ?_)
 have esz:Builtin.Range.rangeSize i j 1=(((j - i).toNat:Nat):Int):=by rw [rangeSize_one]; split <;> omega
 refine call_list_range (n:=(j - i).toNat) (I1.ok.hd hc) (IsRange.new ..) (small_one (by omega) (by omega) (by omega) (by omega)) esz (by omega) fun h' tk acc c kp hS hacc=>?_
 have hz:(s1.heap.push { cls:=.type "range",data:=.fields #[.int i t,.int j t',.int 1 s1.toks] }).objs.size=s1.heap.objs.size + 1:=Heap.size_push ..
 refine ⟨.ref _,_,I1.laid (t':=tk) (o:=.lst ((List.range (j - i).toNat).map fun (k:Nat)=>V.int (i + (k:Int)))) (fun b o e=>kp b o (zPO _ e)) (by rw [hz]; exact Nat.le_succ _) ⟨?_,acc.toList,c,?_,by simpa using hS⟩,rfl,q _ (I1.hok.fresh (by rw [hz]; exact Nat.le_succ _))⟩
 ·rw [zLM,List.length_range,sizeLine_eq]
  omega
 ·refine xkw (by have:=hacc.1; rw [zLM,List.length_range]; simp only [Array.length_toList]; omega) fun k x u hx hu=>?_
  rw [zGM] at hx
  obtain ⟨m,hm,rfl⟩:=zMS hx
  have hmk:m=k:=by
   have:=(zES hm).2
   rw [List.getElem_range] at this
   exact this.symm
  obtain ⟨t2,rfl⟩:=hacc.2 k u (by rw [<- Array.getElem?_toList]; exact hu)
  exact ⟨t2,by rw [hmk,Int.mul_one]⟩
end
end L2
end
section
set_option maxHeartbeats 1000000
namespace L2
open PySem PySem.Spec PyProof.Rows
def Trc (h:Heap) (e C:Addr) (d:Option Addr) (c2:Value) (T:Option Addr) (fl:Value):Prop:=
 ∃ vs:Array Value,(vs.size=6/\vs[2]?=some c2)/\h.get? e=some { cls:=.ref C,dict:=d,data:=.fields vs } ∧
  match T with
  | none=>vs[1]?=some .none
  | some T=>vs[1]?=some (.ref T)/\T≠e/\∃ oT ts,h.get? T=some oT/\oT.data=.fields ts/\ts[3]?=some fl
structure FlyTo (fs:List Addr) (e:Addr) (T:Option Addr) (h h':Heap):Prop where
 keep:∀ b o,b ∉ fs->b≠e->T≠some b->h.get? b=some o->h'.get? b=some o
 slot:∀ b o,b∈fs->b≠e->T≠some b->h.get? b=some o->∃ sl,h'.get? b=some { o with slots:=sl }
 size:h.objs.size<=h'.objs.size
theorem FlyTo.refl {fs:List Addr} {e:Addr} {T:Option Addr} {h:Heap}:FlyTo fs e T h h:=⟨fun _ _ _ _ _ q=>q,fun _ o _ _ _ q=>⟨o.slots,q⟩,Nat.le_refl _⟩
theorem FlyTo.trans {fs:List Addr} {e T':Addr} {T:Option Addr} {h h1 h2:Heap} (a:FlyTo fs e T h h1) (b:FlyTo fs e (some T') h1 h2) (t:T=some T'\/h.objs.size<=T'):FlyTo fs e T h h2:=by
 have nt:∀ c o,T≠some c->h.get? c=some o->(some T':Option Addr)≠some c:=fun c o n q z=>by
  have z':T'=c:=Option.some.inj z
  rcases t with t | t
  ·exact n (by rw [t,z'])
  ·exact absurd (Heap.lt_size q) (Nat.not_lt.mpr (by rw [<- z']; exact t))
 refine ⟨fun c o n1 n2 n3 q=>b.keep c o n1 n2 (nt c o n3 q) (a.keep c o n1 n2 n3 q),fun c o n1 n2 n3 q=>?_,Nat.le_trans a.size b.size⟩
 obtain ⟨sl,q1⟩:=a.slot c o n1 n2 n3 q
 obtain ⟨sl',q2⟩:=b.slot c _ n1 n2 (nt c o n3 q) q1
 exact ⟨sl',q2⟩
section
variable {M:Model} {A:Around} {E:Value->Shared->Prop} {s:Shared} {c2:Value}
theorem xev {fs:List Addr} {e C T:Addr} {d fr:Option Addr} {fl:Value} {Q:Unit->Shared->Prop} (t:Trc s.heap e C d c2 (some T) fl)
  (h:∀ h',FlyTo fs e (some T) s.heap h'->Trc h' e C d c2 (some T) (fr.elim .none fun f=>rawInt f)->Q () { s with heap:=h' }):wpAny M A (setFlight (.ref e) fr) Q E s:=by
 obtain ⟨vs,hz,he,h1,hTe,oT,ts,hT,hdT,h3⟩:=t
 have h1:vs[1]?=some (.ref T):=h1
 have other:∀ b,b≠T->(s.heap.update T (Obj.mapFields (·.setIfInBounds 3 (fr.elim Value.none fun f=>rawInt f)))).get? b=s.heap.get? b:=fun b hb=>Heap.get?_update_other _ _ (Ne.symm hb)
 unfold setFlight
 refine wpAny_bind (wpAny_field he rfl h1 ?_)
 rw [if_pos (show (Value.ref T != Value.none)=true from by simp)]
 have h3s:3 < ts.size:=(Array.getElem?_eq_some_iff.mp h3).1
 refine wpAny_setField hT hdT h3s (h _ ⟨fun b o _ _ n q=>(other b fun z=>n (by rw [z])).trans q,fun b o _ _ n q=>⟨o.slots,(other b fun z=>n (by rw [z])).trans q⟩,?_⟩ ?_)
 ·rw [Heap.size_after_update]; exact Nat.le_refl _
 ·exact ⟨vs,hz,(other e (Ne.symm hTe)).trans he,h1,hTe,_,_,Heap.get?_update_self _ hT (Obj.isFreed_of_fields (Obj.data_mapFields hdT _)),Obj.data_mapFields hdT _,by simp [h3s]⟩
theorem xpo {base:Heap} {env:Env} {outer:List Env} {L e C:Addr} {d:Option Addr} {vs:Array Value} {head:Value} {hadNext:Bool} {Q:Unit->Shared->Prop}
  (hfr:A.frames=some (env :: outer)) (hl:s.heap.FunFrames base (env :: outer)) (hf:env.frame=some L)
  (he:s.heap.get? e=some { cls:=.ref C,dict:=d,data:=.fields vs }) (hz:vs.size=6/\vs[2]?=some c2)
  (h:∀ h',FlyTo (frs (env :: outer)) e none s.heap h'->Trc h' e C d c2 (some s.heap.objs.size) (rawInt L)->Q () { s with heap:=h' }) :
  wpAny M A (do let a <- frameOf env; let pl <- entryPlaceOf L hadNext; let b <- EntryCells.newEntry head a .none (rawInt L) .none pl; setField (.ref e) 1 b) Q E s:=by
 have hene:e ∉ frs (env :: outer):=fun hm=>by
  obtain ⟨_,o,ho,hnf⟩:=hl.mem hm
  rw [he] at ho; injection ho with ho; subst ho; exact hnf vs rfl
 refine wpAny_bind (wpAny_frameOf_fun hfr hl hf fun h₁ hs₁=>?_)
 refine wpAny_bind (wpAny_entryPlaceOf fun pl hpl=>?_)
 unfold EntryCells.newEntry newFields
 refine wpAny_bind (wpAny_newObj_type ?_ (hpl.sizeOk5 _ _ _ _ _))
 have he₁:h₁.get? e=some { cls:=.ref C,dict:=d,data:=.fields vs }:=(hs₁.2.1 e hene).trans he
 have hz₁:h₁.objs.size=s.heap.objs.size:=hs₁.1
 have he₂:=zPO (h:=h₁) { cls:=.type "traceback",dict:=none,data:=.fields ([head,.ref L,.none,rawInt L,.none]++(if pl.isEmpty then List.replicate 6 Value.none else pl)).toArray } he₁
 refine wpAny_setField he₂ rfl (by rw [hz.1]; decide) ?_
 have hTe:h₁.objs.size≠e:=Nat.ne_of_gt (Heap.lt_size he₁)
 have he₃:=Heap.get?_update_self (Obj.mapFields (·.setIfInBounds 1 (Value.ref h₁.objs.size))) he₂ rfl
 have hT₃:=(Heap.get?_update_other (h₁.push { cls:=.type "traceback",dict:=none,data:=.fields ([head,.ref L,.none,rawInt L,.none]++(if pl.isEmpty then List.replicate 6 Value.none else pl)).toArray })
  (Obj.mapFields (·.setIfInBounds 1 (Value.ref h₁.objs.size))) (Ne.symm hTe)).trans (Heap.get?_push_size h₁ rfl)
 have keep:∀ b o,b≠e->h₁.get? b=some o->
   ((h₁.push { cls:=.type "traceback",dict:=none,data:=.fields ([head,.ref L,.none,rawInt L,.none]++(if pl.isEmpty then List.replicate 6 Value.none else pl)).toArray }).update e (Obj.mapFields (·.setIfInBounds 1 (Value.ref h₁.objs.size)))).get? b=some o:=fun b o hbe hb=>by
  rw [Heap.get?_update_other _ _ (Ne.symm hbe)]
  exact zPO _ hb
 refine h _ ⟨fun b o hb n _ q=>keep b o n ((hs₁.2.1 b hb).trans q),fun b o hb n _ q=>?_,?_⟩ ?_
 ·obtain ⟨sl,hs⟩:=hs₁.2.2 b o q
  exact ⟨sl,keep b _ n hs⟩
 ·rw [Heap.size_after_update,Heap.size_push,hz₁]; exact Nat.le_succ _
 ·refine ⟨vs.setIfInBounds 1 (Value.ref h₁.objs.size),⟨by simpa using hz.1,by rw [Array.getElem?_setIfInBounds_ne (by decide)]; exact hz.2⟩,?_,?_,?_,?_⟩
  ·exact he₃
  ·rw [hz₁]; simp [hz.1]
  ·rw [<- hz₁]; exact hTe
  ·refine ⟨{ cls:=.type "traceback",dict:=none,data:=.fields ([head,.ref L,.none,rawInt L,.none]++(if pl.isEmpty then List.replicate 6 Value.none else pl)).toArray },_,by rw [<- hz₁]; exact hT₃,rfl,?_⟩
   first | (simp; done) | (rcases hpl with rfl | ⟨_,_,_,_,_,_,_,rfl⟩ <;> simp)
theorem xim {base:Heap} {env:Env} {outer:List Env} {L e C:Addr} {d T:Option Addr} {fl:Value} {Q:Unit->Shared->Prop}
  (hfr:A.frames=some (env :: outer)) (hl:s.heap.FunFrames base (env :: outer)) (hf:env.frame=some L) (t:Trc s.heap e C d c2 T fl)
  (h:∀ h' T',FlyTo (frs (env :: outer)) e T s.heap h'->(T=some T'\/s.heap.objs.size<=T')->Trc h' e C d c2 (some T') (rawInt L)->Q () { s with heap:=h' }):wpAny M A (noteFrame (.ref e) env) Q E s:=by
 obtain ⟨vs,hz,he,tt⟩:=id t
 unfold noteFrame
 simp only [hf]
 cases T with
 | none=>
  refine wpAny_bind (wpAny_field he rfl tt ?_)
  rw [if_neg (by decide)]
  exact xpo hfr hl hf he hz fun h' a b=>h h' _ a (.inr (Nat.le_refl _)) b
 | some T=>
  obtain ⟨h1,hTe,oT,ts,hT,hdT,h3⟩:=tt
  have h1:vs[1]?=some (.ref T):=h1
  refine wpAny_bind (wpAny_field he rfl h1 ?_)
  rw [if_pos (show (Value.ref T != Value.none)=true from by simp)]
  refine wpAny_bind (wpAny_field hT hdT h3 ?_)
  by_cases q:(fl == rawInt L)=true
  ·rw [if_pos q]
   obtain rfl:=beq_iff_eq.mp q
   exact wpAny_pure (h _ T FlyTo.refl (.inl rfl) t)
  ·rw [if_neg q]
   have h3s:3 < ts.size:=(Array.getElem?_eq_some_iff.mp h3).1
   refine wpAny_bind (wpAny_setField hT hdT h3s ?_)
   have other:∀ b,b≠T->(s.heap.update T (Obj.mapFields (·.setIfInBounds 3 Value.none))).get? b=s.heap.get? b:=fun b hb=>Heap.get?_update_other _ _ (Ne.symm hb)
   have noRecord:∀ b o,s.heap.get? b=some o->(∀ vs,o.data≠.fields vs)->b≠T:=fun b o hb hnf q=>by
    rw [q,hT] at hb; injection hb with hb; subst hb; exact hnf ts hdT
   have hsz:(s.heap.update T (Obj.mapFields (·.setIfInBounds 3 Value.none))).objs.size=s.heap.objs.size:=Heap.size_after_update ..
   refine xpo (s:={ s with heap:=s.heap.update T (Obj.mapFields (·.setIfInBounds 3 Value.none)) }) hfr (hl.of_keeps fun b o hb hnf=>⟨o,(other b (noRecord b o hb hnf)).trans hb,rfl⟩) hf ((other e (Ne.symm hTe)).trans he) hz fun h' a b=>?_
   refine h h' _ ⟨fun c o n1 n2 n3 w=>a.keep c o n1 n2 (fun z=>nomatch z) ((other c fun z=>n3 (by rw [z])).trans w),fun c o n1 n2 n3 w=>a.slot c o n1 n2 (fun z=>nomatch z) ((other c fun z=>n3 (by rw [z])).trans w),?_⟩ (.inr (Nat.le_refl _)) ?_
   ·rw [<- hsz]; exact a.size
   ·rw [<- hsz]; exact b
theorem xpp {base:Heap} {env:Env} {outer:List Env} {L e C:Addr} {d T:Option Addr} {fl:Value} {Q:Unit->Shared->Prop}
  (hfr:A.frames=some (env :: outer)) (hl:s.heap.FunFrames base (env :: outer)) (hf:env.frame=some L) (t:Trc s.heap e C d c2 T fl)
  (h:∀ h' T',FlyTo (frs (env :: outer)) e T s.heap h'->(T=some T'\/s.heap.objs.size<=T')->Trc h' e C d c2 (some T') .none->Q () { s with heap:=h' }):wpAny M A (leaving env (.ref e)) Q E s:=by
 unfold leaving
 refine wpAny_bind (xim hfr hl hf t fun h1 T' a w b=>?_)
 exact xev (s:={ s with heap:=h1 }) (fs:=frs (env :: outer)) (fr:=none) b fun h2 a2 b2=>h h2 T' (a.trans a2 w) w b2
end
end L2
end
section
set_option maxHeartbeats 1000000
namespace L2
open PySem PySem.Spec PyProof.Rows
def excF (e C:Addr) (d:Option Addr) (c2:Value):HO:=.ext fun h=>∃ vs:Array Value,(vs.size=6/\vs[2]?=some c2)/\h.get? e=some { cls:=.ref C,dict:=d,data:=.fields vs }
theorem ObjOk.excF {P:Program} {w:World} {H:Hp} {h:Heap} {e C:Addr} {d:Option Addr} {c2:Value} {vs:Array Value} (hz:vs.size=6/\vs[2]?=some c2) (he:h.get? e=some { cls:=.ref C,dict:=d,data:=.fields vs }):ObjOk P w H h e (L2.excF e C d c2):=
 ⟨⟨vs,hz,he⟩,⟨_,he⟩,fun h1 h2 ⟨v,z,a⟩ k=>⟨v,z,k _ a⟩⟩
section
variable {X:Cx} {pins:List (Addr×Obj)} {σ:St} {H:Hp} {s:Shared} {h':Heap} {x C:Addr} {d T T1:Option Addr} {fl c2:Value}
theorem Inv.flight (I:Inv X pins σ H s) (hx:H x=some (excF x C d c2)) (hT:∀ T',T=some T'->FpOk X pins H T') (a:FlyTo (frs X.stack) x T s.heap h') (t:Trc h' x C d c2 T1 fl):Inv X pins σ H { s with heap:=h' }:=by
 obtain ⟨vs,hz,he,_⟩:=t
 have nT:∀ b u,H b=some u->T≠some b:=fun b u e z=>by rw [(hT b z).1] at e; cases e
 have nF:∀ b u,H b=some u->b ∉ frs X.stack:=fun b u e z=>by rw [I.stkFree b z] at e; cases e
 have nx:∀ b,H b=none->b≠x:=fun b n z=>by rw [z,hx] at n; cases n
 have there:∀ b o,T≠some b->s.heap.get? b=some o->∃ o',h'.get? b=some o':=fun b o n q=>by
  by_cases z:b=x
  ·exact ⟨_,by rw [z]; exact he⟩
  ·by_cases f:b∈frs X.stack
   ·obtain ⟨sl,w⟩:=a.slot b o f z n q
    exact ⟨_,w⟩
   ·exact ⟨_,a.keep b o f z n q⟩
 have tl:∀ b,b ∉ T.toList->T≠some b:=fun b n z=>n (by rw [z]; simp)
 refine I.call (g':=s.gens) (t':=s.toks) (d':=s.drawn) (ch:=T.toList) ⟨fun b o q n hb hc=>a.keep b o hb (nx b n) (tl b hc) q,fun b o q n hb hc=>a.slot b o hb (nx b n) (tl b hc) q,fun _ _ _ n _=>n,fun b o q hc=>there b o (tl b hc) q,fun _ _ q=>q,fun _ _ _ q=>q,fun b ps q=>⟨#[],by rw [q]; simp⟩⟩ (fun b u e=>?_) I.bare (fun b hb=>?_)
 ·by_cases z:b=x
  ·subst z
   rw [hx] at e
   cases e
   exact ObjOk.excF hz he
  ·refine (I.hok b u e).stay (fun c v hc q=>?_) (fun _ q=>q) fun _ _ q=>q
   rcases hc with w | w
   ·rw [w]
    rw [w] at q
    exact a.keep b v (nF b u e) z (nT b u e) q
   ·have cx:c≠x:=fun z=>by rw [z,hx] at w; cases w
    exact a.keep c v (nF c _ w) cx (nT c _ w) q
 ·have hb':T=some b:=by simpa using hb
  obtain ⟨f0,f1,f2,f3,f4,f5⟩:=hT b hb'
  exact ⟨f3,f1,f4,f5⟩
abbrev XS:=Value->Option Addr->St->Hp->Prop
def xks (X:Cx) (E:XS) (e:Value) (s:Shared):Prop:=
 ∃ (x C:Addr) (d T:Option Addr) (c2 fl:Value) (pins:List (Addr×Obj)) (σ:St) (H:Hp),e=.ref x/\Inv X pins σ H s/\H x=some (excF x C d c2)/\(∀ T',T=some T'->FpOk X pins H T')/\Trc s.heap x C d c2 T fl/\E (.ref x) d σ H
abbrev Cx.thr (X:Cx) (E:XS):Cx:=X.wish (xks X E)
def CX1 (P:Program) (w:World):CXT:=fun outer H s E e s'=>
 ∃ (x C:Addr) (d T:Option Addr) (c2 fl:Value) (H':Hp),e=.ref x/\s'.os=s.os/\AllBare s'.gens/\Un (frs outer) [] H H' s.heap s'.heap/\HOk P w H' s'.heap/\H' x=some (excF x C d c2) ∧
  (∀ T',T=some T'->s.heap.objs.size<=T'/\H' T'=none)/\Trc s'.heap x C d c2 T fl/\E (.ref x) d H'
theorem xwl {E:XS} {e:Value} {s':Shared} (I0:Inv X pins σ H s) (h:CX1 X.prog X.w X.stack H s (fun v d H'=>E v d σ H') e s'):xks X E e s':=by
 obtain ⟨x,C,d,T,c2,fl,H',rfl,os,bare,un,hok,hx,hT,t,q⟩:=h
 have I1:Inv X pins σ H' s':=by
  obtain ⟨hh,g,dr,tk,os'⟩:=s'
  obtain rfl:os'=s.os:=os
  exact I0.call (h':=hh) (g':=g) (d':=dr) (t':=tk) (ch:=[]) un hok bare (fun b z=>absurd z (by simp))
 exact ⟨x,C,d,T,c2,fl,pins,σ,H',rfl,I1,hx,fun T' z=>I0.fpOk (hT T' z).1 (hT T' z).2,t,q⟩
end
section
variable {P:Program} {w:World} {K:PySem.W.Frag} {mg:Str->Option Value} {base:Heap} {N:List Str} {qual:Str} {scope:Scope} {f:Addr} {cd:Value} {A:Around} {outer:List Env} {s:Shared} {H:Hp} {E:XK}
theorem xn4 {e:Value} {s':Shared} (h:xks (cxOf (CX1 P w) P w K mg base N qual scope f cd A outer s H E) (fun v d _ H'=>E v d H') e s'):(cxOf (CX1 P w) P w K mg base N qual scope f cd A outer s H E).xe e s':=by
 obtain ⟨x,C,d,T,c2,fl,pins,σ,H',rfl,I,hx,hT,t,q⟩:=h
 show wpAny (model P w) (A.deeper (envOfC qual scope s.heap.objs.size f cd)) (leaving (envOfC qual scope s.heap.objs.size f cd) (.ref x)) _ _ s'
 refine xpp (base:=base) I.ok.frames I.stack rfl t fun h2 T' a w2 t2=>?_
 have I2:=I.flight hx hT a t2
 refine ⟨x,C,d,some T',c2,.none,H',rfl,I2.os,I2.bare,I2.base,I2.hok,hx,fun T2 z=>?_,t2,q⟩
 cases z
 rcases w2 with z | z
 ·obtain ⟨f0,f1,f2,f3,f4,f5⟩:=hT T' z
  refine ⟨?_,f0⟩
  rcases f3 with y | y
  ·exact absurd y (by show T' ∉ ([]:List Addr); simp)
  ·exact y
 ·exact ⟨Nat.le_trans I.sz z,I.hok.fresh z⟩
theorem PSs.thr {E:XS} {X:Cx} {st:List Stmt} {t:TS} (h:PSs (X.thr E) st t) (hx:∀ e s',xks X E e s'->X.xe e s'):PSs X st t:=fun pins s σ H D I hw=>
 wpAny_mono (h pins s σ H D (I.wish _) hw) (fun _ _ q=>q.unwish) fun e s' z=>hx e s' z
end
section
variable {X:Cx} {E:XS}
theorem xsm (hs:X.stack=X.env :: X.outer) (hf:X.env.frame=some X.env.locals):PassesOwn (model X.prog X.w) X.A X.env (xks X E):=by
 intro e s h
 obtain ⟨x,C,d,T,c2,fl,pins,σ,H,rfl,I,hx,hT,t,q⟩:=h
 have fr:X.A.frames=some (X.env :: X.outer):=by rw [I.ok.frames,hs]
 have fn:s.heap.FunFrames X.base (X.env :: X.outer):=by rw [<- hs]; exact I.stack
 refine xim (base:=X.base) fr fn hf t fun h1 T' a w t1=>?_
 rw [<- hs] at a
 have I1:=I.flight hx hT a t1
 have hT1:FpOk X pins H T':=by
  rcases w with z | z
  ·exact hT T' z
  ·exact I.fpOk z (I.hok.fresh z)
 show wpAny _ _ _ _ _ _
 obtain ⟨vs,hz,he,h1',_⟩:=id t1
 have h1':vs[1]?=some (.ref T'):=h1'
 refine wpAny_bind (wpAny_field he rfl h1' ?_)
 rw [if_neg (show ¬ ((Value.ref T' == Value.none)=true) from Bool.false_ne_true)]
 show wpAny _ _ (setFlight (.ref x) X.env.frame) _ _ _
 refine xev (fs:=frs X.stack) t1 fun h2 a2 t2=>?_
 exact ⟨x,C,d,some T',c2,_,pins,σ,H,rfl,I1.flight hx (fun T2 z=>by cases z; exact hT1) a2 t2,hx,fun T2 z=>by cases z; exact hT1,t2,q⟩
end
end L2
end
section
set_option maxHeartbeats 1000000
namespace L2
open PySem PySem.Spec PyProof.Rows
section
variable {M:Model} {A:Around} {E':Value->Shared->Prop} {env:Env}
theorem xne {s:Shared} {x:Sem Value} {Q:Flow->Shared->Prop} (hh:A.handled=none)
  (h:wpAny M A x (fun v s₁=>∃ e t C d bmB,v=.ref e/\bmB.contains (.type "BaseException")=true/\XObj s₁.heap C bmB "ValueError.__new__"/\s₁.heap.get? e=some (newExc C t d)/\E' (.ref e) s₁) E' s) :
  wpAny M A (raiseStmt env (some x) none) Q E' s:=by
 unfold raiseStmt
 refine wpAny_bind (wpAny_mono h (fun v s₁ h₁=>?_) fun _ _ x=>x)
 obtain ⟨e,t,C,d,bmB,rfl,hbase,⟨nm,qn,N,bs,bm,sn,sub,ab,col,dd,k0,k1,k2,k3,k5,hC,T⟩,he,hE⟩:=h₁
 have hcB:(Value.ref C :: bm).contains (.type "BaseException")=true:=by rw [List.contains_cons,T.hasType hbase,Bool.or_true]
 obtain ⟨hp,g,d,tk,os⟩:=s₁
 repeat (first | with_reducible refine wpAny_loadPart_at he ?_ | with_reducible refine wpAny_loadPart_at hC ?_ | (with_reducible refine wpAny_isSubtype_exc hC ?_; rw [hcB]) | wp_step)
 exact wpAny_raiseNew_none hh hE
end
section
variable {X:Cx} {E:XS} {ex:Expr} {te:TE} {pos:Pos}
def xuq (K:PySem.W.Frag) (E:XS) (te:TE):TS:=fun _ σ H=>te σ H fun v H1=>∃ x C d,v=.ref x/\H1 x=some (excO x C d)/\XCl K C/\E (.ref x) d σ (upd H1 x (excF x C d .none))
theorem xce (hc:X.calm=true) (he:PE (X.thr E) ex te):PS (X.thr E) (.Raise (some ex) none pos) (xuq X.K E te):=by
 intro pins s σ H D I h
 rw [arm_exec_Raise]
 simp only [evalOpt,Option.map]
 refine wpAny_bind (wpAny_standAt (xne (I.ok.hd hc) ?_))
 refine wpAny_bind (wpAny_mono (he pins s σ H _ I h) (fun v s1 h1=>wpAny_bind (wpAny_standAt (wpAny_pure ?_))) fun _ _ z=>z)
 obtain ⟨u,H1,I1,r,x,C,d,ex,ea,c,q⟩:=h1
 subst ex
 obtain rfl:v=Value.ref x:=r
 obtain ⟨t0,hx⟩:=I1.hok.exc ea
 refine ⟨x,t0,C,d,bmV,rfl,by decide,xh4 I1.kIn c.obj,hx,?_⟩
 have I2:Inv X pins σ (upd H1 x (excF x C d .none)) s1:=by
  have mu:Mut (H1 x):=by rw [ea]; exact True.intro
  exact I1.unwish.write (h':=s1.heap) (t':=s1.toks) (x:=x) (e:=x) mu (.inl rfl) (fun _ _ _ q=>q) ⟨_,hx⟩ (ObjOk.excF (vs:=#[.ref t0,.none,.none,.none,.bool false,.none]) ⟨rfl,rfl⟩ hx)
 exact ⟨x,C,d,none,.none,.none,pins,σ,_,rfl,I2,ups,fun T' z=>(nomatch z),⟨#[.ref t0,.none,.none,.none,.bool false,.none],⟨rfl,rfl⟩,hx,rfl⟩,q⟩
end
structure DefXs (P:Program) (w:World) (K:PySem.W.Frag) (mg:Str->Option Value) (base:Heap) (n:Nat) (x:Str) (ps:List Str) (sp:Sp):Prop where
 ex:∃ (f:Addr) (fd:FuncData),FnOk P w K mg base (CX1 P w) n f fd ps sp/\Binds K fd ps []/\PySem.W.keepIn K (.ref f)=true/\mg x=some (.ref f)/\∃ oc od osl,K.lookup f=some ⟨oc,od,.func fd,osl⟩
section
variable {P:Program} {w:World} {K:PySem.W.Frag} {mg:Str->Option Value} {base:Heap} {n m:Nat} {x:Str} {ps N:List Str} {sp:Sp} {st:Stmt}
theorem DefXs.mono (D:DefXs P w K mg base n x ps sp) (h:n<=m):DefXs P w K mg base m x ps sp:=by
 obtain ⟨f,fd,F,r⟩:=D.ex
 exact ⟨f,fd,F.mono h,r⟩
theorem DefXs.imp {sp':Sp} (D:DefXs P w K mg base n x ps sp) (h:∀ vs H Q E,sp' vs H Q E->sp vs H Q E):DefXs P w K mg base n x ps sp':=by
 obtain ⟨f,fd,F,r⟩:=D.ex
 exact ⟨f,fd,F.imp h,r⟩
theorem DefXs.of (T:DefTx K mg x st ps) (S:FnScope N ps (xac st)) (len:∀ vs H Q E,sp vs H Q E->vs.length=ps.length)
  (hbody:∀ (f:Addr) (cdv:Value) (A:Around) (outer:List Env) (s:Shared) (H:Hp) (vs:List V) (Q:VK) (E:XK),Room n (A.deeper (envOfC x (xac st) s.heap.objs.size f cdv))->sp vs H Q E->
   ∃ t,PSs ((cxOf (CX1 P w) P w K mg base N x (xac st) f cdv A outer s H E).thr fun v d _ H'=>E v d H') (xei st) t/\t { nx:=fun _ H'=>Q .non H',rt:=Q } (xf8 N vs) H):DefXs P w K mg base (n + 1) x ps sp:=by
 obtain ⟨f,fd,F,m,b⟩:=T.ex
 refine ⟨f,fd,?_,Binds.all b,F.kp,m,xkb F⟩
 obtain ⟨oc,od,kV,doc,pm,an,cdv,ct,osl,rfl,lk,hcd⟩:=F.ex
 refine xvr lk hcd S len fun A outer s H vs Q E hr hsp=>?_
 obtain ⟨t,h,q⟩:=hbody f cdv A outer s H vs Q E hr hsp
 exact ⟨t,h.thr fun e s' z=>xn4 z,q⟩
theorem DefXs.none (T:DefTx K mg x st ps) (no:∀ vs H Q E,¬ sp vs H Q E):DefXs P w K mg base n x ps sp:=by
 obtain ⟨f,fd,F,m,b⟩:=T.ex
 exact ⟨f,fd,⟨fun vs H Q E h=>absurd h (no vs H Q E),fun A outer s H args us vs Q E _ _ _ _ h=>absurd h (no vs H Q E)⟩,Binds.all b,F.kp,m,xkb F⟩
end
section
variable {X:Cx} {E:XS} {n:Nat} {x:Str} {ps:List Str} {sp:Sp} {e:Expr} {es:List Expr} {p pos:Pos} {t:TA}
def xuf (sp:Sp) (E:XS) (t:TA):TE:=fun σ H Q=>t σ H fun vs H1=>sp vs H1 Q fun v d H'=>E v d σ H'
theorem xar (D:DefXs X.prog X.w X.K X.mg X.base n x ps sp) (hr:Room n X.A) (ha:PA (X.thr E) (e :: es) t) (hg:Gl X x:=by rfl) (hdb:(x == ("__debug__":Str))=false:=by decide)
  (he:starEach (e :: es) X.env=(false,eval e X.env) :: starEach es X.env:=by rfl) (hpl:(backTo pos (starEach es X.env)).any (·.1)=false:=by rfl):PE (X.thr E) (.Call (.Name x p) (e :: es) [] pos) (xuf sp E t):=by
 obtain ⟨f,fd,F,b,k,m,_⟩:=D.ex
 intro pins s σ H Q I h
 refine wpAny_Call_Name_kw (xg4 (X:=X.thr E) I hg m ?_ hdb)
 refine PySem.W.callWith_K (h₀:=X.base) I.ok.mod.kin k (thn (ha pos pins s σ H _ I h) fun us s1 ⟨vs,H1,I1,r,q⟩=>⟨I1.kIn,?_⟩) he hpl
 have hl:(us++[]).length=ps.length:=by rw [List.append_nil,<- r.length]; exact F.len _ _ _ _ q
 have hb:=b s1 us I1.kIn hl
 rw [List.append_nil] at hb
 refine wpAny_call (codeAny_mono (F.run X.A X.stack s1 H1 ⟨us,[]⟩ us vs Q _ hr I1.unwish.env0 hb r q) fun r s' hq=>?_)
 cases r with
 | error e=>exact xwl I1.unwish hq
 | ok fl=>
  cases fl with
  | ret u=>exact I1.after hq
  | next=>exact False.elim hq
  | brk=>exact False.elim hq
  | cont=>exact False.elim hq
end
end L2
end
section
set_option maxHeartbeats 1000000
namespace L2
open PySem PySem.Spec PyProof.Rows
abbrev Cx.mkd (X:Cx) (e:Value):Cx:={ X with A:=X.A.mark (some e),calm:=false }
abbrev Cx.pnd (X:Cx) (pn:List (Addr×Obj)):Cx:={ X with pn:=pn }
section
variable {X:Cx} {pins pn:List (Addr×Obj)} {σ:St} {H:Hp} {s:Shared} {e:Value}
theorem Cx.Ok.mkd (ok:X.Ok) (e:Value):(X.mkd e).Ok:=
 ⟨ok.mod,ok.kind,ok.glob,ok.blt,ok.above,ok.inj,ok.has,ok.cab,fun z=>Bool.noConfusion z,ok.frames,ok.stk,ok.exf,ok.bs,ok.bsz,ok.noex,ok.exfs,ok.funs,ok.frf⟩
theorem Cx.Ok.pnd (ok:X.Ok) (pn:List (Addr×Obj)):(X.pnd pn).Ok:=
 ⟨ok.mod,ok.kind,ok.glob,ok.blt,ok.above,ok.inj,ok.has,ok.cab,ok.hd,ok.frames,ok.stk,ok.exf,ok.bs,ok.bsz,ok.noex,ok.exfs,ok.funs,ok.frf⟩
theorem Inv.mkd (I:Inv X pins σ H s) (e:Value):Inv (X.mkd e) pins σ H s:=⟨I.ok.mkd e,I.os,I.bare,I.base,I.loc,I.cell,I.free,I.freeC,I.pin,I.hok,I.len⟩
theorem Inv.unmkd (ok:X.Ok) (I:Inv (X.mkd e) pins σ H s):Inv X pins σ H s:=⟨ok,I.os,I.bare,I.base,I.loc,I.cell,I.free,I.freeC,I.pin,I.hok,I.len⟩
theorem Inv.pnd (I:Inv X pins σ H s):Inv (X.pnd (X.pn++pins)) [] σ H s:=
 ⟨I.ok.pnd _,I.os,I.bare,I.base,I.loc,I.cell,I.free,I.freeC,fun p hp=>I.pin p (by simpa using hp),I.hok,I.len⟩
theorem Inv.unpnd {pins':List (Addr×Obj)} (ok:X.Ok) (I:Inv (X.pnd (X.pn++pins)) pins' σ H s):Inv X pins σ H s:=
 ⟨ok,I.os,I.bare,I.base,I.loc,I.cell,I.free,I.freeC,fun p hp=>I.pin p (List.mem_append_left _ hp),I.hok,I.len⟩
theorem FpOk.unpnd {pins':List (Addr×Obj)} {b:Addr} (h:FpOk (X.pnd (X.pn++pins)) pins' H b):FpOk X pins H b:=
 ⟨h.1,h.2.1,h.2.2.1,h.2.2.2.1,h.2.2.2.2.1,fun p hp=>h.2.2.2.2.2 p (List.mem_append_left _ hp)⟩
theorem SP.unpnd {D:Ends} {f:Flow} {s':Shared} (ok:X.Ok) (h:SP (X.pnd (X.pn++pins)) [] D f s'):SP X pins D f s':=by
 cases f with
 | next=>obtain ⟨σ',H',I,q⟩:=h; exact ⟨σ',H',I.unpnd ok,q⟩
 | brk=>obtain ⟨σ',H',I,q⟩:=h; exact ⟨σ',H',I.unpnd ok,q⟩
 | cont=>obtain ⟨σ',H',I,q⟩:=h; exact ⟨σ',H',I.unpnd ok,q⟩
 | ret u=>obtain ⟨v,σ',H',I,r,q⟩:=h; exact ⟨v,σ',H',I.unpnd ok,r,q⟩
theorem xpq {M:Model} {A:Around} {E':Value->Shared->Prop} {s:Shared} {K:PySem.W.Frag} {x C C0:Addr} {d:Option Addr} {vs:Array Value} {Q:Bool->Shared->Prop} (hx:s.heap.get? x=some { cls:=.ref C,dict:=d,data:=.fields vs })
  (O:XObj s.heap C bmV "ValueError.__new__") (O0:XObj s.heap C0 bmV "ValueError.__new__") (kin:K.In s.heap) (hsub:PySem.W.mroIn K C (.ref C0)=some true) (hq:Q true s):wpAny M A (excMatches (.ref x) (.ref C0)) Q E' s:=by
 obtain ⟨nm,qn,N,bs,bm,sn,sub,ab,col,dd,k0,k1,k2,k3,k5,hC,T⟩:=O
 obtain ⟨nm',qn',N',bs',bm',sn',sub',ab',col',dd',k0',k1',k2',k3',k5',hC0,T'⟩:=O0
 have hcB:(Value.ref C0 :: bm').contains (.type "BaseException")=true:=by rw [List.contains_cons,T'.hasType (show bmV.contains (.type "BaseException")=true by decide),Bool.or_true]
 have LS:=PySem.W.looks_mroIn (M:=M) kin hsub
 have f:=tc_notTuple
 obtain ⟨hp,g,dr,tk,os⟩:=s
 unfold excMatches
 repeat (first | with_reducible refine wpAny_loadPart_at hx ?_ | with_reducible refine wpAny_loadPart_at hC0 ?_ | (with_reducible refine wpAny_isSubtype_exc hC0 ?_; rw [hcB]) | with_reducible refine LS.at ?_ | wp_step)
 exact hq
end
end L2
end
section
set_option maxHeartbeats 1000000
end
section
set_option maxHeartbeats 1000000
end
section
set_option maxHeartbeats 1000000
namespace L2
open PySem PySem.Spec PyProof.Rows
section
variable {X:Cx} {E:XS}
theorem xgd (hs:X.stack=X.env :: X.outer) (hf:X.env.frame=some X.env.locals):PassesOwn (model (X.thr E).prog (X.thr E).w) (X.thr E).A (X.thr E).env (X.thr E).xe:=xsm hs hf
end
end L2
end
section
set_option maxHeartbeats 1000000
end
section
namespace St
open PySem PySem.Spec PyProof.Rows
theorem xo8 {ns:List Str}:∀ i,i<=ns.length->(met (fun i=>ns.getD i Str.empty) i).length=i->met (fun i=>ns.getD i Str.empty) i=ns.take i/\(ns.take i).Nodup
 | 0,_,_=>⟨rfl,List.nodup_nil⟩
 | i + 1,h,e=>by
  have hl:=met_len (fun i=>ns.getD i Str.empty) i
  have e1:ns.getD i Str.empty=ns[i]:=by simp [List.getD,zGA (show i < ns.length by omega)]
  rw [xc4] at e ⊢
  rw [xpw] at e
  by_cases c:(met (fun i=>ns.getD i Str.empty) i).any (· == (fun i=>ns.getD i Str.empty) i)=true
  ·rw [if_pos c] at e
   omega
  ·rw [if_neg c] at e
   have hm0:(met (fun i=>ns.getD i Str.empty) i).length=i:=by omega
   obtain ⟨a,b⟩:=xo8 i (by omega) hm0
   have c':ns[i] ∉ ns.take i:=fun hm=>c (by
    rw [a]
    exact List.any_eq_true.mpr ⟨ns[i],hm,by rw [show (fun i=>ns.getD i Str.empty) i=ns[i] from e1]; simp⟩)
   have et:ns.take (i + 1)=ns.take i++[ns[i]]:=by rw [zTA,zGA (show i < ns.length by omega)]; rfl
   refine ⟨?_,?_⟩
   ·unfold step_dedup
    rw [if_neg c,a,et]
    show ns.take i++[ns.getD i Str.empty]=_
    rw [e1]
   ·rw [et]
    exact List.nodup_append.mpr ⟨b,by simp,fun x hx y hy=>by rw [zMO hy]; exact fun q=>c' (by rw [<- q]; exact hx)⟩
theorem met_iff (ns:List Str):(met (fun i=>ns.getD i Str.empty) ns.length).length=ns.length ↔ ns.Nodup:=by
 constructor
 ·intro h
  have:=(xo8 ns.length (Nat.le_refl _) h).2
  rwa [List.take_length] at this
 ·intro h
  rw [xjy h _ (Nat.le_refl _),List.take_length]
end St
namespace L2
open PySem PySem.Spec PyProof.Rows
def xqd (te:TE):TE:=fun σ H Q=>te σ H fun x H1=>∃ p,∃ ns:List Str,x=.ref p/\H1 p=some (.lst (ns.map V.str))/\ns.length<=1000/\∀ m:Nat,m<=ns.length->(m=ns.length ↔ ns.Nodup)->Q (.int m) H1
theorem xnh {X:Cx} {e:Expr} {te:TE} {p1 p2 q1 q2:Pos} (hc:X.calm=true) (hg1:Gl X "len") (hm1:X.mg "len"=none) (hg2:Gl X "set") (hm2:X.mg "set"=none) (he:PE X e te)
  (hs2:starEach [e] X.env=[(false,eval e X.env)]:=by rfl)
  (hs1:starEach [Expr.Call (.Name "set" p2) [e] [] q2] X.env=[(false,eval (.Call (.Name "set" p2) [e] [] q2) X.env)]:=by rfl) :
  PE X (.Call (.Name "len" p1) [.Call (.Name "set" p2) [e] [] q2] [] q1) (xqd te):=by
 intro pins s σ H Q I h
 refine wpAny_Call_Name_kw (xdu I hg1 hm1 PySem.boot_len ?_ (by decide) (by decide))
 refine PyProof.Rows.callWith_builtin1 ?_ hs1 rfl
 rw [hs1]
 refine Calls.spliced_cons ?_
 refine wpAny_Call_Name_kw (xdu I hg2 hm2 PyProof.Rows.boot_set ?_ (by decide) (by decide))
 refine PyProof.Rows.callWith_type1 (thn ((pc he pN hs2) q2 pins s σ H (fun vs H1=>match vs with
  | [x]=>∃ p,∃ ns:List Str,x=.ref p/\H1 p=some (.lst (ns.map V.str))/\ns.length<=1000/\∀ m:Nat,m<=ns.length->(m=ns.length ↔ ns.Nodup)->Q (.int m) H1
  | _=>False) I h) fun us s1 ⟨vs,H1,I1,r1,q⟩=>?_) hs2 rfl
 match vs,r1,q with
 | [x],r1,q=>
  obtain ⟨p,ns,rfl,hp,hle,q⟩:=q
  obtain ⟨u,rfl,ru⟩:=xf6 r1
  cases ru
  obtain ⟨its,rv,pl,hz⟩:=I1.list (SqL.of (K:=X.K) hp)
  have hlen:ns.length=its.length:=by have:=rv.length; rw [zLM] at this; exact this
  refine St.call_set_strs (ns:=ns) (I.ok.hd hc) pl.isList (by simpa using xge rv) (by show its.toArray.size + 1 < 4096; rw [List.size_toArray]; omega) fun h2 tk hS hk=>Calls.spliced_nil ?_
  obtain ⟨o,es,ep,t,ho,hex,hd,_,_,_,hf,hsz⟩:=hS
  have hsz':es.size=(St.met (fun i=>ns.getD i Str.empty) ns.length).length:=by
   rw [hsz]
   have:its.toArray.size=ns.length:=by simp [hlen]
   rw [this]
  have hml:=St.met_len (fun i=>ns.getD i Str.empty) ns.length
  refine call_len_set ho hex hd hf (by rw [hsz']; omega) ⟨.int es.size,H1,?_,⟨_,rfl⟩,q es.size (by rw [hsz']; exact hml) (by rw [hsz']; exact St.met_iff ns)⟩
  exact I1.kept fun b u eb=>hk b u (Heap.lt_size eb) eb
end L2
namespace L2
open PySem PySem.Spec PyProof.Rows
theorem xre {e C C':Addr} {d d':Option Addr} {c c':Value} (h:excF e C d c=excF e C' d' c'):C=C'/\d=d':=by
 unfold excF at h
 injection h with h
 let o:Obj:={ cls:=.ref C,dict:=d,data:=.fields #[.none,.none,c,.none,.none,.none] }
 let hp:Heap:={ objs:=Array.replicate (e + 1) o }
 have hg:hp.get? e=some o:=by
  unfold Heap.get?
  have:hp.objs[e]?=some o:=by
   show (Array.replicate (e + 1) o)[e]?=some o
   simp
  rw [this]
 have h1:=congrFun h hp
 have h2:∃ vs:Array Value,(vs.size=6/\vs[2]?=some c)/\hp.get? e=some { cls:=.ref C,dict:=d,data:=.fields vs }:=⟨_,⟨rfl,rfl⟩,hg⟩
 rw [h1] at h2
 obtain ⟨vs,_,h3⟩:=h2
 rw [hg] at h3
 have h4:=Option.some.inj h3
 have h5:Value.ref C=Value.ref C':=congrArg Obj.cls h4
 have h6:d=d':=congrArg Obj.dict h4
 exact ⟨by injection h5,h6⟩
end L2
end
section
set_option maxHeartbeats 1000000
namespace L2
open PySem PySem.Spec PyProof.Rows
section
variable {X:Cx} {pins:List (Addr×Obj)} {σ:St} {H:Hp} {s:Shared}
def xup (K:PySem.W.Frag) (C0:Addr) (tb:XS->TS) (ts:TS):TS:=fun D σ H=>∃ Es:XS,tb Es D σ H/\∀ x C d c2 σ' H',Es (.ref x) d σ' H'->H' x=some (excF x C d c2)->
 XCl K C/\PySem.W.mroIn K C (.ref C0)=some true/\ts { nx:=D.nx,rt:=D.rt,bk:=D.bk,ct:=D.ct } σ' H'
theorem xqp {body:List Stmt} {b0:Stmt} {suite:List Stmt} {tb:XS->TS} {ts:TS} {y:Str} {C0:Addr} {np hpos pos:Pos} (hs:X.stack=X.env :: X.outer) (hf:X.env.frame=some X.env.locals)
  (hm:X.mg y=some (.ref C0)) (M0:xIn X.K C0 bmV "ValueError.__new__"=true) (hb:∀ pn Es,PSs ((X.pnd pn).thr Es) body (tb Es)) (hsu:∀ e,PSs ((X.mkd e).nox) (b0 :: suite) ts)
  (hg:Gl X y:=by rfl) (hdb:(y == ("__debug__":Str))=false:=by decide):PS X (.Try body [.ExceptHandler (some (.Name y np)) none (b0 :: suite) hpos] [] [] pos) (xup X.K C0 tb ts):=by
 intro pins s σ H D I h
 obtain ⟨Es,hb',hh⟩:=h
 refine wpAny_Try_except ?_
 refine wpAny_mono (hb (X.pn++pins) Es [] s σ H D (I.pnd.wish _) hb') (fun f s1 q=>?_) (fun e s1 q=>?_)
 ·have q':SP X pins D f s1:=SP.unpnd I.ok q.unwish
  cases f with
  | next=>exact wpAny_execs_nil q'
  | brk=>exact q'
  | cont=>exact q'
  | ret u=>exact q'
 ·obtain ⟨x,C,d,T,c2,fl,pins',σ',H',rfl,I1,hx,hT,t,qe⟩:=q
  have I1':Inv X pins σ' H' s1:=I1.unpnd I.ok
  have hT':∀ T',T=some T'->FpOk X pins H' T':=fun T' z=>(hT T' z).unpnd
  obtain ⟨M,hsub,qs⟩:=hh x C d c2 σ' H' qe hx
  have fr:X.A.frames=some (X.env :: X.outer):=by rw [I.ok.frames,hs]
  have fn:s1.heap.FunFrames X.base (X.env :: X.outer):=by rw [<- hs]; exact I1'.stack
  refine xim (base:=X.base) fr fn hf t fun h1 T' a w t1=>?_
  rw [<- hs] at a
  have I2:=I1'.flight hx hT' a t1
  have hT1:∀ T2,some T'=some T2->FpOk X pins H' T2:=fun T2 z=>by
   cases z
   rcases w with z | z
   ·exact hT' T' z
   ·exact I1'.fpOk z (I1'.hok.fresh z)
  refine xev (s:={ s1 with heap:=h1 }) (fs:=frs X.stack) (fr:=none) t1 fun h2 a2 t2=>?_
  have I3:=I2.flight hx hT1 a2 t2
  refine wpAny_handleBy_cons (codeAny_handlers_test ?_) (by intro q; cases q)
  refine xg4 (X:=X.mkd (.ref x)) (I3.mkd _) hg hm ?_ hdb
  obtain ⟨vs,hz,he,_⟩:=id t2
  refine xpq he (xh4 I3.kIn M.obj) (xh4 I3.kIn M0) I3.kIn hsub ?_
  refine codeAny_handlers_suite ?_
  refine xev (s:={ s1 with heap:=h2 }) (fs:=frs X.stack) (fr:=none) t2 fun h3 a3 t3=>?_
  have I4:=I3.flight hx hT1 a3 t3
  refine wpAny_mono (hsu (.ref x) pins _ σ' H' _ ((I4.mkd _).wish _) qs) (fun f s6 q6=>?_) (fun _ _ z=>False.elim z)
  have q7:=q6.unwish
  cases f with
  | next=>obtain ⟨σ2,H2,I6,q⟩:=q7; exact ⟨σ2,H2,I6.unmkd I.ok,q⟩
  | brk=>obtain ⟨σ2,H2,I6,q⟩:=q7; exact ⟨σ2,H2,I6.unmkd I.ok,q⟩
  | cont=>obtain ⟨σ2,H2,I6,q⟩:=q7; exact ⟨σ2,H2,I6.unmkd I.ok,q⟩
  | ret u=>obtain ⟨v,σ2,H2,I6,r,q⟩:=q7; exact ⟨v,σ2,H2,I6.unmkd I.ok,r,q⟩
end
open PySem.W in
def xn0 (K:Frag):Bool:=
 ((List.range 6).all fun i=>i == 0 || (xsj K (cAt K i) && (findIn K (.ref (cAt K i)) "__init__" == some (some (.builtin "ValueError.__init__")) && mroIn K (cAt K i) (.ref (cAt K i)) == some true)))
structure XTab5 (K:PySem.W.Frag):Prop where
 cl:∀ i,(1<=i/\i<=5)->XCl K (cAt K i)
 ini:∀ i,(1<=i/\i<=5)->i≠0->PySem.W.findIn K (.ref (cAt K i)) "__init__"=some (some (.builtin "ValueError.__init__"))
 own:∀ i,(1<=i/\i<=5)->PySem.W.mroIn K (cAt K i) (.ref (cAt K i))=some true
theorem xtab5_of {K:PySem.W.Frag} (e:xn0 K=true):XTab5 K:=by
 unfold xn0 at e
 simp only [Bool.and_eq_true,List.all_eq_true,List.mem_range,beq_iff_eq,Bool.or_eq_true] at e
 have g:=fun i (h:1<=i/\i<=5)=>(e i (by omega)).resolve_left (by omega)
 exact ⟨fun i h=>xtw (g i h).1,fun i h _=>(g i h).2.1,fun i h=>(g i h).2.2⟩
end L2
end
section
namespace M
open PySem L2
def byN (j:Nat):Str:=ofL [98,121,97 + j]
theorem xtr {i j:Nat} (h:byN i=byN j):i=j:=by
 have:=congrArg L h
 unfold byN at this
 rw [xed,xed] at this
 simp at this
 exact this
def NoBy (x:Str):Prop:=∀ j:Nat,x≠byN j
theorem xws {l:List Nat} (h:l[0]?≠some 98\/l[1]?≠some 121):NoBy (ofL l):=fun j e=>by
 have:=congrArg L e
 unfold byN at this
 rw [xed,xed] at this
 subst this
 simp at h
theorem xlu {c:Nat} (h:c∈five):c≠98/\c≠121:=by
 revert h
 unfold five
 simp
 omega
theorem xr9 {cs:List Nat} (h5:∀ c∈cs,c∈five) (a:Nat) (b:Int) (k:Nat) (t:List Nat) (ht:∀ c∈t,c∈five):NoBy (ofL (nmA cs a b k++t)):=by
 apply xws
 unfold nmA
 cases hcs:cs.take a with
 | nil=>
  right
  rw [List.nil_append,List.cons_append,List.getElem?_cons_succ]
  intro e
  have hm:=zMG e
  rcases zMA hm with hm | hm
  ·exact (xlu (h5 _ (List.mem_of_mem_drop hm))).2 rfl
  ·exact (xlu (ht _ hm)).2 rfl
 | cons c r=>
  left
  intro e
  simp at e
  have:c∈cs.take a:=by rw [hcs]; simp
  exact (xlu (h5 c (List.mem_of_mem_take this))).1 e
theorem xtc {cs:List Nat} {a:Nat} {b:Int} (h5:∀ c∈cs,c∈five):∀ z∈((List.range 26).map fun k=>ofL (nmA cs a b k)),NoBy z:=fun z hz=>by
 obtain ⟨k,_,rfl⟩:=zMP hz
 have:=xr9 h5 a b k [] (fun _ h=>nomatch h)
 rw [List.append_nil] at this
 exact this
theorem xta {cs:List Nat} {a:Nat} {b:Int} (h5:∀ c∈cs,c∈five):∀ z∈((List.range 26).map fun k=>ofL (nmB cs a b k)),NoBy z:=fun z hz=>by
 obtain ⟨k,_,rfl⟩:=zMP hz
 unfold nmB
 exact xr9 h5 a b _ _ fun c hc=>by rw [List.eq_of_mem_replicate hc]; decide
theorem xrf {i:Nat} (h:i < 8):atI (S "abcdefgh").cps.toList (i:Int)=some (97 + i):=by
 have all:∀ k,k < 8->(S "abcdefgh").cps.toList[k]?=some (97 + k):=by walk_at "k"
 exact xbb (all i h)
theorem xrl (i:Nat):S "by"++(⟨#[97 + i]⟩:Str)=byN i:=by
 apply xp7
 rw [xex,show L (S "by")=[98,121] by walk_at "k"]
 rfl
def BxAt (H:Hp) (f:Addr) (bv:V) (bs:List (Str×Str)):Prop:=∃ bl us,bv=.ref bl/\H bl=some (.lst us)/\RelDs H us (bs.map xiq)/\bl≠f
def xxf (bs:List (Str×Str)) (m:Nat):Prop:=∀ b∈bs,∀ j,j < m->b.1≠byN j
def PNB (ks:List Kn):Prop:=∀ k∈ks,∀ p∈k.parts,NoBy p.1
structure TIn (H:Hp) (f:Addr) (kv bv:V) (ks:List Kn) (bs:List (Str×Str)) (m:Nat):Prop where
 fd:∃ p q:Int,H f=some (.lst [.int p,.int q])
 kd:RelD H kv (xfm ks)
 wf:KWf ks
 nb:PNB ks
 bx:BxAt H f bv bs
 nd:(bs.map (·.1)).Nodup
 bl:bs.length + m<=30
 fr:xxf bs m
 kn:∀ b∈bs,KIn ks 6 b.2
theorem TIn.same {H H':Hp} {f:Addr} {kv bv:V} {ks:List Kn} {bs:List (Str×Str)} {m:Nat} (h:TIn H f kv bv ks bs m) (s:Same H H'):TIn H' f kv bv ks bs m:=by
 obtain ⟨p,q,hf⟩:=h.fd
 obtain ⟨bl,us,e,hb,hu,n⟩:=h.bx
 exact ⟨⟨p,q,s _ _ hf⟩,h.kd.same s _,h.wf,h.nb,⟨bl,us,e,s _ _ hb,hu.same s _,n⟩,h.nd,h.bl,h.fr,h.kn⟩
theorem TIn.fed {H H':Hp} {f:Addr} {kv bv:V} {ks:List Kn} {bs:List (Str×Str)} {m:Nat} (h:TIn H f kv bv ks bs m) (s:Fed f H H'):TIn H' f kv bv ks bs m:=by
 obtain ⟨bl,us,e,hb,hu,n⟩:=h.bx
 exact ⟨s.2,h.kd.tups (xaj h.fd s) _,h.wf,h.nb,⟨bl,us,e,s.1 _ _ hb n,hu.tups (xaj h.fd s) _,n⟩,h.nd,h.bl,h.fr,h.kn⟩
theorem TIn.down {H:Hp} {f:Addr} {kv bv:V} {ks:List Kn} {bs:List (Str×Str)} {m m':Nat} (h:TIn H f kv bv ks bs m) (l:m'<=m):TIn H f kv bv ks bs m':=
 ⟨h.fd,h.kd,h.wf,h.nb,h.bx,h.nd,by have:=h.bl; omega,fun b hb j hj=>h.fr b hb j (by omega),h.kn⟩
theorem xvb {ns:List Int} (h0:∀ n∈ns,0<=n) {m:Int} (hm:m∈ns++[0]) (h:∀ n∈ns++[0],n<=m):m=maxD ns:=by
 have h00:=h 0 (by simp)
 by_cases he:ns=[]
 ·subst he
  simp at hm
  rw [hm]
  rfl
 ·have h1:=xgk he h0
  have h2:=h _ (List.mem_append_left _ h1)
  have h3:=h0 _ h1
  rcases zMA hm with hm | hm
  ·have:=xih hm
   omega
  ·rw [zMO hm] at h2 ⊢
   omega
end M
end
section
namespace M
open PySem L2
def ArmN (ks:List Kn) (z:Str):Prop:=(∃ j,z=byN j)\/∃ k∈ks,∃ p∈k.parts,p.1=z
def FitK (ks:List Kn) (bs:List (Str×Str)) (env:En):Prop:=(∀ p∈bs,env p.1=some (.str p.2))/\∀ z,ArmN ks z->(∀ q∈bs,q.1≠z)->env z=none
theorem FitK.put {ks:List Kn} {bs:List (Str×Str)} {env:En} {y k:Str} (h:FitK ks bs env) (hy:∀ p∈bs,p.1≠y):FitK ks (bs++[(y,k)]) (env.put y (.str k)):=by
 refine ⟨fun p hp=>?_,fun z hz hq=>?_⟩
 ·unfold En.put
  rcases zMA hp with hp | hp
  ·rw [if_neg (hy p hp)]; exact h.1 p hp
  ·rw [zMO hp,if_pos rfl]
 ·unfold En.put
  have hzy:y≠z:=hq (y,k) (by simp)
  rw [if_neg (Ne.symm hzy)]
  exact h.2 z hz fun q hq'=>hq q (by simp [hq'])
def TmK (ks:List Kn) (n:Nat) (bs:List (Str×Str)) (d:D) (x:Str):Prop:=∀ env,FitK ks bs env->Kd True ks n env d x
def TmB (ks:List Kn) (n:Nat) (bs:List (Str×Str)) (d:D) (x:Str):Prop:=TmOk ks n bs d x/\TmK ks n bs d x
theorem xpj {ks:List Kn} {n:Nat} {env:En} {d:D} {x:Str} (h:xku env d x):Kd True ks n env d x:=by
 cases n with
 | zero=>exact h
 | succ n=>exact .inl h
theorem xt8 {ks:List Kn} {n:Nat} {bs:List (Str×Str)} {i:Int} (h:Nm i):TmB ks n bs (tNum i) (S "num"):=⟨xt0 h,fun env _=>xpj (.inl ⟨i,h,rfl,rfl⟩)⟩
theorem xua {ks:List Kn} {n:Nat} {bs:List (Str×Str)} {y x:Str} (h:(y,x)∈bs):TmB ks n bs (tBox y) x:=⟨xt2 h,fun env hf=>xpj (.inr ⟨y,hf.1 _ h,rfl⟩)⟩
theorem xv5 {ks:List Kn} (wf:KWf ks) {n:Nat} {bs:List (Str×Str)} {s:Str} {a b:D} (hs:Sg s) (ha:TmB ks n bs a (S "num")) (hb:TmB ks n bs b (S "num")):TmB ks (n + 1) bs (tOpD s a b) (S "num"):=
 ⟨xv2 wf hs ha.1 hb.1,fun env hf=>.inr (.inl ⟨s,a,b,ha.2 env hf,hb.2 env hf,rfl,rfl⟩)⟩
theorem xt7 {ks:List Kn} {n:Nat} {bs:List (Str×Str)} {x:Str} {k:Kn} {es:List D} (hk:kAt ks x=some k) (hr:k.rc=true) (hl:k.parts.length<=1000) (h:All2 (fun e (p:Str×Str)=>TmB ks n bs e p.2) es k.parts):TmB ks (n + 1) bs (tRec x es) x:=
 ⟨xtz hk hr hl (h.imp fun _ _ h=>h.1),fun env hf=>.inr (.inr (.inl ⟨es,k,hk,hr,h.imp fun _ _ h=>h.2 env hf,rfl⟩))⟩
theorem xk9 {k:Kn} {p:Str×Str} (nd:(k.parts.map (·.1)).Nodup) (hp:p∈k.parts):xca k p.1=some p.2:=by
 unfold xca
 obtain ⟨i,hi,e⟩:=zMI hp
 have:=xc8 (f:=fun r:Str×Str=>r.1) (xs:=k.parts) (i:=i) (a:=p) nd (by rw [<- e]; exact zGA hi)
 rw [this]
 rfl
theorem xt9 {ks:List Kn} (wf:KWf ks) {n:Nat} {bs:List (Str×Str)} {y:Str} {k:Kn} {a:D} {p:Str×Str} (hk:kAt ks y=some k) (hr:k.rc=true) (hp:p∈k.parts) (h:TmB ks n bs a y):TmB ks (n + 1) bs (tGet a p.1) p.2:=
 ⟨xt1 wf hk hr hp h.1,fun env hf=>.inr (.inr (.inr (.inl ⟨a,y,p.1,k,h.2 env hf,hk,hr,xk9 (wf.pnd k (zMF hk)) hp,rfl⟩)))⟩
theorem xt6 {ks:List Kn} (wf:KWf ks) {n:Nat} {bs:List (Str×Str)} {x:Str} {k:Kn} {a:D} {p:Str×Str} (hk:kAt ks x=some k) (hr:k.rc=false) (hp:p∈k.parts) (h:TmB ks n bs a p.2):TmB ks (n + 1) bs (tTag x p.1 a) x:=
 ⟨xty hk hr hp h.1,fun env hf=>.inr (.inr (.inr (.inr (.inl ⟨p.1,a,k,p.2,hk,hr,xk9 (wf.pnd k (zMF hk)) hp,h.2 env hf,rfl⟩))))⟩
theorem xjt {α β:Type} {f:α->β}:∀ {l:List α},(l.map f).Nodup->∀ {a b:α},a∈l->b∈l->f a=f b->a=b
 | [],_,a,_,ha,_,_=>nomatch ha
 | c :: l,nd,a,b,ha,hb,e=>by
  rw [List.map_cons,List.nodup_cons] at nd
  rcases zMC ha with h1 | h1 <;> rcases zMC hb with h2 | h2
  ·rw [h1,h2]
  ·rw [h1] at e
   exact absurd (by rw [e]; exact List.mem_map_of_mem h2) nd.1
  ·rw [h2] at e
   exact absurd (by rw [<- e]; exact List.mem_map_of_mem h1) nd.1
  ·exact xjt nd.2 h1 h2 e
theorem xso {ks:List Kn} (wf:KWf ks) {n:Nat} {bs:List (Str×Str)} {x y:Str} {k:Kn} {a:D} {rs:List (Str×Str×D)} (hk:kAt ks y=some k) (hr:k.rc=false) (ha:TmB ks n bs a y) (hl:rs.length<=1000) (nd:(rs.map (·.1)).Nodup)
  (hlen:rs.length=k.parts.length) (hsub:∀ r∈rs,∃ p∈k.parts,p.1=r.1)
  (h:∀ p∈k.parts,∃ z e,(p.1,z,e)∈rs/\(∀ q∈bs,q.1≠z)/\ArmN ks z/\TmB ks n (bs++[(z,p.2)]) e x):TmB ks (n + 1) bs (xgq a rs) x:=by
 have hm:=zMF hk
 refine ⟨xsl wf hk hr ha.1 hl nd fun p hp=>?_,fun env hf=>.inr (.inr (.inr (.inr (.inr (.inl ⟨True.intro,a,rs,y,k,ha.2 env hf,hk,hr,?_,hlen,nd,fun r hrr=>?_,rfl⟩)))))⟩
 ·obtain ⟨z,e,g1,g2,g3,g4⟩:=h p hp
  exact ⟨z,e,g1,g2,g4.1⟩
 ·intro e
  have h0:k.parts=[]:=List.eq_nil_of_length_eq_zero (by rw [<- hlen,e]; rfl)
  exact wf.alt k hm hr h0
 ·obtain ⟨p,hp,e⟩:=hsub r hrr
  obtain ⟨z,e',g1,g2,g3,g4⟩:=h p hp
  have er:r=(p.1,z,e'):=xjt nd hrr g1 e.symm
  subst er
  exact ⟨hf.2 z g3 g2,p.2,xk9 (wf.pnd k hm) hp,g4.2 _ (hf.put g2)⟩
theorem xv6 {ks:List Kn} (wf:KWf ks) {n:Nat} {bs:List (Str×Str)} {x:Str} {a b c:D} (ha:TmB ks n bs a (S "num")) (hb:TmB ks n bs b x) (hc:TmB ks n bs c x):TmB ks (n + 1) bs (tIfD a b c) x:=
 ⟨xv3 wf ha.1 hb.1 hc.1,fun env hf=>.inr (.inr (.inr (.inr (.inr (.inr ⟨a,b,c,ha.2 env hf,hb.2 env hf,hc.2 env hf,rfl⟩)))))⟩
theorem NodeKd.mono {cs:Prop} {ks:List Kn} {R R':RKn} (k:∀ env d x,R env d x->R' env d x) {env:En} {d:D} {x:Str} (h:NodeKd cs ks R env d x):NodeKd cs ks R' env d x:=by
 rcases h with ⟨s,a,b,h1,h2,r⟩ | ⟨es,kn,h1,h2,h3,r⟩ | ⟨a,k1,f,kn,h1,r⟩ | ⟨t,a,kn,k1,h1,h2,h3,h4,r⟩ | ⟨hc,a,rs,k1,kn,h1,h2,h3,h4,h5,h6,h7,r⟩ | ⟨a,b,c,h1,h2,h3,r⟩
 ·exact .inl ⟨s,a,b,k _ _ _ h1,k _ _ _ h2,r⟩
 ·exact .inr (.inl ⟨es,kn,h1,h2,h3.imp fun _ _ h=>k _ _ _ h,r⟩)
 ·exact .inr (.inr (.inl ⟨a,k1,f,kn,k _ _ _ h1,r⟩))
 ·exact .inr (.inr (.inr (.inl ⟨t,a,kn,k1,h1,h2,h3,k _ _ _ h4,r⟩)))
 ·refine .inr (.inr (.inr (.inr (.inl ⟨hc,a,rs,k1,kn,k _ _ _ h1,h2,h3,h4,h5,h6,fun r hr=>?_,r⟩))))
  obtain ⟨g1,k2,g2,g3⟩:=h7 r hr
  exact ⟨g1,k2,g2,k _ _ _ g3⟩
 ·exact .inr (.inr (.inr (.inr (.inr ⟨a,b,c,k _ _ _ h1,k _ _ _ h2,k _ _ _ h3,r⟩))))
theorem xvj {cs:Prop} {ks:List Kn}:∀ (n:Nat) (env:En) (d:D) (x:Str),Kd cs ks n env d x->Kd cs ks (n + 1) env d x
 | 0,_,_,_,h=>.inl h
 | n + 1,env,d,x,h=>by
  rcases h with h | h
  ·exact .inl h
  ·exact .inr (h.mono (xvj n))
theorem xwt {cs:Prop} {ks:List Kn} {n m:Nat} (l:n<=m) {env:En} {d:D} {x:Str} (h:Kd cs ks n env d x):Kd cs ks m env d x:=by
 obtain ⟨k,rfl⟩:∃ k,m=n + k:=⟨m - n,by omega⟩
 clear l
 induction k with
 | zero=>exact h
 | succ k ih=>exact xvj _ _ _ _ ih
def NoMo (x:Str):Prop:=x≠S "more"
theorem xwo {l:List Nat} (h:l[0]?≠some 109\/l[1]?≠some 111):NoMo (ofL l):=fun e=>by
 have:=congrArg L e
 rw [xed,show L (S "more")=[109,111,114,101] by walk_at "k"] at this
 subst this
 simp at h
theorem xlt {c:Nat} (h:c∈five):c≠109/\c≠111:=by
 revert h
 unfold five
 simp
 omega
theorem xr8 {cs:List Nat} (h5:∀ c∈cs,c∈five) (a:Nat) (b:Int) (k:Nat) (t:List Nat) (ht:∀ c∈t,c∈five):NoMo (ofL (nmA cs a b k++t)):=by
 apply xwo
 unfold nmA
 cases hcs:cs.take a with
 | nil=>
  right
  rw [List.nil_append,List.cons_append,List.getElem?_cons_succ]
  intro e
  have hm:=zMG e
  rcases zMA hm with hm | hm
  ·exact (xlt (h5 _ (List.mem_of_mem_drop hm))).2 rfl
  ·exact (xlt (ht _ hm)).2 rfl
 | cons c r=>
  left
  intro e
  simp at e
  have:c∈cs.take a:=by rw [hcs]; simp
  exact (xlt (h5 c (List.mem_of_mem_take this))).1 e
theorem xtb {cs:List Nat} {a:Nat} {b:Int} (h5:∀ c∈cs,c∈five):∀ z∈((List.range 26).map fun k=>ofL (nmA cs a b k)),NoMo z:=fun z hz=>by
 obtain ⟨k,_,rfl⟩:=zMP hz
 have:=xr8 h5 a b k [] (fun _ h=>nomatch h)
 rw [List.append_nil] at this
 exact this
theorem xs9 {cs:List Nat} {a:Nat} {b:Int} (h5:∀ c∈cs,c∈five):∀ z∈((List.range 26).map fun k=>ofL (nmB cs a b k)),NoMo z:=fun z hz=>by
 obtain ⟨k,_,rfl⟩:=zMP hz
 unfold nmB
 exact xr8 h5 a b _ _ fun c hc=>by rw [List.eq_of_mem_replicate hc]; decide
end M
end
section
namespace M
open PySem L2
def dPr (e:Str×D):D:=.tup [.str e.1,e.2]
end M
end
section
namespace M
open PySem L2
def envP (ds:List (Str×D)):En:=fun y=>(ds.find? fun q=>decide (q.1=y)).map fun q=>q.2
theorem xha {ds:List (Str×D)} (nd:(ds.map (·.1)).Nodup) {q:Str×D} (hq:q∈ds):envP ds q.1=some q.2:=by
 unfold envP
 obtain ⟨i,hi,e⟩:=zMI hq
 rw [xc8 (f:=fun r:Str×D=>r.1) (xs:=ds) (i:=i) (a:=q) nd (by rw [<- e]; exact zGA hi)]
 rfl
theorem xiu {α β:Type} {R:α->β->Prop}:∀ {as:List α} {bs:List β},All2 R as bs->∀ a∈as,∃ b∈bs,R a b
 | _,_,.nil,a,h=>nomatch h
 | _,_,.cons h t,a,ha=>by
  rcases zMC ha with rfl | ha
  ·exact ⟨_,by simp,h⟩
  ·obtain ⟨b,hb,r⟩:=xiu t a ha
   exact ⟨b,by simp [hb],r⟩
end M
end
section
namespace M
open PySem L2
def LfC (d:D) (c:Int):Prop:=(∃ i,d=tNum i/\0<=c)\/∃ x,d=tBox x/\1<=c
def NdC (R:D->Int->Prop) (d:D) (c:Int):Prop:=
 (∃ s a b c1 c2,R a c1/\R b c2/\c1 + c2<=c/\d=tOpD s a b) ∨
 (∃ k es cs,All2 R es cs/\cs.sum<=c/\es.length<=1000/\d=tRec k es) ∨
 (∃ a f,R a c/\d=tGet a f) ∨
 (∃ k t a,R a c/\d=tTag k t a) ∨
 (∃ a rs c0 e,R a c0/\(∀ r∈rs,R r.2.2 e)/\0<=e/\c0 + (rs.length:Int) * e<=c/\rs.length<=1000/\d=xgq a rs) ∨
 (∃ a b e c1 c2 c3,R a c1/\R b c2/\R e c3/\c1 + c2 + c3<=c/\d=tIfD a b e)
def Tc:Nat->D->Int->Prop
 | 0=>LfC
 | n + 1=>fun d c=>LfC d c\/NdC (Tc n) d c
theorem NdC.mono {R R':D->Int->Prop} (k:∀ d c,R d c->R' d c) {d:D} {c:Int} (h:NdC R d c):NdC R' d c:=by
 rcases h with ⟨s,a,b,c1,c2,h1,h2,r⟩ | ⟨kk,es,cs,h1,r⟩ | ⟨a,f,h1,r⟩ | ⟨kk,t,a,h1,r⟩ | ⟨a,rs,c0,e,h1,h2,r⟩ | ⟨a,b,e,c1,c2,c3,h1,h2,h3,r⟩
 ·exact .inl ⟨s,a,b,c1,c2,k _ _ h1,k _ _ h2,r⟩
 ·exact .inr (.inl ⟨kk,es,cs,h1.imp k,r⟩)
 ·exact .inr (.inr (.inl ⟨a,f,k _ _ h1,r⟩))
 ·exact .inr (.inr (.inr (.inl ⟨kk,t,a,k _ _ h1,r⟩)))
 ·exact .inr (.inr (.inr (.inr (.inl ⟨a,rs,c0,e,k _ _ h1,fun r' hr=>k _ _ (h2 r' hr),r⟩))))
 ·exact .inr (.inr (.inr (.inr (.inr ⟨a,b,e,c1,c2,c3,k _ _ h1,k _ _ h2,k _ _ h3,r⟩))))
theorem xt3:∀ (n:Nat) (d:D) (c:Int),Tc n d c->Tc (n + 1) d c
 | 0,_,_,h=>.inl h
 | n + 1,d,c,h=>by
  rcases h with h | h
  ·exact .inl h
  ·exact .inr (h.mono (xt3 n))
theorem xv4 {n m:Nat} (l:n<=m) {d:D} {c:Int} (h:Tc n d c):Tc m d c:=by
 obtain ⟨k,rfl⟩:∃ k,m=n + k:=⟨m - n,by omega⟩
 clear l
 induction k with
 | zero=>exact h
 | succ k ih=>exact xt3 _ _ _ ih
theorem xsa {d:D} {c:Int} (h:LfC d c):0<=c:=by
 rcases h with ⟨_,_,h⟩ | ⟨_,_,h⟩ <;> omega
theorem xit {R:D->Int->Prop} (k:∀ d c,R d c->0<=c):∀ {es:List D} {cs:List Int},All2 R es cs->0<=cs.sum
 | _,_,.nil=>by simp
 | _,_,.cons h t=>by
  have h1:=k _ _ h
  have h2:=xit k t
  simp only [List.sum_cons]
  omega
theorem xez:∀ (n:Nat) (d:D) (c:Int),Tc n d c->0<=c
 | 0,_,_,h=>xsa h
 | n + 1,d,c,h=>by
  rcases h with h | h
  ·exact xsa h
  ·rcases h with ⟨s,a,b,c1,c2,h1,h2,h3,r⟩ | ⟨kk,es,cs,h1,h2,r⟩ | ⟨a,f,h1,r⟩ | ⟨kk,t,a,h1,r⟩ | ⟨a,rs,c0,e,h1,h2,h3,h4,r⟩ | ⟨a,b,e,c1,c2,c3,h1,h2,h3,h4,r⟩
   ·have:=xez n _ _ h1; have:=xez n _ _ h2; omega
   ·have:=xit (xez n) h1; omega
   ·exact xez n _ _ h1
   ·exact xez n _ _ h1
   ·have:=xez n _ _ h1
    have:0<=(rs.length:Int) * e:=Int.mul_nonneg (by omega) h3
    omega
   ·have:=xez n _ _ h1; have:=xez n _ _ h2; have:=xez n _ _ h3; omega
theorem xpc {d:D} {c c':Int} (l:c<=c') (h:LfC d c):LfC d c':=by
 rcases h with ⟨i,e,h⟩ | ⟨x,e,h⟩
 ·exact .inl ⟨i,e,by omega⟩
 ·exact .inr ⟨x,e,by omega⟩
theorem xcp:∀ (n:Nat) (d:D) (c c':Int),c<=c'->Tc n d c->Tc n d c'
 | 0,_,_,_,l,h=>xpc l h
 | n + 1,d,c,c',l,h=>by
  rcases h with h | h
  ·exact .inl (xpc l h)
  ·refine .inr ?_
   rcases h with ⟨s,a,b,c1,c2,h1,h2,h3,r⟩ | ⟨kk,es,cs,h1,h2,r⟩ | ⟨a,f,h1,r⟩ | ⟨kk,t,a,h1,r⟩ | ⟨a,rs,c0,e,h1,h2,h3,h4,r⟩ | ⟨a,b,e,c1,c2,c3,h1,h2,h3,h4,r⟩
   ·exact .inl ⟨s,a,b,c1,c2,h1,h2,by omega,r⟩
   ·exact .inr (.inl ⟨kk,es,cs,h1,by omega,r⟩)
   ·exact .inr (.inr (.inl ⟨a,f,xcp n _ _ _ l h1,r⟩))
   ·exact .inr (.inr (.inr (.inl ⟨kk,t,a,xcp n _ _ _ l h1,r⟩)))
   ·exact .inr (.inr (.inr (.inr (.inl ⟨a,rs,c0,e,h1,h2,h3,by omega,r⟩))))
   ·exact .inr (.inr (.inr (.inr (.inr ⟨a,b,e,c1,c2,c3,h1,h2,h3,by omega,r⟩))))
theorem xt4 {n:Nat} {i c:Int} (h:0<=c):Tc n (tNum i) c:=by
 cases n with
 | zero=>exact .inl ⟨i,rfl,h⟩
 | succ n=>exact .inl (.inl ⟨i,rfl,h⟩)
theorem xt5 {n:Nat} {x:Str} {c:Int} (h:1<=c):Tc n (tBox x) c:=by
 cases n with
 | zero=>exact .inr ⟨x,rfl,h⟩
 | succ n=>exact .inl (.inr ⟨x,rfl,h⟩)
def xlm (f:D->List Str):D->List Str
 | .tup [_,.str x,e]=>(f e).filter fun z=>!decide (V.str z=V.str x)
 | _=>[]
def bxL:List D->List Str
 | [.str x]=>[x]
 | _=>[]
def esL:List D->List D
 | [_,.tup es]=>es
 | _=>[]
def innL (h:Str) (r:List D):List D:=if h=S "op" then r.drop 1 else if h=S "rec" then esL r else if h=S "get"\/h=S "case" then r.take 1 else if h=S "tag" then r.drop 2 else if h=S "if" then r else []
def nd:Nat->D->List Str
 | n,.tup (.str h :: r)=>if h=S "box" then bxL r else match n with
  | 0=>[]
  | n + 1=>(innL h r).flatMap (nd n)++(if h=S "case" then (esL r).flatMap (xlm (nd n)) else [])
 | _,_=>[]
theorem xds (n:Nat) (h:Str) (r:List D) (hb:¬ h=S "box"):nd (n + 1) (.tup (.str h :: r))=(innL h r).flatMap (nd n)++(if h=S "case" then (esL r).flatMap (xlm (nd n)) else []):=by
 rw [nd,if_neg hb]
theorem xjw (n:Nat) (x:Str):nd n (tBox x)=[x]:=by
 cases n with
 | zero=>
  show (if S "box"=S "box" then [x] else [])=_
  rw [if_pos rfl]
 | succ n=>
  unfold tBox
  unfold nd
  rw [if_pos rfl]
  rfl
theorem xg7 (r:List D):innL (S "num") r=[]:=by
 unfold innL
 rw [if_neg (by walk_at "k"),if_neg (by walk_at "k"),if_neg (by walk_at "k"),if_neg (by walk_at "k"),if_neg (by walk_at "k")]
theorem xmt (s a b:D):innL (S "op") [s,a,b]=[a,b]:=by
 unfold innL
 rw [if_pos rfl]
 rfl
theorem xij (k:D) (es:List D):innL (S "rec") [k,.tup es]=es:=by
 unfold innL
 rw [if_neg (by walk_at "k"),if_pos rfl]
 rfl
theorem xik (a f:D):innL (S "get") [a,f]=[a]:=by
 unfold innL
 rw [if_neg (by walk_at "k"),if_neg (by walk_at "k"),if_pos (.inl rfl)]
 rfl
theorem xgl (a r:D):innL (S "case") [a,r]=[a]:=by
 unfold innL
 rw [if_neg (by walk_at "k"),if_neg (by walk_at "k"),if_pos (.inr rfl)]
 rfl
theorem xii (k t a:D):innL (S "tag") [k,t,a]=[a]:=by
 unfold innL
 rw [if_neg (by walk_at "k"),if_neg (by walk_at "k"),if_neg (by walk_at "k"),if_pos rfl]
 rfl
theorem xmu (a b c:D):innL (S "if") [a,b,c]=[a,b,c]:=by
 unfold innL
 rw [if_neg (by walk_at "k"),if_neg (by walk_at "k"),if_neg (by walk_at "k"),if_neg (by walk_at "k"),if_pos rfl]
theorem xmj (n:Nat) (i:Int):nd n (tNum i)=[]:=by
 cases n with
 | zero=>unfold tNum; rw [nd,if_neg (by walk_at "k")]
 | succ n=>
  unfold tNum
  rw [xds _ _ _ (by walk_at "k"),xg7,if_neg (by walk_at "k")]
  rfl
theorem xq3 (n:Nat) (s:Str) (a b:D):nd (n + 1) (tOpD s a b)=nd n a++nd n b:=by
 unfold tOpD
 rw [xds _ _ _ (by walk_at "k"),xmt,if_neg (by walk_at "k"),List.append_nil]
 simp
theorem xmi (n:Nat) (k:Str) (es:List D):nd (n + 1) (tRec k es)=es.flatMap (nd n):=by
 unfold tRec
 rw [xds _ _ _ (by walk_at "k"),xij,if_neg (by walk_at "k"),List.append_nil]
theorem xmk (n:Nat) (a:D) (f:Str):nd (n + 1) (tGet a f)=nd n a:=by
 unfold tGet
 rw [xds _ _ _ (by walk_at "k"),xik,if_neg (by walk_at "k"),List.append_nil]
 simp
theorem xmh (n:Nat) (k t:Str) (a:D):nd (n + 1) (tTag k t a)=nd n a:=by
 unfold tTag
 rw [xds _ _ _ (by walk_at "k"),xii,if_neg (by walk_at "k"),List.append_nil]
 simp
theorem xq4 (n:Nat) (a b c:D):nd (n + 1) (tIfD a b c)=nd n a++(nd n b++nd n c):=by
 unfold tIfD
 rw [xds _ _ _ (by walk_at "k"),xmu,if_neg (by walk_at "k"),List.append_nil]
 simp
theorem xig (n:Nat) (a:D) (rs:List (Str×Str×D)):nd (n + 1) (xgq a rs)=nd n a++rs.flatMap fun r=>(nd n r.2.2).filter fun z=>!decide (V.str z=V.str r.2.1):=by
 unfold xgq
 rw [xds _ _ _ (by walk_at "k"),xgl,if_pos rfl]
 show _++(rs.map dArm).flatMap _=_
 rw [List.flatMap_map]
 simp [xlm,dArm]
theorem xmv {α:Type} {f:α->List Str} {e:Int}:∀ {l:List α},(∀ a∈l,((f a).length:Int)<=e)->((l.flatMap f).length:Int)<=(l.length:Int) * e
 | [],_=>by simp
 | a :: l,h=>by
  have h1:=h a (by simp)
  have h2:=xmv (l:=l) fun b hb=>h b (by simp [hb])
  rw [List.flatMap_cons,zLA,List.length_cons]
  have:((l.length + 1:Nat):Int) * e=(l.length:Int) * e + e:=by rw [Int.natCast_add,Int.add_mul]; simp
  omega
theorem xkq {R:D->Int->Prop} {f:D->List Str} (k:∀ d c,R d c->((f d).length:Int)<=c):∀ {es:List D} {cs:List Int},All2 R es cs->((es.flatMap f).length:Int)<=cs.sum
 | _,_,.nil=>by simp
 | _,_,.cons h t=>by
  have h1:=k _ _ h
  have h2:=xkq k t
  rw [List.flatMap_cons,zLA,List.sum_cons]
  omega
theorem xdl:∀ (n:Nat) (d:D) (c:Int),Tc n d c->((nd n d).length:Int)<=c
 | n,d,c,h=>by
  have leaf:LfC d c->((nd n d).length:Int)<=c:=by
   rintro (⟨i,rfl,h0⟩ | ⟨x,rfl,h0⟩)
   ·rw [xmj]; simpa using h0
   ·rw [xjw]; simpa using h0
  cases n with
  | zero=>exact leaf h
  | succ n=>
   rcases h with h | h
   ·exact leaf h
   ·rcases h with ⟨s,a,b,c1,c2,h1,h2,h3,rfl⟩ | ⟨kk,es,cs,h1,h2,_,rfl⟩ | ⟨a,f,h1,rfl⟩ | ⟨kk,t,a,h1,rfl⟩ | ⟨a,rs,c0,e,h1,h2,h3,h4,_,rfl⟩ | ⟨a,b,e,c1,c2,c3,h1,h2,h3,h4,rfl⟩
    ·have:=xdl n _ _ h1; have:=xdl n _ _ h2
     rw [xq3,zLA]; omega
    ·have:=xkq (xdl n) h1
     rw [xmi]; omega
    ·rw [xmk]; exact xdl n _ _ h1
    ·rw [xmh]; exact xdl n _ _ h1
    ·have g1:=xdl n _ _ h1
     have g2:=xmv (l:=rs) (f:=fun r=>(nd n r.2.2).filter fun z=>!decide (V.str z=V.str r.2.1)) (e:=e) fun r hr=>by
      have:=xdl n _ _ (h2 r hr)
      have:=List.length_filter_le (fun z=>!decide (V.str z=V.str r.2.1)) (nd n r.2.2)
      omega
     rw [xig,zLA]; omega
    ·have:=xdl n _ _ h1; have:=xdl n _ _ h2; have:=xdl n _ _ h3
     rw [xq4,zLA,zLA]; omega
theorem arm_mem {n:Nat} {rs:List (Str×Str×D)} {x:Str}:x∈(rs.flatMap fun r=>(nd n r.2.2).filter fun z=>!decide (V.str z=V.str r.2.1)) ↔ ∃ r∈rs,x∈nd n r.2.2/\x≠r.2.1:=by
 rw [List.mem_flatMap]
 constructor
 ·rintro ⟨r,hr,h⟩
  obtain ⟨h1,h2⟩:=List.mem_filter.mp h
  exact ⟨r,hr,h1,fun e=>by rw [e] at h2; simp at h2⟩
 ·rintro ⟨r,hr,h1,h2⟩
  exact ⟨r,hr,List.mem_filter.mpr ⟨h1,by simpa using fun e=>h2 e⟩⟩
theorem xg5 {cs:Prop} {ks:List Kn}:∀ (n:Nat) (env:En) (d:D) (k:Str),Kd cs ks n env d k->∀ x∈nd n d,∃ v,env x=some v
 | n,env,d,k,h,x,hx=>by
  have leaf:xku env d k->∃ v,env x=some v:=by
   rintro (⟨i,_,rfl,_⟩ | ⟨y,hy,rfl⟩)
   ·rw [xmj] at hx; cases hx
   ·rw [xjw,List.mem_singleton] at hx
    subst hx
    exact ⟨_,hy⟩
  cases n with
  | zero=>exact leaf h
  | succ n=>
   rcases h with h | h
   ·exact leaf h
   ·rcases h with ⟨s,a,b,h1,h2,rfl,_⟩ | ⟨es,kn,h1,h2,h3,rfl⟩ | ⟨a,k1,f,kn,h1,h2,h3,h4,rfl⟩ | ⟨t,a,kn,k1,h1,h2,h3,h4,rfl⟩ | ⟨hc,a,rs,k1,kn,h1,h2,h3,h4,h5,h6,h7,rfl⟩ | ⟨a,b,c,h1,h2,h3,rfl⟩
    ·rw [xq3] at hx
     rcases zMA hx with hx | hx
     ·exact xg5 n _ _ _ h1 x hx
     ·exact xg5 n _ _ _ h2 x hx
    ·rw [xmi,List.mem_flatMap] at hx
     obtain ⟨e,he,hx⟩:=hx
     obtain ⟨p,_,hp⟩:=xiu h3 e he
     exact xg5 n _ _ _ hp x hx
    ·rw [xmk] at hx
     exact xg5 n _ _ _ h1 x hx
    ·rw [xmh] at hx
     exact xg5 n _ _ _ h4 x hx
    ·rw [xig] at hx
     rcases zMA hx with hx | hx
     ·exact xg5 n _ _ _ h1 x hx
     ·obtain ⟨r,hr,hx1,hx2⟩:=arm_mem.mp hx
      obtain ⟨_,k2,_,g⟩:=h7 r hr
      obtain ⟨v,hv⟩:=xg5 n _ _ _ g x hx1
      unfold En.put at hv
      rw [if_neg hx2] at hv
      exact ⟨v,hv⟩
    ·rw [xq4] at hx
     rcases zMA hx with hx | hx
     ·exact xg5 n _ _ _ h1 x hx
     ·rcases zMA hx with hx | hx
      ·exact xg5 n _ _ _ h2 x hx
      ·exact xg5 n _ _ _ h3 x hx
theorem xej {α β:Type} {R R':α->β->Prop}:∀ {as:List α} {bs:List β},All2 R as bs->(∀ a∈as,∀ b,R a b->R' a b)->All2 R' as bs
 | _,_,.nil,_=>.nil
 | _,_,.cons h t,k=>.cons (k _ (by simp) _ h) (xej t fun a ha=>k a (by simp [ha]))
theorem xgb {ks:List Kn}:∀ (n:Nat) (env env':En) (d v:D),Ev ks n env d v->(∀ x∈nd n d,env x=env' x)->Ev ks n env' d v
 | n,env,env',d,v,h,he=>by
  have leaf:xfq env d v->xfq env' d v:=by
   rintro (⟨i,rfl,rfl⟩ | ⟨y,hy,rfl⟩)
   ·exact .inl ⟨i,rfl,rfl⟩
   ·exact .inr ⟨y,by rw [<- he y (by rw [xjw]; simp)]; exact hy,rfl⟩
  cases n with
  | zero=>exact leaf h
  | succ n=>
   rcases h with h | h
   ·exact .inl (leaf h)
   ·refine .inr ?_
    rcases h with ⟨s,a,b,x,y,h1,h2,hx,hy,rfl,hv⟩ | ⟨k,es,vs,hl,h1,rfl,hv⟩ | ⟨a,k,vs,f,kn,i,h1,h2,h3,h4,rfl⟩ | ⟨k,t,a,x,h1,rfl,hv⟩ | ⟨a,rs,k,t,x,y,e,hl,h1,hf,h2,rfl⟩ | ⟨a,b,c,x,h1,h2,rfl⟩
    ·rw [xq3] at he
     exact .inl ⟨s,a,b,x,y,xgb n _ _ _ _ h1 fun z hz=>he z (by simp [hz]),xgb n _ _ _ _ h2 fun z hz=>he z (by simp [hz]),hx,hy,rfl,hv⟩
    ·rw [xmi] at he
     exact .inr (.inl ⟨k,es,vs,hl,xej h1 fun e' he' v' hv'=>xgb n _ _ _ _ hv' fun z hz=>he z (List.mem_flatMap.mpr ⟨e',he',hz⟩),rfl,hv⟩)
    ·rw [xmk] at he
     exact .inr (.inr (.inl ⟨a,k,vs,f,kn,i,xgb n _ _ _ _ h1 he,h2,h3,h4,rfl⟩))
    ·rw [xmh] at he
     exact .inr (.inr (.inr (.inl ⟨k,t,a,x,xgb n _ _ _ _ h1 he,rfl,hv⟩)))
    ·rw [xig] at he
     refine .inr (.inr (.inr (.inr (.inl ⟨a,rs,k,t,x,y,e,hl,xgb n _ _ _ _ h1 fun z hz=>he z (by simp [hz]),hf,xgb n _ _ _ _ h2 fun z hz=>?_,rfl⟩))))
     unfold En.put
     by_cases c:z=y
     ·rw [if_pos c,if_pos c]
     ·rw [if_neg c,if_neg c]
      exact he z (List.mem_append.mpr (.inr (arm_mem.mpr ⟨_,zMF hf,hz,c⟩)))
    ·rw [xq4] at he
     refine .inr (.inr (.inr (.inr (.inr ⟨a,b,c,x,xgb n _ _ _ _ h1 fun z hz=>he z (by simp [hz]),?_,rfl⟩))))
     by_cases h0:x=0
     ·rw [if_pos h0] at h2 ⊢
      exact xgb n _ _ _ _ h2 fun z hz=>he z (by simp [hz])
     ·rw [if_neg h0] at h2 ⊢
      exact xgb n _ _ _ _ h2 fun z hz=>he z (by simp [hz])
end M
end
section
namespace M
open PySem L2
def ShC (h:Str) (r:List D):Prop:=(h=S "num"/\∃ i:Int,r=[.int i])\/(h=S "box"/\∃ x,r=[.str x])\/(h=S "op"/\∃ s a b,r=[.str s,a,b])\/(h=S "rec"/\∃ k es,r=[.str k,.tup es])\/(h=S "get"/\∃ a f,r=[a,.str f]) ∨
 (h=S "tag"/\∃ k t a,r=[.str k,.str t,a])\/(h=S "case"/\∃ a rs,r=[a,.tup rs])\/(h=S "if"/\∃ a b c,r=[a,b,c])
theorem xkr {R:D->Int->Prop} (k:∀ d c,R d c->0<=c):∀ {es:List D} {cs:List Int},All2 R es cs->∀ e∈es,∃ c,R e c/\c<=cs.sum
 | _,_,.nil,_,h=>nomatch h
 | _,_,.cons h t,e,he=>by
  have h0:=k _ _ h
  have h1:=xit k t
  rw [List.sum_cons]
  rcases zMC he with rfl | he
  ·exact ⟨_,h,by omega⟩
  ·obtain ⟨c,g,l⟩:=xkr k t e he
   exact ⟨c,g,by omega⟩
theorem xsn {m:Nat} {d:D} {c:Int} (h:Tc m d c):∃ hd r,d=.tup (.str hd :: r)/\ShC hd r/\((hd=S "box"/\∃ x,r=[.str x]/\nd m d=[x])\/(hd≠S "box"/\(∀ e∈innL hd r,∃ j,m=j + 1/\Tc j e c) ∧
  (hd=S "case"->∃ a,∃ rs:List (Str×Str×D),r=[a,.tup (rs.map dArm)]/\rs.length<=1000/\∀ q∈rs,∃ j,m=j + 1/\Tc j q.2.2 c)/\nd m d=(innL hd r).flatMap (nd (m - 1))++(if hd=S "case" then (esL r).flatMap (xlm (nd (m - 1))) else [])))/\(innL hd r).length<=1000:=by
 have leaf:LfC d c->∃ hd r,d=.tup (.str hd :: r)/\ShC hd r/\((hd=S "box"/\∃ x,r=[.str x]/\nd m d=[x])\/(hd≠S "box"/\(∀ e∈innL hd r,∃ j,m=j + 1/\Tc j e c) ∧
  (hd=S "case"->∃ a,∃ rs:List (Str×Str×D),r=[a,.tup (rs.map dArm)]/\rs.length<=1000/\∀ q∈rs,∃ j,m=j + 1/\Tc j q.2.2 c)/\nd m d=(innL hd r).flatMap (nd (m - 1))++(if hd=S "case" then (esL r).flatMap (xlm (nd (m - 1))) else [])))/\(innL hd r).length<=1000:=by
  rintro (⟨i,rfl,_⟩ | ⟨x,rfl,_⟩)
  ·refine ⟨S "num",_,rfl,.inl ⟨rfl,i,rfl⟩,.inr ⟨by walk_at "k",fun e he=>?_,fun z=>absurd z (by walk_at "k"),?_⟩,?_⟩
   ·rw [xg7] at he; cases he
   ·rw [xmj,xg7,if_neg (by walk_at "k")]; rfl
   ·rw [xg7]; exact Nat.zero_le _
  ·refine ⟨S "box",_,rfl,.inr (.inl ⟨rfl,x,rfl⟩),.inl ⟨rfl,x,rfl,xjw _ _⟩,?_⟩
   unfold innL
   rw [if_neg (by walk_at "k"),if_neg (by walk_at "k"),if_neg (by walk_at "k"),if_neg (by walk_at "k"),if_neg (by walk_at "k")]
   exact Nat.zero_le _
 cases m with
 | zero=>exact leaf h
 | succ n=>
  rcases h with h | h
  ·exact leaf h
  ·have tp:=xez n
   rcases h with ⟨s,a,b,c1,c2,h1,h2,h3,rfl⟩ | ⟨kk,es,cs,h1,h2,h3,rfl⟩ | ⟨a,f,h1,rfl⟩ | ⟨kk,t,a,h1,rfl⟩ | ⟨a,rs,c0,e,h1,h2,h3,h4,h5,rfl⟩ | ⟨a,b,e,c1,c2,c3,h1,h2,h3,h4,rfl⟩
   ·have:=tp _ _ h1; have:=tp _ _ h2
    refine ⟨S "op",_,rfl,.inr (.inr (.inl ⟨rfl,_,_,_,rfl⟩)),.inr ⟨by walk_at "k",fun e he=>?_,fun z=>absurd z (by walk_at "k"),xds _ _ _ (by walk_at "k")⟩,by rw [xmt]; simp⟩
    rw [xmt] at he
    refine ⟨n,rfl,?_⟩
    rcases zMC he with rfl | he
    ·exact xcp _ _ _ _ (by omega) h1
    ·rw [zMO he]; exact xcp _ _ _ _ (by omega) h2
   ·refine ⟨S "rec",_,rfl,.inr (.inr (.inr (.inl ⟨rfl,_,_,rfl⟩))),.inr ⟨by walk_at "k",fun e he=>?_,fun z=>absurd z (by walk_at "k"),xds _ _ _ (by walk_at "k")⟩,by rw [xij]; exact h3⟩
    rw [xij] at he
    obtain ⟨c',g,l⟩:=xkr tp h1 e he
    exact ⟨n,rfl,xcp _ _ _ _ (by omega) g⟩
   ·refine ⟨S "get",_,rfl,.inr (.inr (.inr (.inr (.inl ⟨rfl,_,_,rfl⟩)))),.inr ⟨by walk_at "k",fun e he=>?_,fun z=>absurd z (by walk_at "k"),xds _ _ _ (by walk_at "k")⟩,by rw [xik]; simp⟩
    rw [xik,List.mem_singleton] at he
    rw [he]; exact ⟨n,rfl,h1⟩
   ·refine ⟨S "tag",_,rfl,.inr (.inr (.inr (.inr (.inr (.inl ⟨rfl,_,_,_,rfl⟩))))),.inr ⟨by walk_at "k",fun e he=>?_,fun z=>absurd z (by walk_at "k"),xds _ _ _ (by walk_at "k")⟩,by rw [xii]; simp⟩
    rw [xii,List.mem_singleton] at he
    rw [he]; exact ⟨n,rfl,h1⟩
   ·have:=tp _ _ h1
    have hm:0<=(rs.length:Int) * e:=Int.mul_nonneg (by omega) h3
    refine ⟨S "case",_,rfl,.inr (.inr (.inr (.inr (.inr (.inr (.inl ⟨rfl,_,_,rfl⟩)))))),.inr ⟨by walk_at "k",fun e' he=>?_,fun z=>⟨a,rs,rfl,h5,fun q hq=>⟨n,rfl,xcp _ _ _ _ ?_ (h2 q hq)⟩⟩,xds _ _ _ (by walk_at "k")⟩,by rw [xgl]; simp⟩
    ·rw [xgl,List.mem_singleton] at he
     rw [he]; exact ⟨n,rfl,xcp _ _ _ _ (by omega) h1⟩
    ·have:1 * e<=(rs.length:Int) * e:=Int.mul_le_mul_of_nonneg_right (by have:=List.length_pos_of_mem hq; omega) h3
     omega
   ·have:=tp _ _ h1; have:=tp _ _ h2; have:=tp _ _ h3
    refine ⟨S "if",_,rfl,.inr (.inr (.inr (.inr (.inr (.inr (.inr ⟨rfl,_,_,_,rfl⟩)))))),.inr ⟨by walk_at "k",fun e' he=>?_,fun z=>absurd z (by walk_at "k"),xds _ _ _ (by walk_at "k")⟩,by rw [xmu]; simp⟩
    rw [xmu] at he
    refine ⟨n,rfl,?_⟩
    rcases zMC he with rfl | he
    ·exact xcp _ _ _ _ (by omega) h1
    ·rcases zMC he with rfl | he
     ·exact xcp _ _ _ _ (by omega) h2
     ·rw [zMO he]; exact xcp _ _ _ _ (by omega) h3
theorem xf4 {α β:Type} (f:α->List β) (l:List α) (i:Nat):((l.take i).flatMap f).length<=(l.flatMap f).length:=by
 conv=>rhs; rw [<- List.take_append_drop i l,List.flatMap_append,zLA]
 exact Nat.le_add_right _ _
theorem xkd {α β:Type} (f:α->List β) {l:List α} {i:Nat} {a:α} (h:l[i]?=some a):(l.take (i + 1)).flatMap f=(l.take i).flatMap f++f a:=by
 rw [zTA,h]
 show (l.take i++[a]).flatMap f=_
 rw [List.flatMap_append]
 simp
end M
end
section
namespace St
open PySem PySem.Spec PyProof.Rows
def byT (w:World):Bool:=w.params.followText "set-order"
def SetL (prog:Program) (w:World) (h:Heap) (a:Addr) (S:Str->Bool) (n:Nat):Prop:=
 ∃ o es ep t,h.get? a=some o/\o.ExactSet/\o.data=.set es ep t/\ElemsOf (PySem.strKind prog w) es.toList/\(∀ k,S k=true ↔ ∃ e∈es.toList,(PySem.strKind prog w).is k e.2=true)/\es.size < scanBound/\t.fits es.size=true/\es.size=n/\(byT w=true\/t.led=true)/\(n=0\/t.plain=false)
theorem xk0 (t:SetTable) (n:Nat):(t.orStandIn n).led=t.led/\(t.plain=false->(t.orStandIn n).plain=false):=by
 unfold SetTable.orStandIn
 split
 ·exact ⟨rfl,id⟩
 ·exact ⟨rfl,fun _=>rfl⟩
theorem xtg (t:SetTable) (es:Array (Int×Value)) (h:Int) (x:Value):(layNew t es h x).2.1.led=t.led/\(t.plain=false->(layNew t es h x).2.1.plain=false):=by
 unfold layNew
 split
 ·rename_i slot wd _
  exact xk0 (t.put slot).1 _
 ·exact ⟨rfl,fun _=>rfl⟩
theorem xol (t:SetTable) (es:Array (Int×Value)) (k:Nat):(relayAll t es k).2.1.led=t.led/\(t.plain=false->(relayAll t es k).2.1.plain=false):=by
 unfold relayAll
 split
 ·rename_i t' order hr
  have h2:t'.led=t.led/\t'.plain=t.plain:=by
   unfold SetTable.relaid SetTable.laid at hr
   cases hl:SetTable.layClean (SetTable.sizeAbove k - 1) (es.map fun x=>x.1) with
   | none=>rw [hl] at hr; cases hr
   | some ow=>
    rw [hl] at hr
    cases hr
    exact ⟨rfl,rfl⟩
  dsimp only
  split
  ·exact ⟨h2.1,fun e=>by rw [<- e]; exact h2.2⟩
  ·exact ⟨rfl,fun _=>rfl⟩
 ·exact ⟨rfl,fun _=>rfl⟩
section
variable {prog:Program} {w:World} {A:Around} {E:Value->Shared->Prop} {s:Shared}
theorem xhu {h:Heap} {a:Addr} {o:Obj} {es:Array (Int×Value)} {ep:Nat} {t:SetTable} (ho:h.get? a=some o) (hex:o.ExactSet) (hd:o.data=.set es ep t)
  {es':Array (Int×Value)} {t':SetTable} {S':Str->Bool} (hel:ElemsOf (PySem.strKind prog w) es'.toList) (hmem:∀ k,S' k=true ↔ ∃ e∈es'.toList,(PySem.strKind prog w).is k e.2=true) (hb:es'.size < scanBound) (hf:t'.fits es'.size=true)
  (hl:byT w=true\/t'.led=true) (hp:es'.size=0\/t'.plain=false) :
  (h.update a (Obj.putSet es' t')).get? a=some { o with data:=.set es' (ep + 1) t' }/\SetL prog w (h.update a (Obj.putSet es' t')) a S' es'.size:=by
 obtain ⟨hg,_⟩:=SetOf_store (knd:=PySem.strKind prog w) (S':=S') ho hex hd hel hmem hb hf
 exact ⟨hg,_,es',ep + 1,t',hg,hex,rfl,hel,hmem,hb,hf,rfl,hl,hp⟩
theorem xm6 {g:Bool->Sem Unit} (hg:∀ (b:Bool) (s₁:Shared) (Q':Unit->Shared->Prop),Q' () s₁->wpAny (model prog w) A (g b) Q' E s₁)
  {a:Addr} {o:Obj} {es:Array (Int×Value)} {ep:Nat} {t:SetTable} (ho:s.heap.get? a=some o) (hex:o.ExactSet) (hd:o.data=.set es ep t)
  {es1:Array (Int×Value)} {t2:SetTable} {S':Str->Bool} (hel1:ElemsOf (PySem.strKind prog w) es1.toList) (hmem1:∀ k',S' k'=true ↔ ∃ e∈es1.toList,(PySem.strKind prog w).is k' e.2=true)
  (hb1:es1.size < scanBound) (hf2:t2.fits es1.size=true) (hl:byT w=true\/t2.led=true) (hp:t2.plain=false) {wd:Bool} {R:Option Bool->Shared->Prop}
  (h:∀ h',Heap.SameBut a s.heap h'->SetL prog w h' a S' es1.size->R (some true) { s with heap:=h' }) :
  wpAny (model prog w) A (do
    storeSet a es1 t2
    if (!wd && t2.tooFull)=true then do
      g (relayAll t2 es1 (SetTable.grown es1.size)).2.2
      storeSet a (relayAll t2 es1 (SetTable.grown es1.size)).1 (relayAll t2 es1 (SetTable.grown es1.size)).2.1
      pure (some true)
     else pure (some true)) R E s:=by
 refine wpAny_bind (wpAny_storeSet_of ho hd ?_ (fits_of_scanBound hb1))
 obtain ⟨ho1,hS1⟩:=xhu (prog:=prog) (w:=w) ho hex hd hel1 hmem1 hb1 hf2 hl (.inr hp)
 have sb1:=Heap.SameBut.update s.heap a (Obj.putSet es1 t2)
 split
 ·have rp:=relayAll_perm t2 es1 (SetTable.grown es1.size)
  have rf:=relayAll_fits t2 es1 (SetTable.grown es1.size)
  have rl:=xol t2 es1 (SetTable.grown es1.size)
  generalize relayAll t2 es1 (SetTable.grown es1.size)=Rl at rp rf rl ⊢
  obtain ⟨es2,t3,g2⟩:=Rl
  dsimp only at rp rf rl ⊢
  have sz:es2.size=es1.size:=by rw [<- Array.length_toList,rp.length_eq,Array.length_toList]
  have b2:es2.size < scanBound:=by rw [sz]; exact hb1
  refine wpAny_bind (hg _ _ _ ?_)
  refine wpAny_bind (wpAny_storeSet_of ho1 rfl ?_ (fits_of_scanBound b2))
  obtain ⟨_,hS2⟩:=xhu (prog:=prog) (w:=w) (S':=S') ho1 hex rfl (hel1.perm rp) (fun k'=>(hmem1 k').trans ⟨fun ⟨e,he,q⟩=>⟨e,rp.mem_iff.mpr he,q⟩,fun ⟨e,he,q⟩=>⟨e,rp.mem_iff.mp he,q⟩⟩) b2 rf (by rw [rl.1]; exact hl) (.inr (rl.2 hp))
  rw [sz] at hS2
  exact wpAny_pure (h _ (sb1.trans (Heap.SameBut.update _ a _)) hS2)
 ·exact wpAny_pure (h _ sb1 hS1)
theorem addL {a:Addr} {S:Str->Bool} {n:Nat} {k:Str} {tk:Tok} {Q:Bool->Shared->Prop} (hS:SetL prog w s.heap a S n) (hroom:n + 1 < scanBound)
  (h:∀ h',Heap.SameBut a s.heap h'->SetL prog w h' a (fun k'=>S k' || decide (k'=k)) (if S k then n else n + 1)->Q (!S k) { s with heap:=h' }) :
  wpAny (model prog w) A (setAddHashed a (.str k tk) ((PySem.strKind prog w).hash k)) Q E s:=by
 have hkey:=PySem.strKind_is prog w k tk
 have hsc:(Value.str k tk).scannable=true:=rfl
 obtain ⟨o,es,ep,t,ho,hex,hd,hel,hmem,hb,hf,hn,hl,hp⟩:=hS
 have hb1:es.size + 1 < scanBound:=by rw [hn]; exact hroom
 unfold setAddHashed setAddHashedIn
 refine wpAny_holding (wpAny_bind (wpAny_setState_of ho hd hf ?_))
 dsimp only
 rw [byScan_of hsc hb hel]
 simp only [↓reduceIte]
 unfold setAddByScan
 refine wpAny_bind ?_
 refine wpAny_bind (wpAny_rule ?_)
 refine wpAny_bind (wpAny_setScan_of hkey ho hd hf hel ?_)
 cases hr:List.findIdx? (fun e=>(PySem.strKind prog w).is k e.2) es.toList with
 | some j=>
  dsimp only
  obtain ⟨hj,pj,_⟩:=List.findIdx?_eq_some_iff_getElem.mp hr
  have hSk:S k=true:=(hmem k).mpr ⟨es.toList[j],List.getElem_mem hj,pj⟩
  refine wpAny_pure (wpAny_pure ?_)
  have e:s={ s with heap:=s.heap }:=by cases s; rfl
  have:=h s.heap (Heap.SameBut.refl a s.heap) ⟨o,es,ep,t,ho,hex,hd,hel,fun k'=>by
   rw [Bool.or_eq_true,decide_eq_true_eq,<- hmem k']
   exact ⟨fun hk=>hk.elim id (fun e=>e ▸ hSk),.inl⟩,hb,hf,by rw [hSk]; exact hn,hl,by rw [hSk]; exact hp⟩
  rw [hSk] at this
  rw [e]
  exact this
 | none=>
  dsimp only
  have hSk:S k=false:=by
   cases hk:S k with
   | false=>rfl
   | true=>
    obtain ⟨e,he,q⟩:=(hmem k).mp hk
    have:=List.findIdx?_eq_none_iff.mp hr e he
    rw [q] at this
    exact Bool.noConfusion this
  have hgw:∀ (b:Bool) {s₁:Shared} {Q':Unit->Shared->Prop},Q' () s₁->wpAny (model prog w) A (match b with | true=>rule "set.scan.the-table-gave-way" | false=>pure ()) Q' E s₁:=fun b s₁ Q' hq=>by
   cases b
   ·exact wpAny_pure hq
   ·exact wpAny_rule hq
  have lp:=layNew_perm t es ((PySem.strKind prog w).hash k) (.str k tk)
  have lf:=layNew_fits t es ((PySem.strKind prog w).hash k) (.str k tk)
  have ll:=xtg t es ((PySem.strKind prog w).hash k) (.str k tk)
  generalize layNew t es ((PySem.strKind prog w).hash k) (.str k tk)=L at lp lf ll ⊢
  obtain ⟨es1,t1,wd,gv⟩:=L
  dsimp only at lp lf ll ⊢
  rw [Array.toList_push] at lp
  have hel1:ElemsOf (PySem.strKind prog w) es1.toList:=(hel.push hkey hsc).perm lp
  have hmem1:∀ k',(S k' || decide (k'=k))=true ↔ ∃ e∈es1.toList,(PySem.strKind prog w).is k' e.2=true:=mem_push_iff hkey hmem lp
  have sz1:es1.size=n + 1:=by rw [<- Array.length_toList,lp.length_eq,zLA,Array.length_toList,hn]; rfl
  have b1:es1.size < scanBound:=by rw [sz1]; exact hroom
  refine wpAny_bind (hgw _ ?_)
  have fin:∀ h',Heap.SameBut a s.heap h'->SetL prog w h' a (fun k'=>S k' || decide (k'=k)) es1.size->Q true { s with heap:=h' }:=by
   intro h' sb hS'
   have:=h h' sb
   rw [hSk] at this
   rw [sz1] at hS'
   exact this hS'
  have hl1:byT w=true\/t1.led=true:=by rw [ll.1]; exact hl
  split
  ·refine wpAny_bind ?_
   rw [hashByValue_scannable 8 hsc]
   refine wpAny_pure ?_
   refine xm6 ?_ ho hex hd hel1 hmem1 b1 (t2:={ t1 with plain:=false }) (SetTable.fits_plain_off lf) hl1 rfl ?_
   ·intro b s₁ Q' hq; cases b <;> first | exact wpAny_pure hq | exact wpAny_rule hq
   ·intro h' sb hS'; dsimp only; exact wpAny_pure (fin h' sb hS')
  ·rename_i hpl
   refine wpAny_bind (wpAny_pure ?_)
   simp only [↓reduceIte]
   refine xm6 ?_ ho hex hd hel1 hmem1 b1 lf hl1 (by simpa using hpl) ?_
   ·intro b s₁ Q' hq; cases b <;> first | exact wpAny_pure hq | exact wpAny_rule hq
   ·intro h' sb hS'; dsimp only; exact wpAny_pure (fin h' sb hS')
theorem xnc {h:Heap} {a:Addr} {S S':Str->Bool} {n n':Nat} (hS:SetL prog w h a S n) (e:∀ k,S k=S' k) (en:n=n'):SetL prog w h a S' n':=by
 subst en
 rw [<- show S=S' from funext e]
 exact hS
theorem xqj (a:Value) {Q₁:Value->Shared->Prop}
  (h:Q₁ (.ref s.heap.objs.size) { s with heap:=s.heap.push { cls:=.type "set",dict:=none,data:=.set #[] 0 (.fresh 0 0 (!byT w)) } }) :
  codeAny (model prog w) A (.call (.builtin "set.__new__") ⟨[.type "set",a],[]⟩) (wants Q₁ E) s:=by
 refine codeAny_of_tree ?_
 show wpAny _ A.in1 (do checkBuiltinCall "set.__new__" ⟨[.type "set",a],[]⟩; again (.builtin "set.__new__" ⟨[.type "set",a],[]⟩)) _ _ s
 refine wpAny_bind (wpAny_of_eq (F.newCall_set_1 a) (wpAny_pure ⟨plainId_quiet F.plain_set_new _,codeAny_builtin F.entry_set_new ?_⟩))
 rw [Around.under_plainId F.plain_set_new _]
 unfold Builtin.«set.__new__» Builtin.Frozenset.newClass
 have sb:=sub_set_self
 obtain ⟨h0,g0,d0,t0,o0⟩:=s
 dsimp only
 wp_walk
 refine wpAny_askSetting (wpAny_pure ?_)
 dsimp only
 simp only [newObj]
 refine wpAny_bind (wpAny_alloc (wpAny_pure ?_))
 exact wpAny_pure h
end
section
variable {prog:Program} {w:World} {A:Around} {R:Result->Shared->Prop} {I:Addr} {fp wr:List Addr} {G:Array GenState->Array GenState->Prop} {n:Nat} {P:Nat->Value->Prop} {St:Nat->Shared->Prop}
theorem xn1 (W:WalksS prog w A.in1 I fp wr G n P St) (S:Addr) (hSf:S ∉ fp)
  (val:Nat->Str) (hval:∀ i v,P i v->∃ t,v=.str (val i) t) (hb:n + 1 < scanBound) :
  ∀ (k i:Nat) (s:Shared),n - i=k->i<=n->St i s->
   SetL prog w s.heap S (fun k'=>(met val i).any (· == k')) (met val i).length->
   (∀ s',Moved (S :: wr) G s s'->SetL prog w s'.heap S (fun k'=>(met val n).any (· == k')) (met val n).length->R (.ok (.ret .none)) s')->
   codeAny (model prog w) A (.builtin "set.update.loop" ⟨[.ref S,.ref I],[]⟩) R s:=by
 have hSw:S ∉ wr:=fun h=>hSf (W.sub _ h)
 have hsub:∀ b∈wr,b∈S :: wr:=fun b hb=>List.mem_cons_of_mem _ hb
 intro k
 induction k with
 | zero=>
  intro i s hk hi hst hS hR
  have hin:i=n:=by omega
  subst hin
  refine codeAny_builtin F.entry_set_update_loop ?_
  rw [Around.under_plainId F.plain_set_update_loop _]
  show wpAny _ A.in1 (pyNext (.ref I) >>= _) _ _ s
  refine wpAny_bind (W.done s _ _ hst fun s' hm=>?_)
  show wpAny _ A.in1 (ret Value.none) _ _ s'
  exact wpAny_pure (hR s' (hm.mono hsub) (by
   obtain ⟨o,es,ep,t,ho,rest⟩:=hS
   exact ⟨o,es,ep,t,hm.heap S _ hSw ho,rest⟩))
 | succ k ih=>
  intro i s hk hi hst hS hR
  have hlt:i < n:=by omega
  refine codeAny_builtin F.entry_set_update_loop ?_
  rw [Around.under_plainId F.plain_set_update_loop _]
  show wpAny _ A.in1 (pyNext (.ref I) >>= _) _ _ s
  refine wpAny_bind (W.item i s _ _ hlt hst fun v s' hP hst' hm=>?_)
  obtain ⟨t,rfl⟩:=hval i v hP
  have hS':SetL prog w s'.heap S (fun k'=>(met val i).any (· == k')) (met val i).length:=by
   obtain ⟨o,es,ep,tb,ho,rest⟩:=hS
   exact ⟨o,es,ep,tb,hm.heap S _ hSw ho,rest⟩
  show wpAny _ A.in1 (holding [Value.str (val i) t] (setAdd S (.str (val i) t)) >>= _) _ _ s'
  refine wpAny_bind (wpAny_holding ?_)
  unfold setAdd
  refine wpAny_holding ?_
  refine wpAny_bind ((PySem.strKind prog w).pyHash (k:=val i) (PySem.strKind_is _ _ _ _) ?_)
  have hroom:(met val i).length + 1 < scanBound:=by have:=met_len val i; omega
  refine addL (s:={ s' with toks:=s'.toks + 1 }) hS' hroom fun h' hsb hS2=>?_
  have hSi:SetL prog w h' S (fun k'=>(met val (i + 1)).any (· == k')) (met val (i + 1)).length:=
   xnc hS2 (fun k'=>by rw [xc4,xpx]) (by rw [xc4,xpw])
  refine wpAny_pure ⟨plainId_quiet F.plain_set_update_loop _,ih (i + 1) _ (by omega) hlt (W.frame _ s' _ _ hst' (Nat.le_succ _) fun b hb o e=>?_) hSi fun s'' hm'' hS''=>?_⟩
  ·rw [hsb.2 b (fun h:b=S=>hSf (by rw [<- h]; exact hb))]; exact e
  ·refine hR s'' (Moved.trans W.gtrans ((hm.mono hsub).then_heap (Nat.le_succ _) fun b o hb e=>?_) hm'') hS''
   rw [hsb.2 b (fun h:b=S=>hb (by rw [h]; exact List.mem_cons_self))]; exact e
end
section
variable {prog:Program} {w:World} {A:Around} {E:Value->Shared->Prop} {s:Shared}
set_option maxRecDepth 100000 in
set_option maxHeartbeats 3200000 in
theorem call_setL {l:Addr} {items:Array Value} {ns:List Str} {Q:Value->Shared->Prop}
  (hh:A.handled=none) (hl:s.heap.IsList l items) (hi:StrsAre items.toList ns) (hb:items.size + 1 < scanBound)
  (h:∀ (h':Heap) (tk:Nat),SetL prog w h' s.heap.objs.size (fun k'=>(met (fun i=>ns.getD i Str.empty) items.size).any (· == k')) (met (fun i=>ns.getD i Str.empty) items.size).length->
   (∀ b o,b < s.heap.objs.size->s.heap.get? b=some o->h'.get? b=some o)->Q (.ref s.heap.objs.size) { s with heap:=h',toks:=tk }) :
  wpAny (model prog w) A (call (.type "set") [.ref l]) Q E s:=by
 obtain ⟨c,tl,hmro⟩:=F.called_set.mro
 have hmade:=F.called_set.made
 have hsub:=F.called_set.sub
 refine wpAny_call (codeAny_of_tree ?_)
 show wpAny _ _ (callAny (.type "set") _) _ _ _
 refine wpAny_pure ⟨Code.quiet_builtin _ (by walk_at "k"),codeAny_builtin F.entry_type_call ?_⟩
 rw [Around.under_plain (weight_type_call_type "set" [.ref l] []) rfl]
 have h1:=F.called_set.notType
 have h2:=F.called_set.canCreate
 have hct:=F.typeCall_set_1 (.ref l)
 repeat (any_goals (first | assumption | wp_step))
 refine codeAny_mono (xqj (.ref l) (E:=E) (Q₁:=fun obj s₁=>∃ led:Bool,led=!byT w/\obj=.ref s.heap.objs.size/\s₁={ s with heap:=s.heap.push { cls:=.type "set",dict:=none,data:=.set #[] 0 (.fresh 0 0 led) } }) ⟨_,rfl,rfl,rfl⟩) fun r s₁ hr=>?_
 cases r with
 | error e=>exact hr
 | ok fl=>
  cases fl with
  | ret obj=>
   obtain ⟨led,hled,rfl,rfl⟩:=hr
   have hS:(s.heap.push { cls:=.type "set",dict:=none,data:=.set #[] 0 (.fresh 0 0 led) }).get? s.heap.objs.size=some { cls:=.type "set",dict:=none,data:=.set #[] 0 (.fresh 0 0 led) }:=Heap.get?_push_size _ rfl
   have hT:Shared.TypeIs { s with heap:=s.heap.push { cls:=.type "set",dict:=none,data:=.set #[] 0 (.fresh 0 0 led) } } (.ref s.heap.objs.size) "set":=⟨_,hS,rfl⟩
   have hli:=F.called_set.init.lookup
   have hbi:=F.called_set.init.bind (.ref s.heap.objs.size)
   repeat (any_goals (first | assumption | wp_step))
   refine codeAny_mono (codeAny_call_builtin (R:=wants (fun r s₂=>r=.none/\∃ h' tk,s₂={ s with heap:=h',toks:=tk } ∧
     SetL prog w h' s.heap.objs.size (fun k'=>(met (fun i=>ns.getD i Str.empty) items.size).any (· == k')) (met (fun i=>ns.getD i Str.empty) items.size).length ∧
     (∀ b o,b < s.heap.objs.size->s.heap.get? b=some o->h'.get? b=some o)) E) F.called_set.init.plain F.entry_set_init (check_set_init_1 hT ?_)) fun r₂ s₂ hr₂=>?_
   ·obtain ⟨ol,hol,hcl,nl,hdl⟩:=hl
    obtain ⟨ocls,odict,odata,oslots⟩:=ol
    simp only at hcl hdl
    subst hcl; subst hdl
    have hol':(s.heap.push { cls:=.type "set",dict:=none,data:=.set #[] 0 (.fresh 0 0 led) }).get? l=some { cls:=.type "list",dict:=odict,data:=.seq items nl,slots:=oslots }:=zPO _ hol
    have hsls:=F.sub_list_set
    have hslf:=F.sub_list_frozenset
    have hne:(Value.type "list" == Value.type "dict")=false:=by decide
    have hl1:(s.heap.push { cls:=.type "set",dict:=none,data:=.set #[] 0 (.fresh 0 0 led) }).IsList l items:=⟨_,hol',rfl,nl,rfl⟩
    unfold Builtin.«set.__init__» noKeywords Builtin.Frozenset.updateFrom
    generalize hPI:pyIter=PI
    wp_walk
    subst hPI
    refine wpAny_pyIter_list hl1 ?_
    refine wpAny_bind (wpAny_runValue ?_)
    have hlS:l < s.heap.objs.size:=Heap.lt_size hol
    have hh3:A.in1.in1.in1.handled=none:=by simp [hh]
    have hneI:l≠(s.heap.push { cls:=.type "set",dict:=none,data:=.set #[] 0 (.fresh 0 0 led) }).objs.size:=by
     rw [Heap.size_push]; exact Nat.ne_of_lt (Nat.lt_succ_of_lt hlS)
    have hSf:s.heap.objs.size ∉ [(s.heap.push { cls:=.type "set",dict:=none,data:=.set #[] 0 (.fresh 0 0 led) }).objs.size,l]:=by
     rw [Heap.size_push]; simp only [List.mem_cons,List.mem_singleton,List.not_mem_nil,or_false,not_or]
     exact ⟨Nat.ne_of_lt (Nat.lt_succ_self _),Nat.ne_of_gt hlS⟩
    have hval:∀ (i:Nat) (v:Value),items[i]?=some v->∃ t,v=.str ((fun i=>ns.getD i Str.empty) i) t:=fun i v hv=>
     xkz hi i v (by rw [Array.getElem?_toList]; exact hv)
    refine xn1 ((Walks.list hh3 _ l hneI items).toS) s.heap.objs.size
     hSf (fun i=>ns.getD i Str.empty) hval hb (items.size - 0) 0 _ (by omega) (Nat.zero_le _)
     ⟨⟨_,Heap.get?_push_size _ rfl,rfl,rfl⟩,(hl1.push _)⟩ ?hS0 ?hR
    case hS0=>
     have hget:((s.heap.push { cls:=.type "set",dict:=none,data:=.set #[] 0 (.fresh 0 0 led) }).push { cls:=.type "list_iterator",data:=.fields #[.ref l,.int 0 0] }).get? s.heap.objs.size
       = some { cls:=.type "set",dict:=none,data:=.set #[] 0 (.fresh 0 0 led) }:=zPO _ hS
     exact ⟨_,#[],0,_,hget,⟨rfl,rfl,rfl⟩,rfl,(fun e he=>by simp at he),(fun k=>by simp [met]),by decide,rfl,rfl,by
      rw [hled]
      cases byT w
      ·exact .inr rfl
      ·exact .inl rfl,.inl rfl⟩
    case hR=>
     intro s' hm hS'
     obtain ⟨h',g',d',tk',os'⟩:=s'
     have eg:g'=s.gens:=hm.gens
     have ed:d'=s.drawn:=hm.drawn
     have eo:os'=s.os:=hm.os
     subst eg; subst ed; subst eo
     show wpAny _ _ _ _ _ _
     refine wpAny_pure ?_
     show wpAny _ _ (ret Value.none) _ _ _
     refine wpAny_pure ⟨rfl,h',tk',rfl,hS',fun b o hb e=>?_⟩
     have hb1:b≠s.heap.objs.size:=Nat.ne_of_lt hb
     have hb2:b≠(s.heap.push { cls:=.type "set",dict:=none,data:=.set #[] 0 (.fresh 0 0 led) }).objs.size:=by
      rw [Heap.size_push]; exact Nat.ne_of_lt (Nat.lt_succ_of_lt hb)
     exact hm.heap b o (by simp only [List.mem_cons,List.mem_singleton,List.not_mem_nil,or_false,not_or]; exact ⟨hb1,hb2⟩) (zPO _ (zPO _ e))
   ·cases r₂ with
    | error e=>exact hr₂
    | ok fl₂=>
     cases fl₂ with
     | ret r=>
      obtain ⟨rfl,h',tk,rfl,hS',hk'⟩:=hr₂
      repeat (any_goals (first | assumption | wp_step))
      exact h _ _ hS' hk'
     | _=>exact hr₂.elim
  | _=>exact hr.elim
end
end St
end
section
namespace St
open PySem PySem.Spec PyProof.Rows
section
variable {M:Model} {A:Around} {E:Value->Shared->Prop} {s:Shared}
theorem xsk {src:Source} {n:Nat} {Q:Nat->Shared->Prop} (hn:n≠0) (h:∀ i d,i < n->Q i { s with drawn:=d }):wpAny M A (choose src n) Q E s:=fun Γ p _=>
 ⟨hn,h _ _ (Nat.mod_lt _ (Nat.pos_of_ne_zero hn))⟩
theorem xfy {α:Type}:∀ {xs:List α} {i:Nat} {x:α},xs[i]?=some x->(x :: xs.eraseIdx i).Perm xs
 | [],i,x,h=>by simp at h
 | y :: xs,0,x,h=>by
  simp at h
  subst h
  exact List.Perm.refl _
 | y :: xs,i + 1,x,h=>by
  have ih:=xfy (xs:=xs) (i:=i) (x:=x) (by simpa using h)
  rw [List.eraseIdx_cons_succ]
  exact (List.Perm.swap y x _).trans (ih.cons y)
theorem xl2 {α:Type}:∀ (n:Nat) (xs:List α) {s:Shared} {Q:List α->Shared->Prop},xs.length=n->(∀ ys d,ys.Perm xs->Q ys { s with drawn:=d })->wpAny M A (drawOrder n xs) Q E s
 | 0,xs,s,Q,hl,h=>by
  obtain rfl:=List.eq_nil_of_length_eq_zero hl
  unfold drawOrder
  exact wpAny_pure (h [] s.drawn (List.Perm.refl _))
 | n + 1,[],s,Q,hl,h=>by cases hl
 | n + 1,x :: xs,s,Q,hl,h=>by
  unfold drawOrder
  refine wpAny_bind (xsk (by simp) fun i d hi=>?_)
  have hx:(x :: xs)[i]?=some (x :: xs)[i]:=zGA hi
  rw [hx]
  dsimp only
  refine wpAny_bind (xl2 n ((x :: xs).eraseIdx i) (by rw [List.length_eraseIdx_of_lt hi]; simp at hl ⊢; omega) fun ys d' hp=>wpAny_pure ?_)
  exact h _ _ ((hp.cons _).trans (xfy hx))
end
theorem xoq {α:Type} {next:Nat->Nat}:∀ (n k:Nat) (left:List α) (out:Array α),left.length=n->(pickOrder.go next n k left out).toList.Perm (out.toList++left)
 | 0,k,left,out,h=>by
  obtain rfl:=List.eq_nil_of_length_eq_zero h
  unfold pickOrder.go
  rw [List.append_nil]
 | n + 1,k,left,out,h=>by
  unfold pickOrder.go
  have hi:next k % left.length < left.length:=Nat.mod_lt _ (by omega)
  have hx:left[next k % left.length]?=some (left[next k % left.length]'hi):=zGA hi
  rw [hx]
  dsimp only
  refine (xoq n (k + 1) _ _ (by rw [List.length_eraseIdx_of_lt hi]; omega)).trans ?_
  rw [Array.toList_push,List.append_assoc]
  exact (xfy hx).append_left _
theorem xop {α:Type} (next:Nat->Nat) (xs:Array α):(pickOrder next xs).toList.Perm xs.toList:=by
 have:=xoq (next:=next) xs.size 0 xs.toList #[] (by simp)
 simpa [pickOrder] using this
def xec (h:Heap) (a:Addr) (es:Array (Int×Value)) (ep:Nat) (t:SetTable):Prop:=h.get? a=some { cls:=.type "set",dict:=none,data:=.set es ep t,slots:=#[] }/\t.fits es.size=true
abbrev siN (f:Value) (i:Nat) (a:Addr) (n ep:Nat):Obj:={ cls:=.type "set_iterator",data:=.fields #[f,rawInt (i:Nat),.ref a,rawInt ((n:Nat):Int),rawInt ((ep:Nat):Int)] }
section
variable {prog:Program} {w:World} {A:Around} {E:Value->Shared->Prop} {s:Shared} {a:Addr} {es:Array (Int×Value)} {ep:Nat} {t:SetTable}
theorem xvl {Q:Value->Shared->Prop} (hS:xec s.heap a es ep t) (hn:byT w=true\/es.size<=1) (h:Q (.ref s.heap.objs.size) { s with heap:=s.heap.push (siN (rawInt 0) 0 a es.size ep) }):wpAny (model prog w) A (pyIter (.ref a)) Q E s:=by
 obtain ⟨ho,hf⟩:=hS
 have hT:s.TypeIs (.ref a) "set":=⟨_,ho,rfl⟩
 refine wpAny_pyIter_slot hT F.slot_set_iter (wpAny_call_entry F.slot_set_iter hT xe4 ?_ (F.args_set_iter_1 _))
 unfold Builtin.«frozenset.__iter__» Builtin.Frozenset.slot0 slotArgs
 simp only [List.isEmpty_nil,Bool.not_true,Bool.false_eq_true,↓reduceIte,bind_assoc,List.length_nil,bne_self_eq_false]
 unfold Builtin.Frozenset.addrOf Builtin.Frozenset.sizeOf setDrawn
 refine wpAny_bind (wpAny_pure ?_)
 try dsimp only
 refine wpAny_bind (wpAny_pure ?_)
 refine wpAny_bind (wpAny_bind (wpAny_setEntries_of ho rfl hf (wpAny_pure ?_)))
 simp only [bind_assoc]
 refine wpAny_bind (wpAny_setState_of ho rfl hf ?_)
 unfold setsByText
 simp only [bind_assoc]
 refine wpAny_bind (wpAny_askSetting ?_)
 refine wpAny_bind (wpAny_pure ?_)
 refine wpAny_bind (wpAny_pure ?_)
 refine wpAny_ite_split (fun hab=>absurd (show (!byT w && (!t.plain && decide (es.size > 1)))=true from hab) (by
  rcases hn with e | e
  ·rw [e]; simp
  ·simp; intro _ _; omega)) (fun _=>?_)
 refine wpAny_bind (wpAny_pure ?_)
 refine wpAny_bind (wpAny_setEpoch_of ho rfl hf ?_)
 unfold newFields
 refine wpAny_bind (wpAny_newObj_type ?_)
 exact wpAny_pure ⟨_,rfl,"set_iterator",_,⟨_,Heap.get?_push_size _ rfl,rfl⟩,slot_si_next.lookup,h⟩
theorem xu9 {it:Addr} {sl i nx:Nat} {x:Value} {Q:Option Value->Shared->Prop} (hI:s.heap.get? it=some (siN (rawInt (sl:Nat)) i a es.size ep)) (hS:xec s.heap a es ep t)
  (hN:∀ (A':Around) (E':Value->Shared->Prop) (Q':Option (Value×Nat)->Shared->Prop),Q' (some (x,nx)) s->wpAny (model prog w) A' (setNext a sl i ep) Q' E' s)
  (hQ:∀ h',h'.get? it=some (siN (rawInt (nx:Nat)) (i + 1) a es.size ep)->Heap.SameBut it s.heap h'->Q (some x) { s with heap:=h' }):wpAny (model prog w) A (pyNext (.ref it)) Q E s:=by
 obtain ⟨ho,hf⟩:=hS
 have hT:s.TypeIs (.ref it) "set_iterator":=⟨_,hI,rfl⟩
 unfold pyNext
 refine wpAny_bind (wpAny_attempt (wpAny_callSpecial?_slot (name:=Str.ofString "__next__") hT slot_si_next
  (wpAny_call_entry slot_si_next hT xc5 ?_ (xdj _))))
 unfold Builtin.«set_iterator.__next__» slotArgs
 simp only [List.isEmpty_nil,Bool.not_true,Bool.false_eq_true,↓reduceIte,bind_assoc,List.length_nil,bne_self_eq_false]
 refine wpAny_bind (wpAny_pure ?_)
 unfold fieldsOf
 simp only [bind_assoc]
 refine wpAny_bind (wpAny_load hI ?_)
 refine wpAny_bind (wpAny_pure ?_)
 show wpAny _ _ (setEntries a >>= _) _ _ s
 refine wpAny_bind (wpAny_setEntries_of ho rfl hf ?_)
 refine wpAny_ite_split (fun hab=>absurd hab (by simp)) (fun _=>?_)
 show wpAny _ _ (setNext a sl i ep >>= _) _ _ s
 refine wpAny_bind (hN _ _ _ ?_)
 refine wpAny_bind (wpAny_setField_rec hI (by simp) fun h1 e1 b1=>?_)
 refine wpAny_bind (wpAny_setField_rec (s:={ s with heap:=h1 }) e1 (by simp) fun h2 e2 b2=>?_)
 exact wpAny_pure ⟨x,rfl,wpAny_pure (hQ h2 e2 (b1.trans b2))⟩
theorem endF {it:Addr} {sl i:Nat} {Q:Option Value->Shared->Prop} (hh:A.handled=none) (hI:s.heap.get? it=some (siN (rawInt (sl:Nat)) i a es.size ep)) (hS:xec s.heap a es ep t)
  (hN:∀ (A':Around) (E':Value->Shared->Prop) (Q':Option (Value×Nat)->Shared->Prop),Q' none s->wpAny (model prog w) A' (setNext a sl i ep) Q' E' s)
  (hQ:∀ h',Heap.ExtBut it s.heap h'->Q none { s with heap:=h' }):wpAny (model prog w) A (pyNext (.ref it)) Q E s:=by
 obtain ⟨ho,hf⟩:=hS
 have hT:s.TypeIs (.ref it) "set_iterator":=⟨_,hI,rfl⟩
 unfold pyNext
 refine wpAny_bind (wpAny_attempt (wpAny_callSpecial?_slot (name:=Str.ofString "__next__") hT slot_si_next
  (wpAny_call_entry slot_si_next hT xc5 ?_ (xdj _))))
 unfold Builtin.«set_iterator.__next__» slotArgs
 simp only [List.isEmpty_nil,Bool.not_true,Bool.false_eq_true,↓reduceIte,bind_assoc,List.length_nil,bne_self_eq_false]
 refine wpAny_bind (wpAny_pure ?_)
 unfold fieldsOf
 simp only [bind_assoc]
 refine wpAny_bind (wpAny_load hI ?_)
 refine wpAny_bind (wpAny_pure ?_)
 show wpAny _ _ (setEntries a >>= _) _ _ s
 refine wpAny_bind (wpAny_setEntries_of ho rfl hf ?_)
 refine wpAny_ite_split (fun hab=>absurd hab (by simp)) (fun _=>?_)
 show wpAny _ _ (setNext a sl i ep >>= _) _ _ s
 refine wpAny_bind (hN _ _ _ ?_)
 show wpAny _ _ (setField (.ref it) 2 Value.none >>= _) _ _ _
 refine wpAny_bind (wpAny_setField hI rfl (by simp) ?_)
 show wpAny _ _ (newExc (.type "StopIteration") [] >>= _) _ _ _
 refine wpAny_bind ?_
 simp only [newExc,newTuple]
 refine wpAny_bind (wpAny_newObj_type ?_ (by size_fits))
 refine wpAny_bind (m:=firstArgMember _ _) (wpAny_of_eq (a:=Value.none) (by first | rfl | (simp only [firstArgMember]; rfl)) ?_)
 refine wpAny_newObj_type ?_ (by size_fits)
 simp only [raiseNew]
 refine wpAny_bind (wpAny_handled ?_)
 rw [show A.in1.handled=none from hh]
 refine wpAny_bind (wpAny_pure (wpAny_throw ?_))
 refine wpAny_bind (wpAny_isInstance (T:="StopIteration") (b:=true) ⟨_,Heap.get?_push_size _ rfl,rfl⟩ isSubtype_stop ?_)
 exact wpAny_pure (hQ _ (((Heap.SameBut.update ..).extBut.push _).push _))
theorem xm3 (hb:byT w=true) (hS:xec s.heap a es ep t) (i:Nat) (A':Around) (E':Value->Shared->Prop) (Q':Option (Value×Nat)->Shared->Prop)
  (h:Q' (((pickOrder (w.params.setOrder a ep) es)[i]?).map fun e=>(e.2,0)) s):wpAny (model prog w) A' (setNext a 0 i ep) Q' E' s:=by
 obtain ⟨ho,hf⟩:=hS
 unfold setNext setsByText
 refine wpAny_bind (wpAny_setState_of ho rfl hf ?_)
 simp only [bind_assoc]
 refine wpAny_bind (wpAny_askSetting ?_)
 refine wpAny_bind (wpAny_pure ?_)
 refine wpAny_ite_split (fun _=>?_) (fun hab=>absurd hb hab)
 refine wpAny_ite_split (fun hab=>absurd hab (by simp)) (fun _=>?_)
 refine wpAny_bind ?_
 unfold setWalk setsByText
 refine wpAny_bind (wpAny_setState_of ho rfl hf ?_)
 simp only [bind_assoc]
 refine wpAny_bind (wpAny_askSetting ?_)
 refine wpAny_bind (wpAny_pure ?_)
 refine wpAny_ite_split (fun _=>?_) (fun hab=>absurd hb hab)
 refine wpAny_bind (wpAny_askSetting ?_)
 exact wpAny_pure (wpAny_pure h)
theorem xid (hb:byT w=false) (hl:t.led=true) (h1:es.size<=1) (hS:xec s.heap a es ep t) (sl i:Nat) (A':Around) (E':Value->Shared->Prop) (Q':Option (Value×Nat)->Shared->Prop)
  (h:Q' (match es[SetTable.below t.place sl]?,t.place[SetTable.below t.place sl]? with | some (_,x),some j=>some (x,j + 1) | _,_=>none) s):wpAny (model prog w) A' (setNext a sl i ep) Q' E' s:=by
 obtain ⟨ho,hf⟩:=hS
 unfold setNext setsByText
 refine wpAny_bind (wpAny_setState_of ho rfl hf ?_)
 simp only [bind_assoc]
 refine wpAny_bind (wpAny_askSetting ?_)
 refine wpAny_bind (wpAny_pure ?_)
 refine wpAny_ite_split (fun hab=>absurd (show byT w=true from hab) (by rw [hb]; decide)) (fun _=>?_)
 refine wpAny_ite_split (fun hab=>absurd (show (!t.plain && decide (es.size > 1))=true from hab) (by simp; intro _; omega)) (fun _=>?_)
 refine wpAny_bind ?_
 refine wpAny_ite_split (fun hab=>absurd (show (!t.led && !es.isEmpty)=true from hab) (by rw [hl]; simp)) (fun _=>wpAny_pure ?_)
 exact wpAny_pure h
theorem xqk {it:Addr} {o:Obj} {Q:Value->Shared->Prop} (hI:s.heap.get? it=some o) (hc:o.cls=.type "set_iterator") (h:Q (.ref it) s):wpAny (model prog w) A (pyIter (.ref it)) Q E s:=by
 have hT:s.TypeIs (.ref it) "set_iterator":=⟨_,hI,hc⟩
 refine wpAny_pyIter_slot hT xf1 (wpAny_call_entry xf1 hT xio ?_ (xkp _))
 show wpAny _ _ (ret (.ref it)) _ _ s
 exact wpAny_pure ⟨_,rfl,"set_iterator",_,hT,slot_si_next.lookup,h⟩
theorem xbm {h h':Heap} (hS:xec h a es ep t) (k:∀ o,h.get? a=some o->h'.get? a=some o):xec h' a es ep t:=⟨k _ hS.1,hS.2⟩
def ordT (w:World) (a:Addr) (ep:Nat) (es:Array (Int×Value)):List Value:=(pickOrder (w.params.setOrder a ep) es).toList.map fun e=>e.2
theorem xvy (hh:A.handled=none) (hb:byT w=true) (I:Addr) (hI:a≠I) :
  Walks prog w A I [I,a] [I] (ordT w a ep es).length (fun i v=>(ordT w a ep es)[i]?=some v) (fun i h=>h.get? I=some (siN (rawInt 0) i a es.size ep)/\xec h a es ep t) where
 sub:=fun b hb=>by simp at hb; simp [hb]
 frame:=fun i h h' st k=>⟨k _ (by simp) _ st.1,xbm st.2 fun o e=>k _ (by simp) o e⟩
 item:=fun i s Q E hi st hQ=>by
  obtain ⟨v,hv⟩:∃ v,(ordT w a ep es)[i]?=some v:=⟨_,zGA hi⟩
  have hv':=hv
  unfold ordT at hv'
  rw [zGM] at hv'
  obtain ⟨e,he,rfl⟩:=zMS hv'
  have he':(pickOrder (w.params.setOrder a ep) es)[i]?=some e:=by rw [<- Array.getElem?_toList]; exact he
  refine xu9 (sl:=0) (nx:=0) (x:=e.2) st.1 st.2 (fun A' E' Q' h=>xm3 hb st.2 i A' E' Q' (by rw [he']; exact h)) fun h' e1 sb=>?_
  exact hQ _ h' s.toks hv ⟨e1,xbm st.2 fun o eo=>by rw [sb.2 a hI]; exact eo⟩ fun b o hb eo=>by rw [sb.2 b (by simpa using hb)]; exact eo
 done:=fun s Q E st hQ=>by
  have he:(pickOrder (w.params.setOrder a ep) es)[(ordT w a ep es).length]?=none:=by
   rw [<- Array.getElem?_toList]
   unfold ordT
   rw [zLM]
   exact List.getElem?_eq_none_iff.mpr (Nat.le_refl _)
  exact endF (sl:=0) hh st.1 st.2 (fun A' E' Q' h=>xm3 hb st.2 _ A' E' Q' (by rw [he]; exact h)) fun h' eb=>hQ h' s.toks fun b o hb e=>eb b o (by simpa using hb) e
 self:=fun i s Q E st hQ=>xqk st.1 rfl hQ
theorem xkn (p:Nat):SetTable.below #[p] 0=0/\SetTable.below #[p] (p + 1)=1:=by
 constructor <;> simp [SetTable.below,SetTable.below.go]
def slN (p:Nat):Nat->Nat
 | 0=>0
 | _ + 1=>p + 1
theorem xv0 (hh:A.handled=none) (hb:byT w=false) (hl:t.led=true) {h0:Int} {x:Value} {p:Nat} (I:Addr) (hI:a≠I) (hp:t.place=#[p]) :
  Walks prog w A I [I,a] [I] 1 (fun i v=>[x][i]?=some v) (fun i h=>h.get? I=some (siN (rawInt ((slN p i:Nat):Int)) i a 1 ep)/\xec h a #[(h0,x)] ep t) where
 sub:=fun b hb=>by simp at hb; simp [hb]
 frame:=fun i h h' st k=>⟨k _ (by simp) _ st.1,xbm st.2 fun o e=>k _ (by simp) o e⟩
 item:=fun i s Q E hi st hQ=>by
  obtain rfl:i=0:=by omega
  refine xu9 (es:=#[(h0,x)]) (sl:=0) (nx:=p + 1) (x:=x) st.1 st.2 (fun A' E' Q' h=>xid hb hl (Nat.le_refl _) st.2 0 0 A' E' Q' (by rw [hp,(xkn p).1]; exact h)) fun h' e1 sb=>?_
  exact hQ _ h' s.toks rfl ⟨e1,xbm st.2 fun o eo=>by rw [sb.2 a hI]; exact eo⟩ fun b o hb eo=>by rw [sb.2 b (by simpa using hb)]; exact eo
 done:=fun s Q E st hQ=>endF (es:=#[(h0,x)]) (sl:=p + 1) hh st.1 st.2 (fun A' E' Q' h=>xid hb hl (Nat.le_refl _) st.2 (p + 1) 1 A' E' Q' (by rw [hp,(xkn p).2]; exact h)) fun h' eb=>hQ h' s.toks fun b o hb e=>eb b o (by simpa using hb) e
 self:=fun i s Q E st hQ=>xqk st.1 rfl hQ
def plT (ps:List Nat):List Value:=ps.map fun i=>rawInt (i:Nat)
theorem xwv {Q:Value->Shared->Prop} (hS:xec s.heap a es ep t) (hb:byT w=false) (hp:t.plain=false) (h2:1 < es.size) (hz:es.size<=sizeLine)
  (h:∀ ps d,ps.Perm (List.range es.size)->Q (.ref (s.heap.objs.size + 1)) { s with heap:=(s.heap.push { cls:=.type "tuple",data:=.seq (plT ps).toArray }).push (siN (.ref s.heap.objs.size) 0 a es.size ep),drawn:=d }):wpAny (model prog w) A (pyIter (.ref a)) Q E s:=by
 obtain ⟨ho,hf⟩:=hS
 have hT:s.TypeIs (.ref a) "set":=⟨_,ho,rfl⟩
 refine wpAny_pyIter_slot hT F.slot_set_iter (wpAny_call_entry F.slot_set_iter hT xe4 ?_ (F.args_set_iter_1 _))
 unfold Builtin.«frozenset.__iter__» Builtin.Frozenset.slot0 slotArgs
 simp only [List.isEmpty_nil,Bool.not_true,Bool.false_eq_true,↓reduceIte,bind_assoc,List.length_nil,bne_self_eq_false]
 unfold Builtin.Frozenset.addrOf Builtin.Frozenset.sizeOf setDrawn
 refine wpAny_bind (wpAny_pure ?_)
 try dsimp only
 refine wpAny_bind (wpAny_pure ?_)
 refine wpAny_bind (wpAny_bind (wpAny_setEntries_of ho rfl hf (wpAny_pure ?_)))
 simp only [bind_assoc]
 refine wpAny_bind (wpAny_setState_of ho rfl hf ?_)
 unfold setsByText
 simp only [bind_assoc]
 refine wpAny_bind (wpAny_askSetting ?_)
 refine wpAny_bind (wpAny_pure ?_)
 refine wpAny_bind (wpAny_pure ?_)
 refine wpAny_ite_split (fun _=>?_) (fun hab=>absurd (show (!byT w && (!t.plain && decide (es.size > 1)))=true from by rw [hb,hp]; simp; omega) hab)
 refine wpAny_bind (xl2 _ _ (by simp) fun ps d hps=>?_)
 refine wpAny_bind (wpAny_newTuple ?_ (by rw [zLM,hps.length_eq,List.length_range]; exact hz))
 refine wpAny_bind (wpAny_setEpoch_of (zPO _ ho) rfl hf ?_)
 unfold newFields
 refine wpAny_bind (wpAny_newObj_type ?_)
 have e:(s.heap.push { cls:=.type "tuple",data:=.seq (plT ps).toArray }).objs.size=s.heap.objs.size + 1:=Heap.size_push ..
 have h':=h ps d hps
 refine wpAny_pure ⟨_,rfl,"set_iterator",_,⟨_,Heap.get?_push_size _ rfl,rfl⟩,slot_si_next.lookup,?_⟩
 rw [<- e] at h'
 exact h'
theorem xwq {it X:Addr} {i p:Nat} {ps:List Nat} {h0:Int} {x:Value} {Q:Option Value->Shared->Prop} (hI:s.heap.get? it=some (siN (.ref X) i a es.size ep)) (hS:xec s.heap a es ep t)
  (hX:s.heap.get? X=some { cls:=.type "tuple",data:=.seq (plT ps).toArray }) (hp:ps[i]?=some p) (he:es[p]?=some (h0,x))
  (hQ:∀ h',h'.get? it=some (siN (.ref X) (i + 1) a es.size ep)->Heap.SameBut it s.heap h'->Q (some x) { s with heap:=h' }):wpAny (model prog w) A (pyNext (.ref it)) Q E s:=by
 obtain ⟨ho,hf⟩:=hS
 have hT:s.TypeIs (.ref it) "set_iterator":=⟨_,hI,rfl⟩
 unfold pyNext
 refine wpAny_bind (wpAny_attempt (wpAny_callSpecial?_slot (name:=Str.ofString "__next__") hT slot_si_next
  (wpAny_call_entry slot_si_next hT xc5 ?_ (xdj _))))
 unfold Builtin.«set_iterator.__next__» slotArgs
 simp only [List.isEmpty_nil,Bool.not_true,Bool.false_eq_true,↓reduceIte,bind_assoc,List.length_nil,bne_self_eq_false]
 refine wpAny_bind (wpAny_pure ?_)
 unfold fieldsOf
 simp only [bind_assoc]
 refine wpAny_bind (wpAny_load hI ?_)
 refine wpAny_bind (wpAny_pure ?_)
 show wpAny _ _ (setEntries a >>= _) _ _ s
 refine wpAny_bind (wpAny_setEntries_of ho rfl hf ?_)
 refine wpAny_ite_split (fun hab=>absurd hab (by simp)) (fun _=>?_)
 show wpAny _ _ (seqItems? (.ref X) >>= _) _ _ s
 refine wpAny_bind (wpAny_seqItems hX rfl ?_)
 dsimp only
 have hpl:(plT ps).toArray[(i:Int).toNat]?=some (rawInt (p:Nat)):=by
  unfold plT
  rw [List.getElem?_toArray,zGM,show ((i:Int)).toNat=i from rfl,hp]
  rfl
 rw [hpl]
 show wpAny _ _ (setNextDrawn a p ep >>= _) _ _ s
 unfold setNextDrawn
 simp only [bind_assoc]
 refine wpAny_bind (wpAny_setState_of ho rfl hf ?_)
 refine wpAny_bind ?_
 refine wpAny_ite_split (fun hab=>absurd hab (by simp)) (fun _=>?_)
 dsimp only
 rw [he]
 dsimp only
 refine wpAny_pure ?_
 refine wpAny_bind (wpAny_setField_rec hI (by simp) fun h1 e1 b1=>?_)
 exact wpAny_pure ⟨x,rfl,wpAny_pure (hQ h1 e1 b1)⟩
theorem endD {it X:Addr} {i:Nat} {ps:List Nat} {Q:Option Value->Shared->Prop} (hh:A.handled=none) (hI:s.heap.get? it=some (siN (.ref X) i a es.size ep)) (hS:xec s.heap a es ep t)
  (hX:s.heap.get? X=some { cls:=.type "tuple",data:=.seq (plT ps).toArray }) (hp:ps[i]?=none)
  (hQ:∀ h',Heap.ExtBut it s.heap h'->Q none { s with heap:=h' }):wpAny (model prog w) A (pyNext (.ref it)) Q E s:=by
 obtain ⟨ho,hf⟩:=hS
 have hT:s.TypeIs (.ref it) "set_iterator":=⟨_,hI,rfl⟩
 unfold pyNext
 refine wpAny_bind (wpAny_attempt (wpAny_callSpecial?_slot (name:=Str.ofString "__next__") hT slot_si_next
  (wpAny_call_entry slot_si_next hT xc5 ?_ (xdj _))))
 unfold Builtin.«set_iterator.__next__» slotArgs
 simp only [List.isEmpty_nil,Bool.not_true,Bool.false_eq_true,↓reduceIte,bind_assoc,List.length_nil,bne_self_eq_false]
 refine wpAny_bind (wpAny_pure ?_)
 unfold fieldsOf
 simp only [bind_assoc]
 refine wpAny_bind (wpAny_load hI ?_)
 refine wpAny_bind (wpAny_pure ?_)
 show wpAny _ _ (setEntries a >>= _) _ _ s
 refine wpAny_bind (wpAny_setEntries_of ho rfl hf ?_)
 refine wpAny_ite_split (fun hab=>absurd hab (by simp)) (fun _=>?_)
 show wpAny _ _ (seqItems? (.ref X) >>= _) _ _ s
 refine wpAny_bind (wpAny_seqItems hX rfl ?_)
 dsimp only
 have hpl:(plT ps).toArray[(i:Int).toNat]?=none:=by
  unfold plT
  rw [List.getElem?_toArray,zGM,show ((i:Int)).toNat=i from rfl,hp]
  rfl
 rw [hpl]
 show wpAny _ _ (setField (.ref it) 0 (rawInt 0) >>= _) _ _ _
 refine wpAny_bind (wpAny_setField_rec hI (by simp) fun h1 e1 b1=>?_)
 show wpAny _ _ (setField (.ref it) 2 Value.none >>= _) _ _ _
 refine wpAny_bind (wpAny_setField_rec (s:={ s with heap:=h1 }) e1 (by simp) fun h2 e2 b2=>?_)
 show wpAny _ _ (newExc (.type "StopIteration") [] >>= _) _ _ _
 refine wpAny_bind ?_
 simp only [newExc,newTuple]
 refine wpAny_bind (wpAny_newObj_type ?_ (by size_fits))
 refine wpAny_bind (m:=firstArgMember _ _) (wpAny_of_eq (a:=Value.none) (by first | rfl | (simp only [firstArgMember]; rfl)) ?_)
 refine wpAny_newObj_type ?_ (by size_fits)
 simp only [raiseNew]
 refine wpAny_bind (wpAny_handled ?_)
 rw [show A.in1.handled=none from hh]
 refine wpAny_bind (wpAny_pure (wpAny_throw ?_))
 refine wpAny_bind (wpAny_isInstance (T:="StopIteration") (b:=true) ⟨_,Heap.get?_push_size _ rfl,rfl⟩ isSubtype_stop ?_)
 exact wpAny_pure (hQ _ ((((b1.trans b2).extBut.push _).push _)))
theorem xvz (hh:A.handled=none) (I X:Addr) (hI:a≠I) (hX:X≠I) {ps:List Nat} {ord:List Value} (hl:ord.length=ps.length) (hps:∀ (i p:Nat),ps[i]?=some p->∃ h0 x,es[p]?=some (h0,x)/\ord[i]?=some x) :
  Walks prog w A I [I,X,a] [I] ord.length (fun i v=>ord[i]?=some v) (fun i h=>h.get? I=some (siN (.ref X) i a es.size ep)/\h.get? X=some { cls:=.type "tuple",data:=.seq (plT ps).toArray }/\xec h a es ep t) where
 sub:=fun b hb=>by simp at hb; simp [hb]
 frame:=fun i h h' st k=>⟨k _ (by simp) _ st.1,k _ (by simp) _ st.2.1,xbm st.2.2 fun o e=>k _ (by simp) o e⟩
 item:=fun i s Q E hi st hQ=>by
  obtain ⟨p,hp⟩:∃ p,ps[i]?=some p:=⟨_,zGA (by omega)⟩
  obtain ⟨h0,x,e1,e2⟩:=hps i p hp
  refine xwq st.1 st.2.2 st.2.1 hp e1 fun h' f1 sb=>?_
  exact hQ _ h' s.toks e2 ⟨f1,by rw [sb.2 X hX]; exact st.2.1,xbm st.2.2 fun o eo=>by rw [sb.2 a hI]; exact eo⟩ fun b o hb eo=>by rw [sb.2 b (by simpa using hb)]; exact eo
 done:=fun s Q E st hQ=>endD hh st.1 st.2.2 st.2.1 (List.getElem?_eq_none_iff.mpr (by omega)) fun h' eb=>hQ h' s.toks fun b o hb e=>eb b o (by simpa using hb) e
 self:=fun i s Q E st hQ=>xqk st.1 rfl hQ
theorem xv1 (hh:A.handled=none) (hb:byT w=false) (hl:t.led=true) (I:Addr) :
  Walks prog w A I [I,a] [I] 0 (fun i v=>([]:List Value)[i]?=some v) (fun i h=>h.get? I=some (siN (rawInt 0) 0 a 0 ep)/\xec h a #[] ep t) where
 sub:=fun b hb=>by simp at hb; simp [hb]
 frame:=fun i h h' st k=>⟨k _ (by simp) _ st.1,xbm st.2 fun o e=>k _ (by simp) o e⟩
 item:=fun i s Q E hi=>absurd hi (Nat.not_lt_zero _)
 done:=fun s Q E st hQ=>endF (es:=#[]) (sl:=0) hh st.1 st.2 (fun A' E' Q' h=>xid hb hl (Nat.zero_le _) st.2 0 0 A' E' Q' h) fun h' eb=>hQ h' s.toks fun b o hb e=>eb b o (by simpa using hb) e
 self:=fun i s Q E st hQ=>xqk st.1 rfl hQ
def ordD (es:Array (Int×Value)) (p:Nat):Value:=((es[p]?).map fun e=>e.2).getD .none
theorem xqs:(List.range es.size).map (ordD es)=es.toList.map fun e=>e.2:=by
 refine List.ext_getElem? fun i=>?_
 rw [zGM,zGM]
 by_cases c:i < es.size
 ·rw [List.getElem?_range c,Array.getElem?_toList]
  show some (ordD es i)=_
  unfold ordD
  rw [Array.getElem?_eq_getElem c]
  rfl
 ·rw [List.getElem?_eq_none_iff.mpr (by simp; omega),List.getElem?_eq_none_iff.mpr (by simp; omega)]
  rfl
def Wk (prog:Program) (w:World) (h:Heap) (I:Addr) (fp:List Addr) (ord:List Value):Prop:=∃ St:Nat->Heap->Prop,(∀ A:Around,A.handled=none->Walks prog w A I fp [I] ord.length (fun i v=>ord[i]?=some v) St)/\St 0 h
theorem xwu {Q:Value->Shared->Prop} (hS:xec s.heap a es ep t) (hl:byT w=true\/t.led=true) (hp:es.size=0\/t.plain=false) (hz:es.size<=sizeLine)
  (h:∀ h1 d I fp ord,ord.Perm (es.toList.map fun e=>e.2)->Wk prog w h1 I fp ord->(∀ b o,s.heap.get? b=some o->h1.get? b=some o)->(∀ b∈fp,b=a\/s.heap.objs.size<=b)->s.heap.objs.size<=I->Q (.ref I) { s with heap:=h1,drawn:=d }):wpAny (model prog w) A (pyIter (.ref a)) Q E s:=by
 have haL:a < s.heap.objs.size:=Heap.lt_size hS.1
 have hne:a≠s.heap.objs.size:=Nat.ne_of_lt haL
 cases hb:byT w with
 | true=>
  refine xvl hS (.inl hb) ?_
  have:=h (s.heap.push (siN (rawInt 0) 0 a es.size ep)) s.drawn s.heap.objs.size [s.heap.objs.size,a] (ordT w a ep es) ((xop _ _).map _) ⟨_,fun A hh=>xvy (t:=t) hh hb _ hne,Heap.get?_push_size _ rfl,xbm hS fun o e=>zPO _ e⟩ (fun b o e=>zPO _ e) (fun b hb=>by
   rcases zMC hb with rfl | hb
   ·exact .inr (Nat.le_refl _)
   ·rw [zMO hb]; exact .inl rfl) (Nat.le_refl _)
  exact this
 | false=>
  have hled:t.led=true:=by
   rcases hl with e | e
   ·rw [hb] at e; cases e
   ·exact e
  by_cases h1:es.size<=1
  ·refine xvl hS (.inr h1) ?_
   have fin:∀ (ord:List Value),ord.Perm (es.toList.map fun e=>e.2)->Wk prog w (s.heap.push (siN (rawInt 0) 0 a es.size ep)) s.heap.objs.size [s.heap.objs.size,a] ord->Q (.ref s.heap.objs.size) { s with heap:=s.heap.push (siN (rawInt 0) 0 a es.size ep) }:=fun ord hpo hw=>
    h (s.heap.push (siN (rawInt 0) 0 a es.size ep)) s.drawn s.heap.objs.size [s.heap.objs.size,a] ord hpo hw (fun b o e=>zPO _ e) (fun b hb=>by
     rcases zMC hb with rfl | hb
     ·exact .inr (Nat.le_refl _)
     ·rw [zMO hb]; exact .inl rfl) (Nat.le_refl _)
   have hS':=xbm (h':=s.heap.push (siN (rawInt 0) 0 a es.size ep)) hS fun o e=>zPO _ e
   have hI':(s.heap.push (siN (rawInt 0) 0 a es.size ep)).get? s.heap.objs.size=some (siN (rawInt 0) 0 a es.size ep):=Heap.get?_push_size _ rfl
   by_cases h0:es.size=0
   ·have e0:es=#[]:=Array.eq_empty_of_size_eq_zero h0
    subst e0
    exact fin [] (List.Perm.refl _) ⟨_,fun A hh=>xv1 (t:=t) hh hb hled _,hI',hS'⟩
   ·obtain ⟨e0,rfl⟩:∃ e0,es=#[e0]:=by
     obtain ⟨l⟩:=es
     match l,h1,h0 with
     | [],_,h0=>exact absurd rfl h0
     | [e],_,_=>exact ⟨e,rfl⟩
     | _ :: _ :: _,h1,_=>simp at h1
    obtain ⟨p,hpc⟩:∃ p,t.place=#[p]:=by
     have hf:=hS.2
     simp only [SetTable.fits,Bool.and_eq_true,beq_iff_eq] at hf
     have hf1:=hf.1
     generalize t.place=pl at hf1
     obtain ⟨l⟩:=pl
     match l,hf1 with
     | [p],_=>exact ⟨p,rfl⟩
     | [],h=>simp at h
     | _ :: _ :: _,h=>simp at h
    obtain ⟨h0',x⟩:=e0
    exact fin [x] (List.Perm.refl _) ⟨_,fun A hh=>xv0 (t:=t) (h0:=h0') (x:=x) hh hb hled _ hne hpc,hI',hS'⟩
  ·have hpl:t.plain=false:=by
    rcases hp with e | e
    ·omega
    ·exact e
   refine xwv hS hb hpl (by omega) hz fun ps d hps=>?_
   have hsz:(s.heap.push { cls:=.type "tuple",data:=.seq (plT ps).toArray }).objs.size=s.heap.objs.size + 1:=Heap.size_push ..
   refine h _ d (s.heap.objs.size + 1) [s.heap.objs.size + 1,s.heap.objs.size,a] (ps.map (ordD es)) ?_ ⟨_,fun A hh=>xvz (es:=es) (ep:=ep) (t:=t) (ps:=ps) hh _ s.heap.objs.size ?_ ?_ (by rw [zLM]) ?_,?_,?_,?_⟩ ?_ ?_ (Nat.le_succ _)
   ·have:=hps.map (ordD es)
    rw [xqs] at this
    exact this
   ·exact Nat.ne_of_lt (Nat.lt_succ_of_lt haL)
   ·exact Nat.ne_of_lt (Nat.lt_succ_self _)
   ·intro i p hip
    have hpm:p∈List.range es.size:=hps.mem_iff.mp (zMG hip)
    have hpl':p < es.size:=List.mem_range.mp hpm
    refine ⟨es[p].1,es[p].2,Array.getElem?_eq_getElem hpl',?_⟩
    rw [zGM,hip]
    show some (ordD es p)=_
    unfold ordD
    rw [Array.getElem?_eq_getElem hpl']
    rfl
   ·rw [<- hsz]
    exact Heap.get?_push_size _ rfl
   ·exact zPO _ (Heap.get?_push_size _ rfl)
   ·exact xbm hS fun o e=>zPO _ (zPO _ e)
   ·exact fun b o e=>zPO _ (zPO _ e)
   ·intro b hb
    rcases zMC hb with rfl | hb
    ·exact .inr (Nat.le_succ _)
    ·rcases zMC hb with rfl | hb
     ·exact .inr (Nat.le_refl _)
     ·rw [zMO hb]; exact .inl rfl
end
end St
end
section
namespace St
open PySem PySem.Spec PyProof.Rows
section
variable {prog:Program} {w:World} {A:Around} {E:Value->Shared->Prop} {s:Shared} {a:Addr} {es:Array (Int×Value)} {ep:Nat} {t:SetTable}
theorem xnu {ord:List Value} {acc:Array Value} (h:ItemsOf (fun i v=>ord[i]?=some v) acc ord.length):acc.toList=ord:=by
 refine List.ext_getElem? fun i=>?_
 by_cases c:i < acc.size
 ·have e:acc[i]?=some acc[i]:=Array.getElem?_eq_getElem c
  rw [Array.getElem?_toList,e,h.2 i _ e]
 ·rw [List.getElem?_eq_none_iff.mpr (by simp; omega),List.getElem?_eq_none_iff.mpr (by rw [<- h.1]; omega)]
theorem xw1 {Q:Bool->Shared->Prop} (hT:s.TypeIs (.ref a) "set") (h:Q false s):wpAny (model prog w) A (Builtin.List.listLengthHint (.ref a)) Q E s:=xw2 hT h
theorem extL {R:Result->Shared->Prop} (hh:A.handled=none) (hS:xec s.heap a es ep t) (hl:byT w=true\/t.led=true) (hp:es.size=0\/t.plain=false) (hz:es.size<=sizeLine) (S:Addr) (hSr:S≠a) (res:Value) (c₀:Nat) (hL:s.heap.get? S=some { cls:=.type "list",data:=.seq #[] c₀ })
  (hR:∀ h' tk d acc c ord,ord.Perm (es.toList.map fun e=>e.2)->acc.toList=ord->(∀ b o,b≠S->s.heap.get? b=some o->h'.get? b=some o)->h'.get? S=some { cls:=.type "list",dict:=none,data:=.seq acc c,slots:=#[] }->R (.ok (.ret res)) { s with heap:=h',toks:=tk,drawn:=d }) :
  wpAny (model prog w) A.in1 (Builtin.List.listExtendWith (.ref S) (.ref a) res)
   (fun fin s'=>match fin with | .done f=>R (.ok f) s' | .again c'=>c'.quiet=true/\codeAny (model prog w) A c' R s') (fun e s'=>R (.error e) s') s:=by
 have hT:s.TypeIs (.ref a) "set":=⟨_,hS.1,rfl⟩
 have hSl:S < s.heap.objs.size:=Heap.lt_size hL
 unfold Builtin.List.listExtendWith
 refine wpAny_bind (wpAny_typeOf (T:="set") hT ?_)
 have f1:Builtin.List.listSameRef (.ref S) (.ref a)=false:=by simp [Builtin.List.listSameRef,hSr]
 have f2:(Value.type "set" == Value.type "list")=false:=by decide
 have f3:(Value.type "set" == Value.type "tuple")=false:=by decide
 simp only [f1,f2,f3,Bool.or_false,Bool.false_eq_true,if_false]
 refine wpAny_bind (xwu hS hl hp hz fun h1 d I fp ord hpo hwk hk1 hfp hI=>?_)
 obtain ⟨St,hW,st⟩:=hwk
 have hn:ord.length<=sizeLine:=by rw [hpo.length_eq,zLM,Array.length_toList]; exact hz
 have hSf:S ∉ fp:=fun hm=>by
  rcases hfp S hm with e | e
  ·exact hSr e
  ·exact absurd hSl (Nat.not_lt.mpr e)
 have W:=hW A.in1 hh
 have key:∀ (h:Heap) (c₁ tk:Nat),St 0 h->(∀ b o,b≠S->s.heap.get? b=some o->h.get? b=some o)->
   h.get? S=some { cls:=.type "list",data:=.seq #[] c₁ }->codeAny (model prog w) A (.builtin "list.extend.loop" ⟨[.ref S,.ref I,res],[]⟩) R { s with heap:=h,toks:=tk,drawn:=d }:=by
  intro h c₁ tk hst hk hS₁
  refine codeAny_extend_loopS W.toS hn S hSf res ord.length 0 _ #[] c₁ rfl (Nat.zero_le _) hst hS₁ (ItemsOf.nil _) fun s' acc' c' hm hS' hacc=>?_
  rw [Moved.eq_with hm]
  refine hR s'.heap s'.toks d acc' c' ord hpo (xnu hacc) (fun b o hb e=>hm.heap b o (fun hmem=>?_) (hk b o hb e)) hS'
  rcases zMC hmem with e' | hmem
  ·exact hb e'
  ·exact absurd (Heap.lt_size e) (by rw [zMO hmem]; exact Nat.not_lt.mpr hI)
 have hS₁:=hk1 _ _ hL
 refine wpAny_bind (wpAny_holding (xw1 (s:={ s with heap:=h1,drawn:=d }) ⟨_,hk1 _ _ hS.1,rfl⟩ ?_))
 refine wpAny_ite_split (fun _=>?_) (fun _=>wpAny_pure ⟨plainId_quiet PySem.F.plain_extend_loop _,key _ c₀ _ st (fun b o _ e=>hk1 _ _ e) hS₁⟩)
 refine wpAny_bind (wpAny_rule ?_)
 refine wpAny_bind ?_
 show wpAny _ _ (updateSeq S (·.push .none) >>= fun _=>updateSeq S (·.pop)) _ _ _
 refine wpAny_bind (wpAny_updateSeq hS₁ rfl ?_)
 have hS₂:=Heap.get?_update_self (Obj.mapSeq (·.push Value.none)) hS₁ rfl
 refine wpAny_updateSeq (hz:=by seq_fits) hS₂ rfl ?_
 have hS₃:=Heap.get?_update_self (Obj.mapSeq (·.pop)) hS₂ rfl
 refine wpAny_pure ⟨plainId_quiet PySem.F.plain_extend_loop _,key _ _ _ ?_ (fun b o hb e=>?_) hS₃⟩
 ·refine W.frame 0 _ _ st fun b hb o e=>?_
  have hbS:b≠S:=fun h=>hSf (h ▸ hb)
  exact (Heap.get?_update_other _ _ (Ne.symm hbS)).trans ((Heap.get?_update_other _ _ (Ne.symm hbS)).trans e)
 ·exact (Heap.get?_update_other _ _ (Ne.symm hb)).trans ((Heap.get?_update_other _ _ (Ne.symm hb)).trans (hk1 _ _ e))
theorem xri {R:List Value->Shared->Prop} (hh:A.handled=none) (hS:xec s.heap a es ep t) (hl:byT w=true\/t.led=true) (hp:es.size=0\/t.plain=false) (hz:es.size<=sizeLine)
  (h:∀ h' tk d ord,ord.Perm (es.toList.map fun e=>e.2)->(∀ b o,s.heap.get? b=some o->h'.get? b=some o)->R ord { s with heap:=h',toks:=tk,drawn:=d }):wpAny (model prog w) A (collect (.ref a)) R E s:=by
 have haL:a < s.heap.objs.size:=Heap.lt_size hS.1
 unfold collect
 refine wpAny_bind (wpAny_runValue (codeAny_builtin entry_proto_collect' ?_))
 rw [Around.under_plainId PySem.F.plain_proto_collect _]
 show wpAny _ A.in1 (newList [] >>= fun l=>again (.builtin "list.__iadd__" ⟨[l,.ref a],[]⟩)) _ _ s
 refine wpAny_bind (wpAny_newObj_type ?_)
 refine wpAny_pure ⟨plainId_quiet PySem.F.plain_list_iadd _,codeAny_builtin entry_list_iadd' ?_⟩
 rw [Around.under_plainId PySem.F.plain_list_iadd _]
 have hL:(s.heap.push { cls:=.type "list",data:=.seq ([]:List Value).toArray }).get? s.heap.objs.size=some { cls:=.type "list",data:=.seq #[] }:=Heap.get?_push_size _ rfl
 show wpAny _ A.in1 (Builtin.List.listExtendWith (.ref s.heap.objs.size) (.ref a) (.ref s.heap.objs.size)) _ _ _
 have key:=extL (prog:=prog) (A:=A) (s:={ s with heap:=s.heap.push { cls:=.type "list",data:=.seq ([]:List Value).toArray } })
  (R:=fun (q:Result) (s':Shared)=>∃ (h':Heap) (tk:Nat) (d:Drawn) (acc:Array Value) (c:Nat),q=.ok (.ret (.ref s.heap.objs.size))/\s'={ s with heap:=h',toks:=tk,drawn:=d }/\acc.toList.Perm (es.toList.map fun e=>e.2) ∧
   (∀ b o,s.heap.get? b=some o->h'.get? b=some o)/\h'.get? s.heap.objs.size=some { cls:=.type "list",dict:=none,data:=.seq acc c,slots:=#[] })
  hh (xbm hS fun o e=>zPO _ e) hl hp hz s.heap.objs.size (Nat.ne_of_gt haL) (.ref s.heap.objs.size) 0 hL
  (fun h' tk d acc c ord hpo e hk hS'=>⟨h',tk,d,acc,c,rfl,rfl,by rw [e]; exact hpo,fun b o eb=>hk b o (Nat.ne_of_lt (Heap.lt_size eb)) (zPO _ eb),hS'⟩)
 refine wpAny_mono key (fun fin s' x=>?_) fun e s' x=>?_
 ·cases fin with
  | done f=>
   obtain ⟨h',tk,d,acc,c,e,rfl,hpo,hk,hS'⟩:=x
   cases e
   show wpAny _ A (load s.heap.objs.size >>= _) _ _ _
   refine wpAny_bind (wpAny_load hS' ?_)
   exact wpAny_pure (h h' tk d acc.toList hpo hk)
  | again c₁=>
   refine ⟨x.1,codeAny_mono x.2 fun q s₂ y=>?_⟩
   obtain ⟨h',tk,d,acc,c,rfl,rfl,hpo,hk,hS'⟩:=y
   show wpAny _ A (load s.heap.objs.size >>= _) _ _ _
   refine wpAny_bind (wpAny_load hS' ?_)
   exact wpAny_pure (h h' tk d acc.toList hpo hk)
 ·obtain ⟨_,_,_,_,_,e',_⟩:=x
  cases e'
theorem xn8:∀ {vs:List Value},(∀ v∈vs,∃ x t,v=.str x t)->∃ ns,StrsAre vs ns
 | [],_=>⟨[],.nil⟩
 | v :: vs,h=>by
  obtain ⟨x,t,rfl⟩:=h v (by simp)
  obtain ⟨ns,hn⟩:=xn8 (vs:=vs) fun u hu=>h u (by simp [hu])
  exact ⟨x :: ns,.cons x t hn⟩
theorem sortedL {Q:Value->Shared->Prop} (hh:A.handled=none) (hS:xec s.heap a es ep t) (hl:byT w=true\/t.led=true) (hp:es.size=0\/t.plain=false) (h64:es.size < 64) (hst:∀ e∈es.toList,∃ x t,e.2=.str x t)
    (h:∀ (h':Heap) (tk:Nat) (d:Drawn) (D:Addr) (c:Nat) (out:Array Value) (ms:List Str),(∀ b o,s.heap.get? b=some o->h'.get? b=some o)->a < D->h'.get? D=some (seqObj "list" out c)->StrsAre out.toList ms->ms.Perm (es.toList.map fun e=>strOf e.2)->sortedS ms=true->Q (.ref D) { s with heap:=h',toks:=tk,drawn:=d }) :
    wpAny (model prog w) A (call (.builtin "sorted") [.ref a]) Q E s:=by
  refine Calls.call_function_entry kind_sorted plain_sorted entry_sorted (args_sorted1 _) ?_
  unfold Builtin.«sorted»
  refine wpAny_bind (m:=checkCount "sorted" 1 1 _) (wpAny_pure ?_)
  refine wpAny_bind (xri (A:=A.in1) hh hS hl hp (Nat.le_trans (Nat.le_of_lt h64) (by decide)) fun h' tk d ord hpo hk=>?_)
  have ha:a < h'.objs.size:=Heap.lt_size (hk _ _ hS.1)
  obtain ⟨ns,hns⟩:=xn8 (vs:=ord) fun v hv=>by
    obtain ⟨e,he,rfl⟩:=zMP (hpo.mem_iff.mp hv)
    exact hst e he
  have hlen:ord.length < 64:=by rw [hpo.length_eq,zLM,Array.length_toList]; exact h64
  refine wpAny_bind (wpAny_newList ?_ (by have : (64 : Nat) <= sizeLine := by decide
                                          omega))
  have hoL:(h'.push (seqObj "list" ord.toArray 0)).get? h'.objs.size=some (seqObj "list" ord.toArray 0):=Heap.get?_push_size _ rfl
  refine wpAny_bind (wpAny_holding (wpAny_call_entry slot_list_sort ⟨_,hoL,rfl⟩ entry_list_sort (list_sort_treeK strKind_oneLt hoL hns.keysOf (fun v₁ v₂ rest e=>keyKind_strs (ss:=ns) (by rw [<- e]; exact hns)) hlen fun st' a1 a2=>⟨_,rfl,?_⟩) (args_list_sort _)))
  obtain ⟨ms,m1,m2,m3⟩:=sorted_out_str hns a1 a2
  obtain ⟨e,he⟩:=sortedHeap_at (out:=(arrOf st').map (·.2)) hoL
  refine wpAny_pure ⟨_,rfl,h _ tk d h'.objs.size e _ ms (fun b o eb=>?_) ha he m1 ?_ m3⟩
  · have hb:=hk b o eb
    have hlt:=Heap.lt_size hb
    rw [sortedHeap_old (Nat.ne_of_lt hlt) (by rw [Heap.size_push]; exact Nat.lt_succ_of_lt hlt)]
    exact zPO _ hb
  · refine m2.trans ?_
    rw [<- hns.strs]
    have:=hpo.map strOf
    rw [List.map_map] at this
    exact this
end
end St
end
section
namespace St
open PySem PySem.Spec PyProof.Rows
theorem met_mem (val:Nat->Str) (x:Str):∀ n,x∈met val n ↔ ∃ i,i < n/\val i=x
 | 0=>⟨(fun h=>nomatch h),(fun ⟨i,h,_⟩=>absurd h (Nat.not_lt_zero _))⟩
 | n + 1=>by
  rw [xc4]
  have ih:=met_mem val x n
  have hd:x∈step_dedup (met val n) (val n) ↔ x∈met val n\/x=val n:=by
   have:=xpx (met val n) (val n) x
   have h1:∀ l:List Str,l.any (· == x)=true ↔ x∈l:=fun l=>by simp
   rw [<- h1,this,Bool.or_eq_true,h1,decide_eq_true_eq]
  rw [hd,ih]
  constructor
  ·rintro (⟨i,h1,h2⟩ | rfl)
   ·exact ⟨i,by omega,h2⟩
   ·exact ⟨n,by omega,rfl⟩
  ·rintro ⟨i,h1,h2⟩
   by_cases c:i=n
   ·subst c; exact .inr h2.symm
   ·exact .inl ⟨i,by omega,h2⟩
theorem met_nd (val:Nat->Str):∀ n,(met val n).Nodup
 | 0=>List.nodup_nil
 | n + 1=>by
  rw [xc4]
  have ih:=met_nd val n
  unfold step_dedup
  split
  ·exact ih
  ·rename_i h
   refine List.nodup_append.mpr ⟨ih,by simp,fun a ha b hb e=>h ?_⟩
   rw [List.mem_singleton] at hb
   subst hb e
   simpa using ha
theorem perm_of:∀ {as bs:List Str},as.Nodup->(∀ x∈as,x∈bs)->bs.length<=as.length->bs.Perm as
 | [],bs,_,_,hl=>by
  obtain rfl:bs=[]:=List.eq_nil_of_length_eq_zero (by simpa using hl)
  exact List.Perm.refl _
 | a :: as,bs,nd,h,hl=>by
  rw [List.nodup_cons] at nd
  obtain ⟨p,q,rfl⟩:=List.append_of_mem (h a (by simp))
  have ih:=perm_of (as:=as) (bs:=p++q) nd.2 (fun x hx=>by
   have hm:=h x (by simp [hx])
   rcases zMA hm with h1 | h1
   ·exact List.mem_append.mpr (.inl h1)
   ·rcases zMC h1 with h2 | h2
    ·rw [h2] at hx; exact absurd hx nd.1
    ·exact List.mem_append.mpr (.inr h2)) (by simp only [zLA,List.length_cons] at hl ⊢; omega)
  exact List.perm_middle.trans (ih.cons a)
theorem nd_le:∀ {as bs:List Str},as.Nodup->(∀ x∈as,x∈bs)->as.length<=bs.length
 | [],_,_,_=>Nat.zero_le _
 | a :: as,bs,nd,h=>by
  rw [List.nodup_cons] at nd
  obtain ⟨p,q,rfl⟩:=List.append_of_mem (h a (by simp))
  have ih:=nd_le (as:=as) (bs:=p++q) nd.2 fun x hx=>by
   have hm:=h x (by simp [hx])
   rcases zMA hm with h1 | h1
   ·exact List.mem_append.mpr (.inl h1)
   ·rcases zMC h1 with h2 | h2
    ·rw [h2] at hx; exact absurd hx nd.1
    ·exact List.mem_append.mpr (.inr h2)
  simp only [zLA,List.length_cons] at ih ⊢; omega
theorem val_mem {ns:List Str} {x:Str}:(∃ i,i < ns.length/\ns.getD i Str.empty=x) ↔ x∈ns:=by
 constructor
 ·rintro ⟨i,h,rfl⟩
  simp [List.getD,zGA h]
 ·intro h
  obtain ⟨i,hi,e⟩:=zMI h
  exact ⟨i,hi,by simp [List.getD,zGA hi,e]⟩
end St
namespace L2
open PySem PySem.Spec PyProof.Rows
def xqc (te:TE):TE:=fun σ H Q=>te σ H fun x H1=>∃ p,∃ ns:List Str,x=.ref p/\H1 p=some (.lst (ns.map V.str))/\ns.length<=4000/\(∃ B:List Str,B.length < 64/\∀ x∈ns,x∈B)/\∀ (l:Addr) (ms:List Str),H1 l=none->(∀ x,x∈ms ↔ x∈ns)->ms.Nodup->sortedS ms=true->Q (.ref l) (upd H1 l (.lst (ms.map V.str)))
theorem xgo:∀ {us:List Value} {ms:List Str},StrsAre us ms->Vals (ms.map V.str) us
 | _,_,.nil=>.nil
 | _,_,.cons x t r=>.cons ⟨t,rfl⟩ (xgo r)
theorem xng {X:Cx} {e:Expr} {te:TE} {p1 p2 q1 q2:Pos} (hc:X.calm=true) (hg1:Gl X "sorted") (hm1:X.mg "sorted"=none) (hg2:Gl X "set") (hm2:X.mg "set"=none) (he:PE X e te)
  (hs2:starEach [e] X.env=[(false,eval e X.env)]:=by rfl)
  (hs1:starEach [Expr.Call (.Name "set" p2) [e] [] q2] X.env=[(false,eval (.Call (.Name "set" p2) [e] [] q2) X.env)]:=by rfl) :
  PE X (.Call (.Name "sorted" p1) [.Call (.Name "set" p2) [e] [] q2] [] q1) (xqc te):=by
 intro pins s σ H Q I h
 refine wpAny_Call_Name_kw (xdu I hg1 hm1 boot_sorted ?_ (by decide) (by decide))
 refine PyProof.Rows.callWith_builtin1 ?_ hs1 rfl
 rw [hs1]
 refine Calls.spliced_cons ?_
 refine wpAny_Call_Name_kw (xdu I hg2 hm2 PyProof.Rows.boot_set ?_ (by decide) (by decide))
 refine PyProof.Rows.callWith_type1 (thn ((pc he pN hs2) q2 pins s σ H (fun vs H1=>match vs with
  | [x]=>∃ p,∃ ns:List Str,x=.ref p/\H1 p=some (.lst (ns.map V.str))/\ns.length<=4000/\(∃ B:List Str,B.length < 64/\∀ x∈ns,x∈B)/\∀ (l:Addr) (ms:List Str),H1 l=none->(∀ x,x∈ms ↔ x∈ns)->ms.Nodup->sortedS ms=true->Q (.ref l) (upd H1 l (.lst (ms.map V.str)))
  | _=>False) I h) fun us s1 ⟨vs,H1,I1,r1,q⟩=>?_) hs2 rfl
 match vs,r1,q with
 | [x],r1,q=>
  obtain ⟨p,ns,rfl,hp,h64,⟨B,hB,hnB⟩,q⟩:=q
  obtain ⟨u,rfl,ru⟩:=xf6 r1
  cases ru
  obtain ⟨its,rv,pl,hz⟩:=I1.list (SqL.of (K:=X.K) hp)
  have hlen:ns.length=its.length:=by have:=rv.length; rw [zLM] at this; exact this
  refine St.call_setL (ns:=ns) (I.ok.hd hc) pl.isList (by rw [List.toList_toArray]; exact xge rv) (by rw [List.size_toArray,<- hlen]; have:scanBound=4096:=rfl; omega) fun h2 tk hS hk=>Calls.spliced_nil ?_
  have e9:its.toArray.size=ns.length:=by rw [List.size_toArray,hlen]
  rw [e9] at hS
  have hml:=St.met_len (fun i=>ns.getD i Str.empty) ns.length
  have hmd:=St.met_nd (fun i=>ns.getD i Str.empty) ns.length
  have hmm:∀ x,x∈St.met (fun i=>ns.getD i Str.empty) ns.length ↔ x∈ns:=fun x=>(St.met_mem _ x _).trans St.val_mem
  generalize St.met (fun i=>ns.getD i Str.empty) ns.length=mt at hS hml hmd hmm
  have hm64:mt.length < 64:=Nat.lt_of_le_of_lt (St.nd_le hmd fun x hx=>hnB x ((hmm x).mp hx)) hB
  obtain ⟨o,es,ep,t,ho,hex,hd,hel,hmem,_,hf,hsz,hled,hpl⟩:=hS
  obtain ⟨oc,od,odt,osl⟩:=o
  obtain ⟨rfl,rfl,rfl⟩:=hex
  cases hd
  have his:∀ k v,(PySem.strKind X.prog X.w).is k v=true->∃ t,v=.str k t:=fun k v hk1=>by
   rw [(PySem.strKind X.prog X.w).strs k k 0 v (PySem.strKind_is _ _ _ _)] at hk1
   cases v <;> simp [Value.isStr] at hk1
   subst hk1
   exact ⟨_,rfl⟩
  have hstr:∀ e∈es.toList,∃ x t,e.2=.str x t:=fun e he=>by
   obtain ⟨⟨k,hk1,_⟩,_⟩:=hel e he
   exact ⟨k,his k _ hk1⟩
  have hkeys:∀ x,x∈mt ↔ x∈es.toList.map fun e=>PyProof.Rows.strOf e.2:=fun x=>by
   have h1:mt.any (· == x)=true ↔ x∈mt:=by simp
   rw [<- h1,hmem x,List.mem_map]
   constructor
   ·rintro ⟨e,he,hk1⟩
    obtain ⟨t',et⟩:=his _ _ hk1
    exact ⟨e,he,by rw [et]; rfl⟩
   ·rintro ⟨e,he,rfl⟩
    obtain ⟨y,t',et⟩:=hstr e he
    exact ⟨e,he,by rw [et]; exact PySem.strKind_is _ _ _ _⟩
  have hperm:=St.perm_of hmd (fun x hx=>(hkeys x).mp hx) (by rw [zLM,Array.length_toList,hsz]; exact Nat.le_refl _)
  refine St.sortedL (I.ok.hd hc) ⟨ho,hf⟩ hled (by rw [hsz]; exact hpl) (by omega) hstr fun h3 tk3 d D c out ms k3 hD he' hms hpm hso=>?_
  have hpm2:=hpm.trans hperm
  have I2:Inv X pins σ (upd H1 D (.lst (ms.map V.str))) { s1 with heap:=h3,toks:=tk3 }:=I1.laid (fun b u eb=>k3 b u (hk b u (Heap.lt_size eb) eb)) (Nat.le_of_lt hD) ⟨?_,out.toList,c,xgo hms,by rw [Array.toArray_toList]; exact he'⟩
  ·refine ⟨.ref D,upd H1 D (.lst (ms.map V.str)),?_,rfl,q D ms (I1.hok.fresh (Nat.le_of_lt hD)) (fun x=>(hpm2.mem_iff).trans (hmm x)) (hpm2.nodup_iff.mpr hmd) hso⟩
   exact ⟨I2.ok,I2.os,I2.bare,I2.base,I2.loc,I2.cell,I2.free,I2.freeC,I2.pin,I2.hok,I2.len⟩
  ·rw [zLM,hpm2.length_eq]
   have:(64:Nat)<=sizeLine:=by decide
   omega
end L2
end
section
namespace M
open PySem L2
abbrev Res:=Except Nat Str
abbrev RKt:=En->D->Res->Prop
def nk (k:Str):Res->Option Nat
 | .ok k'=>if k'=k then none else some 4
 | .error c=>some c
def fin (o:Option Nat) (k:Str):Res:=match o with
 | some c=>.error c
 | none=>.ok k
def xkt (env:En) (d:D) (r:Res):Prop:=
 (∃ i:Int,d=tNum i/\0<=i/\i < 10 ^ 18/\r=if i < 4294967296 then .ok (S "num") else .error 4) ∨
 ∃ x:Str,d=tBox x/\((∃ k,env x=some (.str k)/\r=.ok k)\/(env x=none/\x.length<=100/\r=.error 2))
def OpKt (R:RKt):RKt:=fun env d r=>∃ s a b ra,d=tOpD s a b/\R env a ra/\((∃ c,nk (S "num") ra=some c/\r=.error c)\/(nk (S "num") ra=none/\∃ rb,R env b rb/\r=fin (nk (S "num") rb) (S "num")))
def IfKt (R:RKt):RKt:=fun env d r=>∃ a b c ra,d=tIfD a b c/\R env a ra/\((∃ e,nk (S "num") ra=some e/\r=.error e)\/(nk (S "num") ra=none/\∃ rb,R env b rb/\((∃ e,rb=.error e/\r=.error e)\/∃ k rc,rb=.ok k/\R env c rc/\r=fin (nk k rc) k)))
def xf9 (ks:List Kn) (x so:Str):Option Nat:=match kAt ks x with
 | none=>some 2
 | some kn=>if kn.sort=so then none else some 4
def ksR (ks:List Kn) (so:Str):Res->Res
 | .error c=>.error c
 | .ok k=>match kAt ks k with
  | none=>.error 4
  | some kn=>if kn.sort=so then .ok k else .error 4
def xhj (kn:Kn) (f:Str):Res:=match xca kn f with
 | some k=>.ok k
 | none=>.error 2
def AllN (R:D->Res->Prop):List D->List (Str×Str)->Option Nat->Prop
 | [],[],o=>o=none
 | e :: es,p :: ps,o=>∃ re,R e re/\((∃ c,nk p.2 re=some c/\o=some c)\/(nk p.2 re=none/\AllN R es ps o))
 | _,_,_=>False
def xtt (ks:List Kn) (R:RKt):RKt:=fun env d r=>∃ x es,d=tRec x es/\((∃ c,xf9 ks x (S "rec")=some c/\x.length<=100/\r=.error c)\/(xf9 ks x (S "rec")=none/\∃ kn,kAt ks x=some kn ∧
 ((es.length≠kn.parts.length/\r=.error 3)\/(es.length=kn.parts.length/\∃ o,AllN (R env) es kn.parts o/\r=fin o x))))
def xtv (ks:List Kn) (R:RKt):RKt:=fun env d r=>∃ a f ra,d=tGet a f/\R env a ra/\((∃ c,ksR ks (S "rec") ra=.error c/\r=.error c)\/∃ k kn,ksR ks (S "rec") ra=.ok k/\kAt ks k=some kn/\r=xhj kn f/\(xca kn f=none->f.length<=100))
def xts (ks:List Kn) (R:RKt):RKt:=fun env d r=>∃ x t a,d=tTag x t a/\((∃ c,xf9 ks x (S "alt")=some c/\x.length<=100/\r=.error c)\/(xf9 ks x (S "alt")=none/\∃ kn,kAt ks x=some kn ∧
 ((xca kn t=none/\t.length<=100/\r=.error 2)\/∃ k1 ra,xca kn t=some k1/\R env a ra/\r=fin (nk k1 ra) x)))
abbrev Arm3:=Str×Str×D
def xf7 (kn:Kn) (rs:List Arm3):Option Nat:=
 if ¬ (∀ r∈rs,r.1∈kn.parts.map (·.1)) then some 2 else if ¬ (rs.map (·.1)).Nodup then some 1 else if rs.length < kn.parts.length then some 5 else none
def ArmR (kn:Kn) (R:RKt) (env:En) (r:Arm3) (q:Res):Prop:=(env r.2.1≠none/\r.2.1.length<=100/\q=.error 1)\/(env r.2.1=none/\((xca kn r.1=none/\r.1.length<=100/\q=.error 2)\/∃ k2,xca kn r.1=some k2/\R (env.put r.2.1 (.str k2)) r.2.2 q))
def xp9 (A:Arm3->Res->Prop) (k:Str):List Arm3->Option Nat->Prop
 | [],o=>o=none
 | r :: rs,o=>∃ q,A r q/\((∃ c,nk k q=some c/\o=some c)\/(nk k q=none/\xp9 A k rs o))
def xp8 (ks:List Kn) (R:RKt):RKt:=fun env d r=>∃ a rs ra,d=xgq a rs/\rs.length<=1000/\R env a ra/\((∃ c,ksR ks (S "alt") ra=.error c/\r=.error c)\/∃ k1 kn,ksR ks (S "alt") ra=.ok k1/\kAt ks k1=some kn ∧
 ((∃ c,xf7 kn rs=some c/\(∀ z∈rs,z.1.length<=100)/\r=.error c)\/(xf7 kn rs=none/\∃ r0 rest q0,rs=r0 :: rest/\ArmR kn R env r0 q0/\((∃ c,q0=.error c/\r=.error c)\/∃ k o,q0=.ok k/\xp9 (ArmR kn R env) k rest o/\r=fin o k))))
def xp6 (ks:List Kn) (R:RKt):RKt:=fun env d r=>OpKt R env d r\/xtt ks R env d r\/xtv ks R env d r\/xts ks R env d r\/xp8 ks R env d r\/IfKt R env d r
def Kt (ks:List Kn):Nat->RKt
 | 0=>xkt
 | n + 1=>fun env d r=>xkt env d r\/xp6 ks (Kt ks n) env d r
def KLn (ks:List Kn):Prop:=∀ k∈ks,k.name.length<=100/\∀ p∈k.parts,p.1.length<=100/\p.2.length<=100
def EnvL (env:En):Prop:=∀ x k,env x=some (.str k)->k.length<=100
def ResL (r:Res):Prop:=∀ k,r=.ok k->k.length<=100
theorem EnvL.put {env:En} {y k:Str} (h:EnvL env) (hk:k.length<=100):EnvL (env.put y (.str k)):=fun x k' e=>by
 unfold En.put at e
 split at e
 ·cases e; exact hk
 ·exact h x k' e
theorem xjr:(S "num").length<=100:=by walk_at "k"
theorem xg9 {o:Option Nat} {k:Str} (h:k.length<=100):ResL (fin o k):=fun k' e=>by
 cases o with
 | none=>cases e; exact h
 | some c=>cases e
theorem xe8 {ks:List Kn} (h:KLn ks) {x:Str} {kn:Kn} (hk:kAt ks x=some kn):x.length<=100/\∀ p∈kn.parts,p.1.length<=100/\p.2.length<=100:=by
 have hm:=zMF hk
 have hx:kn.name=x:=by
  have:=List.find?_some hk
  exact of_decide_eq_true this
 rw [<- hx]
 exact h kn hm
theorem xel {ks:List Kn} (h:KLn ks) {x f k2:Str} {kn:Kn} (hk:kAt ks x=some kn) (hp:xca kn f=some k2):k2.length<=100:=by
 unfold xca at hp
 obtain ⟨p,hp',rfl⟩:=zMS hp
 exact ((xe8 h hk).2 p (zMF hp')).2
theorem xmn {ks:List Kn} (hk:KLn ks):∀ (n:Nat) (env:En) (d:D) (r:Res),EnvL env->Kt ks n env d r->ResL r
 | 0,env,d,r,he,h=>by
  rcases h with ⟨i,_,_,_,rfl⟩ | ⟨x,_,⟨k,e,rfl⟩ | ⟨_,_,rfl⟩⟩
  ·intro k e; split at e
   ·cases e; exact xjr
   ·cases e
  ·intro k' e'; cases e'; exact he _ _ e
  ·intro k e; cases e
 | n + 1,env,d,r,he,h=>by
  rcases h with h | ⟨s,a,b,ra,_,_,⟨c,_,rfl⟩ | ⟨_,rb,_,rfl⟩⟩ | ⟨x,es,_,⟨c,_,_,rfl⟩ | ⟨_,kn,hkn,⟨_,rfl⟩ | ⟨_,o,_,rfl⟩⟩⟩ | ⟨a,f,ra,_,hra,⟨c,_,rfl⟩ | ⟨k,kn,_,hkn,rfl,_⟩⟩ | ⟨x,t,a,_,⟨c,_,_,rfl⟩ | ⟨_,kn,hkn,⟨_,_,rfl⟩ | ⟨k1,ra,_,_,rfl⟩⟩⟩ | ⟨a,rs,ra,_,_,hra,⟨c,_,rfl⟩ | ⟨k1,kn,_,hkn,⟨c,_,_,rfl⟩ | ⟨_,r0,rest,q0,_,ha,⟨c,_,rfl⟩ | ⟨k,o,rfl,_,rfl⟩⟩⟩⟩ | ⟨a,b,c,ra,_,_,⟨e,_,rfl⟩ | ⟨_,rb,hrb,⟨e,_,rfl⟩ | ⟨k,rc,rfl,_,rfl⟩⟩⟩
  ·exact xmn hk 0 env d r he h
  ·intro k e; cases e
  ·exact xg9 xjr
  ·intro k e; cases e
  ·intro k e; cases e
  ·exact xg9 (xe8 hk hkn).1
  ·intro k e; cases e
  ·intro k' e
   unfold xhj at e
   split at e
   ·rename_i hp; cases e; exact xel hk hkn hp
   ·cases e
  ·intro k e; cases e
  ·intro k e; cases e
  ·exact xg9 (xe8 hk hkn).1
  ·intro k e; cases e
  ·intro k e; cases e
  ·intro k e; cases e
  ·refine xg9 ?_
   rcases ha with ⟨_,_,e⟩ | ⟨_,⟨_,_,e⟩ | ⟨k2,hp,hq⟩⟩
   ·cases e
   ·cases e
   ·exact xmn hk n _ _ _ (he.put (xel hk hkn hp)) hq k rfl
  ·intro k e; cases e
  ·intro k e; cases e
  ·exact xg9 (xmn hk n _ _ _ he hrb k rfl)
theorem xif {k:Str}:nk k (.ok k)=none:=if_pos rfl
theorem xwp {k k':Str} (h:k'≠k):nk k (.ok k')=some 4:=if_neg h
theorem xh6 {kn:Kn} (h:kn.rc=true):kn.sort=S "rec":=by unfold Kn.sort; rw [if_pos h]
theorem xgg {kn:Kn} (h:kn.rc=false):kn.sort=S "alt":=by unfold Kn.sort; rw [if_neg (by rw [h]; decide)]
theorem xfe {ks:List Kn} {x so:Str} {kn:Kn} (h:kAt ks x=some kn) (hs:kn.sort=so):xf9 ks x so=none:=by unfold xf9; rw [h]; simp only; rw [if_pos hs]
theorem xma {ks:List Kn} {x so:Str} {kn:Kn} (h:kAt ks x=some kn) (hs:kn.sort≠so):xf9 ks x so=some 4:=by unfold xf9; rw [h]; simp only; rw [if_neg hs]
theorem xhs {ks:List Kn} {x so:Str} (h:kAt ks x=none):xf9 ks x so=some 2:=by unfold xf9; rw [h]
theorem xmo {ks:List Kn} {x so:Str} {kn:Kn} (h:kAt ks x=some kn) (hs:kn.sort=so):ksR ks so (.ok x)=.ok x:=by unfold ksR; simp only; rw [h]; simp only; rw [if_pos hs]
theorem xve {ks:List Kn} {x so:Str} {kn:Kn} (h:kAt ks x=some kn) (hs:kn.sort≠so):ksR ks so (.ok x)=.error 4:=by unfold ksR; simp only; rw [h]; simp only; rw [if_neg hs]
theorem xq8 {ks:List Kn} {x so:Str} (h:kAt ks x=none):ksR ks so (.ok x)=.error 4:=by unfold ksR; simp only; rw [h]
theorem xqb {kn:Kn} {rs:List Arm3} (h1:∀ r∈rs,r.1∈kn.parts.map (·.1)) (h2:(rs.map (·.1)).Nodup) (h3:rs.length=kn.parts.length):xf7 kn rs=none:=by
 unfold xf7
 rw [if_neg (fun z=>z h1),if_neg (fun z=>z h2),if_neg (by omega)]
theorem xs3 {kn:Kn} {f k2:Str} (h:xca kn f=some k2):f∈kn.parts.map (·.1):=by
 unfold xca at h
 obtain ⟨p,hp,_⟩:=zMS h
 have h2:=List.find?_some hp
 rw [<- of_decide_eq_true h2]
 exact List.mem_map_of_mem (zMF hp)
theorem xem {kn:Kn} {f k2:Str} (h:xca kn f=some k2):xhj kn f=.ok k2:=by unfold xhj; rw [h]
theorem fin_ok {k k2:Str}:fin (nk k (.ok k)) k2=.ok k2:=by rw [xif]; rfl
end M
end
section
namespace M
open PySem L2
theorem Name.l6 {x:Str} (h:Name x):x.length<=6:=by
 have hnl:=h.le
 rw [Array.length_toList] at hnl
 exact hnl
theorem KWf.kln {ks:List Kn} (wf:KWf ks):KLn ks:=fun k hk=>⟨Nat.le_trans (wf.nm k hk).l6 (by decide),fun p hp=>⟨Nat.le_trans (wf.pnm k hk p hp).l6 (by decide),by
 obtain ⟨i,hi,e⟩:=zMI hk
 rcases wf.ref i k (by rw [<- e]; exact zGA hi) p hp with e' | ⟨j,k',_,hj,e'⟩
 ·rw [e']; decide +kernel
 ·rw [<- e']; exact Nat.le_trans (wf.nm k' (zMG hj)).l6 (by decide)⟩⟩
end M
end
section
namespace M
open PySem L2
def Gone (N:List Str) (env':En) (k:Str) (r:Res):Prop:=(r=.ok k/\∀ x∈N,env' x≠none)\/(r=.error 2/\∃ x∈N,env' x=none)
def Sub (env' env:En):Prop:=∀ z,env' z=none\/env' z=env z
theorem Sub.put {env' env:En} (h:Sub env' env) (y:Str) (d:D):Sub (env'.put y d) (env.put y d):=fun z=>by
 unfold En.put
 by_cases c:z=y
 ·rw [if_pos c,if_pos c]; exact .inr rfl
 ·rw [if_neg c,if_neg c]; exact h z
theorem xmg {k:Str} {c:Nat}:nk k (.error c)=some c:=rfl
theorem xm5 {R:D->Res->Prop} {f:D->List Str} {env':En}:∀ {es:List D} {ps:List (Str×Str)},All2 (fun e (p:Str×Str)=>∃ r,R e r/\Gone (f e) env' p.2 r) es ps->∃ o,AllN R es ps o/\((o=none/\∀ x∈es.flatMap f,env' x≠none)\/(o=some 2/\∃ x∈es.flatMap f,env' x=none))
 | _,_,.nil=>⟨none,rfl,.inl ⟨rfl,fun _ h=>nomatch h⟩⟩
 | _,_,.cons (a:=e) (b:=p) ⟨r,h1,h2⟩ t=>by
  rcases h2 with ⟨rfl,h2⟩ | ⟨rfl,x,hx,e0⟩
  ·obtain ⟨o,g1,g2⟩:=xm5 t
   refine ⟨o,⟨_,h1,.inr ⟨xif,g1⟩⟩,?_⟩
   rcases g2 with ⟨rfl,g2⟩ | ⟨rfl,x,hx,e0⟩
   ·refine .inl ⟨rfl,fun x hx=>?_⟩
    rw [List.flatMap_cons] at hx
    rcases zMA hx with hx | hx
    ·exact h2 x hx
    ·exact g2 x hx
   ·exact .inr ⟨rfl,x,by rw [List.flatMap_cons]; simp [hx],e0⟩
  ·exact ⟨some 2,⟨_,h1,.inl ⟨2,xmg,rfl⟩⟩,.inr ⟨rfl,x,by rw [List.flatMap_cons]; simp [hx],e0⟩⟩
theorem xko {A:Arm3->Res->Prop} {f:Arm3->List Str} {env':En} {k:Str}:∀ {rs:List Arm3},(∀ r∈rs,∃ q,A r q/\Gone (f r) env' k q)->∃ o,xp9 A k rs o/\((o=none/\∀ x∈rs.flatMap f,env' x≠none)\/(o=some 2/\∃ x∈rs.flatMap f,env' x=none))
 | [],_=>⟨none,rfl,.inl ⟨rfl,fun _ h=>nomatch h⟩⟩
 | r :: rs,h=>by
  obtain ⟨q,h1,h2⟩:=h r (by simp)
  rcases h2 with ⟨rfl,h2⟩ | ⟨rfl,x,hx,e0⟩
  ·obtain ⟨o,g1,g2⟩:=xko (rs:=rs) fun r' hr=>h r' (by simp [hr])
   refine ⟨o,⟨_,h1,.inr ⟨xif,g1⟩⟩,?_⟩
   rcases g2 with ⟨rfl,g2⟩ | ⟨rfl,x,hx,e0⟩
   ·refine .inl ⟨rfl,fun x hx=>?_⟩
    rw [List.flatMap_cons] at hx
    rcases zMA hx with hx | hx
    ·exact h2 x hx
    ·exact g2 x hx
   ·exact .inr ⟨rfl,x,by rw [List.flatMap_cons]; simp [hx],e0⟩
  ·exact ⟨some 2,⟨_,h1,.inl ⟨2,xmg,rfl⟩⟩,.inr ⟨rfl,x,by rw [List.flatMap_cons]; simp [hx],e0⟩⟩
theorem xlp {ks:List Kn} (hP:∀ k∈ks,k.parts.length<=100):∀ (n:Nat) (env env':En) (d:D) (x:Str),Kd True ks n env d x->Sub env' env->(∀ z∈nd n d,env' z=none->z.length<=100)->∃ r,Kt ks n env' d r/\Gone (nd n d) env' x r
 | n,env,env',d,x,h,hs,hl=>by
  have leaf:xku env d x->∃ r,xkt env' d r/\Gone (nd n d) env' x r:=by
   rintro (⟨i,hi,rfl,rfl⟩ | ⟨y,hy,rfl⟩)
   ·exact ⟨.ok (S "num"),.inl ⟨i,rfl,hi.1,by have:=hi.2; omega,by rw [if_pos hi.2]⟩,.inl ⟨rfl,fun z hz=>by rw [xmj] at hz; cases hz⟩⟩
   ·rw [xjw] at hl ⊢
    cases he:env' y with
    | none=>exact ⟨.error 2,.inr ⟨y,rfl,.inr ⟨he,hl y (by simp) he,rfl⟩⟩,.inr ⟨rfl,y,by simp,he⟩⟩
    | some v=>
     have hv:env' y=some (.str x):=by
      rcases hs y with e | e
      ·rw [e] at he; cases he
      ·rw [e]; exact hy
     exact ⟨.ok x,.inr ⟨y,rfl,.inl ⟨x,hv,rfl⟩⟩,.inl ⟨rfl,fun z hz=>by rw [zMO hz,hv]; exact nofun⟩⟩
  cases n with
  | zero=>exact leaf h
  | succ n=>
   have ih:=fun env env' d x=>xlp hP n env env' d x
   rcases h with h | ⟨s,a,b,h1,h2,rfl,rfl⟩ | ⟨es,kn,h1,h2,h3,rfl⟩ | ⟨a,k1,f,kn,h1,h2,h3,h4,rfl⟩ | ⟨t,a,kn,k1,h1,h2,h3,h4,rfl⟩ | ⟨_,a,rs,k1,kn,h1,h2,h3,h4,h5,h6,h7,rfl⟩ | ⟨a,b,c,h1,h2,h3,rfl⟩
   ·obtain ⟨r,g1,g2⟩:=leaf h
    exact ⟨r,.inl g1,g2⟩
   ·rw [xq3] at hl ⊢
    obtain ⟨ra,a1,a2⟩:=ih _ _ _ _ h1 hs fun z hz=>hl z (by simp [hz])
    obtain ⟨rb,b1,b2⟩:=ih _ _ _ _ h2 hs fun z hz=>hl z (by simp [hz])
    rcases a2 with ⟨rfl,a2⟩ | ⟨rfl,y,hy,e⟩
    ·rcases b2 with ⟨rfl,b2⟩ | ⟨rfl,y,hy,e⟩
     ·refine ⟨_,.inr (.inl ⟨s,a,b,_,rfl,a1,.inr ⟨xif,_,b1,fin_ok.symm⟩⟩),.inl ⟨rfl,fun z hz=>?_⟩⟩
      rcases zMA hz with hz | hz
      ·exact a2 z hz
      ·exact b2 z hz
     ·exact ⟨_,.inr (.inl ⟨s,a,b,_,rfl,a1,.inr ⟨xif,_,b1,rfl⟩⟩),.inr ⟨rfl,y,by simp [hy],e⟩⟩
    ·exact ⟨_,.inr (.inl ⟨s,a,b,_,rfl,a1,.inl ⟨2,xmg,rfl⟩⟩),.inr ⟨rfl,y,by simp [hy],e⟩⟩
   ·rw [xmi] at hl ⊢
    have hall:All2 (fun e (p:Str×Str)=>∃ r,Kt ks n env' e r/\Gone (nd n e) env' p.2 r) es kn.parts:=xej h3 fun e he p hp=>ih _ _ _ _ hp hs fun z hz=>hl z (List.mem_flatMap.mpr ⟨e,he,hz⟩)
    obtain ⟨o,g1,g2⟩:=xm5 hall
    rcases g2 with ⟨rfl,g2⟩ | ⟨rfl,g2⟩
    ·exact ⟨_,.inr (.inr (.inl ⟨x,es,rfl,.inr ⟨xfe h1 (xh6 h2),kn,h1,.inr ⟨h3.length,none,g1,rfl⟩⟩⟩)),.inl ⟨rfl,g2⟩⟩
    ·exact ⟨_,.inr (.inr (.inl ⟨x,es,rfl,.inr ⟨xfe h1 (xh6 h2),kn,h1,.inr ⟨h3.length,some 2,g1,rfl⟩⟩⟩)),.inr ⟨rfl,g2⟩⟩
   ·rw [xmk] at hl ⊢
    obtain ⟨ra,a1,a2⟩:=ih _ _ _ _ h1 hs hl
    rcases a2 with ⟨rfl,a2⟩ | ⟨rfl,a2⟩
    ·exact ⟨_,.inr (.inr (.inr (.inl ⟨a,f,_,rfl,a1,.inr ⟨k1,kn,xmo h2 (xh6 h3),h2,(xem h4).symm,fun e=>by rw [h4] at e; cases e⟩⟩))),.inl ⟨rfl,a2⟩⟩
    ·exact ⟨_,.inr (.inr (.inr (.inl ⟨a,f,_,rfl,a1,.inl ⟨2,rfl,rfl⟩⟩))),.inr ⟨rfl,a2⟩⟩
   ·rw [xmh] at hl ⊢
    obtain ⟨ra,a1,a2⟩:=ih _ _ _ _ h4 hs hl
    rcases a2 with ⟨rfl,a2⟩ | ⟨rfl,a2⟩
    ·exact ⟨_,.inr (.inr (.inr (.inr (.inl ⟨x,t,a,rfl,.inr ⟨xfe h1 (xgg h2),kn,h1,.inr ⟨k1,_,h3,a1,fin_ok.symm⟩⟩⟩)))),.inl ⟨rfl,a2⟩⟩
    ·exact ⟨_,.inr (.inr (.inr (.inr (.inl ⟨x,t,a,rfl,.inr ⟨xfe h1 (xgg h2),kn,h1,.inr ⟨k1,_,h3,a1,rfl⟩⟩⟩)))),.inr ⟨rfl,a2⟩⟩
   ·rw [xig] at hl ⊢
    have hll:rs.length<=1000:=by
     have:=hP kn (zMF h2)
     omega
    obtain ⟨ra,a1,a2⟩:=ih _ _ _ _ h1 hs fun z hz=>hl z (by simp [hz])
    rcases a2 with ⟨rfl,a2⟩ | ⟨rfl,y,hy,e⟩
    ·have arm:∀ r∈rs,∃ q,ArmR kn (Kt ks n) env' r q/\Gone ((nd n r.2.2).filter fun z=>!decide (V.str z=V.str r.2.1)) env' x q:=fun r hr=>by
      obtain ⟨g1,k2,g2,g3⟩:=h7 r hr
      have g1':env' r.2.1=none:=by
       rcases hs r.2.1 with e | e
       ·exact e
       ·rw [e]; exact g1
      obtain ⟨q,c1,c2⟩:=ih _ _ _ _ g3 (hs.put r.2.1 (.str k2)) fun z hz e=>by
       unfold En.put at e
       by_cases c:z=r.2.1
       ·rw [if_pos c] at e; cases e
       ·rw [if_neg c] at e
        exact hl z (List.mem_append.mpr (.inr (arm_mem.mpr ⟨r,hr,hz,c⟩))) e
      refine ⟨q,.inr ⟨g1',.inr ⟨k2,g2,c1⟩⟩,?_⟩
      rcases c2 with ⟨rfl,c2⟩ | ⟨rfl,y,hy,e⟩
      ·refine .inl ⟨rfl,fun z hz=>?_⟩
       obtain ⟨hz1,hz2⟩:=List.mem_filter.mp hz
       have hne:z≠r.2.1:=fun e=>by rw [e] at hz2; simp at hz2
       have:=c2 z hz1
       unfold En.put at this
       rw [if_neg hne] at this
       exact this
      ·unfold En.put at e
       by_cases c:y=r.2.1
       ·rw [if_pos c] at e; cases e
       ·rw [if_neg c] at e
        exact .inr ⟨rfl,y,List.mem_filter.mpr ⟨hy,by simpa using c⟩,e⟩
     cases rs with
     | nil=>exact absurd rfl h4
     | cons r0 rest=>
      have tg:xf7 kn (r0 :: rest)=none:=xqb (fun r hr=>by
       obtain ⟨_,k2,g2,_⟩:=h7 r hr
       exact xs3 g2) h6 h5
      obtain ⟨q0,c1,c2⟩:=arm r0 (by simp)
      rcases c2 with ⟨rfl,c2⟩ | ⟨rfl,y,hy,e⟩
      ·obtain ⟨o,g1,g2⟩:=xko (rs:=rest) fun r hr=>arm r (by simp [hr])
       have node:∀ o,xp9 (ArmR kn (Kt ks n) env') x rest o->Kt ks (n + 1) env' (xgq a (r0 :: rest)) (fin o x):=fun o g=>.inr (.inr (.inr (.inr (.inr (.inl ⟨a,r0 :: rest,_,rfl,hll,a1,.inr ⟨k1,kn,xmo h2 (xgg h3),h2,.inr ⟨tg,r0,rest,_,rfl,c1,.inr ⟨x,o,rfl,g,rfl⟩⟩⟩⟩)))))
       rcases g2 with ⟨rfl,g2⟩ | ⟨rfl,y,hy,e⟩
       ·refine ⟨_,node _ g1,.inl ⟨rfl,fun z hz=>?_⟩⟩
        rcases zMA hz with hz | hz
        ·exact a2 z hz
        ·rw [List.flatMap_cons] at hz
         rcases zMA hz with hz | hz
         ·exact c2 z hz
         ·exact g2 z hz
       ·exact ⟨_,node _ g1,.inr ⟨rfl,y,by rw [List.flatMap_cons]; exact List.mem_append.mpr (.inr (List.mem_append.mpr (.inr hy))),e⟩⟩
      ·exact ⟨_,.inr (.inr (.inr (.inr (.inr (.inl ⟨a,r0 :: rest,_,rfl,hll,a1,.inr ⟨k1,kn,xmo h2 (xgg h3),h2,.inr ⟨tg,r0,rest,_,rfl,c1,.inl ⟨2,rfl,rfl⟩⟩⟩⟩))))),.inr ⟨rfl,y,by rw [List.flatMap_cons]; exact List.mem_append.mpr (.inr (List.mem_append.mpr (.inl hy))),e⟩⟩
    ·exact ⟨_,.inr (.inr (.inr (.inr (.inr (.inl ⟨a,rs,_,rfl,hll,a1,.inl ⟨2,rfl,rfl⟩⟩))))),.inr ⟨rfl,y,by simp [hy],e⟩⟩
   ·rw [xq4] at hl ⊢
    obtain ⟨ra,a1,a2⟩:=ih _ _ _ _ h1 hs fun z hz=>hl z (by simp [hz])
    obtain ⟨rb,b1,b2⟩:=ih _ _ _ _ h2 hs fun z hz=>hl z (by simp [hz])
    obtain ⟨rc,c1,c2⟩:=ih _ _ _ _ h3 hs fun z hz=>hl z (by simp [hz])
    rcases a2 with ⟨rfl,a2⟩ | ⟨rfl,y,hy,e⟩
    ·rcases b2 with ⟨rfl,b2⟩ | ⟨rfl,y,hy,e⟩
     ·rcases c2 with ⟨rfl,c2⟩ | ⟨rfl,y,hy,e⟩
      ·refine ⟨_,.inr (.inr (.inr (.inr (.inr (.inr ⟨a,b,c,_,rfl,a1,.inr ⟨xif,_,b1,.inr ⟨x,_,rfl,c1,fin_ok.symm⟩⟩⟩))))),.inl ⟨rfl,fun z hz=>?_⟩⟩
       rcases zMA hz with hz | hz
       ·exact a2 z hz
       ·rcases zMA hz with hz | hz
        ·exact b2 z hz
        ·exact c2 z hz
      ·exact ⟨_,.inr (.inr (.inr (.inr (.inr (.inr ⟨a,b,c,_,rfl,a1,.inr ⟨xif,_,b1,.inr ⟨x,_,rfl,c1,rfl⟩⟩⟩))))),.inr ⟨rfl,y,by simp [hy],e⟩⟩
     ·exact ⟨_,.inr (.inr (.inr (.inr (.inr (.inr ⟨a,b,c,_,rfl,a1,.inr ⟨xif,_,b1,.inl ⟨2,rfl,rfl⟩⟩⟩))))),.inr ⟨rfl,y,by simp [hy],e⟩⟩
    ·exact ⟨_,.inr (.inr (.inr (.inr (.inr (.inr ⟨a,b,c,_,rfl,a1,.inl ⟨2,xmg,rfl⟩⟩))))),.inr ⟨rfl,y,by simp [hy],e⟩⟩
end M
end
section
set_option maxHeartbeats 1000000
namespace L2
open PySem PySem.Spec PyProof.Rows
section
variable {P:Program} {w:World} {K:PySem.W.Frag} {mg:Str->Option Value} {base:Heap} {n m:Nat} {x:Str} {ps N:List Str} {sp sp':Sp} {st:Stmt}
theorem DefXs.calm (D:DefXs P w K mg base n x ps sp) (h:∀ vs H Q E,sp' vs H Q E->sp vs H Q fun _ _ _=>False):DefIs P w K mg base n x ps sp':=by
 obtain ⟨f,fd,F,r⟩:=D.ex
 refine ⟨f,fd,⟨fun vs H Q E q=>F.len _ _ _ _ (h vs H Q E q),fun A outer s H args us vs Q E hr he hb hv hs=>codeAny_mono (F.run A outer s H args us vs Q (fun _ _ _=>False) hr he hb hv (h _ _ _ _ hs)) fun r s' q=>?_⟩,r⟩
 cases r with
 | error e=>
  obtain ⟨_,_,_,_,_,_,_,_,_,_,_,_,_,_,_,z⟩:=q
  exact False.elim z
 | ok fl=>cases fl <;> exact q
end
end L2
namespace St
open PySem PySem.Spec PyProof.Rows
section
variable {prog:Program} {w:World} {A:Around} {E:Value->Shared->Prop} {s:Shared} {T:String} {r d:Addr} {n:Nat} {P:Nat->Value->Prop} {OK:Heap->Prop}
theorem xrj {R:List Value->Shared->Prop} (K:PySem.W.KdlSrc prog w T r d n P OK) (hh:A.handled=none) (hok:OK s.heap) (hn:n<=sizeLine)
  (h:∀ h' tk acc,ItemsOf P acc n->(∀ b o,s.heap.get? b=some o->h'.get? b=some o)->R acc.toList { s with heap:=h',toks:=tk }):wpAny (model prog w) A (collect (.ref r)) R E s:=by
 obtain ⟨haL,hdL⟩:=K.there _ hok
 unfold collect
 refine wpAny_bind (wpAny_runValue (codeAny_builtin entry_proto_collect' ?_))
 rw [Around.under_plainId PySem.F.plain_proto_collect _]
 show wpAny _ A.in1 (newList [] >>= fun l=>again (.builtin "list.__iadd__" ⟨[l,.ref r],[]⟩)) _ _ s
 refine wpAny_bind (wpAny_newObj_type ?_)
 refine wpAny_pure ⟨plainId_quiet PySem.F.plain_list_iadd _,codeAny_builtin entry_list_iadd' ?_⟩
 rw [Around.under_plainId PySem.F.plain_list_iadd _]
 have hL:(s.heap.push { cls:=.type "list",data:=.seq ([]:List Value).toArray }).get? s.heap.objs.size=some { cls:=.type "list",data:=.seq #[] }:=Heap.get?_push_size _ rfl
 show wpAny _ A.in1 (Builtin.List.listExtendWith (.ref s.heap.objs.size) (.ref r) (.ref s.heap.objs.size)) _ _ _
 have key:=PySem.W.kdl_extend (prog:=prog) (A:=A) (s:={ s with heap:=s.heap.push { cls:=.type "list",data:=.seq ([]:List Value).toArray } })
  (R:=fun (q:Result) (s':Shared)=>∃ (h':Heap) (tk:Nat) (acc:Array Value) (c:Nat),q=.ok (.ret (.ref s.heap.objs.size))/\s'={ s with heap:=h',toks:=tk }/\ItemsOf P acc n ∧
   (∀ b o,s.heap.get? b=some o->h'.get? b=some o)/\h'.get? s.heap.objs.size=some { cls:=.type "list",dict:=none,data:=.seq acc c,slots:=#[] })
  K hh (K.keep _ _ hok fun b _ o e=>zPO _ e) s.heap.objs.size (Nat.ne_of_gt haL) (Nat.ne_of_gt hdL) (.ref s.heap.objs.size) 0 hL
  (fun h' tk acc c hk hS' hi=>⟨h',tk,acc,c,rfl,rfl,hi,fun b o eb=>hk b o (Nat.ne_of_lt (Heap.lt_size eb)) (zPO _ eb),hS'⟩) hn
 refine wpAny_mono key (fun fin s' x=>?_) fun e s' x=>?_
 ·cases fin with
  | done f=>
   obtain ⟨h',tk,acc,c,e,rfl,hpo,hk,hS'⟩:=x
   cases e
   show wpAny _ A (load s.heap.objs.size >>= _) _ _ _
   refine wpAny_bind (wpAny_load hS' ?_)
   exact wpAny_pure (h h' tk acc hpo hk)
  | again c₁=>
   refine ⟨x.1,codeAny_mono x.2 fun q s₂ y=>?_⟩
   obtain ⟨h',tk,acc,c,rfl,rfl,hpo,hk,hS'⟩:=y
   show wpAny _ A (load s.heap.objs.size >>= _) _ _ _
   refine wpAny_bind (wpAny_load hS' ?_)
   exact wpAny_pure (h h' tk acc hpo hk)
 ·obtain ⟨_,_,_,_,e',_⟩:=x
  cases e'
theorem sortedK {Q:Value->Shared->Prop} {ns:List Str} (K:PySem.W.KdlSrc prog w T r d n P OK) (hh:A.handled=none) (hok:OK s.heap) (h64:n < 64) (hst:∀ acc,ItemsOf P acc n->StrsAre acc.toList ns)
    (h:∀ (h':Heap) (tk:Nat) (D:Addr) (c:Nat) (out:Array Value) (ms:List Str),(∀ b o,s.heap.get? b=some o->h'.get? b=some o)->r < D->h'.get? D=some (seqObj "list" out c)->StrsAre out.toList ms->ms.Perm ns->sortedS ms=true->Q (.ref D) { s with heap:=h',toks:=tk }) :
    wpAny (model prog w) A (call (.builtin "sorted") [.ref r]) Q E s:=by
  refine Calls.call_function_entry kind_sorted plain_sorted entry_sorted (args_sorted1 _) ?_
  unfold Builtin.«sorted»
  refine wpAny_bind (m:=checkCount "sorted" 1 1 _) (wpAny_pure ?_)
  refine wpAny_bind (xrj (A:=A.in1) K hh hok (Nat.le_trans (Nat.le_of_lt h64) (by decide)) fun h' tk acc hpo hk=>?_)
  have hns:=hst acc hpo
  have hsz:r < h'.objs.size:=(K.there _ (K.keep _ _ hok fun b _ o e=>hk b o e)).1
  have hlen:acc.toList.length < 64:=by rw [Array.length_toList,hpo.1]; exact h64
  refine wpAny_bind (wpAny_newList ?_ (by have : (64 : Nat) <= sizeLine := by decide
                                          omega))
  have hoL:(h'.push (seqObj "list" acc.toList.toArray 0)).get? h'.objs.size=some (seqObj "list" acc.toList.toArray 0):=Heap.get?_push_size _ rfl
  refine wpAny_bind (wpAny_holding (wpAny_call_entry slot_list_sort ⟨_,hoL,rfl⟩ entry_list_sort (list_sort_treeK strKind_oneLt hoL hns.keysOf (fun v₁ v₂ rest e=>keyKind_strs (ss:=ns) (by rw [<- e]; exact hns)) hlen fun st' a1 a2=>⟨_,rfl,?_⟩) (args_list_sort _)))
  obtain ⟨ms,m1,m2,m3⟩:=sorted_out_str hns a1 a2
  obtain ⟨e,he⟩:=sortedHeap_at (out:=(arrOf st').map (·.2)) hoL
  refine wpAny_pure ⟨_,rfl,h _ tk h'.objs.size e _ ms (fun b o eb=>?_) hsz he m1 ?_ m3⟩
  · have hb:=hk b o eb
    have hlt:=Heap.lt_size hb
    rw [sortedHeap_old (Nat.ne_of_lt hlt) (by rw [Heap.size_push]; exact Nat.lt_succ_of_lt hlt)]
    exact zPO _ hb
  · exact m2
end
end St
namespace L2
open PySem PySem.Spec PyProof.Rows
def xn6 (te:TE):TE:=fun σ H Q=>te σ H fun x H1=>∃ a ys,∃ kvs:List (Str×V),x=.ref a/\H1 a=some (.lst ys)/\PairsV H1 ys (kvs.map fun kv=>((Sum.inr kv.1:Key),kv.2))/\(kvs.map (·.1)).Nodup/\kvs.length < 64 ∧
 ∀ (l:Addr) (ms:List Str),H1 l=none->ms.Perm (kvs.map (·.1))->sortedS ms=true->Q (.ref l) (upd H1 l (.lst (ms.map V.str)))
theorem xf3 {K:Type} [DecidableEq K]:∀ (ps cur:List (K×Value)),((cur++ps).map (·.1)).Nodup->merged cur ps=cur++ps
 | [],cur,_=>by rw [List.append_nil]; rfl
 | p :: ps,cur,h=>by
  have e:stored cur p.1 p.2=cur++[p]:=by
   unfold stored
   rw [if_neg]
   intro c
   obtain ⟨q,hq,hqe⟩:=List.any_eq_true.mp c
   rw [zAP,List.map_cons] at h
   exact (List.nodup_append.mp h).2.2 q.1 (List.mem_map_of_mem hq) p.1 (by simp) (of_decide_eq_true hqe)
  show merged (stored cur p.1 p.2) ps=_
  rw [e,xf3 ps (cur++[p]) (by simpa using h)]
  simp
theorem xk8 {X:Cx} {e:Expr} {te:TE} {p1 p2 q1 q2:Pos} (hc:X.calm=true) (hg1:Gl X "sorted") (hm1:X.mg "sorted"=none) (hg2:Gl X "dict") (hm2:X.mg "dict"=none) (he:PE X e te)
  (hs2:starEach [e] X.env=[(false,eval e X.env)]:=by rfl)
  (hs1:starEach [Expr.Call (.Name "dict" p2) [e] [] q2] X.env=[(false,eval (.Call (.Name "dict" p2) [e] [] q2) X.env)]:=by rfl) :
  PE X (.Call (.Name "sorted" p1) [.Call (.Name "dict" p2) [e] [] q2] [] q1) (xn6 te):=by
 intro pins s σ H Q I h
 refine wpAny_Call_Name_kw (xdu I hg1 hm1 boot_sorted ?_ (by decide) (by decide))
 refine PyProof.Rows.callWith_builtin1 ?_ hs1 rfl
 rw [hs1]
 refine Calls.spliced_cons ?_
 refine wpAny_Call_Name_kw (xdu I hg2 hm2 PyProof.Rows.boot_dict ?_ (by decide) (by decide))
 refine PyProof.Rows.callWith_type1 (thn ((pc he pN hs2) q2 pins s σ H (fun vs H1=>match vs with
  | [x]=>∃ a ys,∃ kvs:List (Str×V),x=.ref a/\H1 a=some (.lst ys)/\PairsV H1 ys (kvs.map fun kv=>((Sum.inr kv.1:Key),kv.2))/\(kvs.map (·.1)).Nodup/\kvs.length < 64 ∧
   ∀ (l:Addr) (ms:List Str),H1 l=none->ms.Perm (kvs.map (·.1))->sortedS ms=true->Q (.ref l) (upd H1 l (.lst (ms.map V.str)))
  | _=>False) I h) fun us s1 ⟨vs,H1,I1,r1,q⟩=>?_) hs2 rfl
 match vs,r1,q with
 | [x],r1,q=>
  obtain ⟨a,ys,kvs,rfl,ha,hp,hnd,h64,q⟩:=q
  obtain ⟨u,rfl,ru⟩:=xf6 r1
  cases ru
  obtain ⟨hz,its,n,rv,hl⟩:=(show ObjOk X.prog X.w H1 s1.heap a (.lst ys) from I1.hok a _ ha)
  obtain ⟨ps,hk,hpa⟩:=xic I1 rv hp
  have hpl:=hk.length
  rw [zLM] at hpl
  refine xf5 (knd:=xbw X.prog X.w) (I.ok.hd hc) hl hpa (by rw [<- rv.length]; exact hz) fun h' tk dd' k'=>Calls.spliced_nil ?_
  have hkeys:ps.map (·.1)=kvs.map fun kv=>(Sum.inr kv.1:Key):=by
   rw [<- xth hk,List.map_map]
   rfl
  have hmg:merged [] ps=ps:=xf3 ps [] (by
   rw [List.nil_append,hkeys]
   have:(kvs.map fun kv=>(Sum.inr kv.1:Key))=(kvs.map (·.1)).map fun x=>(Sum.inr x:Key):=by rw [List.map_map]; rfl
   rw [this]
   exact hnd.map _ fun a b hab e=>hab (Sum.inr.inj e))
  rw [hmg] at dd'
  obtain ⟨ep,hat⟩:=dd'.dictAt
  have hdm:(s1.heap.objs.size == sysModules)=false:=beq_eq_false_iff_ne.mpr (Ne.symm (Nat.ne_of_lt I1.big))
  refine St.sortedK (s:={ s1 with heap:=h',toks:=tk }) (ns:=kvs.map (·.1)) (PySem.W.kdl_dict hdm) (I.ok.hd hc) hat (by omega) (fun acc hi=>?_) fun h3 tk3 D c out ms k3 hD he' hms hpm hso=>?_
  ·refine xge (xkw (by have:=hi.1; rw [zLM,zLM]; simp only [Array.length_toList]; omega) fun i x u hx hu=>?_)
   rw [List.map_map,zGM] at hx
   obtain ⟨p,hp',rfl⟩:=zMS hx
   obtain ⟨k,y,hky,hk'⟩:=hi.2 i u (by rw [<- Array.getElem?_toList]; exact hu)
   have e:(Sum.inr p.1:Key)=k:=KV.get hk (i:=i) (p:=(Sum.inr p.1,p.2)) (by rw [zGM,hp']; rfl) hky
   have:=xwy hk'
   rw [<- e] at this
   exact this
  ·have I2:Inv X pins σ (upd H1 D (.lst (ms.map V.str))) { s1 with heap:=h3,toks:=tk3 }:=I1.laid (fun b u eb=>k3 b u (k' b u eb)) (Nat.le_of_lt hD) ⟨?_,out.toList,c,xgo hms,by rw [Array.toArray_toList]; exact he'⟩
   ·exact ⟨.ref D,upd H1 D (.lst (ms.map V.str)),I2,rfl,q D ms (I1.hok.fresh (Nat.le_of_lt hD)) hpm hso⟩
   ·rw [zLM,hpm.length_eq,zLM]
    have:(64:Nat)<=sizeLine:=by decide
    omega
end L2
end
section
namespace M
open PySem L2 PyProof.Rows PySem.Spec
def leS (a b:Str):Prop:=a.cps.toList<=b.cps.toList
theorem xpf {a b c:Str} (h:leS a b) (k:leS b c):leS a c:=List.le_trans h k
theorem xq6 {a b:Str} (h:leS a b) (k:leS b a):a=b:=by
 have e:a.cps.toList=b.cps.toList:=List.le_antisymm h k
 obtain ⟨a⟩:=a
 obtain ⟨b⟩:=b
 exact congrArg Str.mk (Array.ext' e)
theorem xvc {a b:Str} (h:(!ltCps b.cps.toList a.cps.toList)=true):leS a b:=by
 rw [ltCps_eq] at h
 unfold leS
 exact List.not_lt.mp (by simpa using h)
theorem xgw:∀ (p:Str) (l:List Str),risingS p l=true->(p :: l).Pairwise leS
 | p,[],_=>by simp
 | p,x :: r,h=>by
  unfold risingS at h
  rw [Bool.and_eq_true] at h
  have h1:=xvc h.1
  have ih:=xgw x r h.2
  refine List.pairwise_cons.mpr ⟨fun y hy=>?_,ih⟩
  rcases zMC hy with rfl | hy
  ·exact h1
  ·exact xpf h1 ((List.pairwise_cons.mp ih).1 y hy)
theorem xgv {l:List Str} (h:sortedS l=true):l.Pairwise leS:=by
 cases l with
 | nil=>exact List.Pairwise.nil
 | cons x r=>exact xgw x r h
theorem xk4 {l m:List Str} (h1:l.Pairwise leS) (h2:m.Pairwise leS) (n1:l.Nodup) (n2:m.Nodup) (h:∀ x,x∈l ↔ x∈m):l=m:=
 List.Perm.eq_of_pairwise (fun a b _ _=>xq6) h1 h2 ((List.perm_ext_iff_of_nodup n1 n2).mpr h)
end M
end
section
namespace M
open PySem L2
def envK (bs:List (Str×Str)):En:=fun z=>(bs.find? fun b=>decide (b.1=z)).map fun b=>.str b.2
theorem xmw {ks:List Kn} {bs:List (Str×Str)} (nd:(bs.map (·.1)).Nodup):FitK ks bs (envK bs):=by
 refine ⟨fun p hp=>?_,fun z _ hq=>?_⟩
 ·unfold envK
  obtain ⟨i,hi,e⟩:=zMI hp
  rw [xc8 (f:=fun r:Str×Str=>r.1) (xs:=bs) (i:=i) (a:=p) nd (by rw [<- e]; exact zGA hi)]
  rfl
 ·unfold envK
  rw [List.find?_eq_none.mpr fun q hq' e=>hq q hq' (of_decide_eq_true e)]
  rfl
theorem xva {ks:List Kn} {bs:List (Str×Str)} {n:Nat} {d:D} {x:Str} (nd':(bs.map (·.1)).Nodup) (h:TmB ks n bs d x):∀ z∈nd n d,z∈bs.map (·.1):=fun z hz=>by
 obtain ⟨v,hv⟩:=xg5 _ _ _ _ (h.2 _ (xmw nd')) z hz
 unfold envK at hv
 obtain ⟨b,hb,_⟩:=zMS hv
 have:=List.find?_some hb
 rw [<- of_decide_eq_true this]
 exact List.mem_map_of_mem (zMF hb)
end M
end
section
namespace L2
open PySem
abbrev qaa:List Str:=["kinds","term","boxes"]
abbrev qab:List Str:=["_law_kinds_here","_law_kind"]
abbrev qac:List Str:=["_law_feed_here","_law_kinds_here","_law_boxes","_law_kind","_law_room","_law_nest"]
abbrev qad:List Str:=["term"]
abbrev qae:List Str:=["_law_feed_here","_law_many"]
abbrev qaf:List Str:=["kinds","K"]
abbrev qag:List Str:=["kinds","term","boxes","kind"]
abbrev qah:List Str:=["_law_script"]
abbrev qai:List Str:=["_law_name","_law_part","_law_kinds_here"]
abbrev qaj:List Str:=["found","kind"]
abbrev qak:List Str:=["kinds","kind","name"]
abbrev qal:List Str:=["_law_feed_here","_law_kinds_here"]
abbrev qam:List Str:=["_law_feed_here","_law_kinds_here","_law_kind"]
abbrev qan:List Str:=["names","things"]
abbrev qao:List Str:=["x","boxes"]
abbrev qap:List Str:=["kinds","name","sort"]
abbrev qaq:List Str:=["kinds","term","boxes","sort"]
abbrev qar:List Str:=["boxes","x","thing"]
abbrev qas:List Str:=["sign","a","b"]
abbrev qat:List Str:=["_law_feed_here"]
abbrev qau:List Str:=["_law_feed_here","_law_kinds_here","_law_sort","_law_names_here"]
abbrev qav:List Str:=["_law_kinds_here","_law_term_here","_law_boxes"]
abbrev qaw:List Str:=["_law_kinds_here","_law_term_here","_law_boxes","_law_kind"]
abbrev qax:List Str:=["kinds","kind","arm","boxes"]
abbrev qay:List Str:=["kinds","kind","arms"]
abbrev qaz:List Str:=["kinds","value","f"]
abbrev qa0:List Str:=["_law_script","_law_k"]
abbrev qa1:List Str:=["_law_cell","_law_many"]
abbrev qa2:List Str:=["_law_feed_here","_law_names_here"]
abbrev qa3:List Str:=["_law_feed_here","_law_kinds_here","_law_boxes","_law_parts_here","_law_kind","_law_room","_law_nest"]
abbrev qa4:List Str:=["_law_feed_here","_law_kinds_here","_law_names_here"]
abbrev qa5:List Str:=["_law_feed_here","_law_kinds_here","_law_boxes","_law_kind"]
abbrev qa6:List Str:=["_law_script","_law_at"]
abbrev qa7:List Str:=["_law_boxes","_law_x"]
abbrev qa8:List Str:=["_law_f","_law_part","_law_name","_law_kind"]
abbrev qa9:List Str:=["_law_x","_law_told","_law_kind"]
abbrev qba:List Str:=["_law_name","_law_part","_law_feed_here","_law_kinds_here"]
abbrev qbb:List Str:=["_law_x","_law_told","_law_found"]
abbrev qbc:List Str:=["_law_x","_law_told","_law_feed_here","_law_kinds_here"]
abbrev qbd:List Str:=["_law_x","_law_told","_law_found","_law_values","_law_feed_here","_law_kinds_here"]
abbrev qbe:List Str:=["_law_kinds_here","_law_kind","_law_sort","_law_parts_here"]
abbrev qbf:List Str:=["_law_k","_law_common","_law_letters","_law_at","_law_cell"]
abbrev qbg:List Str:=["_law_part","_law_room","_law_nest","_law_kinds_here"]
abbrev qbh:List Str:=["_law_k","_law_names_here","_law_feed_here","_law_kinds_here","_law_first"]
abbrev qbi:List Str:=["_law_x","_law_kinds_here","_law_term_here","_law_boxes"]
end L2
namespace K21
open PySem L2 M
seal L2.PE L2.PA L2.PS L2.PSs L2.PT L2.PW L2.PI L2.PG L2.PJ L2.PTs
local macro_rules | `(tactic| obtain $p:rcasesPatMed:=$e:term)=>`(tactic| ((refine L2.gcut fun G hG=>?_; rcases $e:term with $p:rcasesPatMed) <;> refine hG ?_))
def top (i:Nat):Stmt:=PySem.Challenge.pw_swapstride_k21_whole_boxes_in_terms.main.body.getD i (.Pass ⟨0,0,0,0⟩)
abbrev s_need_once:Stmt:=top 8
theorem sc_need_once:FnScope qan qan (xac s_need_once):=by walk_at "q"
abbrev s_sort_of:Stmt:=top 9
theorem sc_sort_of:FnScope ["kinds","K","name","sort","parts"] qaf (xac s_sort_of):=by walk_at "q"
abbrev s_parts_of:Stmt:=top 10
theorem sc_parts_of:FnScope ["kinds","K","name","sort","parts"] qaf (xac s_parts_of):=by walk_at "q"
abbrev s_kind_of:Stmt:=top 13
theorem sc_kind_of:FnScope ["kinds","term","boxes","head"] qaa (xac s_kind_of):=by walk_at "q"
abbrev s_num_kind:Stmt:=top 14
theorem sc_num_kind:FnScope ["n"] ["n"] (xac s_num_kind):=by walk_at "q"
abbrev s_box_kind:Stmt:=top 15
theorem sc_box_kind:FnScope qao qao (xac s_box_kind):=by walk_at "q"
abbrev s_op_kind:Stmt:=top 16
theorem sc_op_kind:FnScope qaa qaa (xac s_op_kind):=by walk_at "q"
abbrev s_rec_kind:Stmt:=top 17
theorem sc_rec_kind:FnScope ["kinds","term","boxes","name","parts","part","inner"] qaa (xac s_rec_kind):=by walk_at "q"
abbrev s_get_kind:Stmt:=top 18
theorem sc_get_kind:FnScope qag qaa (xac s_get_kind):=by walk_at "q"
abbrev s_tag_kind:Stmt:=top 19
theorem sc_tag_kind:FnScope ["kinds","term","boxes","name"] qaa (xac s_tag_kind):=by walk_at "q"
abbrev s_case_kind:Stmt:=top 20
theorem sc_case_kind:FnScope ["kinds","term","boxes","kind","arms","inner","arm"] qaa (xac s_case_kind):=by walk_at "q"
abbrev s_arm_kind:Stmt:=top 21
theorem sc_arm_kind:FnScope ["kinds","kind","arm","boxes","x"] qax (xac s_arm_kind):=by walk_at "q"
abbrev s_if_kind:Stmt:=top 22
theorem sc_if_kind:FnScope qag qaa (xac s_if_kind):=by walk_at "q"
abbrev s_need_kind:Stmt:=top 23
theorem sc_need_kind:FnScope qag qag (xac s_need_kind):=by walk_at "q"
abbrev s_need_same:Stmt:=top 24
theorem sc_need_same:FnScope qaj qaj (xac s_need_same):=by walk_at "q"
abbrev s_need_sort:Stmt:=top 25
theorem sc_need_sort:FnScope ["kinds","name","sort","found"] qap (xac s_need_sort):=by walk_at "q"
abbrev s_kind_of_sort:Stmt:=top 26
theorem sc_kind_of_sort:FnScope ["kinds","term","boxes","sort","kind"] qaq (xac s_kind_of_sort):=by walk_at "q"
abbrev s_part_kind:Stmt:=top 27
theorem sc_part_kind:FnScope ["kinds","kind","name","part"] qak (xac s_part_kind):=by walk_at "q"
abbrev s_need_tags:Stmt:=top 28
theorem sc_need_tags:FnScope ["kinds","kind","arms","own","tags","tag"] qay (xac s_need_tags):=by walk_at "q"
abbrev s_with_box:Stmt:=top 29
theorem sc_with_box:FnScope ["boxes","x","thing","more"] qar (xac s_with_box):=by walk_at "q"
abbrev s_boxes_in:Stmt:=top 30
theorem xk7:FnScope qad qad (xac s_boxes_in):=by walk_at "q"
abbrev s_needed:Stmt:=top 31
theorem sc_needed:FnScope ["term","found","inner","tag","x"] qad (xac s_needed):=by walk_at "q"
abbrev s_inner_terms:Stmt:=top 32
theorem sc_inner_terms:FnScope ["term","head"] qad (xac s_inner_terms):=by walk_at "q"
abbrev s_field:Stmt:=top 34
theorem sc_field:FnScope ["kinds","value","f","names"] qaz (xac s_field):=by walk_at "q"
abbrev s_worth:Stmt:=top 36
theorem sc_worth:FnScope ["kinds","term","boxes","head","taken"] qaa (xac s_worth):=by walk_at "q"
abbrev s_op_worth:Stmt:=top 37
theorem xk6:FnScope qas qas (xac s_op_worth):=by walk_at "q"
abbrev s_case_worth:Stmt:=top 38
theorem sc_case_worth:FnScope ["kinds","term","boxes","value","arm"] qaa (xac s_case_worth):=by walk_at "q"
abbrev sl_feed:Stmt:=top 40
theorem scl_feed:FnScope ["_law_script","_law_k","_law_cell"] qa0 (xac sl_feed):=by walk_at "q"
abbrev sl_take:Stmt:=top 41
theorem scl_take:FnScope ["_law_feed_here","_law_many","_law_digit","_law_one"] qae (xac sl_take):=by walk_at "q"
abbrev sl_names:Stmt:=top 42
theorem scl_names:FnScope ["_law_cell","_law_many","_law_letters","_law_size_here","_law_at","_law_common","_law_found"] qa1 (xac sl_names):=by walk_at "q"
abbrev sl_number:Stmt:=top 43
theorem scl_number:FnScope ["_law_feed_here","_law_form"] qat (xac sl_number):=by walk_at "q"
abbrev sl_sort_of:Stmt:=top 44
theorem scl_sort_of:FnScope ["_law_kinds_here","_law_kind","_law_name","_law_sort","_law_parts_here"] qab (xac sl_sort_of):=by walk_at "q"
abbrev sl_size:Stmt:=top 45
theorem scl_size:FnScope ["_law_kinds_here","_law_kind","_law_sort","_law_parts_here","_law_sizes"] qab (xac sl_size):=by walk_at "q"
abbrev sl_small:Stmt:=top 46
theorem scl_small:FnScope qbe qab (xac sl_small):=by walk_at "q"
abbrev sl_parts:Stmt:=top 47
theorem scl_parts:FnScope ["_law_feed_here","_law_kinds_here","_law_sort","_law_names_here","_law_parts_here","_law_left","_law_j","_law_kind"] qau (xac sl_parts):=by walk_at "q"
abbrev sl_kinds:Stmt:=top 48
theorem scl_kinds:FnScope ["_law_feed_here","_law_names_here","_law_kinds_here","_law_k","_law_sort"] qa2 (xac sl_kinds):=by walk_at "q"
abbrev sl_high:Stmt:=top 49
theorem scl_high:FnScope qbe qab (xac sl_high):=by walk_at "q"
abbrev sl_any_kind:Stmt:=top 50
theorem scl_any_kind:FnScope qal qal (xac sl_any_kind):=by walk_at "q"
abbrev sl_arms:Stmt:=top 51
theorem scl_arms:FnScope ["_law_feed_here","_law_kinds_here","_law_boxes","_law_parts_here","_law_kind","_law_room","_law_nest","_law_arms_here","_law_t","_law_part","_law_x"] qa3 (xac sl_arms):=by walk_at "q"
abbrev sl_case:Stmt:=top 52
theorem scl_case:FnScope ["_law_feed_here","_law_kinds_here","_law_boxes","_law_kind","_law_room","_law_nest","_law_small_here","_law_some","_law_name","_law_sort","_law_parts_here","_law_more","_law_one"] qac (xac sl_case):=by walk_at "q"
abbrev sl_get:Stmt:=top 53
theorem scl_get:FnScope ["_law_feed_here","_law_kinds_here","_law_boxes","_law_kind","_law_room","_law_nest","_law_some","_law_name","_law_sort","_law_parts_here","_law_f"] qac (xac sl_get):=by walk_at "q"
abbrev sl_whole_term:Stmt:=top 54
theorem scl_whole_term:FnScope ["_law_feed_here","_law_kinds_here","_law_boxes","_law_kind","_law_room","_law_nest","_law_sort","_law_parts_here","_law_one","_law_other","_law_some","_law_t","_law_part","_law_more","_law_terms","_law_f"] qac (xac sl_whole_term):=by walk_at "q"
abbrev sl_term:Stmt:=top 55
theorem scl_term:FnScope ["_law_feed_here","_law_kinds_here","_law_boxes","_law_kind","_law_room","_law_nest","_law_form","_law_some","_law_small_here","_law_found","_law_more","_law_one","_law_first"] qac (xac sl_term):=by walk_at "q"
abbrev sl_value:Stmt:=top 56
theorem scl_value:FnScope ["_law_feed_here","_law_kinds_here","_law_kind","_law_sort","_law_parts_here","_law_t","_law_part"] qam (xac sl_value):=by walk_at "q"
abbrev sl_some_boxes:Stmt:=top 57
theorem scl_some_boxes:FnScope ["_law_feed_here","_law_kinds_here","_law_names_here","_law_first","_law_boxes"] qa4 (xac sl_some_boxes):=by walk_at "q"
abbrev sl_drawn_term:Stmt:=top 58
theorem scl_drawn_term:FnScope ["_law_feed_here","_law_kinds_here","_law_boxes","_law_kind","_law_small_here","_law_room"] qa5 (xac sl_drawn_term):=by walk_at "q"
abbrev sl_cells:Stmt:=top 59
theorem scl_cells:FnScope ["_law_script","_law_at","_law_many"] qa6 (xac sl_cells):=by walk_at "q"
abbrev sl_cell_0:Stmt:=top 60
theorem xnd:FnScope qah qah (xac sl_cell_0):=by walk_at "q"
abbrev sl_nameless:Stmt:=top 61
theorem scl_nameless:FnScope ["_law_kinds_here","_law_term_here","_law_boxes","_law_gone"] qav (xac sl_nameless):=by walk_at "q"
abbrev sl_without:Stmt:=top 62
theorem scl_without:FnScope ["_law_boxes","_law_x","_law_found"] qa7 (xac sl_without):=by walk_at "q"
abbrev sl_needs:Stmt:=top 63
theorem scl_needs:FnScope ["_law_kinds_here","_law_term_here","_law_boxes","_law_kind","_law_found","_law_few"] qaw (xac sl_needs):=by walk_at "q"
abbrev s_law:Stmt:=top 64
theorem sc_law:FnScope ["_law_script","_law_names_here","_law_kinds_here","_law_boxes","_law_k","_law_feed_here","_law_kind","_law_term_here","_law_found","_law_values","_law_few","_law_others","_law_due"] qah (xac s_law):=by walk_at "q"
structure Tx (K:PySem.W.Frag) (mg:Str->Option Value):Prop where
 d_need_once:DefTx K mg "need_once" s_need_once qan
 d_sort_of:DefTx K mg "sort_of" s_sort_of qaf
 d_parts_of:DefTx K mg "parts_of" s_parts_of qaf
 d_kind_of:DefTx K mg "kind_of" s_kind_of qaa
 d_num_kind:DefTx K mg "num_kind" s_num_kind ["n"]
 d_box_kind:DefTx K mg "box_kind" s_box_kind qao
 d_op_kind:DefTx K mg "op_kind" s_op_kind qaa
 d_rec_kind:DefTx K mg "rec_kind" s_rec_kind qaa
 d_get_kind:DefTx K mg "get_kind" s_get_kind qaa
 d_tag_kind:DefTx K mg "tag_kind" s_tag_kind qaa
 d_case_kind:DefTx K mg "case_kind" s_case_kind qaa
 d_arm_kind:DefTx K mg "arm_kind" s_arm_kind qax
 d_if_kind:DefTx K mg "if_kind" s_if_kind qaa
 d_need_kind:DefTx K mg "need_kind" s_need_kind qag
 d_need_same:DefTx K mg "need_same" s_need_same qaj
 d_need_sort:DefTx K mg "need_sort" s_need_sort qap
 d_kind_of_sort:DefTx K mg "kind_of_sort" s_kind_of_sort qaq
 d_part_kind:DefTx K mg "part_kind" s_part_kind qak
 d_need_tags:DefTx K mg "need_tags" s_need_tags qay
 d_with_box:DefTx K mg "with_box" s_with_box qar
 d_boxes_in:DefTx K mg "boxes_in" s_boxes_in qad
 d_needed:DefTx K mg "needed" s_needed qad
 d_inner_terms:DefTx K mg "inner_terms" s_inner_terms qad
 d_field:DefTx K mg "field" s_field qaz
 d_worth:DefTx K mg "worth" s_worth qaa
 d_op_worth:DefTx K mg "op_worth" s_op_worth qas
 d_case_worth:DefTx K mg "case_worth" s_case_worth qaa
 dl_feed:DefTx K mg "_law_feed" sl_feed qa0
 dl_take:DefTx K mg "_law_take" sl_take qae
 dl_names:DefTx K mg "_law_names" sl_names qa1
 dl_number:DefTx K mg "_law_number" sl_number qat
 dl_sort_of:DefTx K mg "_law_sort_of" sl_sort_of qab
 dl_size:DefTx K mg "_law_size" sl_size qab
 dl_small:DefTx K mg "_law_small" sl_small qab
 dl_parts:DefTx K mg "_law_parts" sl_parts qau
 dl_kinds:DefTx K mg "_law_kinds" sl_kinds qa2
 dl_high:DefTx K mg "_law_high" sl_high qab
 dl_any_kind:DefTx K mg "_law_any_kind" sl_any_kind qal
 dl_arms:DefTx K mg "_law_arms" sl_arms qa3
 dl_case:DefTx K mg "_law_case" sl_case qac
 dl_get:DefTx K mg "_law_get" sl_get qac
 dl_whole_term:DefTx K mg "_law_whole_term" sl_whole_term qac
 dl_term:DefTx K mg "_law_term" sl_term qac
 dl_value:DefTx K mg "_law_value" sl_value qam
 dl_some_boxes:DefTx K mg "_law_some_boxes" sl_some_boxes qa4
 dl_drawn_term:DefTx K mg "_law_drawn_term" sl_drawn_term qa5
 dl_cells:DefTx K mg "_law_cells" sl_cells qa6
 dl_cell_0:DefTx K mg "_law_cell_0" sl_cell_0 qah
 dl_nameless:DefTx K mg "_law_nameless" sl_nameless qav
 dl_without:DefTx K mg "_law_without" sl_without qa7
 dl_needs:DefTx K mg "_law_needs" sl_needs qaw
 d_law:DefTx K mg "law" s_law qah
 g_WIDE:∃ t,mg "WIDE"=some (.int 4294967296 t)
 z_dict:mg "dict"=none
 z_int:mg "int"=none
 z_isinstance:mg "isinstance"=none
 z_len:mg "len"=none
 z_list:mg "list"=none
 z_max:mg "max"=none
 z_min:mg "min"=none
 z_range:mg "range"=none
 z_set:mg "set"=none
 z_sorted:mg "sorted"=none
 z_sum:mg "sum"=none
 z_tuple:mg "tuple"=none
 z_zip:mg "zip"=none
 c_Twice:mg "Twice"=some (.ref (cAt K 1))
 c_NoName:mg "NoName"=some (.ref (cAt K 2))
 c_NoCount:mg "NoCount"=some (.ref (cAt K 3))
 c_WrongKind:mg "WrongKind"=some (.ref (cAt K 4))
 c_Lacks:mg "Lacks"=some (.ref (cAt K 5))
 c_SwapError:mg "SwapError"=some (.ref (ad K "SwapError"))
 xt:XTab5 K
theorem fits {n:Nat} (h:n<=4000000):n<=sizeLine:=Nat.le_trans h (by decide)
theorem xa7 {n:Nat} (h:n<=4000000):n < sizeLine:=Nat.lt_of_le_of_lt h (by decide)
def xrv (K:PySem.W.Frag):Sp:=fun vs H Q _=>∃ (a:Addr) (ns:List Int) (k:Int),vs=[.ref a,.int k]/\SqL K H a (ns.map V.int)/\ns.length<=63/\0<=k/\∀ (r:Addr) (p q:Int),H r=none->Q (.ref r) (upd H r (.lst [.int p,.int q]))
def xda:Sp:=fun vs H Q _=>∃ (a:Addr) (p q m:Int),vs=[.ref a,.int m]/\H a=some (.lst [.int p,.int q])/\0 < m/\m < 2 ^ 64/\∀ (r:Int) (H':Hp),0<=r->r < m->Fed a H H'->Q (.int r) H'
section
variable {P:Program} {w:World} {K:PySem.W.Frag} {mg:Str->Option Value} {base:Heap} {n:Nat}
theorem xir {ns:List Int} {k:Int} (h0:0<=k) (h:k < (ns.length:Int)):∃ v:Int,atI (ns.map V.int) k=some (.int v):=by
 have hk:k.toNat < ns.length:=by omega
 have ek:k=((k.toNat:Nat):Int):=by omega
 refine ⟨ns[k.toNat],?_⟩
 have q:atI (ns.map V.int) ((k.toNat:Nat):Int)=some (.int ns[k.toNat]):=xbb (by rw [zGM,zGA hk] <;> rfl)
 rw [<- ek] at q
 exact q
theorem xdg:2<=sizeLine:=by decide
theorem xqu (T:Tx K mg):DefIs P w K mg base (n + 1) "_law_feed" qa0 (xrv K):=by
 refine DefIs.of T.dl_feed scl_feed ?_ ?_ <;> walk_at "i"
 ·obtain ⟨a,ns,k,rfl,_⟩:=h
  rfl
 obtain ⟨a,ns,k,rfl,hS,h63,hk,q⟩:=h
 have nd:=scl_feed.nd
 have hl:(ns.map V.int).length=ns.length:=zLM _
 refine ⟨_,(zpn (xaf (i:=2) nd rfl (by walk_at "o") pI)
   (zpn (xau (pR xfh (pv 1) (xao xah rfl T.z_len PySem.boot_len (pc (pv 0) pN zsn)) (nM _)) (zpo (xaf (i:=2) nd rfl (by walk_at "o") (xak iL (pv 0) (pv 1) (fun _ _=>rfl)))) pQ)
   (zpn (xau (PW.pt (xdo (pR xla (xao xah rfl T.z_len PySem.boot_len (pc (pv 0) pN zsn)) pI (nM _)) (xdk (pR xa1 (xag xcb (xak iL (pv 0) pI (fun _ _=>rfl)) pI) pI (nM _))))) (zpo (xae (xb9 (pc (pv 2) (pc (xag xa9 (xag xcb (xag xa9 (xag xdr (xag xcb (pv 2) pI) pI) (xag xdr pI (pv 1))) pI) pI) pN xaq) zsn)))) pQ)
   (zpn (xau (PW.pt (xdo (pR xu4 (pv 1) (xao xah rfl T.z_len PySem.boot_len (pc (pv 0) pN zsn)) (nM _)) (xdk (pR xla (xao xah rfl T.z_len PySem.boot_len (pc (pv 0) pN zsn)) pI (nM _))))) (zpo (xaf (i:=2) nd rfl (by walk_at "o") (xag xa9 (xak iL (pv 0) (xag xcb (pv 1) (xao xah rfl T.z_len PySem.boot_len (pc (pv 0) pN zsn))) (fun _ _=>rfl)) (xag xdr pI (pv 1))))) pQ)
   (zpo (xae (xb9 (pc pI (pc (xag xa9 (xag xcb (xag xa9 (xag xdr (xag xcb (pv 2) pI) pI) (xag xdr pI (pv 1))) pI) pI) pN xaq) zso)))))))),?_⟩
 have h0:0 < ns.length->∃ v:Int,atI (ns.map V.int) 0=some (.int v):=fun h=>xir (Int.le_refl 0) (by omega)
 walk_at "rd"
 refine ite2 (fun c=>?_) (fun c=>?_)
 ·have c':=of_decide_eq_true c
  rw [hl] at c'
  obtain ⟨v,hv⟩:=xir (ns:=ns) hk c'
  obtain ⟨v0,hv0⟩:=h0 (by omega)
  walk_at "rd"
  refine ite2 (fun c2=>?_) (fun c2=>?_)
  ·walk_at "rd"
   refine ite2 (fun c3=>?_) (fun c3=>?_)
   ·walk_at "rd"
    exact ⟨xdg,fun l hl'=>q l _ _ hl'⟩
   ·walk_at "rd"
    refine ite2 (fun c4=>?_) (fun c4=>?_)
    ·have c4':=of_decide_eq_true c4
     rw [hl] at c4'
     omega
    ·refine iteF ?_
     walk_at "rd"
     exact ⟨xdg,fun l hl'=>q l _ _ hl'⟩
  ·have c2':=of_decide_eq_false (Bool.eq_false_iff.mpr c2)
   rw [hl] at c2'
   omega
 ·have c':=of_decide_eq_false (Bool.eq_false_iff.mpr c)
  rw [hl] at c'
  walk_at "rd"
  refine ite2 (fun c2=>?_) (fun c2=>?_)
  ·have c2':=of_decide_eq_true c2
   rw [hl] at c2'
   obtain ⟨v0,hv0⟩:=h0 (by omega)
   walk_at "rd"
   refine ite2 (fun c3=>?_) (fun c3=>?_)
   ·walk_at "rd"
    exact ⟨xdg,fun l hl'=>q l _ _ hl'⟩
   ·walk_at "rd"
    refine ite2 (fun c4=>?_) (fun c4=>?_)
    ·walk_at "rd"
     refine ite2 (fun c5=>?_) (fun c5=>?_)
     ·obtain ⟨v,hv⟩:=xir (ns:=ns) (k:=k % (ns.length:Int)) (Int.emod_nonneg _ (by omega)) (Int.emod_lt_of_pos _ (by omega))
      rw [<- hl] at hv
      have hp:(0:Int) < ((ns.map V.int).length:Nat):=by rw [hl]; omega
      walk_at "rd"
      exact ⟨xdg,fun l hl'=>q l _ _ hl'⟩
     ·walk_at "rd"
      exact ⟨xdg,fun l hl'=>q l _ _ hl'⟩
    ·refine iteF ?_
     walk_at "rd"
     exact ⟨xdg,fun l hl'=>q l _ _ hl'⟩
  ·refine iteF ?_
   walk_at "rd"
   refine ite2 (fun c4=>?_) (fun c4=>?_)
   ·walk_at "rd"
    refine ite2 (fun c5=>?_) (fun c5=>?_)
    ·have c2':=of_decide_eq_false (Bool.eq_false_iff.mpr c2)
     exact absurd (of_decide_eq_true c5) c2'
    ·walk_at "rd"
     exact ⟨xdg,fun l hl'=>q l _ _ hl'⟩
   ·refine iteF ?_
    walk_at "rd"
    exact ⟨xdg,fun l hl'=>q l _ _ hl'⟩
theorem xeo (T:Tx K mg):DefIs P w K mg base (n + 1) "_law_take" qae xda:=by
 refine DefIs.of T.dl_take scl_take ?_ ?_ <;> walk_at "i"
 ·obtain ⟨a,p,q,m,rfl,_⟩:=h
  rfl
 obtain ⟨a,p,q,m,rfl,ha,m0,m1,k⟩:=h
 have nd:=scl_take.nd
 have hS:SqL K H a [.int p,.int q]:=SqL.of ha
 refine ⟨_,(zpn (xau (pR xla (xak iL (pv 0) pI (fun _ _=>rfl)) pI (nM _)) (zpn (xaf (i:=2) nd rfl (by walk_at "o") (xag xcb (xak iL (pv 0) pI (fun _ _=>rfl)) (pv 1)))
   (zpn (xd9 (xag xb1 (xak iL (pv 0) pI (fun _ _=>rfl)) (pv 1)) (xor (pv 0) pI xh9))
   (zpo (xae (pv 2))))) pQ)
   (zpn (xaf (i:=3) nd rfl (by walk_at "o") (xag xcb (xag xdr (xak iL (pv 0) pI (fun _ _=>rfl)) pI) pI))
   (zpn (xd9 (xag xa9 (xag xcb (xag xa9 (xag xdr (pv 3) pI) pI) pI) pI) (xor (pv 0) pI xh9))
   (zpo (xae (xag xcb (xag xb1 (xag xa9 (xag xdr (pv 3) pI) (xak iL (pv 0) pI (fun _ _=>rfl))) pI) (pv 1))))))),?_⟩
 walk_at "rd"
 refine ite2 (fun c=>?_) (fun c=>?_)
 ·walk_at "rd"
  refine k _ _ (Int.emod_nonneg _ (by omega)) (Int.emod_lt_of_pos _ m0) Fed.of
 ·walk_at "rd"
  refine (xaw _ _ _ _ rfl rfl (SqL.of ups) rfl ?_)
  walk_at "rd"
  refine k _ _ (Int.emod_nonneg _ (by omega)) (Int.emod_lt_of_pos _ m0) Fed.of
end
def xob:Sp:=fun vs H Q _=>∃ c:Int,vs=[.int c,.int 26]/\∀ (b:Addr) (H':Hp) (nms:List Str),Same H H'->H b=none->H' b=some (.lst (nms.map V.str))->xl1 nms->(∀ z∈nms,NoBy z/\NoMo z)->Q (.ref b) H'
section
variable {P:Program} {w:World} {K:PySem.W.Frag} {mg:Str->Option Value} {base:Heap} {n m:Nat}
theorem xow (T:Tx K mg):DefIs P w K mg base (n + 1) "_law_names" qa1 xob:=by
 refine DefIs.of T.dl_names scl_names ?_ ?_ <;> walk_at "i"
 ·obtain ⟨_,rfl,_⟩:=h
  rfl
 obtain ⟨c,rfl,k⟩:=h
 have nd:=scl_names.nd
 refine ⟨_,(zpn (xaf (i:=2) nd rfl (by walk_at "o") pS)
   (zpn (xaf (i:=3) nd rfl (by walk_at "o") (xag xcb (pv 0) pI))
   (zpn (xaf (i:=4) nd rfl (by walk_at "o") (xag xcb (xag xb1 (pv 0) pI) (xag xa9 (pv 3) pI)))
   (zpn (xaf (i:=5) nd rfl (by walk_at "o") (xhi PySem.F.plainAttrs_str PySem.F.slot_str_join PySem.F.type_str_join xte pS (pc (xbv ["_law_j","_law_cell"] [none,some 0] rfl (by kernel_rfl) (xdq rfl T.z_range (pc (pv 3) pN zsn)) (fun _ _ _ _=>(xab (i:=0) (by show List.Nodup (["_law_j","_law_cell"]:List Str); decide +kernel) rfl (Or.inl rfl))) (fun _ _ _ _=>xby) (fun _ _ _ _=>(xak xmq pS (xag xcb (xag xa9 (xag xb1 (pv 1) pI) (pv 0)) pI) (fun _ _=>rfl)))) pN xb8)))
   (zpn (xaf (i:=6) nd rfl (by walk_at "o") (xbv qbf [none,some 5,some 2,some 4,some 0] rfl (by kernel_rfl) (xdq rfl T.z_range (pc (pv 1) pN zsn)) (fun _ _ _ _=>(xab (i:=0) (by show List.Nodup (qbf:List Str); decide +kernel) rfl (Or.inl rfl))) (fun _ _ _ _=>xby) (fun _ _ _ _=>(xag xen (xag xen (xdi xrz (pv 1) xe7 (xd1 (pv 3))) (xak xmq (pv 2) (xag xcb (xag xa9 (xag xb1 (pv 4) pI) (xag xdr pI (pv 0))) pI) (fun _ _=>rfl))) (xdi xrz (pv 1) (xd1 (pv 3)) xe7)))))
   (zpn (xau (pR xa1 (xag xcb (xag xb1 (pv 0) pI) pI) pI (nM _)) (zpo (xae (pv 6))) pQ)
   (zpo (xae (xbv ["_law_k","_law_found"] [none,some 6] rfl (by kernel_rfl) (xdq rfl T.z_range (pc (pv 1) pN zsn)) (fun _ _ _ _=>(xab (i:=0) (by show List.Nodup (["_law_k","_law_found"]:List Str); decide +kernel) rfl (Or.inl rfl))) (fun _ _ _ _=>xby) (fun _ _ _ _=>(xag xen (xak (xmr (K:=K) rfl) (pv 1) (xag xbs (pv 0) (xag xcb (pv 0) pI)) (fun _ _=>rfl)) (xag xs5 pS (xag xcb (pv 0) pI))))))))))))),?_⟩
 have m0:0<=c % 5:=Int.emod_nonneg _ (by decide)
 have m5:c % 5 < 5:=Int.emod_lt_of_pos _ (by decide)
 refine (xbx _ rfl _ _ rfl rfl (by show (0:Int) < 5; decide) ?_)
 have hp:0 < (c % 5) + 1:=by omega
 refine (xbx _ rfl _ _ rfl rfl ⟨by decide,by decide⟩ (xcn _ rfl _ _ rfl rfl (xbg _ _ rfl rfl hp ?_)))
 have a0:0<=c / 5 % ((c % 5) + 1):=Int.emod_nonneg _ (by omega)
 have a1:c / 5 % ((c % 5) + 1) < (c % 5) + 1:=Int.emod_lt_of_pos _ hp
 refine (jAEA rfl _ rfl (xeb _ rfl (by omega) (by omega) ?_))
 refine xew (j:=0) (fun i ys H'=>H'=H/\∃ cs:List Nat,ys=(cs.map xdh).map V.str/\∀ c∈cs,c∈five) (by rfl) (jAEA rfl ([]) rfl (fun _ h=>nomatch h)) (xa7 (by omega)) ?_ ?_
 ·rintro i ys H' hi hl ⟨rfl,cs,rfl,hcs⟩
  refine (xbx _ rfl _ _ rfl rfl ⟨by decide,by decide⟩ (xcn _ rfl _ _ rfl rfl (xbg _ _ rfl rfl (by show (0:Int) < 5; decide) ?_)))
  obtain ⟨ch,hch,hat⟩:=xtp (Int.emod_nonneg (c / 25 + (0 + (i:Int))) (by decide:(5:Int)≠0)) (Int.emod_lt_of_pos _ (by decide))
  refine (xbf _ _ ch rfl rfl (by walk_at "k") hat ?_)
  exact nxt hi hl ⟨rfl,cs++[ch],by simp [xdh],fun x hx=>by
   rcases zMA hx with hx | hx
   ·exact hcs x hx
   ·rw [zMO hx]; exact hch⟩
 ·rintro ys H' hl ⟨rfl,cs,rfl,hcs⟩ D hD
  rw [zLM,zLM] at hl
  refine (xbf (S "") D (cs.map xdh) rfl rfl (SqL.of ups) ?_ ?_)
  ·rw [xky,show (S "").length=0 by walk_at "k"]
   omega
  rw [xj6]
  have sD:=Same.new hD (.lst ((cs.map xdh).map V.str))
  generalize upd H' D (.lst ((cs.map xdh).map V.str))=H1 at sD ⊢
  have hlen:(ofL cs).length=cs.length:=by rw [<- xfr,xed]
  have c4:cs.length<=4:=by omega
  refine (xa3 _ rfl _ rfl (by decide) ⟨by decide,?_⟩)
  refine xew (j:=0) (fun i ys H2=>H2=H1/\ys=((List.range i).map fun k=>ofL (nmA cs (c / 5 % (c % 5 + 1)).toNat (c / 125) k)).map V.str) (by rfl) ⟨rfl,rfl⟩ (xa7 (by decide)) ?_ ?_
  ·rintro i ys H2 hi hl2 ⟨rfl,rfl⟩
   have e0:(0 + (i:Int))=(i:Int):=by omega
   have li0:0<=(c / 125 + 5 * (0 + (i:Int))) % 26:=Int.emod_nonneg _ (by decide)
   have li1:(c / 125 + 5 * (0 + (i:Int))) % 26 < 26:=Int.emod_lt_of_pos _ (by decide)
   refine (jEA _ rfl (jEA _ rfl (xa3 _ rfl _ rfl (fits (by rw [hlen]; omega)) ?_)))
   refine (xbp _ rfl _ rfl _ _ rfl rfl (jAEA ⟨by decide,by decide⟩ _ rfl (xbg _ _ rfl rfl (.inl ⟨by decide,by decide⟩) (xay _ _ rfl rfl (xbg _ _ rfl rfl (by show (0:Int) < 26; decide) ?_)))))
   refine (xbf _ _ _ rfl rfl (by walk_at "k") (xpd li0 li1) ?_)
   rw [xqi (ofL cs) a0 (by rw [hlen]; omega)]
   refine (xbg _ _ rfl rfl ?_ ?_)
   ·refine fits ?_
    rw [show (ofL ((L (ofL cs)).take (c / 5 % (c % 5 + 1)).toNat)).length=(cs.take (c / 5 % (c % 5 + 1)).toNat).length by rw [<- xfr,xed,xed],List.length_take]
    show _ + 1<=_
    omega
   refine (jEA _ rfl (jEA _ rfl (xa3 _ rfl _ rfl (fits (by rw [hlen]; omega)) ?_)))
   rw [xnb (ofL cs) a0 (by rw [hlen]; omega),xed]
   refine (xbg _ _ rfl rfl ?_ ?_)
   ·refine fits ?_
    rw [Str.length_append,show (ofL (cs.take (c / 5 % (c % 5 + 1)).toNat)).length=(cs.take (c / 5 % (c % 5 + 1)).toNat).length by rw [<- xfr,xed],show (ofL (cs.drop (c / 5 % (c % 5 + 1)).toNat)).length=(cs.drop (c / 5 % (c % 5 + 1)).toNat).length by rw [<- xfr,xed],List.length_take,List.length_drop]
    show _ + 1 + _<=_
    omega
   rw [xo6]
   refine nxt hi hl2 ⟨rfl,?_⟩
   rw [List.range_succ,zAP,zAP,e0]
   rfl
  ·rintro ys H2 hl2 ⟨rfl,rfl⟩ D2 hD2
   have sD2:=Same.new hD2 (.lst (((List.range 26).map fun k=>ofL (nmA cs (c / 5 % (c % 5 + 1)).toNat (c / 125) k)).map V.str))
   refine (xbx _ rfl _ _ rfl rfl ⟨by decide,by decide⟩ (xcy _ _ rfl rfl (by show (0:Int) < 3; decide) rfl _ rfl (ite2 (fun cc=>?_) (fun cc=>?_))))
   ·exact (jEA _ rfl (k D2 _ _ (sD.trans sD2) (xcg sD hD2) ups (nmsA c4 hcs) (fun z hz=>⟨xtc hcs z hz,xtb hcs z hz⟩)))
   ·refine (xa3 _ rfl _ rfl (by decide) ⟨by decide,?_⟩)
    obtain ⟨H3,hH3⟩:∃ H3,H3=upd H2 D2 (.lst (((List.range 26).map fun k=>ofL (nmA cs (c / 5 % (c % 5 + 1)).toNat (c / 125) k)).map V.str)):=⟨_,rfl⟩
    have hb:H3 D2=some (.lst (((List.range 26).map fun k=>ofL (nmA cs (c / 5 % (c % 5 + 1)).toNat (c / 125) k)).map V.str)):=by rw [hH3]; exact ups
    rw [<- hH3] at sD2
    refine xew (j:=0) (fun i ys H4=>H4=H3/\ys=((List.range i).map fun k=>ofL (nmB cs (c / 5 % (c % 5 + 1)).toNat (c / 125) k)).map V.str) (by rfl) ⟨hH3.symm,rfl⟩ (xa7 (by decide)) ?_ ?_
    ·rintro i ys H4 hi hl3 ⟨rfl,rfl⟩
     have hi':i < 26:=hi
     have er:(0 + (i:Int)) % 2=((i % 2:Nat):Int):=by omega
     have es:(0 + (i:Int)) - (0 + (i:Int)) % 2=((i - i % 2:Nat):Int):=by omega
     refine (xa8 _ rfl _ rfl _ rfl _ _ rfl rfl (jAE (by show (0:Int) < 2; decide) _ (jEAA _ rfl rfl (xaw D2 _ _ (.str (ofL (nmA cs (c / 5 % (c % 5 + 1)).toNat (c / 125) (i - i % 2)))) rfl rfl (SqL.of hb) ?_ ?_))))
     ·rw [es]
      refine xbb ?_
      rw [zGM,zGM,List.getElem?_range (by omega)]
      rfl
     refine (xbx _ rfl _ _ rfl rfl (by show (0:Int) < 2; decide) (xbg _ _ rfl rfl (by omega) ?_))
     refine (xbg _ _ rfl rfl ?_ ?_)
     ·refine fits ?_
      rw [show (ofL (nmA cs (c / 5 % (c % 5 + 1)).toNat (c / 125) (i - i % 2))).length=cs.length + 1 by rw [<- xfr,xed,xg2]]
      have:(if (0 + (i:Int)) % 2=1 then S "q" else Str.empty).length<=1:=by split <;> decide +kernel
      show _ + (if (0 + (i:Int)) % 2=1 then S "q" else Str.empty).length<=_
      omega
     refine nxt hi hl3 ⟨rfl,?_⟩
     rw [List.range_succ,zAP,zAP]
     congr 1
     show [V.str _]=[V.str _]
     congr 2
     apply xp7
     rw [xex,xed,xed]
     unfold nmB
     congr 1
     rw [er]
     rcases Nat.mod_two_eq_zero_or_one i with e | e
     ·rw [e]; decide +kernel
     ·rw [e]; decide +kernel
    ·rintro ys H4 hl3 ⟨rfl,rfl⟩ D4 hD4
     have sD4:=Same.new hD4 (.lst (((List.range 26).map fun k=>ofL (nmB cs (c / 5 % (c % 5 + 1)).toNat (c / 125) k)).map V.str))
     exact k D4 _ _ (sD.trans (sD2.trans sD4)) (xcg (sD.trans sD2) hD4) ups (nmsB c4 hcs) (fun z hz=>⟨xta hcs z hz,xs9 hcs z hz⟩)
end
def xfu:Sp:=fun vs H Q _=>∃ v ks x,vs=[v,.str x]/\KsSeq H v ks/\∀ t pv H',Same H H'->H' t=some (.tup [.str (xi6 (kAt ks x)),pv])->RelD H' pv (xos (kAt ks x))->Q (.ref t) H'
def xi4 (m:Nat):Sp:=fun vs H Q _=>∃ v ks x,vs=[v,.str x]/\KsSeq H v ks/\KWf ks/\KIn ks m x/\∀ H',Same H H'->Q (.int (szF (m + 1) ks x)) H'
section
variable {P:Program} {w:World} {K:PySem.W.Frag} {mg:Str->Option Value} {base:Heap} {n m:Nat}
theorem xbq (T:Tx K mg):DefIs P w K mg base (n + 1) "_law_sort_of" qab xfu:=by
  refine DefIs.of T.dl_sort_of scl_sort_of ?_ ?_ <;> walk_at "i"
  · obtain ⟨_,_,_,rfl,_⟩:=h
    rfl
  obtain ⟨v,ks,x,rfl,⟨a,us,rfl,hau,hR⟩,q⟩:=h
  have nd:=scl_sort_of.nd
  refine ⟨_,(zpn (xc3 PassesOwn.never rfl (xwk (xc1 (pv 0)) (xb0 (pv 0))) (xck rfl (xad (xab (i:=2) nd rfl (by walk_at "o")) (xad (xab (i:=3) nd rfl (by walk_at "o")) (xad (xab (i:=4) nd rfl (by walk_at "o")) xa4))))
      (zpo (xau (pR xa1 (pv 2) (pv 1) (nM _)) (zpo (xae (xbc (pc (pv 3) (pc (pv 4) pN zsn) zsn)))) pQ)))
      (zpo (xae (xbc (pc pS (pc (xbc pN) pN sT) zso))))),?_⟩
  have hl:=hR.length
  rw [zLM] at hl
  have turn:∀ (i:Nat) (v:V),us[i]?=some v->(ks.take i).find? (fun k=>decide (k.name=x))=none->∃ k b pv,ks[i]?=some k/\v=.ref b/\H b=some (.tup [.str k.name,.str k.sort,pv])/\RelD H pv (xhd k.parts):=fun i v hv hn=>by
    obtain ⟨d,hd,rd⟩:=hR.get hv
    rw [zGM] at hd
    obtain ⟨k,hk',rfl⟩:=zMS hd
    obtain ⟨b,ws,rfl,hb,_,_,rfl,rfl,_,_,rfl,rfl,v3,_,rfl,r3,rfl⟩:=rd
    exact (xbi k b v3 hk' rfl hb r3)
  rcases hau with ha | ha
  case' inl=>
    refine .inl (xa3 _ rfl a rfl ⟨_,SqL.of ha⟩ ?_)
    refine xil (xs:=us) (fun i σ H'=>∃ o2 o3 o4,σ=[some (.ref a),some (.str x),o2,o3,o4]/\H'=H/\(ks.take i).find? (fun k=>decide (k.name=x))=none) (xeh none none none rfl rfl rfl) (fun i σ H' _ p=>by obtain ⟨_,_,_,_,rfl,_⟩:=p; exact SqL.of ha) ?_ ?_
  case' inr=>
    refine .inr (xa3 _ rfl a rfl ⟨_,SqT.of ha⟩ ?_)
    refine xde (xs:=us) (fun i σ H'=>∃ o2 o3 o4,σ=[some (.ref a),some (.str x),o2,o3,o4]/\H'=H/\(ks.take i).find? (fun k=>decide (k.name=x))=none) (xeh none none none rfl rfl rfl) (fun i σ H' _ p=>by obtain ⟨_,_,_,_,rfl,_⟩:=p; exact SqT.of ha) ?_ ?_
  all_goals first
    | (rintro i v σ H' hv ⟨o2,o3,o4,rfl,rfl,hn⟩
       obtain ⟨k,b,pv,hk',rfl,hb,r3⟩:=turn i v hv hn
       refine (xap b _ rfl (SqT.of hb) rfl _ _ rfl _ (xcn _ rfl _ _ rfl rfl ?_))
       refine (xcw _ rfl _ rfl rfl _ rfl (ite2 (fun c=>?_) (fun c=>?_)))
       · have e:k.name=x:=V.str.inj (of_decide_eq_true c)
         have e2:kAt ks x=some k:=(xc0 hn hk').1 (zDT e)
         refine (xa3 _ rfl _ rfl (by walk_at "s") (fun t ht=>?_))
         have st:=Same.new ht (.tup [.str k.sort,pv])
         rw [e2] at q
         exact q t pv _ st ups (r3.same st _)
       · have e:¬ k.name=x:=fun z=>c (zDT (congrArg V.str z))
         exact (xeh _ _ _ rfl rfl ((xc0 hn hk').2 (zDF e))))
    | (rintro σ H' ⟨o2,o3,o4,rfl,rfl,hn⟩
       rw [zTL (by omega)] at hn
       rw [show kAt ks x=none from hn] at q
       refine ⟨(by walk_at "s"),fun e he=>⟨(by walk_at "s"),fun t ht=>?_⟩⟩
       have se:=Same.new he (.tup [])
       have st:=Same.new ht (.tup [.str (S "num"),.ref e])
       exact q t (.ref e) _ (se.trans st) ups (xay e ([]) rfl (st _ _ ups) rfl))
theorem xmc (T:Tx K mg) (spc:Sp) (Dl_sort_of:DefIs P w K mg base n "_law_sort_of" qab xfu) (Dl_size:DefIs P w K mg base n "_law_size" qab spc) (hspc:∀ j,m=j + 1->spc=xi4 j) (hm:m<=6) :
  DefIs P w K mg base (n + 1) "_law_size" qab (xi4 m):=by
 refine DefIs.of T.dl_size scl_size ?_ ?_ <;> walk_at "i"
 ·obtain ⟨_,_,_,rfl,_⟩:=h
  rfl
 obtain ⟨v,ks,x,rfl,hk,wf,hin,q⟩:=h
 have nd:=scl_size.nd
 refine ⟨_,(zpn (xd9 (pd Dl_sort_of hr (pc (pv 0) (pc (pv 1) pN zsn) zsn)) (xck rfl (xad (xab (i:=2) nd rfl (by walk_at "o")) (xad (xab (i:=3) nd rfl (by walk_at "o")) xa4))))
   (zpn (xcq (i:=4) qai [none,none,some 0] rfl (by kernel_rfl) nd rfl (by walk_at "o") (xb0 (pv 3)) (fun _ _ _ _=>(xd2 (K:=K) (n:=2) rfl rfl (xad (xab (i:=0) (by show List.Nodup (qai:List Str); decide +kernel) rfl (Or.inl rfl)) (xad (xab (i:=1) (by show List.Nodup (qai:List Str); decide +kernel) rfl (Or.inl rfl)) xa4)))) (fun _ _ _ _=>xby) (fun _ _ _ _=>(pd Dl_size hr (pc (pv 2) (pc (pv 1) pN zsn) zsn))))
   (zpn (xau (pR xa1 (pv 2) pS (nM _)) (zpo (xae (xag xa9 pI (xao (xki rfl) rfl T.z_max PyProof.Rows.boot_max (pc (pv 4) pN zsn))))) pQ)
   (zpo (xae (xag xa9 pI (xao (xkh rfl) rfl T.z_sum PyProof.Rows.boot_sum (pc (pv 4) pN zsn)))))))),?_⟩
 refine (xbt _ rfl _ rfl v ks x rfl hk (fun t pv H1 s1 ht rp=>?_))
 refine (xap t _ rfl (SqT.of ht) rfl _ _ rfl _ (jEAA _ rfl rfl ?_))
 have key:∃ ps:List (Str×Str),xos (kAt ks x)=xhd ps/\ps.length<=5/\(∀ p∈ps,∃ j,m=j + 1/\KIn ks j p.2)/\(xi6 (kAt ks x)=S "alt"->ps≠[]/\szF (m + 1) ks x=1 + maxD (ps.map fun p=>szF m ks p.2)) ∧
   (xi6 (kAt ks x)≠S "alt"->szF (m + 1) ks x=1 + (ps.map fun p=>szF m ks p.2).sum):=by
  cases hx:kAt ks x with
  | none=>
   refine (xdd ([]) rfl (by decide) (fun _ h=>nomatch h) (fun h=>absurd h (by walk_at "k")) (fun _=>?_))
   unfold szF
   rw [hx]
   rfl
  | some k=>
   have hmem:k∈ks:=zMF hx
   have hname:k.name=x:=by
    have:=List.find?_some hx
    simpa using this
   refine (xdd k.parts rfl (wf.pts k hmem) (fun p hp=>?_) (fun h=>?_) (fun h=>?_))
   ·rcases hin with rfl | ⟨j,k',hj,hk',e⟩
    ·exact absurd hname (xg3 (wf.nm k hmem))
    ·have e2:kAt ks k'.name=some k':=wf.at hk'
     rw [e,hx] at e2
     cases e2
     refine (jEA (m - 1) (by omega) ?_)
     rcases wf.ref j k hk' p hp with z | ⟨i,k2,hi,z⟩
     ·exact .inl z
     ·exact .inr (jEEA i k2 (by omega) z)
   ·have hrc:k.rc=false:=by
     cases hc:k.rc with
     | false=>rfl
     | true=>
      have:k.sort=S "alt":=h
      unfold Kn.sort at this
      rw [hc,if_pos rfl] at this
      exact absurd this (by walk_at "k")
    refine ⟨wf.alt k hmem hrc,?_⟩
    conv=>lhs; unfold szF
    rw [hx]
    show 1 + (if k.rc=true then _ else _)=_
    rw [if_neg (by rw [hrc]; decide)]
   ·have hrc:k.rc=true:=by
     cases hc:k.rc with
     | true=>rfl
     | false=>
      refine absurd ?_ h
      show k.sort=S "alt"
      unfold Kn.sort
      rw [hc,if_neg (by decide)]
    conv=>lhs; unfold szF
    rw [hx]
    show 1 + (if k.rc=true then _ else _)=_
    rw [if_pos hrc]
 obtain ⟨ps,eps,h5,hpin,halt,hrec⟩:=key
 rw [eps] at rp
 obtain ⟨e,us,rfl,he,hus⟩:=rp
 have hl:=hus.length
 rw [zLM] at hl
 refine (xa3 _ rfl e rfl ⟨_,SqT.of he⟩ ?_)
 refine xco (xs:=us) (fun i ys H'=>Same H1 H'/\ys=((ps.take i).map fun p=>szF m ks p.2).map V.int) ⟨Same.refl _,rfl⟩ (xa7 (by omega)) (fun i ys H' _ p=>SqT.of (p.1 _ _ he)) ?_ ?_
 ·rintro i z ys H' hz hi hly ⟨sm,rfl⟩
  obtain ⟨d,hd,rd⟩:=hus.get hz
  rw [zGM] at hd
  obtain ⟨p,hp,rfl⟩:=zMS hd
  obtain ⟨b,ws,rfl,hb,_,_,rfl,rfl,_,_,rfl,rfl,rfl⟩:=rd
  obtain ⟨j,rfl,hj⟩:=hpin p (zMG hp)
  have D':=hspc j rfl
  subst D'
  refine (xap b _ rfl (SqT.of (sm _ _ hb)) rfl _ _ rfl _ (xeb _ rfl rfl (ext2 rfl rfl) (xgn ?_)))
  refine (xax _ rfl _ rfl _ ks p.2 rfl (hk.same (s1.trans sm)) wf ⟨hj,fun H2 s2=>nxtG hi hly ⟨sm.trans s2,?_⟩⟩)
  rw [zTA,hp]
  simp
 ·rintro ys H' hly ⟨sm,rfl⟩ D hD
  rw [zTL (by omega)]
  have sD:=Same.new hD (.lst ((ps.map fun p=>szF m ks p.2).map V.int))
  have sAll:=s1.trans (sm.trans sD)
  have hb:∀ n∈ps.map (fun p=>szF m ks p.2),0<=n/\n<=1000000:=fun n hn=>by
   obtain ⟨p,_,rfl⟩:=zMP hn
   have h1:=xgr wf.pts m p.2
   have h2:(6:Int) ^ m<=6 ^ 6:=by
    rcases (show m=0\/m=1\/m=2\/m=3\/m=4\/m=5\/m=6 by omega) with h | h | h | h | h | h | h <;> subst h <;> decide
   have h3:(6:Int) ^ 6=46656:=by decide
   omega
  refine (xai _ rfl rfl _ rfl (ite2 (fun c=>?_) (fun c=>?_)))
  ·obtain ⟨hne,ez⟩:=halt (V.str.inj (of_decide_eq_true c))
   refine (xbx _ rfl D _ rfl (SqL.of ups) (fun z=>hne (List.map_eq_nil_iff.mp z)) (fun mx h1 h2=>(xay _ _ rfl rfl ?_)))
   have:=q _ sAll
   rw [ez,<- xtf (fun z=>hne (List.map_eq_nil_iff.mp z)) (fun n hn=>(hb n hn).1) h1 h2] at this
   exact this
  ·have ez:=hrec (fun z=>c (zDT (congrArg V.str z)))
   refine (xbx _ rfl D _ rfl (SqL.of ups) hb (jAE (by rw [zLM]; omega) _ (jEAA _ rfl rfl ?_)))
   have:=q _ sAll
   rw [ez] at this
   exact this
theorem xoj (T:Tx K mg):∀ m,m<=6->DefIs P w K mg base (m + 2) "_law_size" qab (xi4 m)
 | 0,h=>xmc (n:=1) T (fun _ _ _ _=>False) (xbq T) (DefIs.none T.dl_size fun _ _ _ _ h=>h) (fun j e=>by cases e) h
 | m + 1,h=>xmc (n:=m + 2) T (xi4 m) (xbq T) (xoj T m (by omega)) (fun j e=>by cases e; rfl) h
end
def xk2:Sp:=fun vs H Q _=>∃ (f l nb:Addr) (srt:Str) (p q:Int) (ws:List V) (ks:List Kn) (n4:List Str),vs=[.ref f,.ref l,.str srt,.ref nb]/\H f=some (.lst [.int p,.int q])/\H l=some (.lst ws)/\RelDs H ws (ks.map Kn.d)/\KWf ks ∧
 H nb=some (.lst (n4.map V.str))/\n4.length=4/\(srt=S "rec"\/srt=S "alt")/\l≠f/\nb≠f ∧
 ∀ v ps (H':Hp),Fed f H H'->RelD H' v (xhd ps)->ps.length<=4->ps.map (·.1)=n4.take ps.length->(srt=S "alt"->ps≠[])->(∀ p∈ps,KIn ks ks.length p.2)->(ps.map fun p=>sz ks p.2).sum<=29->Q v H'
theorem xvn {D:Ends} {σ:St} {H:Hp} {c:Bool} {B:Prop} {i:Nat} {v x:V} (σk:V->St) (h1:σ.set i (some v)=σk v) (h2:σ=σk x) (hB:D.nx σ H->B) (h:∀ y,(y=v\/(y=x/\c=false))->D.nx (σk y) H):if c=true then tAsg (tC v) (xka i) D σ H else B:=by
 cases c with
 | false=>exact hB (by rw [h2]; exact h x (.inr ⟨rfl,rfl⟩))
 | true=>
  show D.nx (σ.set i (some v)) H
  rw [h1]
  exact h v (.inl rfl)
theorem and2 {tb:TE} {σ:St} {H:Hp} {Q:VK} {c cA:Bool} (hA:Q (.bl cA) H->tb σ H Q) (h:∀ b:Bool,(b=true->cA=true)->Q (.bl b) H):if c=true then tb σ H Q else Q (.bl false) H:=by
 cases c with
 | false=>exact h false (fun e=>by cases e)
 | true=>exact hA (h cA id)
theorem xmm:∀ {ns:List Int},(∀ n∈ns,0<=n)->maxD ns<=ns.sum/\0<=ns.sum
 | [],_=>⟨Int.le_refl _,Int.le_refl _⟩
 | n :: ns,h=>by
  have h1:=h n (by simp)
  have h2:=xmm (ns:=ns) fun m hm=>h m (by simp [hm])
  rw [List.sum_cons]
  show max n (maxD ns)<=_/\_
  omega
theorem xra {ks:List Kn} (wf:KWf ks) {x:Str} {b:Bool} {ps:List (Str×Str)} (h:(ps.map fun p=>sz ks p.2).sum<=29):inSz (Kn.mk x b ps) (sz ks)<=29:=by
 have:=xmm (ns:=ps.map fun p=>sz ks p.2) fun n hn=>by
  obtain ⟨p,_,rfl⟩:=zMP hn
  have:=xwd wf p.2
  omega
 unfold inSz
 show (if b=true then (ps.map fun p=>sz ks p.2).sum else maxD (ps.map fun p=>sz ks p.2))<=29
 split <;> omega
section
variable {P:Program} {w:World} {K:PySem.W.Frag} {mg:Str->Option Value} {base:Heap} {n m:Nat}
theorem xou (T:Tx K mg) (Dl_take:DefIs P w K mg base n "_law_take" qae xda) (Dl_size:DefIs P w K mg base n "_law_size" qab (xi4 6)):DefIs P w K mg base (n + 1) "_law_parts" qau xk2:=by
  refine DefIs.of T.dl_parts scl_parts ?_ ?_ <;> walk_at "i"
  · obtain ⟨_,_,_,_,_,_,_,_,_,rfl,_⟩:=h
    rfl
  obtain ⟨f',l,nb,srt,p,q,ws,ks,n4,rfl,hf,hl,hws,wf,hnb,h4,hs,lf,nf,k⟩:=h
  have nd:=scl_parts.nd
  refine ⟨_,(zpn (xaf (i:=4) nd rfl (by walk_at "o") (xb9 pN))
      (zpn (xaf (i:=5) nd rfl (by walk_at "o") pI)
      (zpn (xc3 PassesOwn.never rfl (xdq rfl T.z_range (pc (xag xa9 (xag xa9 (pd Dl_take hr (pc (pv 0) (pc pI pN zso) zsn)) (xa6 xhf rfl T.z_int PyProof.Rows.boot_int (pc (xib xa1 (pv 2) pS (nM _)) pN xl8))) (xa6 xhf rfl T.z_int PyProof.Rows.boot_int (pc (xu0 (xib xa1 (pd Dl_take hr (pc (pv 0) (pc pI pN zso) zsn)) pI (nM _)) (xux (xib xa1 (pv 2) pS (nM _)))) pN xn9))) pN xaq)) (xab (i:=6) nd rfl (by walk_at "o"))
      (zpn (xaf (i:=7) nd rfl (by walk_at "o") (xak iL (xag xjf (xb9 (pc pS pN zso)) (xbv ["_law_row"] [none] rfl (by kernel_rfl) (xc1 (pv 1)) (fun _ _ _ _=>(xab (i:=0) (by show List.Nodup (["_law_row"]:List Str); decide +kernel) rfl (Or.inl rfl))) (fun _ _ _ _=>xby) (fun _ _ _ _=>(xak (xd6 (K:=K) rfl) (pv 0) pI (fun _ _=>rfl))))) (pd Dl_take hr (pc (pv 0) (pc (xag xa9 pI (xao xah rfl T.z_len PySem.boot_len (pc (pv 1) pN zsn))) pN xaq) zsn)) (fun _ _=>rfl)))
      (zpn (xau (pR xla (pd Dl_size hr (pc (pv 1) (pc (pv 7) pN zsn) zsn)) (pv 5) (nM _)) (zpo (xaf (i:=7) nd rfl (by walk_at "o") pS)) pQ)
      (zpn (xaf (i:=5) nd rfl (by walk_at "o") (xag xbs (pv 5) (pd Dl_size hr (pc (pv 1) (pc (pv 7) pN zsn) zsn))))
      (zpo (xbe (xhi PySem.F.plainAttrs_list PySem.F.slot_list_append PySem.F.type_list_append xdt (pv 4) (pc (xbc (pc (xak iL (pv 3) (pv 6) (fun _ _=>rfl)) (pc (pv 7) pN zsn) zss)) pN sT))))))))
      (zpo (xae (xa6 xb5 rfl T.z_tuple PyProof.Rows.boot_tuple (pc (xdi xk5 (pv 4) xe7 (xd1 pI)) pN zss))))))),?_⟩
  refine ⟨(by walk_at "s"),fun pl hpl=>?_⟩
  have s0:=Same.new hpl (.lst [])
  have plf:pl≠f':=Ne.symm (neN hf hpl)
  have hfew:=wf.few
  have hwl:=hws.length
  rw [zLM] at hwl
  refine (xaa _ rfl f' p q 4 rfl (s0 _ _ hf) (by decide) (by decide) (fun r1 H1 r10 r11 f1=>?_))
  obtain ⟨p1,q1,h1⟩:=f1.2
  have F1:Fed f' H H1:=⟨s0.but.trans f1.1,f1.2⟩
  have hp1:H1 pl=some (.lst []):=f1.1 _ _ ups plf
  have hAB:∃ cA cB:Bool,decide (V.str srt=V.str (S "rec"))=cA/\decide (V.str srt=V.str (S "alt"))=cB/\0<=(if cA=true then (1:Int) else 0)/\0<=(if cB=true then (1:Int) else 0)/\(if cA=true then (1:Int) else 0) + (if cB=true then (1:Int) else 0)<=1/\(srt=S "alt"->(if cB=true then (1:Int) else 0)=1):=by
    rcases hs with rfl | rfl
    · exact (xb3 true false (by walk_at "k") (by walk_at "k") (by decide) (by decide) (by decide) (fun e=>absurd e (by walk_at "k")))
    · exact (xb3 false true (by walk_at "k") (by walk_at "k") (by decide) (by decide) (by decide) (fun _=>rfl))
  obtain ⟨cA,cB,eA,eB,hb0,hb1,hb2,hbA⟩:=hAB
  refine (jEAA _ rfl rfl (.inr (xcn cB (congrArg (fun b=>[V.bl b]) eB) r1 (if cB=true then 1 else 0) rfl rfl ?_)))
  refine (xaa _ rfl f' p1 q1 9 rfl h1 (by decide) (by decide) (fun r2 H2 r20 r21 f2=>(jAEA rfl _ rfl (and2 (cA:=decide (V.str srt=V.str (S "rec"))) (fun z=>(jEAA _ rfl rfl z)) (fun b hb=>?_)))))
  rw [eA] at hb
  have hbb:0<=(if b=true then (1:Int) else 0)/\(if b=true then (1:Int) else 0)<=(if cA=true then (1:Int) else 0):=by
    cases b with
    | false=>exact ⟨Int.le_refl _,hb0⟩
    | true=>rw [hb rfl]; exact ⟨by decide,by decide⟩
  refine .inr (xbo b rfl _ (if b=true then 1 else 0) rfl rfl _ rfl (jAA (by omega) (by omega) ?_))
  all_goals
      have F2:Fed f' H H2:=F1.trans f2
      have hp2:H2 pl=some (.lst []):=f2.1 _ _ hp1 plf
      refine xkc (fun i σ H'=>∃ us,∃ ps:List (Str×Str),∃ left o6 o7,σ=[some (.ref f'),some (.ref l),some (.str _),some (.ref nb),some (.ref pl),some (.int left),o6,o7]/\Fed f' H H'/\H' pl=some (.lst us)/\RelDs H' us (ps.map xiq)/\ps.length=i/\ps.map (·.1)=n4.take i/\(∀ p∈ps,KIn ks ks.length p.2)/\(ps.map fun p=>sz ks p.2).sum + left=25/\-(i:Int)<=left)
        (xat ([]) ([]) 25 none none rfl F2 hp2 rfl rfl (jAAA rfl (fun _ h=>nomatch h) rfl (by decide))) ?_ ?_
      · rintro i σ H3 hi ⟨us,ps,left,o6,o7,rfl,F,hpu,hus,hpl',hpn,hin,hsum,hleft⟩
        have hi4:i < 4:=by omega
        obtain ⟨p3,q3,h3⟩:=F.2
        have hl3:=F.1 l _ hl lf
        have hn3:=F.1 nb _ hnb nf
        have hws3:=hws.tups (xaj (jEE p q hf) F) _
        refine ⟨(by walk_at "s"),fun l1 hl1=>?_⟩
        have s1:=Same.new hl1 (.lst [.str (S "num")])
        refine (xa3 _ rfl l rfl ⟨_,SqL.of (s1 _ _ hl3)⟩ ?_)
        refine xp0 (j:=0) (xs:=ws) (fun i ys H'=>H'=upd H3 l1 (.lst [.str (S "num")])/\ys=((ks.take i).map Kn.name).map V.str) (by rfl) ⟨rfl,rfl⟩ (xa7 (by omega)) (fun i ys H' _ p=>by obtain ⟨rfl,_⟩:=p; exact SqL.of (s1 _ _ hl3)) ?_ ?_
        · rintro i' x ys H' hx hly ⟨rfl,rfl⟩
          obtain ⟨d,hd,rd⟩:=(hws3.same s1 _).get hx
          rw [zGM] at hd
          obtain ⟨k',hk',rfl⟩:=zMS hd
          obtain ⟨b,vs',rfl,hb,_,_,rfl,rfl,_,_,rfl,rfl,v3,_,rfl,r3,rfl⟩:=rd
          have hi':i' < ws.length:=(zES hx).1
          refine (xaa _ rfl b _ _ _ rfl rfl (SqT.of hb) rfl (nxt hi' hly ⟨rfl,?_⟩))
          rw [zTA,hk']
          simp
        rintro ys H' hly ⟨rfl,rfl⟩ D2 hD2
        rw [zTL (by omega)]
        have s2:=Same.new hD2 (.lst ((ks.map Kn.name).map V.str))
        refine (xa5 l1 D2 _ _ rfl rfl (s2 _ _ ups) ups (fits (by rw [zLM,zLM]; show 1 + _<=_; omega)) (fun l3 hl3'=>?_))
        have s3:=Same.new hl3' (.lst ([.str (S "num")]++(ks.map Kn.name).map V.str))
        have s13:=s1.trans (s2.trans s3)
        have l3f:l3≠f':=Ne.symm (neN (s2 _ _ (s1 _ _ h3)) hl3')
        refine (xdx _ rfl _ rfl l _ rfl (.inl (SqL.of (s13 _ _ hl3))) _ (jEAA _ rfl rfl ?_))
        refine (xaw f' p3 q3 _ rfl (s13 _ _ h3) (by omega) (by omega) (fun r H4 r0 r1' f4=>?_))
        rw [hwl] at r1'
        obtain ⟨x,hx,hxin⟩:=xml r0 r1'
        have hl34:H4 l3=some (.lst ([.str (S "num")]++(ks.map Kn.name).map V.str)):=f4.1 _ _ ups l3f
        refine (xaw l3 _ _ _ rfl rfl (SqL.of hl34) hx ?_)
        have F4:Fed f' H H4:=(F.same s13).trans f4
        have hpu4:=f4.1 _ _ (s13 _ _ hpu) plf
        have hus4:=(hus.same s13 _).tups (xaj (jEE p3 q3 (s13 _ _ h3)) f4) _
        have hl4:=F4.1 l _ hl lf
        have hn4:=F4.1 nb _ hnb nf
        have hws4:=hws.tups (xaj (jEE p q hf) F4) _
        have seq4:KsSeq H4 (.ref l) ks:=(xay l ws rfl (.inl hl4) hws4)
        refine (xax _ rfl _ rfl _ ks x rfl seq4 wf ⟨hxin.mono hfew,fun H5 s5=>(xbo _ rfl _ _ rfl rfl _ rfl (xvn (x:=.str x) (fun y=>[some (.ref f'),some (.ref l),some (.str srt),some (.ref nb),some (.ref pl),some (.int left),some (.int (0 + (i:Int))),some y]) rfl rfl id (fun y hy=>?_)))⟩)
        obtain ⟨kd,rfl,hx',hkl⟩:∃ kd,y=.str kd/\KIn ks ks.length kd/\-((i:Int) + 1)<=left - sz ks kd:=by
          rcases hy with rfl | ⟨rfl,hcf⟩
          · exact ⟨S "num", rfl, .inl rfl, by have h1 : sz ks (S "num") = 1 := xuh wf
                                              omega⟩
          · refine (jEAA _ rfl hxin ?_)
            have h0:¬ left < sz ks x:=of_decide_eq_false hcf
            omega
        · refine (xa2 _ rfl _ rfl _ rfl _ ks (xdd kd rfl (seq4.same s5) wf (hx'.mono hfew) (fun H6 s6=>(xay _ _ rfl rfl ?_))))
          have s56:=s5.trans s6
          have hpu6:=s56 _ _ hpu4
          have hi4':i < n4.length:=by omega
          refine (xai _ rfl (.inl (jAE rfl _ (SqL.of hpu6))) _ rfl (xaa _ rfl nb _ _ _ rfl rfl (SqL.of (s56 _ _ hn4)) (xl6 hi4') (jEAA _ rfl (by walk_at "s") (fun t ht=>?_))))
          have s47:∀ o,Same H4 (upd H6 t o):=fun o=>s56.trans (Same.new ht o)
          have hul:=hus.length
          rw [zLM] at hul
          refine (xbf pl us _ rfl rfl (s47 _ _ _ hpu4) (xa7 (by omega)) ?_)
          refine (xat _ (ps++[(n4[i],kd)]) _ _ _ rfl (Fed.put (F4.same (s47 _)) hpl plf _) ups ?_ (by rw [zLA,List.length_singleton,hpl']) (jAAA ?_ (fun z hz=>?_) ?_ (by push_cast; exact hkl)))
          · rw [zAP]
            refine RelDs.append ((hus4.same (s47 _) _).tups (xbj (s47 _ _ _ hpu4) _) _) ?_
            exact (xay _ ([]) rfl (xan t _ rfl (xbj (s47 _ _ _ hpu4) _ _ _ ups) _ _ rfl rfl _ (jEAA _ rfl rfl rfl)) rfl)
          · rw [zAP,hpn,zTA,zGA hi4']
            rfl
          · rcases zMA hz with hz | hz
            · exact hin z hz
            · rw [zMO hz]; exact hx'
          · show ((ps++[(n4[i],kd)]).map fun p=>sz ks p.2).sum + (left - sz ks kd)=25
            rw [zAP,List.sum_append]
            simp only [List.map_cons,List.map_nil,List.sum_cons,List.sum_nil]
            omega
      · rintro σ H3 ⟨us,ps,left,o6,o7,rfl,F,hpu,hus,hpl',hpn,hin,hsum,hleft⟩
        have hul:=hus.length
        rw [zLM] at hul
        refine (xbp _ rfl _ rfl pl us rfl (SqL.of hpu) (fun c2 hc2=>?_))
        have ecut:cutV us none (some 4)=us:=by
          unfold cutV
          rw [show HT.sIx us.length 0 none=0 from rfl,List.drop_zero,Nat.sub_zero]
          refine zTL ?_
          unfold HT.sIx
          simp
          omega
        have s1:=Same.new hc2 (.lst (cutV us none (some 4)))
        refine (jEEA c2 _ rfl (.inl ⟨SqL.of ups,fun t ht=>?_⟩))
        have s2:=Same.new ht (.tup (cutV us none (some 4)))
        refine k _ ps _ (F.same (s1.trans s2)) (xay t us rfl (by rw [ecut]; exact ups) (hus.same (s1.trans s2) _)) (by omega) (by rw [hpl']; exact hpn) ?_ hin (by omega)
        intro ha e
        have h9:=hbA ha
        rw [e] at hpl'
        simp only [List.length_nil] at hpl'
        omega
def xod:Sp:=fun vs H Q _=>∃ (f nb:Addr) (p q:Int) (nms:List Str),vs=[.ref f,.ref nb]/\H f=some (.lst [.int p,.int q])/\H nb=some (.lst (nms.map V.str))/\xl1 nms/\nb≠f/\∀ v ks (H':Hp),Fed f H H'->RelD H' v (xfm ks)->xvw nms ks->Fit ks->Q v H'
theorem xox (T:Tx K mg) (Dl_take:DefIs P w K mg base n "_law_take" qae xda) (Dl_parts:DefIs P w K mg base n "_law_parts" qau xk2):DefIs P w K mg base (n + 1) "_law_kinds" qa2 xod:=by
 refine DefIs.of T.dl_kinds scl_kinds ?_ ?_ <;> walk_at "i"
 ·obtain ⟨_,_,_,_,_,rfl,_⟩:=h
  rfl
 obtain ⟨f',nb,p,q,nms,rfl,hf,hnb,hok,nf,k⟩:=h
 have nd:=scl_kinds.nd
 refine ⟨_,(zpn (xaf (i:=2) nd rfl (by walk_at "o") (xb9 pN))
   (zpn (xc3 PassesOwn.never rfl (xdq rfl T.z_range (pc (pd Dl_take hr (pc (pv 0) (pc pI pN zso) zsn)) pN zsc)) (xab (i:=3) nd rfl (by walk_at "o"))
   (zpn (xaf (i:=4) nd rfl (by walk_at "o") (xak iL (xb9 (pc pS (pc pS pN zso) zso)) (pd Dl_take hr (pc (pv 0) (pc pI pN zso) zsn)) (fun _ _=>rfl)))
   (zpo (xbe (xhi PySem.F.plainAttrs_list PySem.F.slot_list_append PySem.F.type_list_append xdt (pv 2) (pc (xbc (pc (xak iL (pv 1) (pv 3) (fun _ _=>rfl)) (pc (pv 4) (pc (pd Dl_parts hr (pc (pv 0) (pc (pv 2) (pc (pv 4) (pc (xdi xk5 (pv 1) (xd1 pI) (xd1 pI)) pN zss) zsn) zsn) zsn)) pN zsc) zsn) zss)) pN sT))))))
   (zpo (xae (xa6 xb5 rfl T.z_tuple PyProof.Rows.boot_tuple (pc (pv 2) pN zsn)))))),?_⟩
 refine ⟨(by walk_at "s"),fun l hl=>?_⟩
 have s0:=Same.new hl (.lst [])
 have lf:l≠f':=Ne.symm (neN hf hl)
 have hlen:=hok.1
 refine (xaa _ rfl f' p q 5 rfl (s0 _ _ hf) (by decide) (by decide) (fun r1 H1 r10 r11 f1=>(xeb _ rfl (by omega) (by omega) ?_)))
 have F1:Fed f' H H1:=⟨s0.but.trans f1.1,f1.2⟩
 have hp1:H1 l=some (.lst []):=f1.1 _ _ ups lf
 refine xkc (fun i σ H'=>∃ us,∃ ks:List Kn,∃ o3 o4,σ=[some (.ref f'),some (.ref nb),some (.ref l),o3,o4]/\Fed f' H H'/\H' l=some (.lst us)/\RelDs H' us (ks.map Kn.d)/\ks.length=i/\Fit ks/\xvw nms ks)
  (xbh ([]) ([]) none none rfl F1 hp1 rfl rfl Fit.nil (jAAA KWf.nil (Nat.zero_le _) rfl (fun _ h=>nomatch h))) ?_ ?_
 ·rintro i σ H2 hi ⟨us,ks,o3,o4,rfl,F,hlu,hus,hki,hfit,wf,hk4,hkn,hkp⟩
  have hi4:i < 4:=by omega
  have hul:=hus.length
  rw [zLM] at hul
  obtain ⟨p2,q2,h2⟩:=F.2
  refine ⟨(by walk_at "s"),fun l1 hl1=>?_⟩
  have s1:=Same.new hl1 (.lst [.str (S "rec"),.str (S "alt")])
  have l1f:l1≠f':=Ne.symm (neN h2 hl1)
  refine (xaa _ rfl f' p2 q2 2 rfl (s1 _ _ h2) (by decide) (by decide) (fun r H3 r0 r1' f3=>?_))
  have key:∃ srt:Str,atI [V.str (S "rec"),V.str (S "alt")] r=some (.str srt)/\(srt=S "rec"\/srt=S "alt"):=by
   rcases (show r=0\/r=1 by omega) with rfl | rfl
   ·exact (jEA (S "rec") rfl (.inl rfl))
   ·exact (jEA (S "alt") rfl (.inr rfl))
  obtain ⟨srt,hat,hsrt⟩:=key
  refine (xaw l1 _ _ _ rfl rfl (SqL.of (f3.1 _ _ ups l1f)) hat ?_)
  have F3:Fed f' H H3:=(F.same s1).trans f3
  obtain ⟨p3,q3,h3⟩:=f3.2
  have hlu3:=f3.1 _ _ (s1 _ _ hlu) lf
  have hus3:=(hus.same s1 _).tups (xaj (jEE p2 q2 (s1 _ _ h2)) f3) _
  have hn3:=F3.1 nb _ hnb nf
  have hin:i < nms.length:=by omega
  refine (xai _ rfl (.inl (jAE rfl _ (SqL.of hlu3))) _ rfl (xaa _ rfl nb _ _ _ rfl rfl (SqL.of hn3) (xl6 hin) (jEA _ rfl ?_)))
  refine (xam _ rfl _ rfl _ rfl _ rfl _ rfl (xcn _ rfl nb _ rfl (SqL.of hn3) (fun c hc=>?_)))
  rw [xvv hlen]
  have sc:=Same.new hc (.lst (((nms.drop 8).take 4).map V.str))
  have cf:c≠f':=Ne.symm (neN h3 hc)
  refine (xas f' l c srt p3 (xbh q3 us ks ((nms.drop 8).take 4) rfl (sc _ _ h3) (sc _ _ hlu3) (hus3.same sc _) wf ups (xq9 (by rw [List.length_take,List.length_drop,hlen]; rfl) hsrt lf cf (fun v ps H4 f4 rv h4 hpn halt hpin hsum=>?_))))
  have F4:Fed f' H H4:=(F3.same sc).trans f4
  have hlu4:=f4.1 _ _ (sc _ _ hlu3) lf
  have hus4:=(hus3.same sc _).tups (xaj (jEE p3 q3 (sc _ _ h3)) f4) _
  refine ⟨(by walk_at "s"),fun t ht=>?_⟩
  have s5:∀ o,Same H4 (upd H4 t o):=fun o=>Same.new ht o
  refine (xbf l us _ rfl rfl (s5 _ _ _ hlu4) (xa7 (by omega)) ?_)
  have hP4:=xwn hok ps.length
  have hsort:(Kn.mk nms[i] (decide (srt=S "rec")) ps).sort=srt:=by
   unfold Kn.sort
   rcases hsrt with rfl | rfl
   ·rfl
   ·show (if decide (S "alt"=S "rec")=true then _ else _)=_
    rw [if_neg (by walk_at "k")]
  have hname:ks.map Kn.name=nms.take i:=by rw [hkn,hki]
  have w2:KWf (ks++[Kn.mk nms[i] (decide (srt=S "rec")) ps]):=by
   refine wf.snoc ?_ (hok.2.2 _ (List.getElem_mem hin)) hpin ?_ (by omega) (by show ps.length<=5; omega) (by show (ps.map (·.1)).Nodup; rw [hpn]; exact hP4.1) (fun z hz=>hP4.2 z.1 (by rw [<- hpn]; exact List.mem_map_of_mem hz))
   ·show nms[i] ∉ ks.map Kn.name
    rw [hname]
    exact xo3 hok.2.1 hin
   ·intro hrc
    refine halt ?_
    rcases hsrt with e | e
    ·exact absurd hrc (by show ¬ decide (srt=S "rec")=false; rw [e]; decide +kernel)
    ·exact e
  refine (xbh _ (ks++[Kn.mk nms[i] (decide (srt=S "rec")) ps]) _ _ rfl (Fed.put (F4.same (s5 _)) hl lf _) ups ?_ (by rw [zLA,List.length_singleton,hki]) (hfit.snoc wf w2 hpin (xra wf hsum)) ?_)
  ·rw [zAP]
   refine RelDs.append ((hus4.same (s5 _) _).tups (xbj (s5 _ _ _ hlu4) _) _) ?_
   refine (xay _ ([]) rfl (xan t _ rfl (xbj (s5 _ _ _ hlu4) _ _ _ ups) _ _ rfl rfl _ (xbk _ rfl ?_ _ _ rfl ((rv.same (s5 _) _).tups (xbj (s5 _ _ _ hlu4) _) _) rfl)) rfl)
   show V.str srt=V.str _
   rw [hsort]
  ·refine (jAAA w2 (by rw [zLA,List.length_singleton]; omega) ?_ ?_)
   ·rw [zAP,hname,zLA,List.length_singleton,hki,zTA,zGA hin]
    rfl
   ·intro z hz
    rcases zMA hz with hz | hz
    ·exact hkp z hz
    ·rw [zMO hz]
     exact ⟨h4,hpn⟩
 ·rintro σ H2 ⟨us,ks,o3,o4,rfl,F,hlu,hus,hki,hfit,hK⟩
  refine (jEA _ rfl (jEEA l us rfl (.inl ⟨SqL.of hlu,fun t ht=>?_⟩)))
  have s1:=Same.new ht (.tup us)
  exact k _ ks _ (F.same s1) (xay t us rfl ups (hus.same s1 _)) hK hfit
end
def xoc:Sp:=fun vs H Q _=>∃ (a:Addr) (p q:Int),vs=[.ref a]/\H a=some (.lst [.int p,.int q])/\∀ (i:Int) (H':Hp),Nm i->Fed a H H'->Q (.int i) H'
section
variable {P:Program} {w:World} {K:PySem.W.Frag} {mg:Str->Option Value} {base:Heap} {n m:Nat}
theorem xfw (T:Tx K mg) (Dl_take:DefIs P w K mg base n "_law_take" qae xda):DefIs P w K mg base (n + 1) "_law_number" qat xoc:=by
 refine DefIs.of T.dl_number scl_number ?_ ?_ <;> walk_at "i"
 ·obtain ⟨a,p,q,rfl,_⟩:=h
  rfl
 obtain ⟨a,p,q,rfl,ha,k⟩:=h
 have nd:=scl_number.nd
 have e2:(2:Int) ^ (32:Int).toNat=4294967296:=by decide
 refine ⟨_,(zpn (xaf (i:=1) nd rfl (by walk_at "o") (pd Dl_take hr (pc (pv 0) (pc pI pN zso) zsn)))
   (zpn (xau (pR xfh (pv 1) pI (nM _)) (zpo (xae (pd Dl_take hr (pc (pv 0) (pc pI pN zso) zsn)))) pQ)
   (zpn (xau (pR xa1 (pv 1) pI (nM _)) (zpo (xae (xag xbs (xag xbs (xag xr3 pI pI) pI) (pd Dl_take hr (pc (pv 0) (pc pI pN zso) zsn))))) pQ)
   (zpo (xae (pd Dl_take hr (pc (pv 0) (pc (xag xr3 pI pI) pN xaq) zsn))))))),?_⟩
 refine (xaa _ rfl a p q 4 rfl ha (by decide) (by decide) (fun r1 H1 r10 r11 f1=>?_))
 obtain ⟨p1,q1,h1⟩:=f1.2
 refine (xbo _ rfl _ _ rfl rfl _ rfl ?_)
 refine ite2 (fun c=>?_) (fun c=>?_)
 ·exact (xaa _ rfl a p1 q1 6 rfl h1 (by decide) (by decide) (fun r2 H2 r20 r21 f2=>k _ _ ⟨r20,by omega⟩ (f1.trans f2)))
 refine (xai _ rfl rfl _ rfl ?_)
 refine ite2 (fun c=>?_) (fun c=>?_)
 ·refine (xbg _ _ rfl rfl (jAA (by decide) (by decide) (by decide)) (xe9 _ _ rfl rfl _ rfl (xaw a p1 q1 6 rfl h1 (by decide) (by decide) (fun r2 H2 r20 r21 f2=>(xay _ _ rfl rfl (k _ _ ⟨by omega,by omega⟩ (f1.trans f2)))))))
 ·refine (xbx _ rfl _ _ rfl rfl (jAA (by decide) (by decide) (by decide)) (xaw a p1 q1 _ rfl h1 (by omega) (by omega) (fun r2 H2 r20 r21 f2=>k _ _ ⟨r20,by omega⟩ (f1.trans f2))))
def xgf:Sp:=fun vs H Q _=>∃ v ks x,vs=[v,.str x]/\KsAt H v ks/\Q (xst (kAt ks x)) H
def xdm:Sp:=fun vs H Q _=>∃ v ks x,vs=[v,.str x]/\KsAt H v ks/\∀ u H',Same H H'->RelD H' u (xos (kAt ks x))->Q u H'
theorem xnk (T:Tx K mg):DefIs P w K mg base (n + 1) "sort_of" qaf xgf:=by
 refine DefIs.of T.d_sort_of sc_sort_of ?_ ?_ <;> walk_at "i"
 ·obtain ⟨_,_,_,rfl,_⟩:=h
  rfl
 obtain ⟨v,ks,x,rfl,hk,q⟩:=h
 have nd:=sc_sort_of.nd
 refine ⟨_,(zpn (xc3 PassesOwn.never rfl (xb0 (pv 0)) (xck rfl (xad (xab (i:=2) nd rfl (by walk_at "o")) (xad (xab (i:=3) nd rfl (by walk_at "o")) (xad (xab (i:=4) nd rfl (by walk_at "o")) xa4))))
   (zpo (xau (pR xa1 (pv 2) (pv 1) (nM _)) (zpo (xae (pv 3))) pQ)))
   (zpo (xae xe0))),?_⟩
 obtain ⟨a,us,rfl,ha,hR⟩:=hk.1
 refine (xa3 _ rfl a rfl ⟨_,SqT.of ha⟩ ?_)
 have hl:=hR.length
 rw [zLM] at hl
 refine xde (xs:=us) (fun i σ H'=>∃ o2 o3 o4,σ=[some (.ref a),some (.str x),o2,o3,o4]/\H'=H/\(ks.take i).find? (fun k=>decide (k.name=x))=none) (xeh none none none rfl rfl rfl) (fun i σ H' _ p=>?_) ?_ ?_
 ·obtain ⟨_,_,_,_,rfl,_⟩:=p
  exact SqT.of ha
 ·rintro i v σ H' hv ⟨o2,o3,o4,rfl,rfl,hn⟩
  obtain ⟨d,hd,rd⟩:=hR.get hv
  rw [zGM] at hd
  obtain ⟨k,hk',rfl⟩:=zMS hd
  obtain ⟨b,ws,rfl,hb,_,_,rfl,rfl,_,_,rfl,rfl,v3,_,rfl,r3,rfl⟩:=rd
  refine (xap b _ rfl (SqT.of hb) rfl _ _ rfl _ (xcn _ rfl _ _ rfl rfl ?_))
  refine (xcw _ rfl _ rfl rfl _ rfl (ite2 (fun c=>?_) (fun c=>?_)))
  ·have e:k.name=x:=V.str.inj (of_decide_eq_true c)
   have e2:kAt ks x=some k:=(xc0 hn hk').1 (zDT e)
   refine (jEA _ rfl ?_)
   rw [e2] at q
   exact q
  ·have e:¬ k.name=x:=fun z=>c (zDT (congrArg V.str z))
   exact (xeh _ _ _ rfl rfl ((xc0 hn hk').2 (zDF e)))
 ·rintro σ H' ⟨o2,o3,o4,rfl,rfl,hn⟩
  rw [zTL (by omega)] at hn
  rw [show kAt ks x=none from hn] at q
  exact q
theorem xgz (T:Tx K mg):DefIs P w K mg base (n + 1) "parts_of" qaf xdm:=by
 refine DefIs.of T.d_parts_of sc_parts_of ?_ ?_ <;> walk_at "i"
 ·obtain ⟨_,_,_,rfl,_⟩:=h
  rfl
 obtain ⟨v,ks,x,rfl,hk,q⟩:=h
 have nd:=sc_parts_of.nd
 refine ⟨_,(zpn (xc3 PassesOwn.never rfl (xb0 (pv 0)) (xck rfl (xad (xab (i:=2) nd rfl (by walk_at "o")) (xad (xab (i:=3) nd rfl (by walk_at "o")) (xad (xab (i:=4) nd rfl (by walk_at "o")) xa4))))
   (zpo (xau (pR xa1 (pv 2) (pv 1) (nM _)) (zpo (xae (pv 4))) pQ)))
   (zpo (xae (xbc pN)))),?_⟩
 obtain ⟨a,us,rfl,ha,hR⟩:=hk.1
 refine (xa3 _ rfl a rfl ⟨_,SqT.of ha⟩ ?_)
 have hl:=hR.length
 rw [zLM] at hl
 refine xde (xs:=us) (fun i σ H'=>∃ o2 o3 o4,σ=[some (.ref a),some (.str x),o2,o3,o4]/\H'=H/\(ks.take i).find? (fun k=>decide (k.name=x))=none) (xeh none none none rfl rfl rfl) (fun i σ H' _ p=>?_) ?_ ?_
 ·obtain ⟨_,_,_,_,rfl,_⟩:=p
  exact SqT.of ha
 ·rintro i v σ H' hv ⟨o2,o3,o4,rfl,rfl,hn⟩
  obtain ⟨d,hd,rd⟩:=hR.get hv
  rw [zGM] at hd
  obtain ⟨k,hk',rfl⟩:=zMS hd
  obtain ⟨b,ws,rfl,hb,_,_,rfl,rfl,_,_,rfl,rfl,v3,_,rfl,r3,rfl⟩:=rd
  refine (xap b _ rfl (SqT.of hb) rfl _ _ rfl _ (xcn _ rfl _ _ rfl rfl ?_))
  refine (xcw _ rfl _ rfl rfl _ rfl (ite2 (fun c=>?_) (fun c=>?_)))
  ·have e:k.name=x:=V.str.inj (of_decide_eq_true c)
   have e2:kAt ks x=some k:=(xc0 hn hk').1 (zDT e)
   refine (jEA _ rfl ?_)
   rw [e2] at q
   exact q _ _ (Same.refl _) r3
  ·have e:¬ k.name=x:=fun z=>c (zDT (congrArg V.str z))
   exact (xeh _ _ _ rfl rfl ((xc0 hn hk').2 (zDF e)))
 ·rintro σ H' ⟨o2,o3,o4,rfl,rfl,hn⟩
  rw [zTL (by omega)] at hn
  rw [show kAt ks x=none from hn] at q
  exact ⟨(by walk_at "s"),fun p hp=>q _ _ (Same.new hp _) (xay p ([]) rfl ups rfl)⟩
end
theorem xd0 {k:Kn} (h:k.rc=true):k.sort=S "rec":=by unfold Kn.sort; rw [if_pos h]
theorem xd8 {k:Kn} (h:k.rc=false):k.sort=S "alt":=by unfold Kn.sort; rw [if_neg (by rw [h]; decide)]
theorem xnv {c:Bool} {A B:Prop} (h:c=true) (a:A):if c=true then A else B:=by rw [if_pos h]; exact a
def spSm (F:List Kn->Str->Int) (m:Nat):Sp:=fun vs H Q _=>∃ v ks x,vs=[v,.str x]/\RelD H v (xfm ks)/\KWf ks/\KIn ks m x/\∀ H',Same H H'->Q (.int (F ks x)) H'
section
variable {P:Program} {w:World} {K:PySem.W.Frag} {mg:Str->Option Value} {base:Heap} {n m:Nat}
theorem xjh (T:Tx K mg) (spc:Sp) (Dl_sort_of:DefIs P w K mg base n "_law_sort_of" qab xfu) (Dl_small:DefIs P w K mg base n "_law_small" qab spc) (hspc:∀ j,m=j + 1->spc=spSm smK j) :
  DefIs P w K mg base (n + 1) "_law_small" qab (spSm smK m):=by
 refine DefIs.of T.dl_small scl_small ?_ ?_ <;> walk_at "i"
 ·obtain ⟨_,_,_,rfl,_⟩:=h
  rfl
 obtain ⟨v,ks,x,rfl,hk,wf,hin,q⟩:=h
 have nd:=scl_small.nd
 refine ⟨_,(zpn (xd9 (pd Dl_sort_of hr (pc (pv 0) (pc (pv 1) pN zsn) zsn)) (xck rfl (xad (xab (i:=2) nd rfl (by walk_at "o")) (xad (xab (i:=3) nd rfl (by walk_at "o")) xa4))))
   (zpn (xau (pR xa1 (pv 2) pS (nM _)) (zpo (xae (xag xa9 pI (pd Dl_small hr (pc (pv 0) (pc (xak xal (xak xal (pv 3) pI (fun _ _=>rfl)) pI (fun _ _=>rfl)) pN zss) zsn))))) pQ)
   (zpo (xae (xag xa9 pI (xao (xkh rfl) rfl T.z_sum PyProof.Rows.boot_sum (pc (xbv qai [none,none,some 0] rfl (by kernel_rfl) (xb0 (pv 3)) (fun _ _ _ _=>(xd2 (K:=K) (n:=2) rfl rfl (xad (xab (i:=0) (by show List.Nodup (qai:List Str); decide +kernel) rfl (Or.inl rfl)) (xad (xab (i:=1) (by show List.Nodup (qai:List Str); decide +kernel) rfl (Or.inl rfl)) xa4)))) (fun _ _ _ _=>xby) (fun _ _ _ _=>(pd Dl_small hr (pc (pv 2) (pc (pv 1) pN zsn) zsn)))) pN xb8))))))),?_⟩
 refine (xbt _ rfl _ rfl v ks x rfl ((wf.ksAt hk).seq) (fun t pv' H1 s1 ht rp=>?_))
 refine (xap t _ rfl (SqT.of ht) rfl _ _ rfl _ (jEAA _ rfl rfl ?_))
 rcases hin.look wf with ⟨rfl,hkx⟩ | ⟨j,k,rfl,hkx,hn,hm,hp⟩
 ·refine (xai _ rfl rfl _ rfl (iteKF (zDF (by rw [hkx]; decide +kernel)) ?_))
  rw [hkx] at rp
  obtain ⟨a,us,rfl,ha,hus⟩:=rp
  obtain rfl:us=[]:=hus
  refine (xa3 _ rfl a rfl ⟨_,SqT.of ha⟩ ?_)
  refine xco (xs:=[]) (fun i ys H'=>H'=H1/\ys=[]) ⟨rfl,rfl⟩ (xa7 (by decide)) (fun i ys H' _ p=>by obtain ⟨rfl,_⟩:=p; exact SqT.of ha) (fun i y ys H' hy=>by simp at hy) ?_
  rintro ys H' hly ⟨rfl,rfl⟩ D hD
  refine (xc2 D ([]) rfl (SqL.of ups) (fun _ h=>nomatch h) (by decide) (xay _ _ rfl rfl ?_))
  have e:=(xf0 wf).1
  rw [e] at q
  exact q _ (s1.trans (Same.new hD _))
 ·have D':=hspc j rfl
  subst D'
  rw [hkx] at rp
  obtain ⟨a,us,rfl,ha,hus⟩:=rp
  have hl:=hus.length
  rw [zLM] at hl
  have h5:=wf.pts k hm
  have hss:xi6 (kAt ks x)=k.sort:=by rw [hkx]; rfl
  have e:=(xqh wf hkx).1
  unfold smS at e
  cases hc:k.rc with
  | false=>
   rw [if_neg (by rw [hc]; decide)] at e
   refine (xai _ rfl rfl _ rfl (iteKT (zDT (by rw [hss,xd8 hc]; rfl)) ?_))
   cases hpp:k.parts with
   | nil=>exact absurd hpp (wf.alt k hm hc)
   | cons p r=>
    rw [hpp] at hus e
    obtain ⟨vp,rest,rfl,rp,_⟩:=hus
    obtain ⟨b,ws,rfl,hb,_,_,rfl,rfl,_,_,rfl,rfl,rfl⟩:=rp
    refine (xa0 _ rfl _ rfl a _ _ (xdd _ rfl rfl (SqT.of ha) (xbb (j:=0) rfl) (xaw b _ _ _ rfl rfl (SqT.of hb) rfl ?_)))
    refine (xbf v ks p.2 rfl (hk.same s1 _) wf (hp p (by rw [hpp]; simp)) (fun H2 s2=>(xay _ _ rfl rfl ?_)))
    rw [e] at q
    exact q _ (s1.trans s2)
  | true=>
   rw [if_pos hc] at e
   refine (xai _ rfl rfl _ rfl (iteKF (zDF (by rw [hss,xd0 hc]; decide +kernel)) ?_))
   refine (xa3 _ rfl a rfl ⟨_,SqT.of ha⟩ ?_)
   refine xco (xs:=us) (fun i ys H'=>Same H1 H'/\ys=((k.parts.take i).map fun p=>smK ks p.2).map V.int) ⟨Same.refl _,rfl⟩ (xa7 (by omega)) (fun i ys H' _ p=>SqT.of (p.1 _ _ ha)) ?_ ?_
   ·rintro i y ys H' hy hi' hly ⟨sm',rfl⟩
    obtain ⟨d,hd,rd⟩:=hus.get hy
    rw [zGM] at hd
    obtain ⟨pr,hpr,rfl⟩:=zMS hd
    obtain ⟨b,ws,rfl,hb,_,_,rfl,rfl,_,_,rfl,rfl,rfl⟩:=rd
    refine (xap b _ rfl (SqT.of (sm' _ _ hb)) rfl _ _ rfl _ (xeb _ rfl rfl (ext2 rfl rfl) (xgn ?_)))
    refine (xax _ rfl _ rfl v ks pr.2 rfl (hk.same (s1.trans sm') _) wf ⟨hp pr (zMG hpr),fun H2 s2=>nxtG hi' hly ⟨sm'.trans s2,?_⟩⟩)
    rw [zTA,hpr,zAP,zAP]
    rfl
   ·rintro ys H' hly ⟨sm',rfl⟩ D hD
    rw [zTL (by omega)]
    refine (xc2 D (k.parts.map fun p=>smK ks p.2) rfl (SqL.of ups) (fun z hz=>?_) (by rw [zLM]; omega) (xay _ _ rfl rfl ?_))
    ·obtain ⟨p,_,rfl⟩:=zMP hz
     have:=xdy wf p.2
     omega
    ·rw [e] at q
     exact q _ (s1.trans (sm'.trans (Same.new hD _)))
theorem xh7 (T:Tx K mg):∀ m,DefIs P w K mg base (m + 2) "_law_small" qab (spSm smK m)
 | 0=>xjh (n:=1) T (fun _ _ _ _=>False) (xbq T) (DefIs.none T.dl_small fun _ _ _ _ h=>h) (fun j e=>by cases e)
 | m + 1=>xjh (n:=m + 2) T (spSm smK m) (xbq T) (xh7 T m) (fun j e=>by cases e; rfl)
theorem xmd (T:Tx K mg) (spc:Sp) (Dl_sort_of:DefIs P w K mg base n "_law_sort_of" qab xfu) (Dl_high:DefIs P w K mg base n "_law_high" qab spc) (hspc:∀ j,m=j + 1->spc=spSm hiK j) :
  DefIs P w K mg base (n + 1) "_law_high" qab (spSm hiK m):=by
 refine DefIs.of T.dl_high scl_high ?_ ?_ <;> walk_at "i"
 ·obtain ⟨_,_,_,rfl,_⟩:=h
  rfl
 obtain ⟨v,ks,x,rfl,hk,wf,hin,q⟩:=h
 have nd:=scl_high.nd
 refine ⟨_,(zpn (xd9 (pd Dl_sort_of hr (pc (pv 0) (pc (pv 1) pN zsn) zsn)) (xck rfl (xad (xab (i:=2) nd rfl (by walk_at "o")) (xad (xab (i:=3) nd rfl (by walk_at "o")) xa4))))
   (zpn (xau (pR xa1 (pv 2) pS (nM _)) (zpo (xae (xag xa9 pI (pd Dl_high hr (pc (pv 0) (pc (xak xal (xak xal (pv 3) pI (fun _ _=>rfl)) pI (fun _ _=>rfl)) pN zss) zsn))))) pQ)
   (zpo (xae (xag xa9 pI (xao (xki rfl) rfl T.z_max PyProof.Rows.boot_max (pc (xag xjf (xbv qai [none,none,some 0] rfl (by kernel_rfl) (xb0 (pv 3)) (fun _ _ _ _=>(xd2 (K:=K) (n:=2) rfl rfl (xad (xab (i:=0) (by show List.Nodup (qai:List Str); decide +kernel) rfl (Or.inl rfl)) (xad (xab (i:=1) (by show List.Nodup (qai:List Str); decide +kernel) rfl (Or.inl rfl)) xa4)))) (fun _ _ _ _=>xby) (fun _ _ _ _=>(pd Dl_high hr (pc (pv 2) (pc (pv 1) pN zsn) zsn)))) (xb9 (pc pI pN zso))) pN xaq))))))),?_⟩
 refine (xbt _ rfl _ rfl v ks x rfl ((wf.ksAt hk).seq) (fun t pv' H1 s1 ht rp=>?_))
 refine (xap t _ rfl (SqT.of ht) rfl _ _ rfl _ (jEAA _ rfl rfl ?_))
 rcases hin.look wf with ⟨rfl,hkx⟩ | ⟨j,k,rfl,hkx,hn,hm,hp⟩
 ·refine (xai _ rfl rfl _ rfl (iteKF (zDF (by rw [hkx]; decide +kernel)) ?_))
  rw [hkx] at rp
  obtain ⟨a,us,rfl,ha,hus⟩:=rp
  obtain rfl:us=[]:=hus
  refine (xa3 _ rfl a rfl ⟨_,SqT.of ha⟩ ?_)
  refine xco (xs:=[]) (fun i ys H'=>H'=H1/\ys=[]) ⟨rfl,rfl⟩ (xa7 (by decide)) (fun i ys H' _ p=>by obtain ⟨rfl,_⟩:=p; exact SqT.of ha) (fun i y ys H' hy=>by simp at hy) ?_
  rintro ys H' hly ⟨rfl,rfl⟩ D hD
  have sD:=Same.new hD (.lst [])
  refine ⟨(by walk_at "s"),fun l0 hl0=>?_⟩
  have s0:=Same.new hl0 (.lst [.int 0])
  refine (xa5 D l0 _ _ rfl rfl (s0 _ _ ups) ups (by walk_at "s") (fun l hl=>?_))
  refine (xbg l ([0]) rfl (SqL.of ups) (by simp) (fun m' hm' _=>(xay _ _ rfl rfl ?_)))
  obtain rfl:m'=0:=zMO hm'
  have e:=(xf0 wf).2
  rw [e] at q
  exact q _ (s1.trans (sD.trans (s0.trans (Same.new hl _))))
 ·have D':=hspc j rfl
  subst D'
  rw [hkx] at rp
  obtain ⟨a,us,rfl,ha,hus⟩:=rp
  have hl:=hus.length
  rw [zLM] at hl
  have h5:=wf.pts k hm
  have hss:xi6 (kAt ks x)=k.sort:=by rw [hkx]; rfl
  have e:=(xqh wf hkx).2
  unfold hiS at e
  cases hc:k.rc with
  | false=>
   rw [if_neg (by rw [hc]; decide)] at e
   refine (xai _ rfl rfl _ rfl (iteKT (zDT (by rw [hss,xd8 hc]; rfl)) ?_))
   cases hpp:k.parts with
   | nil=>exact absurd hpp (wf.alt k hm hc)
   | cons p r=>
    rw [hpp] at hus e
    obtain ⟨vp,rest,rfl,rp,_⟩:=hus
    obtain ⟨b,ws,rfl,hb,_,_,rfl,rfl,_,_,rfl,rfl,rfl⟩:=rp
    refine (xa0 _ rfl _ rfl a _ _ (xdd _ rfl rfl (SqT.of ha) (xbb (j:=0) rfl) (xaw b _ _ _ rfl rfl (SqT.of hb) rfl ?_)))
    refine (xbf v ks p.2 rfl (hk.same s1 _) wf (hp p (by rw [hpp]; simp)) (fun H2 s2=>(xay _ _ rfl rfl ?_)))
    rw [e] at q
    exact q _ (s1.trans s2)
  | true=>
   rw [if_pos hc] at e
   refine (xai _ rfl rfl _ rfl (iteKF (zDF (by rw [hss,xd0 hc]; decide +kernel)) ?_))
   refine (xa3 _ rfl a rfl ⟨_,SqT.of ha⟩ ?_)
   refine xco (xs:=us) (fun i ys H'=>Same H1 H'/\ys=((k.parts.take i).map fun p=>hiK ks p.2).map V.int) ⟨Same.refl _,rfl⟩ (xa7 (by omega)) (fun i ys H' _ p=>SqT.of (p.1 _ _ ha)) ?_ ?_
   ·rintro i y ys H' hy hi' hly ⟨sm',rfl⟩
    obtain ⟨d,hd,rd⟩:=hus.get hy
    rw [zGM] at hd
    obtain ⟨pr,hpr,rfl⟩:=zMS hd
    obtain ⟨b,ws,rfl,hb,_,_,rfl,rfl,_,_,rfl,rfl,rfl⟩:=rd
    refine (xap b _ rfl (SqT.of (sm' _ _ hb)) rfl _ _ rfl _ (xeb _ rfl rfl (ext2 rfl rfl) (xgn ?_)))
    refine (xax _ rfl _ rfl v ks pr.2 rfl (hk.same (s1.trans sm') _) wf ⟨hp pr (zMG hpr),fun H2 s2=>nxtG hi' hly ⟨sm'.trans s2,?_⟩⟩)
    rw [zTA,hpr,zAP,zAP]
    rfl
   ·rintro ys H' hly ⟨sm',rfl⟩ D hD
    rw [zTL (by omega)]
    have sD:=Same.new hD (.lst ((k.parts.map fun p=>hiK ks p.2).map V.int))
    refine ⟨(by walk_at "s"),fun l0 hl0=>?_⟩
    have s0:=Same.new hl0 (.lst [.int 0])
    refine (xa5 D l0 _ _ rfl rfl (s0 _ _ ups) ups (fits (by rw [zLM,zLM]; show _ + 1<=_; omega)) (fun l hl=>?_))
    refine (xbg l ((k.parts.map fun p=>hiK ks p.2)++[0]) rfl (SqL.of (by rw [zAP]; exact ups)) (by simp) (fun m' hm' hmax=>(xay _ _ rfl rfl ?_)))
    have em:=xvb (fun z hz=>by
     obtain ⟨p,_,rfl⟩:=zMP hz
     have:=xdy wf p.2
     omega) hm' hmax
    rw [e,<- em] at q
    exact q _ (s1.trans (sm'.trans (sD.trans (s0.trans (Same.new hl _)))))
theorem xlr (T:Tx K mg):∀ m,DefIs P w K mg base (m + 2) "_law_high" qab (spSm hiK m)
 | 0=>xmd (n:=1) T (fun _ _ _ _=>False) (xbq T) (DefIs.none T.dl_high fun _ _ _ _ h=>h) (fun j e=>by cases e)
 | m + 1=>xmd (n:=m + 2) T (spSm hiK m) (xbq T) (xlr T m) (fun j e=>by cases e; rfl)
def xss:Sp:=fun vs H Q _=>∃ (f:Addr) (kv:V) (p q:Int) (ks:List Kn),vs=[.ref f,kv]/\H f=some (.lst [.int p,.int q])/\RelD H kv (xfm ks)/\KWf ks/\∀ x H',KIn ks ks.length x->Fed f H H'->Q (.str x) H'
theorem xf2 (T:Tx K mg) (Dl_take:DefIs P w K mg base n "_law_take" qae xda):DefIs P w K mg base (n + 1) "_law_any_kind" qal xss:=by
 refine DefIs.of T.dl_any_kind scl_any_kind ?_ ?_ <;> walk_at "i"
 ·obtain ⟨_,_,_,_,_,rfl,_⟩:=h
  rfl
 obtain ⟨f',kv,p1,q1,ks,rfl,h1,hk,wf,q⟩:=h
 have nd:=scl_any_kind.nd
 have hfew:=wf.few
 refine (jEA _ (zpo (xae (xak iL (xag xjf (xb9 (pc pS pN zso)) (xbv ["_law_row"] [none] rfl (by kernel_rfl) (xb0 (pv 1)) (fun _ _ _ _=>(xab (i:=0) (by show List.Nodup (["_law_row"]:List Str); decide +kernel) rfl (Or.inl rfl))) (fun _ _ _ _=>xby) (fun _ _ _ _=>(xak (xd6 (K:=K) rfl) (pv 0) pI (fun _ _=>rfl))))) (pd Dl_take hr (pc (pv 0) (pc (xag xa9 pI (xao xah rfl T.z_len PySem.boot_len (pc (pv 1) pN zsn))) pN xaq) zsn)) (fun _ _=>rfl)))) ?_)
 refine ⟨(by walk_at "s"),fun l2 hl2=>?_⟩
 have s2:=Same.new hl2 (.lst [.str (S "num")])
 obtain ⟨ka,us,rfl,hka,hus⟩:=hk
 have hul:=hus.length
 rw [zLM] at hul
 refine (xa3 _ rfl ka rfl ⟨_,SqT.of (s2 _ _ hka)⟩ ?_)
 refine xfn (j:=0) (xs:=us) (fun i ys H'=>H'=upd H l2 (.lst [.str (S "num")])/\ys=((ks.take i).map Kn.name).map V.str) (by rfl) ⟨rfl,rfl⟩ (xa7 (by omega)) (fun i ys H' _ p=>by obtain ⟨rfl,_⟩:=p; exact SqT.of (s2 _ _ hka)) ?_ ?_
 ·rintro i' x ys H' hx hly ⟨rfl,rfl⟩
  obtain ⟨d,hd,rd⟩:=(hus.same s2 _).get hx
  rw [zGM] at hd
  obtain ⟨k',hk',rfl⟩:=zMS hd
  obtain ⟨b,vs',rfl,hb,_,_,rfl,rfl,_,_,rfl,rfl,v3,_,rfl,r3,rfl⟩:=rd
  have hi':i' < us.length:=(zES hx).1
  refine (xaa _ rfl b _ _ _ rfl rfl (SqT.of hb) rfl (nxt hi' hly ⟨rfl,?_⟩))
  rw [zTA,hk']
  simp
 rintro ys H' hly ⟨rfl,rfl⟩ D2 hD2
 rw [zTL (by omega)]
 have s3:=Same.new hD2 (.lst ((ks.map Kn.name).map V.str))
 refine (xa5 l2 D2 _ _ rfl rfl (s3 _ _ ups) ups (fits (by rw [zLM,zLM]; show 1 + _<=_; omega)) (fun l3 hl3=>?_))
 have s4:=Same.new hl3 (.lst ([.str (S "num")]++(ks.map Kn.name).map V.str))
 have s24:=s2.trans (s3.trans s4)
 have l3f:l3≠f':=Ne.symm (neN ((s2.trans s3) _ _ h1) hl3)
 refine (xdx _ rfl _ rfl ka _ rfl (.inr (SqT.of (s24 _ _ hka))) _ (jEAA _ rfl rfl (xaw f' p1 q1 _ rfl (s24 _ _ h1) (by omega) (by omega) (fun r5 H5 r50 r51 f5=>?_))))
 obtain ⟨x,hx,hxin⟩:=xml (ks:=ks) r50 (by rw [<- hul]; exact r51)
 exact (xaw l3 _ _ _ rfl rfl (SqL.of (f5.1 _ _ ups l3f)) hx (q x _ hxin (((Fed.refl h1).same s24).trans f5)))
end
open PyProof.Rows
def xul:Sp:=fun vs H Q _=>∃ tv h r,vs=[tv]/\RelD H tv (.tup (.str h :: r))/\ShC h r/\∀ a us H',Same H H'->H' a=some (.tup us)->RelDs H' us (innL h r)->Q (.ref a) H'
def spNd (m:Nat):Sp:=fun vs H Q _=>∃ tv d c,vs=[tv]/\RelD H tv d/\Tc m d c/\c<=3000/\∀ l H',Same H H'->H l=none->H' l=some (.lst ((nd m d).map V.str))->Q (.ref l) H'
def spBx (m:Nat):Sp:=fun vs H Q _=>∃ tv d c,∃ B:List Str,vs=[tv]/\RelD H tv d/\Tc m d c/\c<=3000/\B.length < 64/\(∀ x∈nd m d,x∈B)/\∀ l,∀ ms:List Str,∀ H',Same H H'->H' l=some (.lst (ms.map V.str))->(∀ x,x∈ms ↔ x∈nd m d)->ms.Nodup->sortedS ms=true->H l=none->Q (.ref l) H'
theorem xba {t u:TS} {D:Ends} {σ:L2.St} {H:Hp} (h:∀ R:L2.St->Hp->Prop,(∀ σ H,u D σ H->R σ H)->t { D with nx:=R } σ H):tSeq t u D σ H:=h (u D) fun _ _ h=>h
theorem xfb {α:Type} (f:α->Bool) {l:List α} {i:Nat} {a:α} (h:l[i]?=some a):(l.take (i + 1)).filter f=(l.take i).filter f++(if f a=true then [a] else []):=by
 rw [zTA,h]
 show (l.take i++[a]).filter f=_
 rw [List.filter_append,List.filter_cons]
 cases f a <;> rfl
section
variable {P:Program} {w:World} {K:PySem.W.Frag} {mg:Str->Option Value} {base:Heap} {n m:Nat}
theorem xtl (r:List D):innL (S "box") r=[]:=by
 unfold innL
 rw [if_neg (by walk_at "k"),if_neg (by walk_at "k"),if_neg (by walk_at "k"),if_neg (by walk_at "k"),if_neg (by walk_at "k")]
theorem xe1 (T:Tx K mg):DefIs P w K mg base (n + 1) "inner_terms" qad xul:=by
 refine DefIs.of T.d_inner_terms sc_inner_terms ?_ ?_ <;> walk_at "i"
 ·obtain ⟨_,_,_,rfl,_⟩:=h
  rfl
 obtain ⟨tv,h0,r,rfl,hv,hN,q⟩:=h
 have nd:=sc_inner_terms.nd
 refine ⟨_,(zpn (xaf (i:=1) nd rfl (by walk_at "o") (xak xal (pv 0) pI (fun _ _=>rfl)))
   (zpn (xau (pR xa1 (pv 1) pS (nM _)) (zpo (xae (xdi xoi (pv 0) (xd1 pI) xe7))) pQ)
   (zpn (xau (pR xa1 (pv 1) pS (nM _)) (zpo (xae (xak xal (pv 0) pI (fun _ _=>rfl)))) pQ)
   (zpn (xau (pR xje (pv 1) (xbc (pc pS (pc pS pN zso) zso)) (by with_unfolding_all rfl)) (zpo (xae (xbc (pc (xak xal (pv 0) pI (fun _ _=>rfl)) pN zss)))) pQ)
   (zpn (xau (pR xa1 (pv 1) pS (nM _)) (zpo (xae (xbc (pc (xak xal (pv 0) pI (fun _ _=>rfl)) pN zss)))) pQ)
   (zpn (xau (pR xa1 (pv 1) pS (nM _)) (zpo (xae (xdi xoi (pv 0) (xd1 pI) xe7))) pQ)
   (zpo (xae (xbc pN))))))))),?_⟩
 have z2:2<=sizeLine:=by decide
 have none':∀ H',Same H H'->∀ t,H' t=none->innL h0 r=[]->Q (.ref t) (upd H' t (.tup [])):=fun H' s' t ht e=>q t [] _ (s'.trans (Same.new ht _)) ups (by rw [e]; rfl)
 have one:∀ H' va a,Same H H'->RelD H' va a->∀ t,H' t=none->innL h0 r=[a]->Q (.ref t) (upd H' t (.tup [va])):=fun H' va a s' ra t ht e=>q t [va] _ (s'.trans (Same.new ht _)) ups (by rw [e]; exact (xay va ([]) rfl (ra.same (Same.new ht _) _) rfl))
 rcases hN with ⟨rfl,i,rfl⟩ | ⟨rfl,x,rfl⟩ | ⟨rfl,s,a,b,rfl⟩ | ⟨rfl,k,es,rfl⟩ | ⟨rfl,a,f,rfl⟩ | ⟨rfl,k,t,a,rfl⟩ | ⟨rfl,a,rs,rfl⟩ | ⟨rfl,a,b,c,rfl⟩
 ·obtain ⟨l,us,rfl,ha,_,_,rfl,rfl,_,_,rfl,rfl,rfl⟩:=hv
  have hS:SqT K H l [.str (S "num"),.int i]:=SqT.of ha
  walk_at "rd"
  refine ⟨z2,fun c hc=>(xcy c _ rfl (.inr (SqT.of ups)) rfl rfl _ rfl (xnw (by walk_at "k") ?_))⟩
  walk_at "rd"
  exact ⟨Nat.zero_le _,fun t ht=>none' _ (Same.new hc _) t ht (xg7 _)⟩
 ·obtain ⟨l,us,rfl,ha,_,_,rfl,rfl,_,_,rfl,rfl,rfl⟩:=hv
  have hS:SqT K H l [.str (S "box"),.str x]:=SqT.of ha
  walk_at "rd"
  refine ⟨z2,fun c hc=>(xcy c _ rfl (.inr (SqT.of ups)) rfl rfl _ rfl (xnw (by walk_at "k") ?_))⟩
  walk_at "rd"
  exact ⟨Nat.zero_le _,fun t ht=>none' _ (Same.new hc _) t ht (xtl _)⟩
 ·obtain ⟨l,us,rfl,ha,_,_,rfl,rfl,_,_,rfl,rfl,va,_,rfl,ra,vb,_,rfl,rb,rfl⟩:=hv
  have hS:SqT K H l [.str (S "op"),.str s,va,vb]:=SqT.of ha
  walk_at "rd"
  refine (xbg _ _ rfl hS (fun h=>absurd h.1 (by show ¬ HT.sIx 4 0 (some 2)=0; decide)) (fun p hp=>?_))
  have sp:=Same.new hp (.tup [va,vb])
  exact q p [va,vb] _ sp ups (by rw [xmt]; exact (xay va _ rfl (ra.same sp _) (xay vb _ rfl (rb.same sp _) rfl)))
 ·obtain ⟨l,us,rfl,ha,_,_,rfl,rfl,_,_,rfl,rfl,va,_,rfl,ra,rfl⟩:=hv
  obtain ⟨c,vs',rfl,hc,hvs⟩:=ra
  have hS:SqT K H l [.str (S "rec"),.str k,.ref c]:=SqT.of ha
  walk_at "rd"
  exact q c vs' _ (Same.refl _) hc (by rw [xij]; exact hvs)
 ·obtain ⟨l,us,rfl,ha,_,_,rfl,rfl,va,_,rfl,ra,_,_,rfl,rfl,rfl⟩:=hv
  have hS:SqT K H l [.str (S "get"),va,.str f]:=SqT.of ha
  walk_at "rd"
  refine ⟨z2,fun c hc=>(xcy c _ rfl (.inr (SqT.of ups)) rfl rfl _ rfl (xnv (by walk_at "k") ?_))⟩
  have sc:=Same.new hc (.tup [.str (S "get"),.str (S "case")])
  exact (xaa _ rfl l _ _ _ rfl rfl (SqT.of (sc _ _ ha)) rfl ⟨(by walk_at "s"),fun t' ht'=>one _ va a sc (ra.same sc _) t' ht' (xik _ _)⟩)
 ·obtain ⟨l,us,rfl,ha,_,_,rfl,rfl,_,_,rfl,rfl,_,_,rfl,rfl,va,_,rfl,ra,rfl⟩:=hv
  have hS:SqT K H l [.str (S "tag"),.str k,.str t,va]:=SqT.of ha
  walk_at "rd"
  refine ⟨z2,fun c hc=>(xcy c _ rfl (.inr (SqT.of ups)) rfl rfl _ rfl (xnw (by walk_at "k") ?_))⟩
  have sc:=Same.new hc (.tup [.str (S "get"),.str (S "case")])
  refine (xai _ rfl rfl _ rfl (iteKT (by walk_at "k") ?_))
  exact (xaa _ rfl l _ _ _ rfl rfl (SqT.of (sc _ _ ha)) rfl ⟨(by walk_at "s"),fun t' ht'=>one _ va a sc (ra.same sc _) t' ht' (xii _ _ _)⟩)
 ·obtain ⟨l,us,rfl,ha,_,_,rfl,rfl,va,_,rfl,ra,vr,_,rfl,_,rfl⟩:=hv
  have hS:SqT K H l [.str (S "case"),va,vr]:=SqT.of ha
  walk_at "rd"
  refine ⟨z2,fun c hc=>(xcy c _ rfl (.inr (SqT.of ups)) rfl rfl _ rfl (xnv (by walk_at "k") ?_))⟩
  have sc:=Same.new hc (.tup [.str (S "get"),.str (S "case")])
  exact (xaa _ rfl l _ _ _ rfl rfl (SqT.of (sc _ _ ha)) rfl ⟨(by walk_at "s"),fun t' ht'=>one _ va a sc (ra.same sc _) t' ht' (xgl _ _)⟩)
 ·obtain ⟨l,us,rfl,ha,_,_,rfl,rfl,va,_,rfl,ra,vb,_,rfl,rb,vc,_,rfl,rc,rfl⟩:=hv
  have hS:SqT K H l [.str (S "if"),va,vb,vc]:=SqT.of ha
  walk_at "rd"
  refine ⟨z2,fun c' hc=>(xcy c' _ rfl (.inr (SqT.of ups)) rfl rfl _ rfl (xnw (by walk_at "k") ?_))⟩
  have sc:=Same.new hc (.tup [.str (S "get"),.str (S "case")])
  refine (xai _ rfl rfl _ rfl (iteKF (by walk_at "k") ?_))
  refine (xai _ rfl rfl _ rfl (iteKT (by walk_at "k") ?_))
  refine (xbp _ rfl _ rfl _ _ rfl (SqT.of (sc _ _ ha)) ⟨fun h=>absurd h.1 (by show ¬ HT.sIx 4 0 (some 1)=0; decide),fun p hp=>?_⟩)
  have sp:=sc.trans (Same.new hp (.tup [va,vb,vc]))
  exact q p [va,vb,vc] _ sp ups (by rw [xmu]; exact (xan va _ rfl (ra.same sp _) vb _ rfl (rb.same sp _) vc (jEAA _ rfl (rc.same sp _) rfl)))
theorem xjk (T:Tx K mg) (spc:Sp) (D_inner_terms:DefIs P w K mg base n "inner_terms" qad xul) (D_needed:DefIs P w K mg base n "needed" qad spc) (hspc:∀ j,m=j + 1->spc=spNd j):DefIs P w K mg base (n + 1) "needed" qad (spNd m):=by
 refine DefIs.of T.d_needed sc_needed ?_ ?_ <;> walk_at "i"
 ·obtain ⟨_,_,_,rfl,_⟩:=h
  rfl
 obtain ⟨tv,d,c,rfl,hv,hN,hc,q⟩:=h
 have nd:=sc_needed.nd
 refine ⟨_,(zpn (xau (pR xa1 (xak xal (pv 0) pI (fun _ _=>rfl)) pS (nM _)) (zpo (xae (xb9 (pc (xak xal (pv 0) pI (fun _ _=>rfl)) pN zss)))) pQ)
   (zpn (xaf (i:=1) nd rfl (by walk_at "o") (xb9 pN))
   (zpn (xc3 PassesOwn.never rfl (xb0 (pd D_inner_terms hr (pc (pv 0) pN zsn))) (xab (i:=2) nd rfl (by walk_at "o"))
   (zpo (xbe (xhi PySem.F.plainAttrs_list PySem.F.slot_list_extend PySem.F.type_list_extend xjx (pv 1) (pc (pd D_needed hr (pc (pv 2) pN zsn)) pN zsc)))))
   (zpn (xau (pR xa1 (xak xal (pv 0) pI (fun _ _=>rfl)) pS (nM _)) (zpo (xc3 PassesOwn.never rfl (xb0 (xak xal (pv 0) pI (fun _ _=>rfl))) (xck rfl (xad (xab (i:=3) nd rfl (by walk_at "o")) (xad (xab (i:=4) nd rfl (by walk_at "o")) (xad (xab (i:=2) nd rfl (by walk_at "o")) xa4))))
   (zpo (xbe (xhi PySem.F.plainAttrs_list PySem.F.slot_list_extend PySem.F.type_list_extend xjx (pv 1) (pc (xbv ["each","x"] [none,some 4] rfl (by kernel_rfl) (xc1 (pd D_needed hr (pc (pv 2) pN zsn))) (fun _ _ _ _=>(xab (i:=0) (by show List.Nodup (["each","x"]:List Str); decide +kernel) rfl (Or.inl rfl))) (fun _ _ _ _=>(xeg (pR xhk (pv 0) (pv 1) (nM _)))) (fun _ _ _ _=>(pv 0))) pN xb8)))))) pQ)
   (zpo (xae (pv 1))))))),xba fun R1 hR1=>?_⟩
 have hlen:=xdl _ _ _ hN
 obtain ⟨h0,r,rfl,hsh,look,hil⟩:=xsn hN
 have hv2:=hv
 obtain ⟨l,us,rfl,ha,_,rest,rfl,rfl,hrest⟩:=hv2
 have at0:atI (V.str h0 :: rest) 0=some (.str h0):=xbb (j:=0) rfl
 refine (xaa _ rfl l _ _ _ rfl rfl (SqT.of ha) at0 (jAEA rfl _ rfl ?_))
 rcases look with ⟨rfl,x,rfl,hnd⟩ | ⟨hb,hin,hcase,hnd⟩
 ·refine iteKT (by walk_at "k") ?_
  obtain ⟨_,_,rfl,rfl,rfl⟩:=hrest
  refine (xaa _ rfl l _ _ _ rfl rfl (SqT.of ha) rfl ⟨(by walk_at "s"),fun fl hfl=>?_⟩)
  exact q fl _ (Same.new hfl _) hfl (by rw [hnd]; exact ups)
 refine iteKF (zDF fun z=>hb (V.str.inj z)) (hR1 _ _ (xba fun R0 hR0=>?_))
 rw [hnd,zLA] at hlen
 have h4:(4000:Nat)<=sizeLine:=by decide
 refine ⟨(by walk_at "s"),fun fl hfl=>hR0 _ _ (xba fun R hR=>?_)⟩
 have s0:=Same.new hfl (.lst [])
 refine (xet _ rfl _ _ _ rfl (hv.same s0 _) ⟨hsh,fun a us H1 s1 hau hus=>?_⟩)
 have hl:=hus.length
 have hf0:H1 fl=some (.lst []):=s1 _ _ ups
 have s01:=s0.trans s1
 have tb:∀ {HX:Hp},SameBut fl H1 HX->Same H HX:=fun sm b o hb=>sm b o (s01 _ _ hb) (neN hb hfl)
 refine (jEAA a rfl ⟨_,SqT.of hau⟩ ?_)
 refine xde (xs:=us) (fun i σ H'=>∃ o2,σ=[some (.ref l),some (.ref fl),o2,none,none]/\SameBut fl H1 H'/\H' fl=some (.lst ((((innL h0 r).take i).flatMap (M.nd (m - 1))).map V.str))) (jEAA none rfl (fun _ _ h _=>h) hf0) (fun i σ H' _ p=>?_) ?_ ?_
 ·obtain ⟨_,_,sm,_⟩:=p
  exact SqT.of (sm _ _ hau (fun z=>by subst z; rw [hf0] at hau; cases hau))
 ·rintro i v σ H' hv' ⟨o2,rfl,sm,hfl'⟩
  obtain ⟨e,he,re⟩:=hus.get hv'
  obtain ⟨j,rfl,hj⟩:=hin e (zMG he)
  have D':=hspc j rfl
  subst D'
  have rX:RelD H' v e:=re.tups (fun b us hb=>sm _ _ hb fun z=>by subst z; rw [hf0] at hb; cases hb) _
  refine (xai _ rfl (.inl (jAE rfl _ (SqL.of hfl'))) _ rfl (xbf v e c rfl rX hj hc (fun b H2 s2 hnb hb2=>?_)))
  have hf2:=s2 _ _ hfl'
  have hsn:=xkd (M.nd j) he
  have hle:=xf4 (M.nd j) (innL h0 r) (i + 1)
  have hj1:j + 1 - 1=j:=rfl
  rw [hj1] at hlen hf2
  refine (xa5 fl b _ _ rfl rfl hf2 hb2 ?_ ?_)
  ·rw [hsn,zLA] at hle
   rw [zLM,zLM]
   omega
  ·refine (jEAA _ rfl (fun b' o hb' ne=>?_) ?_)
   ·rw [xaz ne]
    exact s2 _ _ (sm _ _ hb' ne)
   ·rw [hj1,hsn,zAP]
    exact ups
 rintro σ H' ⟨o2,rfl,sm,hfl'⟩
 rw [zTL (by omega)] at hfl'
 refine hR _ _ (xba fun R2 hR2=>?_)
 have haX:=tb sm _ _ ha
 have key:∀ o2 o3 o4 HX,SameBut fl H1 HX->HX fl=some (.lst ((M.nd m (.tup (.str h0 :: r))).map V.str))->R2 [some (.ref l),some (.ref fl),o2,o3,o4] HX:=fun o2 o3 o4 HX sX hX=>hR2 _ _ (jEA _ rfl (q fl HX (tb sX) hfl hX))
 refine (xaa _ rfl l _ _ _ rfl rfl (SqT.of haX) at0 (jAEA rfl _ rfl ?_))
 by_cases hcs:h0=S "case"
 ·subst hcs
  obtain ⟨a0,rs,rfl,hrl,hrs⟩:=hcase rfl
  rw [if_pos rfl] at hnd hlen
  obtain ⟨va,_,rfl,ra,vr,_,rfl,⟨ca,ws,rfl,hca,hws⟩,rfl⟩:=hrest
  refine iteKT (by walk_at "k") ?_
  have hwl:=hws.length
  rw [zLM] at hwl
  have hcaX:=tb sm _ _ hca
  have hfe:(rs.map dArm).flatMap (xlm (M.nd (m - 1)))=rs.flatMap fun r=>(M.nd (m - 1) r.2.2).filter fun z=>!decide (V.str z=V.str r.2.1):=by
   rw [List.flatMap_map]
   simp [xlm,dArm]
  have hes:esL [a0,.tup (rs.map dArm)]=rs.map dArm:=rfl
  rw [hes,hfe] at hnd hlen
  refine (xaa _ rfl l _ _ _ rfl rfl (SqT.of haX) rfl (jEAA ca rfl ⟨_,SqT.of hcaX⟩ ?_))
  refine xde (xs:=ws) (fun i σ HX=>∃ o2 o3 o4,σ=[some (.ref l),some (.ref fl),o2,o3,o4]/\SameBut fl H1 HX/\HX fl=some (.lst ((((innL (S "case") [a0,.tup (rs.map dArm)]).flatMap (M.nd (m - 1))++(rs.take i).flatMap fun r=>(M.nd (m - 1) r.2.2).filter fun z=>!decide (V.str z=V.str r.2.1))).map V.str))) (xeh _ _ _ rfl sm (by simpa using hfl')) (fun i σ HX _ p=>?_) ?_ ?_
  ·obtain ⟨_,_,_,_,sX,_⟩:=p
   exact SqT.of (tb sX _ _ hca)
  ·rintro i v σ HX hv' ⟨o2,o3,o4,rfl,sX,hflX⟩
   obtain ⟨e,he,re⟩:=hws.get hv'
   rw [zGM] at he
   obtain ⟨⟨tg,x,e'⟩,he',rfl⟩:=zMS he
   obtain ⟨j,rfl,hj⟩:=hrs _ (zMG he')
   have D':=hspc j rfl
   subst D'
   obtain ⟨b1,_,rfl,hb1,_,_,rfl,rfl,_,_,rfl,rfl,vi,_,rfl,ri,rfl⟩:=re
   refine (xap b1 _ rfl (SqT.of (tb sX _ _ hb1)) rfl _ _ rfl _ (xcn _ rfl _ _ rfl rfl ?_))
   refine (jEAA _ rfl (.inl (jAE rfl _ (SqL.of hflX))) ?_)
   refine (xc6 _ rfl vi e' c rfl (ri.same (tb sX) _) hj hc (fun b H2 s2 hnb hb2=>?_))
   have hl1:((M.nd j e').length:Int)<=c:=xdl _ _ _ hj
   refine (jEAA b rfl ⟨_,SqL.of hb2⟩ ?_)
   refine xch (xs:=(M.nd j e').map V.str) (fun i ys H'=>H'=H2/\ys=(((M.nd j e').take i).filter fun z=>!decide (V.str z=V.str x)).map V.str) ⟨rfl,rfl⟩ (xa7 (by rw [zLM]; omega)) (fun i ys H' _ p=>by obtain ⟨rfl,_⟩:=p; exact SqL.of hb2) ?_ ?_
   ·rintro i2 y ys H' hy hi2 hly ⟨rfl,rfl⟩
    rw [zGM] at hy
    obtain ⟨z,hz,rfl⟩:=zMS hy
    have hsn:=xfb (fun z=>!decide (V.str z=V.str x)) hz
    refine ⟨xd7 rfl,?_⟩
    refine (xcw _ rfl _ rfl rfl _ rfl ?_)
    by_cases hzx:z=x
    ·show if (!decide (V.str z=V.str x))=true then _ else _
     rw [if_neg (by rw [hzx]; simp)]
     refine nxtN hi2 hly ⟨rfl,?_⟩
     rw [hsn,if_neg (by rw [hzx]; simp),List.append_nil]
    ·have hne:(!decide (V.str z=V.str x))=true:=by simpa using hzx
     show if (!decide (V.str z=V.str x))=true then _ else _
     rw [if_pos hne]
     refine (jEA _ rfl (nxtG hi2 hly ⟨rfl,?_⟩))
     rw [hsn,if_pos hne,zAP]
     rfl
   rintro ys H3 hly ⟨rfl,rfl⟩ D hD
   rw [zLM,zTL (Nat.le_refl _)]
   have sD:=Same.new hD (.lst (((M.nd j e').filter fun z=>!decide (V.str z=V.str x)).map V.str))
   have hf2:=sD _ _ (s2 _ _ hflX)
   have hsn:=xkd (fun r:Str×Str×M.D=>(M.nd j r.2.2).filter fun z=>!decide (V.str z=V.str r.2.1)) he'
   have hle:=xf4 (fun r:Str×Str×M.D=>(M.nd j r.2.2).filter fun z=>!decide (V.str z=V.str r.2.1)) rs (i + 1)
   have hj1:j + 1 - 1=j:=rfl
   rw [hj1] at hlen hf2
   dsimp only at hsn hle
   refine (xa5 fl D _ _ rfl rfl hf2 ups ?_ ?_)
   ·rw [hsn,zLA] at hle
    rw [zLM,zLA,zLM]
    omega
   ·refine (xeh _ _ _ rfl (fun b' o hb' ne=>?_) ?_)
    ·rw [xaz ne]
     exact sD _ _ (s2 _ _ (sX _ _ hb' ne))
    ·refine ups.trans ?_
     rw [hj1,hsn,<- List.append_assoc]
     simp only [zAP]
  ·rintro σ HX ⟨o2,o3,o4,rfl,sX,hflX⟩
   refine key _ _ _ HX sX ?_
   rw [hnd]
   rw [zTL (by omega)] at hflX
   exact hflX
 ·refine iteKF (zDF fun z=>hcs (V.str.inj z)) ?_
  refine key _ _ _ H' sm ?_
  rw [hnd,if_neg hcs,List.append_nil]
  exact hfl'
theorem xlh (T:Tx K mg) (D_needed:DefIs P w K mg base n "needed" qad (spNd m)):DefIs P w K mg base (n + 1) "boxes_in" qad (spBx m):=by
 refine DefIs.of T.d_boxes_in xk7 ?_ ?_ <;> walk_at "i"
 ·obtain ⟨_,_,_,_,rfl,_⟩:=h
  rfl
 obtain ⟨tv,d,c,B,rfl,hv,hN,hc,hB,hnB,q⟩:=h
 refine (jEA _ (zpo (xae (xng rfl rfl T.z_sorted rfl T.z_set (pd D_needed hr (pc (pv 0) pN zsn))))) ?_)
 have hl:=xdl _ _ _ hN
 exact (xc6 _ rfl tv d c rfl hv hN hc (fun l H1 s1 _ hl'=>(xc2 l _ rfl hl' (by omega) (jEA B hB hnB) (fun l2 ms hl2 h1 h2 h3=>q l2 ms _ (s1.trans (Same.new hl2 _)) ups h1 h2 h3 (xcg s1 hl2)))))
theorem xjv (T:Tx K mg):∀ m,DefIs P w K mg base (m + 2) "needed" qad (spNd m)
 | 0=>xjk (n:=1) T (fun _ _ _ _=>False) (xe1 T) (DefIs.none T.d_needed fun _ _ _ _ h=>h) (fun j e=>by cases e)
 | m + 1=>xjk (n:=m + 2) T (spNd m) (xe1 T) (xjv T m) (fun j e=>by cases e; rfl)
end
theorem RelDs.rev {H:Hp}:∀ {vs:List V} {ds:List D},RelDs H vs ds->RelDs H vs.reverse ds.reverse
 | vs,[],h=>by rw [show vs=[] from h]; rfl
 | vs,d :: ds,⟨v,r,e,h1,h2⟩=>by
  subst e
  rw [List.reverse_cons,List.reverse_cons]
  exact (RelDs.rev h2).append (xay v ([]) rfl h1 rfl)
theorem xo4 {α:Type} {l:List α} (h:l.Nodup):l.reverse.Nodup:=List.pairwise_reverse.mpr (h.imp fun h=>Ne.symm h)
theorem xot {H H':Hp} {p:Addr} (s:Same H H') (hp:H p=none) (o:HO):Same H (upd H' p o):=fun b u q=>by
 rw [xaz (neN q hp)]
 exact s b u q
def bKV (bs:List (Str×Str)):List (Key×V):=bs.map fun b=>(Sum.inr b.1,.str b.2)
theorem xfg {H:Hp}:∀ {us:List V} {bs:List (Str×Str)},RelDs H us (bs.map xiq)->PairsV H us (bKV bs)
 | us,[],h=>by rw [show us=[] from h]; trivial
 | us,b :: bs,⟨v,r,e,h1,h2⟩=>by
  subst e
  obtain ⟨a,ws,rfl,ha,_,_,rfl,rfl,_,_,rfl,rfl,rfl⟩:=h1
  exact ⟨(jEA a rfl ha),xfg h2⟩
theorem xiy {t:Str}:∀ (kvs:List (Key×V)) (acc:List (Key×V)),((valV acc (Sum.inr t)).isSome=true\/∃ p∈kvs,p.1=Sum.inr t)->(valV (xav acc kvs) (Sum.inr t)).isSome=true
 | [],acc,h=>by
  rcases h with h | ⟨p,hp,_⟩
  ·exact h
  ·exact nomatch hp
 | kv :: kvs,acc,h=>by
  refine xiy kvs (putK acc kv.1 kv.2) ?_
  rw [xek]
  by_cases e:Sum.inr t=kv.1
  ·exact .inl (by rw [if_pos e]; rfl)
  ·rcases h with h | ⟨p,hp,hpt⟩
   ·exact .inl (by rw [if_neg e]; exact h)
   ·rcases zMC hp with rfl | hp
    ·exact absurd hpt.symm e
    ·exact .inr (jEA p hp hpt)
theorem xo2 {t:Str} {bs:List (Str×Str)} (h:valV (xav [] (bKV bs)) (Sum.inr t)=none):∀ b∈bs,b.1≠t:=fun b hb e=>by
 have:=xiy (t:=t) (bKV bs) [] (.inr (jEA (Sum.inr b.1,.str b.2) (List.mem_map_of_mem hb) (by rw [e])))
 rw [h] at this
 cases this
theorem xb6 {t u:TS} {D:Ends} {σ:L2.St} {H:Hp} (h:∀ R:L2.St->Hp->Prop,(∀ σ H,u D σ H->R σ H)->t { D with nx:=R } σ H):tSeq t u D σ H:=h (u D) fun _ _ h=>h
def spTm (m:Nat):Sp:=fun vs H Q _=>∃ (f:Addr) (kv bv:V) (ks:List Kn) (bs:List (Str×Str)) (x:Str) (room:Int),vs=[.ref f,kv,bv,.str x,.int room,.int (m:Int)]/\TIn H f kv bv ks bs m/\m<=8/\KIn ks 6 x/\smK ks x<=room/\hiK ks x<=m/\∀ u d H',Fed f H H'->RelD H' u d->TmB ks m bs d x/\Tc m d room->Q u H'
def xuj (m:Nat):Sp:=fun vs H Q _=>∃ (f:Addr) (kv bv:V) (ks:List Kn) (bs:List (Str×Str)) (x:Str) (room:Int),vs=[.ref f,kv,bv,.str x,.int room,.int (m:Int)]/\TIn H f kv bv ks bs m/\m<=8/\KIn ks 6 x/\smK ks x<=room/\hiK ks x<=m/\(∀ H',Fed f H H'->Q .non H')/\∀ a d H',Fed f H H'->RelD H' (.ref a) d->TmB ks m bs d x/\Tc m d room->Q (.ref a) H'
def xrs (m:Nat):Sp:=fun vs H Q _=>∃ (f:Addr) (kv bv:V) (ks:List Kn) (bs:List (Str×Str)) (x:Str) (room:Int),vs=[.ref f,kv,bv,.str x,.int room,.int (m:Int)]/\TIn H f kv bv ks bs m/\m<=8/\KIn ks 6 x/\smK ks x<=room/\hiK ks x < m/\(∀ H',Fed f H H'->Q .non H')/\∀ a d H',Fed f H H'->RelD H' (.ref a) d->TmB ks m bs d x/\Tc m d room->Q (.ref a) H'
def xrx (m:Nat):Sp:=fun vs H Q _=>∃ (f:Addr) (kv bv pvv:V) (ks:List Kn) (bs ps:List (Str×Str)) (x:Str) (room:Int),vs=[.ref f,kv,bv,pvv,.str x,.int room,.int (m:Int)]/\TIn H f kv bv ks bs (m + 1)/\m < 8/\RelD H pvv (xhd ps)/\ps.length<=5/\(ps.map (·.1)).Nodup/\(∀ p∈ps,NoBy p.1/\KIn ks 6 p.2/\ArmN ks p.1)/\KIn ks 6 x/\smK ks x<=room/\hiK ks x<=m ∧
 ∀ (u:V) (rs:List (Str×Str×D)) (H':Hp),Fed f H H'->RelD H' u (.tup (rs.map dArm))->rs.length=ps.length->(∀ r∈rs,∃ p∈ps,p.1=r.1)->(rs.map (·.1)).Nodup->(∀ p∈ps,∃ z e,(p.1,z,e)∈rs/\(∀ q∈bs,q.1≠z)/\ArmN ks z/\TmB ks m (bs++[(z,p.2)]) e x)->(∀ r∈rs,Tc m r.2.2 room)->Q u H'
section
variable {P:Program} {w:World} {K:PySem.W.Frag} {mg:Str->Option Value} {base:Heap} {n m:Nat}
theorem xqw (T:Tx K mg) (Dl_take:DefIs P w K mg base n "_law_take" qae xda) (Dl_term:DefIs P w K mg base n "_law_term" qac (spTm m)):DefIs P w K mg base (n + 1) "_law_arms" qa3 (xrx m):=by
 refine DefIs.of T.dl_arms scl_arms ?_ ?_ <;> walk_at "i"
 ·obtain ⟨_,_,_,_,_,_,_,_,_,rfl,_⟩:=h
  rfl
 obtain ⟨f',kv,bv,pvv,ks,bs,ps,x,room,rfl,ti,m8,hps,h5,hnd,hpn,hxin,hroom,hhi,q⟩:=h
 have nd:=scl_arms.nd
 have hu:=xcz hr
 refine ⟨_,(zpn (xaf (i:=7) nd rfl (by walk_at "o") (xb9 pN))
   (zpn (xc3 PassesOwn.never rfl (xb0 (pv 3)) (xck rfl (xad (xab (i:=8) nd rfl (by walk_at "o")) (xad (xab (i:=9) nd rfl (by walk_at "o")) xa4)))
   (zpn (xaf (i:=10) nd rfl (by walk_at "o") (xag xen pS (xak xmq pS (pv 6) (fun _ _=>rfl))))
   (zpn (xau (PW.pt (xdo (pR xa1 (pd Dl_take hr (pc (pv 0) (pc pI pN zso) zsn)) pI (nM _)) (xdk (xon (xjc hu (pv 8) (xa6 (xc9 rfl) rfl T.z_dict PyProof.Rows.boot_dict (pc (pv 2) pN zsn))))))) (zpo (xaf (i:=10) nd rfl (by walk_at "o") (pv 8))) pQ)
   (zpo (xbe (xhi PySem.F.plainAttrs_list PySem.F.slot_list_append PySem.F.type_list_append xdt (pv 7) (pc (xbc (pc (pv 8) (pc (pv 10) (pc (pd Dl_term hr (pc (pv 0) (pc (pv 1) (pc (xag xjf (pv 2) (xb9 (pc (xbc (pc (pv 10) (pc (pv 9) pN zsn) zsn)) pN sT))) (pc (pv 4) (pc (pv 5) (pc (pv 6) pN zsn) zsn) zsn) xaq) zsn) zsn)) pN zsc) zsn) zsn)) pN sT)))))))
   (zpn (xau (pR xa1 (pd Dl_take hr (pc (pv 0) (pc pI pN zso) zsn)) pI (nM _)) (zpo (xbe (xuz PySem.F.plainAttrs_list PySem.F.slot_list_reverse PySem.F.type_list_reverse xnr (pv 7)))) pQ)
   (zpo (xae (xa6 xb5 rfl T.z_tuple PyProof.Rows.boot_tuple (pc (pv 7) pN zsn))))))),?_⟩
 refine ⟨(by walk_at "s"),fun al hal=>?_⟩
 have s0:=Same.new hal (.lst [])
 obtain ⟨p0,q0,hf⟩:=ti.fd
 have alf:al≠f':=Ne.symm (neN hf hal)
 obtain ⟨pa,us,rfl,hpa,hus⟩:=hps
 have hl:=hus.length
 rw [zLM] at hl
 refine (xa3 _ rfl pa rfl ⟨_,SqT.of (s0 _ _ hpa)⟩ ?_)
 refine xde (xs:=us) (fun i σ H'=>∃ (ws:List V) (rs:List (Str×Str×D)) (o8 o9 o10:Option V),σ=[some (.ref f'),some kv,some bv,some (.ref pa),some (.str x),some (.int room),some (.int (m:Int)),some (.ref al),o8,o9,o10]/\Fed f' H H'/\H' al=some (.lst ws)/\RelDs H' ws (rs.map dArm)/\rs.map (·.1)=(ps.take i).map (·.1)/\(∀ p∈ps.take i,∃ z e,(p.1,z,e)∈rs/\(∀ q∈bs,q.1≠z)/\ArmN ks z/\TmB ks m (bs++[(z,p.2)]) e x)/\∀ r∈rs,Tc m r.2.2 room)
  (xat ([]) ([]) none none none rfl ((Fed.refl hf).same s0) ups rfl rfl ⟨(fun p hp=>by rw [List.take_zero] at hp; exact nomatch hp),fun r hr=>nomatch hr⟩) (fun i σ H' _ p=>?_) ?_ ?_
 ·obtain ⟨_,_,_,_,_,_,fm,_⟩:=p
  exact SqT.of (xaj ti.fd fm _ _ hpa)
 ·rintro i vv σ H1 hvv ⟨ws,rs,o8,o9,o10,rfl,fm,hws,rws,hrn,hrs,hrc⟩
  have tp:=xaj ti.fd fm
  obtain ⟨d,hd,rd⟩:=hus.get hvv
  rw [zGM] at hd
  obtain ⟨pr,hpr,rfl⟩:=zMS hd
  obtain ⟨b,wz,rfl,hb,_,_,rfl,rfl,_,_,rfl,rfl,rfl⟩:=rd
  have hpm:=zMG hpr
  have hi':i < us.length:=(zES hvv).1
  have hwl:=rws.length
  have hrl:rs.length<=5:=by
   have:=congrArg List.length hrn
   rw [zLM,zLM,List.length_take] at this
   omega
  rw [zLM] at hwl
  refine (xap b _ rfl (SqT.of (tp _ _ hb)) rfl _ _ rfl _ (jEAA _ rfl rfl (xb6 fun S0 hS0=>?_)))
  have e2:(Str.ofString "by").length=2:=by walk_at "k"
  refine (xc6 _ rfl _ _ _ rfl rfl (by walk_at "k") (xrf m8) (xbg _ _ rfl rfl (fits (by rw [e2]; show 2 + 1<=_; decide)) (hS0 _ _ (xb6 fun S1 hS1=>?_))))
  rw [show Str.ofString "by"++(⟨#[97 + m]⟩:Str)=byN m from xrl m]
  obtain ⟨p1,q1,h1⟩:=fm.2
  have key:∀ (xn:Str) (H2:Hp),Fed f' H1 H2->(∀ b∈bs,b.1≠xn)->(∀ j,j < m->xn≠byN j)->ArmN ks xn->S1 [some (.ref f'),some kv,some bv,some (.ref pa),some (.str x),some (.int room),some (.int (m:Int)),some (.ref al),some (.str pr.1),some (.str pr.2),some (.str xn)] H2:=by
   intro xn H2 F3 hy hyf hArm
   refine hS1 _ _ ?_
   have t3:=(ti.fed fm).fed F3
   obtain ⟨bl3,ub3,e3,hbl3,hub3,blf3⟩:=t3.bx
   cases e3
   have hws3:=F3.1 _ _ hws alf
   have rws3:=rws.tups (xaj fm.2 F3) _
   obtain ⟨p3,q3,h3⟩:=F3.2
   refine (xai _ rfl (.inl (jAE rfl _ (SqL.of hws3))) _ rfl (xam _ rfl _ rfl _ rfl _ rfl _ rfl (jEAA _ rfl (by walk_at "s") (fun t1 ht1=>⟨(by walk_at "s"),fun l1 hl1=>?_⟩))))
   have y1:=Same.new ht1 (.tup [.str xn,.str pr.2])
   have y2:=Same.new hl1 (.lst [.ref t1])
   have hul3:=hub3.length
   rw [zLM] at hul3
   have hbl30:=ti.bl
   refine (xa5 _ l1 _ _ rfl rfl ((y1.trans y2) _ _ hbl3) ups (fits (by show _ + 1<=_; omega)) (fun l2 hl2=>?_))
   have y3:=Same.new hl2 (.lst (ub3++[.ref t1]))
   have y13:=y1.trans (y2.trans y3)
   have t4:=t3.same y13
   have l2f:l2≠f':=Ne.symm (neN ((y1.trans y2) _ _ h3) hl2)
   refine (xa2 _ rfl _ rfl _ rfl f' kv (xat (.ref l2) ks (bs++[(xn,pr.2)]) x room rfl ⟨t4.fd,t4.kd,t4.wf,t4.nb,(xbg l2 _ rfl ups ?_ l2f),?_,?_,?_,?_⟩ (by omega) hxin hroom ⟨hhi,fun u dd H6 f6 ru htm=>?_⟩))
   ·rw [zAP]
    exact (hub3.same y13 _).append (xay _ ([]) rfl (xan t1 _ rfl ((y2.trans y3) _ _ ups) _ _ rfl rfl _ (jEAA _ rfl rfl rfl)) rfl)
   ·rw [zAP]
    exact xll ti.nd fun hm=>by
     obtain ⟨b',hb',e'⟩:=zMP hm
     exact hy b' hb' e'
   ·rw [zLA,List.length_singleton]
    omega
   ·intro b' hb' j hj
    rcases zMA hb' with hb' | hb'
    ·exact ti.fr b' hb' j (by omega)
    ·rw [zMO hb']
     exact hyf j hj
   ·intro b' hb'
    rcases zMA hb' with hb' | hb'
    ·exact ti.kn b' hb'
    ·rw [zMO hb']
     exact (hpn pr hpm).2.1
   refine ⟨(by walk_at "s"),fun t6 ht6=>?_⟩
   have F6:Fed f' H1 H6:=(F3.same y13).trans f6
   have st:=Same.new ht6 (.tup [.str pr.1,.str xn,u])
   have hw6:=st _ _ (F6.1 _ _ hws alf)
   have rw6:=(rws.tups (xaj fm.2 F6) _).same st _
   refine (xbf al ws _ rfl rfl hw6 (xa7 (by omega)) (xat _ (rs++[(pr.1,xn,dd)]) _ _ _ rfl (Fed.put ((fm.trans F6).same st) hal alf _) ups ?_ ?_ ⟨fun p hp=>?_,fun r hr=>?_⟩))
   ·rw [zAP]
    exact (rw6.tups (xbj hw6 _) _).append (xay _ ([]) rfl (xan t6 _ rfl (xbj hw6 _ _ _ ups) _ _ rfl rfl _ (xbk _ rfl rfl _ _ rfl ((ru.same st _).tups (xbj hw6 _) _) rfl)) rfl)
   ·rw [zAP,hrn,zTA,hpr,zAP]
    rfl
   ·rw [zTA,hpr] at hp
    rcases zMA hp with hp | hp
    ·obtain ⟨z,e,g1,g2,g3⟩:=hrs p hp
     exact (xay z e (List.mem_append_left _ g1) g2 g3)
    ·have ep:p=pr:=by simpa using hp
     rw [ep]
     exact (xbg xn dd (List.mem_append_right _ (by simp)) hy hArm htm.1)
   ·rcases zMA hr with hr | hr
    ·exact hrc r hr
    ·rw [zMO hr]
     exact htm.2
  have hyB:∀ b∈bs,b.1≠byN m:=fun b hb=>ti.fr b hb m (Nat.lt_succ_self _)
  have hyfB:∀ j,j < m->byN m≠byN j:=fun j hj e=>by have:=xtr e; omega
  refine (xaa _ rfl f' p1 q1 _ rfl h1 (by decide) (by decide) (fun r H2 r0 r1 f2=>(jAEA rfl _ rfl (ite2 (fun c=>?_) (fun c=>?_)))))
  ·have t2:=(ti.fed fm).fed f2
   obtain ⟨bl,ub,rfl,hbl,hub,blf⟩:=t2.bx
   refine (xax _ rfl _ rfl bl ub (bKV bs) rfl hbl (xfg hub) (fun dp hdp=>?_))
   have sd:=Same.new hdp (.dK (xav [] (bKV bs)))
   refine (xe9 dp _ rfl (DGet.k (k:=Sum.inr pr.1) ups) _ rfl ?_)
   cases hval:valV (xav [] (bKV bs)) (Sum.inr pr.1) with
   | none=>exact iteT (jEA _ rfl (key pr.1 _ (f2.same sd) (xo2 hval) (fun j _=>(hpn pr hpm).1 j) (hpn pr hpm).2.2))
   | some v'=>exact iteF (key (byN m) _ (f2.same sd) hyB hyfB (.inl ⟨m,rfl⟩))
  ·exact iteF (key (byN m) _ f2 hyB hyfB (.inl ⟨m,rfl⟩))
 ·rintro σ H1 ⟨ws,rs,o8,o9,o10,rfl,fm,hws,rws,hrn,hrs,hrc⟩
  rw [zTL (by omega)] at hrn hrs
  have hrl:rs.length=ps.length:=by
   have:=congrArg List.length hrn
   rwa [zLM,zLM] at this
  have hsub:∀ r∈rs,∃ p∈ps,p.1=r.1:=fun r hr=>by
   have:r.1∈rs.map (·.1):=List.mem_map_of_mem hr
   rw [hrn] at this
   obtain ⟨p,hp,e⟩:=zMP this
   exact (jEA p hp e)
  obtain ⟨p1,q1,h1⟩:=fm.2
  refine (xaa _ rfl f' p1 q1 _ rfl h1 (by decide) (by decide) (fun r H2 r0 r1 f2=>(jAEA rfl _ rfl (ite2 (fun c=>?_) (fun c=>?_)))))
  ·have hw2:=f2.1 _ _ hws alf
   have rw2:=rws.tups (xaj fm.2 f2) _
   refine (xbk _ rfl (.inl (jAE rfl _ (SqL.of hw2))) al ws rfl rfl ⟨hw2,?_⟩)
   refine (jEA _ rfl (jEEA al _ rfl (.inl ⟨SqL.of ups,fun t ht=>?_⟩)))
   have st:=Same.new ht (.tup ws.reverse)
   refine q _ rs.reverse _ ((Fed.put (fm.trans f2) hal alf _).same st) (xay t _ rfl ups ?_) (by rw [List.length_reverse]; exact hrl) (fun r hr=>hsub r (List.mem_reverse.mp hr)) ?_ (fun p hp=>?_) fun r hr=>hrc r (List.mem_reverse.mp hr)
   ·rw [List.map_reverse]
    exact (RelDs.rev (rw2.tups (xbj hw2 _) _)).same st _
   ·rw [List.map_reverse]
    exact xo4 (by rw [hrn]; exact hnd)
   ·obtain ⟨z,e,h1,h2,h3⟩:=hrs p hp
    exact (xay z e (List.mem_reverse.mpr h1) h2 h3)
  ·refine (jEA _ rfl (jEEA al _ rfl (.inl ⟨SqL.of (f2.1 _ _ hws alf),fun t ht=>?_⟩)))
   have st:=Same.new ht (.tup ws)
   exact q _ rs _ ((fm.trans f2).same st) (xay t _ rfl ups ((rws.tups (xaj fm.2 f2) _).same st _)) hrl hsub (by rw [hrn]; exact hnd) hrs hrc
end
def CsAt (H:Hp) (ks:List Kn) (m:Nat) (room:Int) (x:Str) (w:V):Prop:=∃ (b:Addr) (pvv:V) (k:Kn) (more:Int),w=.ref b/\H b=some (.tup [.str k.name,pvv,.int more])/\RelD H pvv (xhd k.parts)/\k∈ks/\k.rc=false/\0<=more/\hiK ks k.name < m/\2 * more<=room - 1 - smK ks k.name - smK ks x * (k.parts.length:Int)
theorem CsAt.tups {H H':Hp} {ks:List Kn} {m:Nat} {room:Int} {x:Str} {w:V} (h:CsAt H ks m room x w) (s:∀ b us,H b=some (.tup us)->H' b=some (.tup us)):CsAt H' ks m room x w:=by
 obtain ⟨b,pvv,k,more,e,hb,hp,r⟩:=h
 exact (xmp b pvv k more e (s _ _ hb) (hp.tups s _) r)
def GtAt (H:Hp) (ks:List Kn) (m:Nat) (room:Int) (x:Str) (w:V):Prop:=∃ (b:Addr) (k:Kn) (p:Str×Str),w=.ref b/\H b=some (.tup [.str k.name,.str p.1])/\k∈ks/\k.rc=true/\p∈k.parts/\p.2=x/\smK ks k.name < room/\hiK ks k.name < m
theorem GtAt.tups {H H':Hp} {ks:List Kn} {m:Nat} {room:Int} {x:Str} {w:V} (h:GtAt H ks m room x w) (s:∀ b us,H b=some (.tup us)->H' b=some (.tup us)):GtAt H' ks m room x w:=by
 obtain ⟨b,k,p,e,hb,r⟩:=h
 exact (xeh b k p e (s _ _ hb) r)
theorem xis {a b c d r:V} {i j:Int} (h:i=j):[a,b,c,d,r,V.int i]=[a,b,c,d,r,V.int j]:=by rw [h]
theorem xw9 {a b c d e r:V} {i j:Int} (h:i=j):[a,b,c,d,e,r,V.int i]=[a,b,c,d,e,r,V.int j]:=by rw [h]
theorem xhx {ks:List Kn} (wf:KWf ks) {k:Kn} (h:k∈ks):KIn ks 6 k.name:=(KIn.of (.inr (jEA k h rfl))).mono wf.few
theorem xsb {ks:List Kn} (wf:KWf ks) {k:Kn} (h:k∈ks):kAt ks k.name=some k:=by
 obtain ⟨i,hi,e⟩:=zMI h
 exact wf.at (i:=i) (by rw [<- e]; exact zGA hi)
theorem xdv {ks:List Kn} (wf:KWf ks) {k:Kn} (h:k∈ks) {p:Str×Str} (hp:p∈k.parts):KIn ks 6 p.2:=by
 obtain ⟨i,hi,e⟩:=zMI h
 have:=wf.few
 exact KIn.mono (n:=i) (wf.ref i k (by rw [<- e]; exact zGA hi) p hp) (by omega)
section
variable {P:Program} {w:World} {K:PySem.W.Frag} {mg:Str->Option Value} {base:Heap} {n m:Nat}
theorem xqv (T:Tx K mg) (Dl_take:DefIs P w K mg base n "_law_take" qae xda) (Dl_small:DefIs P w K mg base n "_law_small" qab (spSm smK 6)) (Dl_high:DefIs P w K mg base n "_law_high" qab (spSm hiK 6)) (Dl_term:DefIs P w K mg base n "_law_term" qac (spTm m)) (Dl_arms:DefIs P w K mg base n "_law_arms" qa3 (xrx m)) :
  DefIs P w K mg base (n + 1) "_law_case" qac (xrs (m + 1)):=by
 refine DefIs.of T.dl_case scl_case ?_ ?_ <;> walk_at "i"
 ·obtain ⟨_,_,_,_,_,_,_,rfl,_⟩:=h
  rfl
 obtain ⟨f',kv,bv,ks,bs,x,room,rfl,ti,m8,hxin,hroom,hlt,qn,q⟩:=h
 have nd:=scl_case.nd
 have hu:=xcz hr
 have wf:=ti.wf
 have hfew:=wf.few
 refine ⟨_,(zpn (xaf (i:=6) nd rfl (by walk_at "o") (pd Dl_small hr (pc (pv 1) (pc (pv 3) pN zsn) zsn)))
   (zpn (xaf (i:=7) nd rfl (by walk_at "o") (xb9 pN))
   (zpn (xc3 PassesOwn.never rfl (xb0 (pv 1)) (xck rfl (xad (xab (i:=8) nd rfl (by walk_at "o")) (xad (xab (i:=9) nd rfl (by walk_at "o")) (xad (xab (i:=10) nd rfl (by walk_at "o")) xa4))))
   (zpn (xaf (i:=11) nd rfl (by walk_at "o") (xag xbs (xag xbs (xag xbs (pv 4) pI) (pd Dl_small hr (pc (pv 1) (pc (pv 8) pN zsn) zsn))) (xag xdr (pv 6) (xao xah rfl T.z_len PySem.boot_len (pc (pv 10) pN zsn)))))
   (zpo (xau (PW.pt (xdo (pR xa1 (pv 9) pS (nM _)) (xdo (pR xu4 (pv 11) pI (nM _)) (xdk (pR xfh (pd Dl_high hr (pc (pv 1) (pc (pv 8) pN zsn) zsn)) (pv 5) (nM _)))))) (zpo (xbe (xhi PySem.F.plainAttrs_list PySem.F.slot_list_append PySem.F.type_list_append xdt (pv 7) (pc (xbc (pc (pv 8) (pc (pv 10) (pc (xag xb1 (pv 11) pI) pN xaq) zsn) zsn)) pN sT)))) pQ))))
   (zpn (xau (pR (xr7 (Nat.lt_of_succ_lt hu)) (pv 7) (xb9 pN) (nM _)) (zpo (xae xe0)) pQ)
   (zpn (xd9 (xak iL (pv 7) (pd Dl_take hr (pc (pv 0) (pc (xao xah rfl T.z_len PySem.boot_len (pc (pv 7) pN zsn)) pN zsc) zsn)) (fun _ _=>rfl)) (xck rfl (xad (xab (i:=8) nd rfl (by walk_at "o")) (xad (xab (i:=10) nd rfl (by walk_at "o")) (xad (xab (i:=11) nd rfl (by walk_at "o")) xa4)))))
   (zpn (xaf (i:=12) nd rfl (by walk_at "o") (pd Dl_term hr (pc (pv 0) (pc (pv 1) (pc (pv 2) (pc (pv 8) (pc (xag xa9 (pd Dl_small hr (pc (pv 1) (pc (pv 8) pN zsn) zsn)) (pv 11)) (pc (xag xbs (pv 5) pI) pN xaq) xaq) zsn) zsn) zsn) zsn)))
   (zpo (xae (xbc (pc pS (pc (pv 12) (pc (pd Dl_arms hr (pc (pv 0) (pc (pv 1) (pc (pv 2) (pc (pv 10) (pc (pv 3) (pc (xag xa9 (pv 6) (xag xb1 (pv 11) (xao xah rfl T.z_len PySem.boot_len (pc (pv 10) pN zsn)))) (pc (xag xbs (pv 5) pI) pN xaq) xaq) zsn) zsn) zsn) zsn) zsn)) pN zsc) zsn) zso)))))))))),xb6 fun R1 hR1=>?_⟩
 refine (xax _ rfl _ rfl kv ks x rfl ti.kd wf ⟨hxin,fun H1 s1=>hR1 _ _ (xb6 fun R2 hR2=>?_)⟩)
 refine ⟨(by walk_at "s"),fun sl hsl=>hR2 _ _ (xb6 fun R3 hR3=>?_)⟩
 have hsl0:=xcg s1 hsl
 obtain ⟨p0,q0,hf⟩:=ti.fd
 have slf:sl≠f':=Ne.symm (neN hf hsl0)
 have ss:=s1.trans (Same.new hsl (.lst []))
 have hkd:=ti.kd
 obtain ⟨ka,us,rfl,hka,hus⟩:=hkd
 have hul:=hus.length
 rw [zLM] at hul
 have hsb:=xdy wf x
 refine (xa3 _ rfl ka rfl ⟨_,SqT.of (ss _ _ hka)⟩ ?_)
 refine xde (xs:=us) (fun i σ H'=>∃ (ws:List V) (o8 o9 o10 o11:Option V),σ=[some (.ref f'),some (.ref ka),some bv,some (.str x),some (.int room),some (.int ((m + 1:Nat):Int)),some (.int (smK ks x)),some (.ref sl),o8,o9,o10,o11,none]/\Same H H'/\H' sl=some (.lst ws)/\ws.length<=i/\∀ z∈ws,CsAt H' ks (m + 1) room x z) (xbn ([]) none none none none rfl ss ups (Nat.le_refl _) (fun _ h=>nomatch h)) (fun i σ H' _ p=>?_) ?_ ?_
 ·obtain ⟨_,_,_,_,_,_,sm',_⟩:=p
  exact SqT.of (sm' _ _ hka)
 ·rintro i vv σ H2 hvv ⟨ws,o8,o9,o10,o11,rfl,sm',hws,hwl,hcs⟩
  obtain ⟨d,hd,rd⟩:=hus.get hvv
  rw [zGM] at hd
  obtain ⟨k,hk',rfl⟩:=zMS hd
  obtain ⟨b,wz,rfl,hb,_,_,rfl,rfl,_,_,rfl,rfl,v3,_,rfl,r3,rfl⟩:=rd
  have r3':=r3
  obtain ⟨c,zs,rfl,hc,hzs⟩:=r3'
  have hzl:=hzs.length
  rw [zLM] at hzl
  have hkm:=zMG hk'
  have h5:=wf.pts k hkm
  have hi':i < us.length:=(zES hvv).1
  refine (xap b _ rfl (SqT.of (sm' _ _ hb)) rfl _ _ rfl _ (xcn _ rfl _ _ rfl rfl ?_))
  refine (xc7 _ rfl _ _ rfl rfl _ rfl _ (jAE rfl (.ref ka) (xc2 ks k.name rfl (ti.kd.same sm' _) wf (xhx wf hkm) (fun H3 s3=>(xe9 _ _ rfl rfl _ rfl (xcn _ rfl c _ rfl (.inr (SqT.of ((sm'.trans s3) _ _ hc))) (xbg _ _ rfl rfl (.inl ⟨by omega,by omega⟩) (xay _ _ rfl rfl ?_))))))))
  have s23:=sm'.trans s3
  refine (xai _ rfl rfl _ rfl ?_)
  cases hrc:k.rc with
  | true=>
   refine iteKF (zDF (by rw [xd0 hrc]; decide +kernel)) (iteF ?_)
   exact (xbn ws _ _ _ _ rfl s23 (s3 _ _ hws) (by omega) (fun z hz=>(hcs z hz).tups fun b us q=>s3 _ _ q))
  | false=>
   refine iteKT (zDT (by rw [xd8 hrc]; rfl)) ?_
   refine (xbo _ rfl _ _ rfl rfl _ rfl (ite2 (fun cm=>?_) (fun cm=>?_)))
   ·refine (xax _ rfl _ rfl (.ref ka) ks k.name rfl (ti.kd.same s23 _) wf ⟨xhx wf hkm,fun H4 s4=>(xbo _ rfl _ _ rfl rfl _ rfl (ite2 (fun ch=>?_) (fun ch=>?_)))⟩)
    ·have s34:=s3.trans s4
     have s24:=s23.trans s4
     refine (xai _ rfl (.inl (jAE rfl _ (SqL.of (s34 _ _ hws)))) _ rfl (xbp _ rfl _ rfl _ _ rfl rfl (jAA ⟨by decide,by decide⟩ (by walk_at "s") (fun t ht=>?_))))
     have st:∀ o,Same H4 (upd H4 t o):=fun o=>Same.new ht o
     refine (xbf sl ws _ rfl rfl (st _ _ _ (s34 _ _ hws)) (xa7 (by omega)) (xbn _ _ _ _ _ rfl (xot (s24.trans (st _)) hsl0 _) ups (by rw [zLA,List.length_singleton]; omega) (fun z hz=>?_)))
     have hst:=st (.tup [.str k.name,.ref c,.int ((room - 1 - smK ks k.name - smK ks x * (zs.length:Int)) / 2)]) _ _ (s34 _ _ hws)
     rcases zMA hz with hz | hz
     ·exact ((hcs z hz).tups fun b us q=>st _ _ _ (s34 _ _ q)).tups (xbj hst _)
     ·rw [zMO hz]
      have hm0:=of_decide_eq_true cm
      exact (xbh t (.ref c) k _ rfl (xbj hst _ _ _ ups) (((r3.same s24 _).same (st _) _).tups (xbj hst _) _) hkm hrc (Int.ediv_nonneg hm0 (by decide)) ⟨of_decide_eq_true ch,by rw [hzl]; omega⟩)
    ·exact (xbn ws _ _ _ _ rfl (s23.trans s4) (s4 _ _ (s3 _ _ hws)) (by omega) (fun z hz=>(hcs z hz).tups fun b us q=>s4 _ _ (s3 _ _ q)))
   ·refine iteF ?_
    exact (xbn ws _ _ _ _ rfl s23 (s3 _ _ hws) (by omega) (fun z hz=>(hcs z hz).tups fun b us q=>s3 _ _ q))
 ·rintro σ H2 ⟨ws,o8,o9,o10,o11,rfl,sm',hws,hwl,hcs⟩
  refine hR3 _ _ (xb6 fun R4 hR4=>?_)
  refine (jEAA _ rfl (by walk_at "s") (fun e he=>?_))
  have se:=Same.new he (.lst [])
  have s3:=sm'.trans se
  have hws3:=se _ _ hws
  refine (xdw sl e ws rfl rfl (SqL.of hws3) (SqL.of ups) _ rfl ?_)
  cases hwe:ws with
  | nil=>exact iteT (qn _ ((Fed.refl hf).same s3))
  | cons w0 wr=>
   refine iteF (hR4 _ _ (xb6 fun R5 hR5=>?_))
   have hwp:0 < ws.length:=by rw [hwe]; simp
   have hf3:=s3 _ _ hf
   refine (xa8 _ rfl _ rfl _ rfl sl _ rfl (.inl (SqL.of hws3)) (xaw f' p0 q0 _ rfl hf3 (by omega) (by omega) (fun r H5 r0 r1 f5=>?_)))
   obtain ⟨i,rfl⟩:∃ i:Nat,r=(i:Int):=⟨r.toNat,by omega⟩
   have hi':i < ws.length:=by omega
   have tp5:=xaj (jEE p0 q0 hf3) f5
   obtain ⟨b,pvv,k,more,eb,hb,hpv,hkm,hrc,hm0,hhk,hcap⟩:=((hcs ws[i] (List.getElem_mem hi')).tups fun b us q=>se _ _ q).tups tp5
   have hat:atI ws (i:Int)=some (.ref b):=xbb (by rw [zGA hi',eb])
   refine (xes sl _ _ _ rfl rfl (SqL.of (f5.1 _ _ hws3 slf)) hat b (xd4 _ rfl (SqT.of hb) rfl _ _ rfl _ _ rfl (xay _ _ rfl rfl (hR5 _ _ (xb6 fun R6 hR6=>?_)))))
   have F5:Fed f' H H5:=((Fed.refl hf).same s3).trans f5
   have t5:=(ti.fed F5)
   have kname:=xhx wf hkm
   have hj1:(((m + 1:Nat):Int)) - 1=(m:Int):=by omega
   refine (xam _ rfl _ rfl _ rfl _ rfl _ rfl (xc6 _ rfl (.ref ka) ks k.name rfl t5.kd wf kname (fun H6 s6=>(xc7 _ rfl _ _ rfl rfl _ rfl _ (jEAA _ rfl rfl ?_)))))
   have t6:=t5.same s6
   refine (xas f' (.ref ka) bv ks bs (xcd k.name (smK ks k.name + more) (xis hj1) (t6.down (by omega)) (by omega) kname (by omega) (by omega) (fun u du H7 f7 ru htu=>?_)))
   have t7:=t6.fed f7
   have hpv7:=(hpv.same s6 _).tups (xaj t6.fd f7) _
   have hpv7':=hpv7
   obtain ⟨pa,zs,rfl,hpa,hzs⟩:=hpv7'
   have hzl:=hzs.length
   rw [zLM] at hzl
   have hne:0 < k.parts.length:=Nat.pos_of_ne_zero fun e=>wf.alt k hkm hrc (List.length_eq_zero_iff.mp e)
   have h5:=wf.pts k hkm
   have hdv:0<=more / (zs.length:Int):=Int.ediv_nonneg hm0 (by omega)
   refine hR6 _ _ ?_
   refine (xam _ rfl _ rfl _ rfl _ rfl _ rfl (xbu _ rfl _ rfl _ rfl _ rfl pa (xbk _ rfl (.inr (SqT.of hpa)) _ _ rfl rfl (jAE ⟨by omega,by omega⟩ _ (xai _ rfl rfl _ rfl (xay _ _ rfl rfl ?_))))))
   refine (xas f' (.ref ka) bv (.ref pa) ks (xbh bs k.parts x (smK ks x + more / (zs.length:Int)) (xw9 hj1) t7 (by omega) hpv7 h5 (wf.pnd k hkm) (xq9 (fun p hp=>(jAA (ti.nb k hkm p hp) (xdv wf hkm hp) (.inr (jEA k hkm (jEA p hp rfl))))) hxin (by omega) (by omega) (fun ua rs H8 f8 ra hrl hrsub hrn hrs hrct=>⟨(by walk_at "s"),fun t ht=>?_⟩))))
   have st:=Same.new ht (.tup [.str (S "case"),u,ua])
   refine q t (xgq du rs) _ ((((F5.same s6).trans f7).trans f8).same st) (xan t _ rfl ups _ _ rfl rfl _ (xbk _ rfl ((ru.tups (xaj t7.fd f8) _).same st _) _ _ rfl (ra.same st _) rfl)) ⟨xso wf (xsb wf hkm) hrc htu.1 (by omega) hrn hrl hrsub hrs,.inr (.inr (.inr (.inr (.inr (.inl (xa5 _ _ _ _ htu.2 hrct ?_ ?_ (by omega) rfl))))))⟩
   ·have:=hsb.1; omega
   ·have hp0:(zs.length:Int)≠0:=by omega
    have h9:=Int.mul_ediv_self_le (x:=more) (k:=(zs.length:Int)) hp0
    have h10:(rs.length:Int) * (smK ks x + more / (zs.length:Int))=smK ks x * (k.parts.length:Int) + (zs.length:Int) * (more / (zs.length:Int)):=by
     rw [hrl,<- hzl,Int.mul_add,Int.mul_comm (zs.length:Int) (smK ks x)]
    omega
theorem xs6 (T:Tx K mg) (Dl_take:DefIs P w K mg base n "_law_take" qae xda) (Dl_small:DefIs P w K mg base n "_law_small" qab (spSm smK 6)) (Dl_high:DefIs P w K mg base n "_law_high" qab (spSm hiK 6)) (Dl_term:DefIs P w K mg base n "_law_term" qac (spTm m)) :
  DefIs P w K mg base (n + 1) "_law_get" qac (xuj (m + 1)):=by
 refine DefIs.of T.dl_get scl_get ?_ ?_ <;> walk_at "i"
 ·obtain ⟨_,_,_,_,_,_,_,rfl,_⟩:=h
  rfl
 obtain ⟨f',kv,bv,ks,bs,x,room,rfl,ti,m8,hxin,hroom,hhi,qn,q⟩:=h
 have nd:=scl_get.nd
 have hu:=xcz hr
 have wf:=ti.wf
 have hfew:=wf.few
 refine ⟨_,(zpn (xaf (i:=6) nd rfl (by walk_at "o") (xb9 pN))
   (zpn (xc3 PassesOwn.never rfl (xb0 (pv 1)) (xck rfl (xad (xab (i:=7) nd rfl (by walk_at "o")) (xad (xab (i:=8) nd rfl (by walk_at "o")) (xad (xab (i:=9) nd rfl (by walk_at "o")) xa4))))
   (zpo (xau (PW.pt (xdo (pR xa1 (pv 8) pS (nM _)) (xdo (pR xfh (pd Dl_small hr (pc (pv 1) (pc (pv 7) pN zsn) zsn)) (pv 4) (nM _)) (xdk (pR xfh (pd Dl_high hr (pc (pv 1) (pc (pv 7) pN zsn) zsn)) (pv 5) (nM _)))))) (zpo (xaf (i:=6) nd rfl (by walk_at "o") (xag xjf (pv 6) (xbv qa8 [none,none,some 7,some 3] rfl (by kernel_rfl) (xb0 (pv 9)) (fun _ _ _ _=>(xd2 (K:=K) (n:=2) rfl rfl (xad (xab (i:=0) (by show List.Nodup (qa8:List Str); decide +kernel) rfl (Or.inl rfl)) (xad (xab (i:=1) (by show List.Nodup (qa8:List Str); decide +kernel) rfl (Or.inl rfl)) xa4)))) (fun _ _ _ _=>(xeg (pR xa1 (pv 1) (pv 3) (nM _)))) (fun _ _ _ _=>(xbc (pc (pv 2) (pc (pv 0) pN zsn) zsn))))))) pQ)))
   (zpn (xau (pR (xr7 (Nat.lt_of_succ_lt hu)) (pv 6) (xb9 pN) (nM _)) (zpo (xae xe0)) pQ)
   (zpn (xd9 (xak iL (pv 6) (pd Dl_take hr (pc (pv 0) (pc (xao xah rfl T.z_len PySem.boot_len (pc (pv 6) pN zsn)) pN zsc) zsn)) (fun _ _=>rfl)) (xck rfl (xad (xab (i:=7) nd rfl (by walk_at "o")) (xad (xab (i:=10) nd rfl (by walk_at "o")) xa4))))
   (zpo (xae (xbc (pc pS (pc (pd Dl_term hr (pc (pv 0) (pc (pv 1) (pc (pv 2) (pc (pv 7) (pc (xag xbs (pv 4) pI) (pc (xag xbs (pv 5) pI) pN xaq) xaq) zsn) zsn) zsn) zsn)) (pc (pv 10) pN zsn) zsc) zso)))))))),xb6 fun R2 hR2=>?_⟩
 refine ⟨(by walk_at "s"),fun sl hsl=>hR2 _ _ (xb6 fun R3 hR3=>?_)⟩
 obtain ⟨p0,q0,hf⟩:=ti.fd
 have slf:sl≠f':=Ne.symm (neN hf hsl)
 have ss:=Same.new hsl (.lst [])
 have hkd:=ti.kd
 obtain ⟨ka,us,rfl,hka,hus⟩:=hkd
 have hul:=hus.length
 rw [zLM] at hul
 refine (xa3 _ rfl ka rfl ⟨_,SqT.of (ss _ _ hka)⟩ ?_)
 refine xde (xs:=us) (fun i σ H'=>∃ (lt:Addr) (ws:List V) (o7 o8 o9:Option V),σ=[some (.ref f'),some (.ref ka),some bv,some (.str x),some (.int room),some (.int ((m + 1:Nat):Int)),some (.ref lt),o7,o8,o9,none]/\Same H H'/\H' lt=some (.lst ws)/\lt≠f'/\ws.length<=5 * i/\∀ z∈ws,GtAt H' ks (m + 1) room x z) (xat sl ([]) none none none rfl ss ups slf (Nat.le_refl _) (fun _ h=>nomatch h)) (fun i σ H' _ p=>?_) ?_ ?_
 ·obtain ⟨_,_,_,_,_,_,sm',_⟩:=p
  exact SqT.of (sm' _ _ hka)
 ·rintro i vv σ H2 hvv ⟨lt,ws,o7,o8,o9,rfl,sm',hws,ltf,hwl,hcs⟩
  obtain ⟨d,hd,rd⟩:=hus.get hvv
  rw [zGM] at hd
  obtain ⟨k,hk',rfl⟩:=zMS hd
  obtain ⟨b,wz,rfl,hb,_,_,rfl,rfl,_,_,rfl,rfl,v3,_,rfl,r3,rfl⟩:=rd
  obtain ⟨c,zs,rfl,hc,hzs⟩:=r3
  have hzl:=hzs.length
  rw [zLM] at hzl
  have hkm:=zMG hk'
  have h5:=wf.pts k hkm
  have hi':i < us.length:=(zES hvv).1
  refine (xap b _ rfl (SqT.of (sm' _ _ hb)) rfl _ _ rfl _ (xcn _ rfl _ _ rfl rfl ?_))
  refine (xai _ rfl rfl _ rfl ?_)
  cases hrc:k.rc with
  | false=>
   refine iteKF (zDF (by rw [xd8 hrc]; decide +kernel)) (iteF ?_)
   exact (xat lt ws _ _ _ rfl sm' hws ltf (by omega) hcs)
  | true=>
   refine iteKT (zDT (by rw [xd0 hrc]; rfl)) ?_
   refine (xax _ rfl _ rfl (.ref ka) ks k.name rfl (ti.kd.same sm' _) wf ⟨xhx wf hkm,fun H3 s3=>(xbo _ rfl _ _ rfl rfl _ rfl (ite2 (fun cm=>?_) (fun cm=>?_)))⟩)
   ·have s23:=sm'.trans s3
    refine (xax _ rfl _ rfl (.ref ka) ks k.name rfl (ti.kd.same s23 _) wf ⟨xhx wf hkm,fun H4 s4=>(xbo _ rfl _ _ rfl rfl _ rfl (ite2 (fun ch=>?_) (fun ch=>?_)))⟩)
    ·have s24:=s23.trans s4
     have hws4:=s4 _ _ (s3 _ _ hws)
     refine (jEA _ rfl (xa3 _ rfl c rfl ⟨_,SqT.of (s24 _ _ hc)⟩ ?_))
     refine xco (xs:=zs) (fun i ys H'=>Same H4 H'/\ys.length<=i/\∀ z∈ys,GtAt H' ks (m + 1) room x z) (jAA (Same.refl _) (Nat.le_refl _) (fun _ h=>nomatch h)) (xa7 (by omega)) (fun i ys H' _ p=>SqT.of (p.1 _ _ (s24 _ _ hc))) ?_ ?_
     ·rintro i' y ys H' hy hi2 hly ⟨sm2,hyl,hys⟩
      obtain ⟨d',hd2,rd2⟩:=hzs.get hy
      rw [zGM] at hd2
      obtain ⟨pr,hpr,rfl⟩:=zMS hd2
      obtain ⟨b',ws',rfl,hb',_,_,rfl,rfl,_,_,rfl,rfl,rfl⟩:=rd2
      refine (xap b' _ rfl (SqT.of ((s24.trans sm2) _ _ hb')) rfl _ _ rfl _ (xeb _ rfl rfl (ext2 rfl rfl) ?_))
      refine (xcw _ rfl _ rfl rfl _ rfl ?_)
      by_cases hpx:pr.2=x
      ·refine iteKT (zDT (by rw [hpx])) ?_
       refine (xa3 _ rfl _ rfl (by walk_at "s") (fun t ht=>nxtG hi2 hly ?_))
       have st:=Same.new ht (.tup [.str k.name,.str pr.1])
       refine (jAA (sm2.trans st) (by rw [zLA,List.length_singleton]; omega) (fun z hz=>?_))
       rcases zMA hz with hz | hz
       ·exact (hys z hz).tups fun b us q=>st _ _ q
       ·rw [zMO hz]
        exact (xdb t k pr rfl ups hkm hrc (zMG hpr) hpx (of_decide_eq_true cm) (of_decide_eq_true ch))
      ·exact iteKF (zDF fun z=>hpx (V.str.inj z)) (nxtN hi2 hly (jAA sm2 (by omega) hys))
     ·rintro ys H' hly ⟨sm2,hyl,hys⟩ D hD
      have sD:=Same.new hD (.lst ys)
      refine (xa5 lt D _ _ rfl rfl (sD _ _ (sm2 _ _ hws4)) ups (fits (by omega)) (fun l' hl'=>?_))
      have sl':=Same.new hl' (.lst (ws++ys))
      have sA:=s24.trans (sm2.trans (sD.trans sl'))
      refine (xat l' (ws++ys) _ _ _ rfl sA ups (Ne.symm (neN ((s24.trans (sm2.trans sD)) _ _ hf) hl')) (by rw [zLA]; omega) (fun z hz=>?_))
      rcases zMA hz with hz | hz
      ·exact (hcs z hz).tups fun b us q=>(s3.trans (s4.trans (sm2.trans (sD.trans sl')))) _ _ q
      ·exact (hys z hz).tups fun b us q=>(sD.trans sl') _ _ q
    ·exact (xat lt ws _ _ _ rfl (s23.trans s4) (s4 _ _ (s3 _ _ hws)) ltf (by omega) (fun z hz=>(hcs z hz).tups fun b us q=>s4 _ _ (s3 _ _ q)))
   ·refine iteF ?_
    exact (xat lt ws _ _ _ rfl (sm'.trans s3) (s3 _ _ hws) ltf (by omega) (fun z hz=>(hcs z hz).tups fun b us q=>s3 _ _ q))
 ·rintro σ H2 ⟨lt,ws,o7,o8,o9,rfl,sm',hws,ltf,hwl,hcs⟩
  refine hR3 _ _ (xb6 fun R4 hR4=>?_)
  refine (jEAA _ rfl (by walk_at "s") (fun e he=>?_))
  have se:=Same.new he (.lst [])
  have s3:=sm'.trans se
  have hws3:=se _ _ hws
  refine (xdw lt e ws rfl rfl (SqL.of hws3) (SqL.of ups) _ rfl ?_)
  cases hwe:ws with
  | nil=>exact iteT (qn _ ((Fed.refl hf).same s3))
  | cons w0 wr=>
   refine iteF (hR4 _ _ (xb6 fun R5 hR5=>?_))
   have hwp:0 < ws.length:=by rw [hwe]; simp
   have hf3:=s3 _ _ hf
   refine (xa8 _ rfl _ rfl _ rfl lt _ rfl (.inl (SqL.of hws3)) (xaw f' p0 q0 _ rfl hf3 (by omega) (by omega) (fun r H5 r0 r1 f5=>?_)))
   obtain ⟨i,rfl⟩:∃ i:Nat,r=(i:Int):=⟨r.toNat,by omega⟩
   have hi':i < ws.length:=by omega
   have tp5:=xaj (jEE p0 q0 hf3) f5
   obtain ⟨b,k,p,eb,hb,hkm,hrc,hp,hpx,hsm,hhk⟩:=((hcs ws[i] (List.getElem_mem hi')).tups fun b us q=>se _ _ q).tups tp5
   have hat:atI ws (i:Int)=some (.ref b):=xbb (by rw [zGA hi',eb])
   refine (xes lt _ _ _ rfl rfl (SqL.of (f5.1 _ _ hws3 ltf)) hat b (xd4 _ rfl (SqT.of hb) rfl _ _ rfl _ _ rfl ⟨rfl,hR5 _ _ ?_⟩))
   have F5:Fed f' H H5:=((Fed.refl hf).same s3).trans f5
   have t5:=(ti.fed F5)
   have hj1:(((m + 1:Nat):Int)) - 1=(m:Int):=by omega
   refine (xam _ rfl _ rfl _ rfl _ rfl _ rfl (xdc _ _ rfl rfl _ rfl _ _ rfl rfl ?_))
   refine (xas f' (.ref ka) bv ks bs (xcd k.name (room - 1) (xis hj1) (t5.down (by omega)) (by omega) (xhx wf hkm) (by omega) (by omega) (fun u du H7 f7 ru htu=>?_)))
   refine (jEAA _ rfl (by walk_at "s") (fun t ht=>?_))
   have st:=Same.new ht (.tup [.str (S "get"),u,.str p.1])
   refine q t (tGet du p.1) _ ((F5.trans f7).same st) (xan t _ rfl ups _ _ rfl rfl _ (xbk _ rfl (ru.same st _) _ _ rfl rfl rfl)) ?_
   rw [<- hpx]
   exact ⟨xt9 wf (xsb wf hkm) hrc hp htu.1,.inr (.inr (.inr (.inl (jEEA _ _ (xcp _ _ _ _ (by omega) htu.2) rfl))))⟩
end
def PtAt (H:Hp) (ks:List Kn) (k:Kn) (m:Nat) (room:Int) (w:V):Prop:=∃ (b:Addr) (p:Str×Str),w=.ref b/\H b=some (.tup [.str p.1,.str p.2])/\p∈k.parts/\smK ks p.2 < room/\hiK ks p.2 < m
theorem PtAt.tups {H H':Hp} {ks:List Kn} {k:Kn} {m:Nat} {room:Int} {w:V} (h:PtAt H ks k m room w) (s:∀ b us,H b=some (.tup us)->H' b=some (.tup us)):PtAt H' ks k m room w:=by
 obtain ⟨b,p,e,hb,r⟩:=h
 exact (xay b p e (s _ _ hb) r)
theorem xsu {r:Int} (h0:0<=r) (h:r < 5):∃ c,atI (S "+-*<=").cps.toList r=some c/\Sg ⟨#[c]⟩:=by
 obtain ⟨i,rfl⟩:∃ i:Nat,r=(i:Int):=⟨r.toNat,by omega⟩
 have hi:i=0\/i=1\/i=2\/i=3\/i=4:=by omega
 rcases hi with rfl | rfl | rfl | rfl | rfl
 ·exact (jEA 43 (xbb (by walk_at "k")) (.inl (by walk_at "k")))
 ·exact (jEA 45 (xbb (by walk_at "k")) (.inr (.inl (by walk_at "k"))))
 ·exact (jEA 42 (xbb (by walk_at "k")) (.inr (.inr (.inl (by walk_at "k")))))
 ·exact (jEA 60 (xbb (by walk_at "k")) (.inr (.inr (.inr (.inl (by walk_at "k"))))))
 ·exact (jEA 61 (xbb (by walk_at "k")) (.inr (.inr (.inr (.inr (by walk_at "k"))))))
theorem xfp {α β:Type} {R:α->β->Prop}:∀ {as:List α} {bs:List β} {a:α} {b:β},All2 R as bs->R a b->All2 R (as++[a]) (bs++[b])
 | _,_,_,_,.nil,h=>.cons h .nil
 | _,_,_,_,.cons h t,k=>.cons h (xfp t k)
theorem xn7 {α:Type} {f:α->Int} {q:Int}:∀ {l:List α},(l.map fun p=>f p + q).sum=(l.map f).sum + (l.length:Int) * q
 | []=>by simp
 | a :: l=>by
  have ih:=xn7 (f:=f) (q:=q) (l:=l)
  rw [List.map_cons,List.map_cons,List.sum_cons,List.sum_cons,ih,List.length_cons]
  have:((l.length + 1:Nat):Int) * q=(l.length:Int) * q + q:=by rw [Int.natCast_add,Int.add_mul]; simp
  omega
theorem xqf {ks:List Kn} {ps:List (Str×Str)} {x:Str} {n:Nat} {room:Int} (hl:n=ps.length) (hr:smK ks x<=room) (es:smK ks x=1 + (ps.map fun p=>smK ks p.2).sum):(ps.map fun p=>smK ks p.2 + (room - smK ks x) / (n:Int)).sum<=room:=by
 subst hl
 rw [xn7]
 by_cases h0:ps.length=0
 ·rw [h0]
  simp
  omega
 ·have:=Int.mul_ediv_self_le (x:=room - smK ks x) (k:=(ps.length:Int)) (by omega)
  omega
section
variable {P:Program} {w:World} {K:PySem.W.Frag} {mg:Str->Option Value} {base:Heap} {n m:Nat}
theorem xhl (T:Tx K mg) (Dl_sort_of:DefIs P w K mg base n "_law_sort_of" qab xfu) (Dl_take:DefIs P w K mg base n "_law_take" qae xda) (Dl_number:DefIs P w K mg base n "_law_number" qat xoc) (Dl_small:DefIs P w K mg base n "_law_small" qab (spSm smK 6)) (Dl_high:DefIs P w K mg base n "_law_high" qab (spSm hiK 6)) (Dl_term:DefIs P w K mg base n "_law_term" qac (spTm m)) :
  DefIs P w K mg base (n + 1) "_law_whole_term" qac (spTm (m + 1)):=by
 refine DefIs.of T.dl_whole_term scl_whole_term ?_ ?_ <;> walk_at "i"
 ·obtain ⟨_,_,_,_,_,_,_,rfl,_⟩:=h
  rfl
 obtain ⟨f',kv,bv,ks,bs,x,room,rfl,ti,m8,hxin,hroom,hhi,q⟩:=h
 have nd:=scl_whole_term.nd
 have wf:=ti.wf
 have hj1:(((m + 1:Nat):Int)) - 1=(m:Int):=by omega
 refine ⟨_,(zpn (xd9 (pd Dl_sort_of hr (pc (pv 1) (pc (pv 3) pN zsn) zsn)) (xck rfl (xad (xab (i:=6) nd rfl (by walk_at "o")) (xad (xab (i:=7) nd rfl (by walk_at "o")) xa4))))
   (zpn (xau (pR xa1 (pv 6) pS (nM _)) (zpn (xau (PW.pt (xom (pR xfh (pv 4) pI (nM _)) (xom (pR xfh (pv 5) pI (nM _)) (xmb (pR xa1 (pd Dl_take hr (pc (pv 0) (pc pI pN zso) zsn)) pI (nM _)))))) (zpo (xae (xbc (pc pS (pc (pd Dl_number hr (pc (pv 0) pN zsn)) pN zsc) zso)))) pQ)
   (zpn (xaf (i:=8) nd rfl (by walk_at "o") (pd Dl_term hr (pc (pv 0) (pc (pv 1) (pc (pv 2) (pc pS (pc (xag xb1 (xag xbs (pv 4) pI) pI) (pc (xag xbs (pv 5) pI) pN xaq) xaq) zso) zsn) zsn) zsn)))
   (zpn (xaf (i:=9) nd rfl (by walk_at "o") (pd Dl_term hr (pc (pv 0) (pc (pv 1) (pc (pv 2) (pc pS (pc (xag xb1 (xag xbs (pv 4) pI) pI) (pc (xag xbs (pv 5) pI) pN xaq) xaq) zso) zsn) zsn) zsn)))
   (zpo (xae (xbc (pc pS (pc (xak xmq pS (pd Dl_take hr (pc (pv 0) (pc pI pN zso) zsn)) (fun _ _=>rfl)) (pc (pv 8) (pc (pv 9) pN zsn) zsn) zss) zso))))))) pQ)
   (zpn (xau (pR xa1 (pv 6) pS (nM _)) (zpn (xcq (i:=10) qbg [none,some 4,some 5,some 1] rfl (by kernel_rfl) nd rfl (by walk_at "o") (xb0 (pv 7)) (fun _ _ _ _=>(xab (i:=0) (by show List.Nodup (qbg:List Str); decide +kernel) rfl (Or.inl rfl))) (fun _ _ _ _=>(xeg (PW.pt (xdo (pR xfh (pd Dl_small hr (pc (pv 3) (pc (xak (xd6 (K:=K) rfl) (pv 0) pI (fun _ _=>rfl)) pN zss) zsn)) (pv 1) (nM _)) (xdk (pR xfh (pd Dl_high hr (pc (pv 3) (pc (xak (xd6 (K:=K) rfl) (pv 0) pI (fun _ _=>rfl)) pN zss) zsn)) (pv 2) (nM _))))))) (fun _ _ _ _=>(pv 0)))
   (zpn (xd9 (xak iL (pv 10) (pd Dl_take hr (pc (pv 0) (pc (xao xah rfl T.z_len PySem.boot_len (pc (pv 10) pN zsn)) pN zsc) zsn)) (fun _ _=>rfl)) (xck rfl (xad (xab (i:=11) nd rfl (by walk_at "o")) (xad (xab (i:=12) nd rfl (by walk_at "o")) xa4))))
   (zpo (xae (xbc (pc pS (pc (pv 3) (pc (pv 11) (pc (pd Dl_term hr (pc (pv 0) (pc (pv 1) (pc (pv 2) (pc (pv 12) (pc (xag xbs (pv 4) pI) (pc (xag xbs (pv 5) pI) pN xaq) xaq) zsn) zsn) zsn) zsn)) pN zsc) zsn) zsn) zso)))))) pQ)
   (zpn (xaf (i:=13) nd rfl (by walk_at "o") (xag xbs (pv 4) (pd Dl_small hr (pc (pv 1) (pc (pv 3) pN zsn) zsn))))
   (zpn (xaf (i:=14) nd rfl (by walk_at "o") (xb9 pN))
   (zpn (xc3 PassesOwn.never rfl (xb0 (pv 7)) (xck rfl (xad (xab (i:=15) nd rfl (by walk_at "o")) (xad (xab (i:=12) nd rfl (by walk_at "o")) xa4)))
   (zpo (xbe (xhi PySem.F.plainAttrs_list PySem.F.slot_list_append PySem.F.type_list_append xdt (pv 14) (pc (pd Dl_term hr (pc (pv 0) (pc (pv 1) (pc (pv 2) (pc (pv 12) (pc (xag xa9 (pd Dl_small hr (pc (pv 1) (pc (pv 12) pN zsn) zsn)) (xag xb1 (pv 13) (xao xah rfl T.z_len PySem.boot_len (pc (pv 7) pN zsn)))) (pc (xag xbs (pv 5) pI) pN xaq) xaq) zsn) zsn) zsn) zsn)) pN zsc)))))
   (zpo (xae (xbc (pc pS (pc (pv 3) (pc (xa6 xb5 rfl T.z_tuple PyProof.Rows.boot_tuple (pc (pv 14) pN zsn)) pN zsc) zsn) zso)))))))))),xb6 fun R1 hR1=>?_⟩
 refine (xbt _ rfl _ rfl kv ks x rfl ((wf.ksAt ti.kd).seq) (fun t pv' H1 s1 ht rp=>?_))
 refine (xap t _ rfl (SqT.of ht) rfl _ _ rfl _ (jEAA _ rfl rfl (hR1 _ _ (xb6 fun R2 hR2=>?_))))
 have t1:=ti.same s1
 obtain ⟨p1,q1,h1⟩:=t1.fd
 obtain ⟨p0,q0,hf⟩:=ti.fd
 have F1:Fed f' H H1:=(Fed.refl hf).same s1
 rcases hxin.look wf with ⟨rfl,hkx⟩ | ⟨j,k,_,hkx,hn,hkm,_⟩
 ·refine (xai _ rfl rfl _ rfl (iteKT (zDT (by rw [hkx]; rfl)) ?_))
  have RN:∀ (H2:Hp) (f2:Fed f' H1 H2),∀ (i:Int) (H3:Hp),Nm i->Fed f' H2 H3->∀ t,H3 t=none->Q (.ref t) (upd H3 t (.tup [.str (S "num"),.int i])):=fun H2 f2 i H3 hi f3 t ht=>by
   have st:=Same.new ht (.tup [.str (S "num"),.int i])
   exact q _ (tNum i) _ (((F1.trans f2).trans f3).same st) (xan t _ rfl ups _ _ rfl rfl _ (jEAA _ rfl rfl rfl)) ⟨xt8 hi,xt4 (by rw [(xf0 wf).1] at hroom; omega)⟩
  refine xb6 fun RA hRA=>?_
  refine (xbo _ rfl _ _ rfl rfl _ rfl (ite2 (fun c1=>?_) (fun c1=>?_)))
  ·exact iteT (xet _ rfl f' p1 q1 rfl h1 (fun i H3 hi f3=>⟨(by walk_at "s"),fun t ht=>RN H1 (Fed.refl h1) i H3 hi f3 t ht⟩))
  refine (xbo _ rfl _ _ rfl rfl _ rfl (ite2 (fun c2=>?_) (fun c2=>?_)))
  ·exact iteT (xet _ rfl f' p1 q1 rfl h1 (fun i H3 hi f3=>⟨(by walk_at "s"),fun t ht=>RN H1 (Fed.refl h1) i H3 hi f3 t ht⟩))
  have c1':¬ room < 3:=fun z=>c1 (zDT z)
  have c2':¬ ((m + 1:Nat):Int) < 2:=fun z=>c2 (zDT z)
  refine (xaa _ rfl f' p1 q1 _ rfl h1 (by decide) (by decide) (fun r H2 r0 r1 f2=>(jAEA rfl _ rfl (ite2 (fun c3=>?_) (fun c3=>?_)))))
  ·obtain ⟨p2,q2,h2⟩:=f2.2
   exact (xet _ rfl f' p2 q2 rfl h2 (fun i H3 hi f3=>⟨(by walk_at "s"),fun t ht=>RN H2 f2 i H3 hi f3 t ht⟩))
  have t2:=t1.fed f2
  have hs1:=(xf0 wf).1
  have hs2:=(xf0 wf).2
  have hrm:smK ks (S "num")<=(room - 1) / 2:=by rw [hs1]; omega
  have hhm:hiK ks (S "num")<=(m:Int):=by rw [hs2]; omega
  refine hRA _ _ (xb6 fun RB hRB=>?_)
  refine (xbu _ rfl _ rfl _ rfl _ rfl _ (xbk _ rfl rfl _ _ rfl rfl (jAEA ⟨by decide,by decide⟩ _ rfl (xay _ _ rfl rfl ?_))))
  refine (xas f' kv bv ks bs (xcd (S "num") ((room - 1) / 2) (xis hj1) (t2.down (by omega)) (by omega) (.inl rfl) hrm hhm (fun u1 d1 H3 f3 ru1 ht1=>?_)))
  have t3:=t2.fed f3
  refine hRB _ _ (xb6 fun RC hRC=>?_)
  refine (xbu _ rfl _ rfl _ rfl _ rfl _ (xbk _ rfl rfl _ _ rfl rfl (jAEA ⟨by decide,by decide⟩ _ rfl (xay _ _ rfl rfl ?_))))
  refine (xas f' kv bv ks bs (xcd (S "num") ((room - 1) / 2) (xis hj1) (t3.down (by omega)) (by omega) (.inl rfl) hrm hhm (fun u2 d2 H4 f4 ru2 ht2=>?_)))
  have t4:=t3.fed f4
  obtain ⟨p4,q4,h4⟩:=t4.fd
  refine hRC _ _ ?_
  refine (xaa _ rfl f' p4 q4 _ rfl h4 (by decide) (by decide) (fun r' H5 r0' r1' f5=>?_))
  obtain ⟨ch,hch,hsg⟩:=xsu r0' r1'
  refine (xdw _ _ ch rfl rfl (by walk_at "k") hch _ rfl (jEAA _ rfl (by walk_at "s") (fun t' ht'=>?_)))
  have st:=Same.new ht' (.tup [.str (S "op"),.str ⟨#[ch]⟩,u1,u2])
  exact q _ (tOpD ⟨#[ch]⟩ d1 d2) _ (((((F1.trans f2).trans f3).trans f4).trans f5).same st) (xan t' _ rfl ups _ _ rfl rfl _ (xbk _ rfl rfl _ _ rfl (((ru1.tups (xaj t3.fd f4) _).tups (xaj t4.fd f5) _).same st _) (xay _ _ rfl ((ru2.tups (xaj t4.fd f5) _).same st _) rfl))) ⟨xv5 wf hsg ht1.1 ht2.1,.inr (.inl (xas _ _ _ _ _ (jAAA ht1.2 ht2.2 (by omega) rfl)))⟩
 ·rw [hkx] at rp
  obtain ⟨a,us,rfl,ha,hus⟩:=rp
  have hl:=hus.length
  rw [zLM] at hl
  have h5:=wf.pts k hkm
  have hss:xi6 (kAt ks x)=k.sort:=by rw [hkx]; rfl
  have es:=(xqh wf hkx).1
  have eh:=(xqh wf hkx).2
  unfold smS at es
  unfold hiS at eh
  cases hc:k.rc with
  | false=>
   rw [if_neg (by rw [hc]; decide)] at es eh
   refine (xai _ rfl rfl _ rfl (iteKF (zDF (by rw [hss,xd8 hc]; decide +kernel)) (hR2 _ _ (xb6 fun R3 hR3=>?_))))
   refine (xai _ rfl rfl _ rfl (iteKT (zDT (by rw [hss,xd8 hc]; rfl)) ?_))
   refine (xa3 _ rfl a rfl ⟨_,SqT.of ha⟩ ?_)
   refine xco (xs:=us) (fun i ys H'=>Same H1 H'/\(∀ z∈ys,PtAt H' ks k (m + 1) room z)/\(1<=i->ys≠[])) (jAA (Same.refl _) (fun _ h=>nomatch h) (fun h=>absurd h (by decide))) (xa7 (by omega)) (fun i ys H' _ p=>SqT.of (p.1 _ _ ha)) ?_ ?_
   ·rintro i y ys H' hy hi2 hly ⟨sm2,hys,hne⟩
    obtain ⟨d',hd2,rd2⟩:=hus.get hy
    rw [zGM] at hd2
    obtain ⟨pr,hpr,rfl⟩:=zMS hd2
    obtain ⟨b,ws',rfl,hb,_,_,rfl,rfl,_,_,rfl,rfl,rfl⟩:=rd2
    have hpm:=zMG hpr
    have first:i=0->smK ks pr.2 < room/\hiK ks pr.2 < ((m + 1:Nat):Int):=fun e0=>by
     subst e0
     cases hpp:k.parts with
     | nil=>rw [hpp] at hpr; simp at hpr
     | cons p r=>
      rw [hpp] at hpr es eh
      simp at hpr
      subst hpr
      have es':smK ks x=1 + smK ks p.2:=es
      have eh':hiK ks x=1 + hiK ks p.2:=eh
      omega
    refine ⟨xd7 rfl,?_⟩
    refine (xa0 _ rfl _ rfl b _ _ (xdd _ rfl rfl (SqT.of (sm2 _ _ hb)) rfl (xbf kv ks pr.2 rfl (t1.kd.same sm2 _) wf (xdv wf hkm hpm) (fun H3 s3=>(xbo _ rfl _ _ rfl rfl _ rfl (ite2 (fun c1=>?_) (fun c1=>?_)))))))
    ·refine (xa0 _ rfl _ rfl b _ _ (xdd _ rfl rfl (SqT.of (s3 _ _ (sm2 _ _ hb))) rfl (xbf kv ks pr.2 rfl ((t1.kd.same sm2 _).same s3 _) wf (xdv wf hkm hpm) (fun H4 s4=>(xbo _ rfl _ _ rfl rfl _ rfl (ite2 (fun c2=>?_) (fun c2=>?_)))))))
     ·refine (jEA _ rfl (nxtG hi2 hly (jAA (sm2.trans (s3.trans s4)) (fun z hz=>?_) (fun _=>by simp))))
      rcases zMA hz with hz | hz
      ·exact (hys z hz).tups fun b us q=>s4 _ _ (s3 _ _ q)
      ·rw [zMO hz]
       exact (xc2 b pr rfl (s4 _ _ (s3 _ _ (sm2 _ _ hb))) hpm (of_decide_eq_true c1) (of_decide_eq_true c2))
     ·refine nxtN hi2 hly (jAA (sm2.trans (s3.trans s4)) (fun z hz=>(hys z hz).tups fun b us q=>s4 _ _ (s3 _ _ q)) (fun _=>?_))
      by_cases e0:i=0
      ·exact absurd (zDT (first e0).2) c2
      ·exact hne (by omega)
    ·refine iteF (nxtN hi2 hly (jAA (sm2.trans s3) (fun z hz=>(hys z hz).tups fun b us q=>s3 _ _ q) (fun _=>?_)))
     by_cases e0:i=0
     ·exact absurd (zDT (first e0).1) c1
     ·exact hne (by omega)
   ·rintro ys H2 hly ⟨sm2,hys,hne⟩ D hD
    have hnl:k.parts.length≠0:=fun e=>wf.alt k hkm hc (List.length_eq_zero_iff.mp e)
    have hyne:=hne (by omega)
    have hyp:0 < ys.length:=Nat.pos_of_ne_zero fun e=>hyne (List.length_eq_zero_iff.mp e)
    have sD:=Same.new hD (.lst ys)
    have s12:=sm2.trans sD
    have Df:D≠f':=Ne.symm (neN (sm2 _ _ h1) hD)
    refine (xa8 _ rfl _ rfl _ rfl D _ rfl (.inl (SqL.of ups)) (xaw f' p1 q1 _ rfl (s12 _ _ h1) (by omega) (by omega) (fun r H5 r0 r1 f5=>?_)))
    obtain ⟨i,rfl⟩:∃ i:Nat,r=(i:Int):=⟨r.toNat,by omega⟩
    have hi':i < ys.length:=by omega
    have t2:=t1.same s12
    have tp5:=xaj t2.fd f5
    obtain ⟨b,p,eb,hb,hpm,hsm,hhk⟩:=((hys ys[i] (List.getElem_mem hi')).tups fun b us q=>sD _ _ q).tups tp5
    have hat:atI ys (i:Int)=some (.ref b):=xbb (by rw [zGA hi',eb])
    refine (xes D _ _ _ rfl rfl (SqL.of (f5.1 _ _ ups Df)) hat b (xd4 _ rfl (SqT.of hb) rfl _ _ rfl _ _ rfl ⟨rfl,?_⟩))
    have t5:=t2.fed f5
    refine (xam _ rfl _ rfl _ rfl _ rfl _ rfl (xcf _ rfl _ rfl _ _ rfl rfl _ rfl (xay _ _ rfl rfl ?_)))
    refine (xas f' kv bv ks bs (xcd p.2 (room - 1) (xis hj1) (t5.down (by omega)) (by omega) (xdv wf hkm hpm) (by omega) (by omega) (fun u du H7 f7 ru htu=>⟨(by walk_at "s"),fun t' ht'=>?_⟩)))
    have st:=Same.new ht' (.tup [.str (S "tag"),.str x,.str p.1,u])
    exact q _ (tTag x p.1 du) _ ((((F1.same s12).trans f5).trans f7).same st) (xan t' _ rfl ups _ _ rfl rfl _ (xbk _ rfl rfl _ _ rfl rfl (xay _ _ rfl (ru.same st _) rfl))) ⟨xt6 wf hkx hc hpm htu.1,.inr (.inr (.inr (.inr (.inl (jEE _ _ (jEA _ (xcp _ _ _ _ (by omega) htu.2) rfl))))))⟩
  | true=>
   rw [if_pos hc] at es eh
   refine (xai _ rfl rfl _ rfl (iteKF (zDF (by rw [hss,xd0 hc]; decide +kernel)) (hR2 _ _ (xb6 fun R3 hR3=>?_))))
   refine (xai _ rfl rfl _ rfl (iteKF (zDF (by rw [hss,xd0 hc]; decide +kernel)) (hR3 _ _ (xb6 fun R4 hR4=>?_))))
   refine (xa2 _ rfl _ rfl _ rfl kv ks (xdd x rfl t1.kd wf hxin (fun H2 s2=>(xay _ _ rfl rfl (hR4 _ _ (xb6 fun R5 hR5=>?_))))))
   refine ⟨(by walk_at "s"),fun tl htl=>hR5 _ _ (xb6 fun R6 hR6=>?_)⟩
   have s12:=s2.trans (Same.new htl (.lst []))
   have htl1:=xcg s2 htl
   have tlf:tl≠f':=Ne.symm (neN h1 htl1)
   refine (xa3 _ rfl a rfl ⟨_,SqT.of (s12 _ _ ha)⟩ ?_)
   refine xde (xs:=us) (fun i σ H'=>∃ (ws:List V) (ds:List D) (o12 o15:Option V),σ=[some (.ref f'),some kv,some bv,some (.str x),some (.int room),some (.int ((m + 1:Nat):Int)),some (.str (xi6 (kAt ks x))),some (.ref a),none,none,none,none,o12,some (.int (room - smK ks x)),some (.ref tl),o15]/\Fed f' H1 H'/\H' tl=some (.lst ws)/\RelDs H' ws ds/\All2 (fun e (p:Str×Str)=>TmB ks m bs e p.2) ds (k.parts.take i)/\All2 (Tc m) ds ((k.parts.take i).map fun p=>smK ks p.2 + (room - smK ks x) / (us.length:Int))) (xa5 ([]) ([]) none none rfl ((Fed.refl h1).same s12) ups rfl (by rw [List.take_zero]; exact .nil) (by rw [List.take_zero]; exact .nil)) (fun i σ H' _ p=>?_) ?_ ?_
   ·obtain ⟨_,_,_,_,_,fm,_⟩:=p
    exact SqT.of (xaj t1.fd fm _ _ ha)
   ·rintro i vv σ H3 hvv ⟨ws,ds,o12,o15,rfl,fm,hws,rws,hall,hcnt⟩
    have tp:=xaj t1.fd fm
    obtain ⟨d',hd2,rd2⟩:=hus.get hvv
    rw [zGM] at hd2
    obtain ⟨pr,hpr,rfl⟩:=zMS hd2
    obtain ⟨b,ws',rfl,hb,_,_,rfl,rfl,_,_,rfl,rfl,rfl⟩:=rd2
    have hpm:=zMG hpr
    have t3:=t1.fed fm
    have hwl:=rws.length
    have hal:=hall.length
    rw [List.length_take] at hal
    have hi':i < us.length:=(zES hvv).1
    refine (xap b _ rfl (SqT.of (tp _ _ hb)) rfl _ _ rfl _ (jEAA _ rfl rfl ?_))
    refine (xai _ rfl (.inl (jAE rfl _ (SqL.of hws))) _ rfl (xam _ rfl _ rfl _ rfl _ rfl _ rfl (xbf kv ks pr.2 rfl t3.kd wf (xdv wf hkm hpm) (fun H4 s4=>?_))))
    have hdv:0<=(room - smK ks x) / (us.length:Int):=Int.ediv_nonneg (by omega) (by omega)
    refine (xdx _ rfl _ rfl a _ rfl (.inr (SqT.of (s4 _ _ (tp _ _ ha)))) _ (xeb _ rfl rfl ⟨by omega,by omega⟩ (xdc _ _ rfl rfl _ rfl _ _ rfl rfl ?_)))
    have hhp:hiK ks pr.2<=(m:Int):=by
     have:=xih (List.mem_map_of_mem (f:=fun p:Str×Str=>hiK ks p.2) hpm)
     omega
    have t4:=t3.same s4
    refine (xas f' kv bv ks bs (xcd pr.2 (smK ks pr.2 + (room - smK ks x) / (us.length:Int)) (xis hj1) (t4.down (by omega)) (by omega) (xdv wf hkm hpm) (by omega) hhp (fun u du H5 f5 ru htu=>?_)))
    have hw5:=f5.1 _ _ (s4 _ _ hws) tlf
    have rw5:=(rws.same s4 _).tups (xaj t4.fd f5) _
    refine (xbf tl ws _ rfl rfl hw5 (xa7 (by omega)) (xa5 _ (ds++[du]) _ _ rfl (Fed.put ((fm.same s4).trans f5) htl1 tlf _) ups ((rw5.tups (xbj hw5 _) _).append (xay u ([]) rfl (ru.tups (xbj hw5 _) _) rfl)) ?_ ?_))
    ·rw [zTA,hpr]
     exact xfp hall htu.1
    ·rw [zTA,hpr,zAP]
     exact xfp hcnt htu.2
   ·rintro σ H3 ⟨ws,ds,o12,o15,rfl,fm,hws,rws,hall,hcnt⟩
    rw [zTL (by omega)] at hall hcnt
    refine hR6 _ _ (jEA _ rfl (jEA _ rfl (jEEA tl ws rfl (.inl ⟨SqL.of hws,fun t2 ht2=>⟨(by walk_at "s"),fun t3 ht3=>?_⟩⟩))))
    have y2:=Same.new ht2 (.tup ws)
    have y3:=Same.new ht3 (.tup [.str (S "rec"),.str x,.ref t2])
    exact q _ (tRec x ds) _ ((F1.trans fm).same (y2.trans y3)) (xan t3 _ rfl ups _ _ rfl rfl _ (xbk _ rfl rfl _ _ rfl (xay t2 ws rfl (y3 _ _ ups) (rws.same (y2.trans y3) _)) rfl)) ⟨xt7 hkx hc (by omega) hall,.inr (.inr (.inl (xbi _ _ _ hcnt (xqf hl (by omega) es) (by have:=hall.length; omega) rfl)))⟩
end
section
variable {P:Program} {w:World} {K:PySem.W.Frag} {mg:Str->Option Value} {base:Heap} {n m:Nat}
theorem xqt (T:Tx K mg) (Dl_take:DefIs P w K mg base n "_law_take" qae xda) (Dl_small:DefIs P w K mg base n "_law_small" qab (spSm smK 6)) (Dl_high:DefIs P w K mg base n "_law_high" qab (spSm hiK 6)) (Dl_term:DefIs P w K mg base n "_law_term" qac (spTm m)) (Dl_get:DefIs P w K mg base n "_law_get" qac (xuj (m + 1))) (Dl_case:DefIs P w K mg base n "_law_case" qac (xrs (m + 1))) (Dl_whole_term:DefIs P w K mg base n "_law_whole_term" qac (spTm (m + 1))) :
  DefIs P w K mg base (n + 1) "_law_term" qac (spTm (m + 1)):=by
 refine DefIs.of T.dl_term scl_term ?_ ?_ <;> walk_at "i"
 ·obtain ⟨_,_,_,_,_,_,_,rfl,_⟩:=h
  rfl
 obtain ⟨f',kv,bv,ks,bs,x,room,rfl,ti,m8,hxin,hroom,hhi,q⟩:=h
 have nd:=scl_term.nd
 have hu:=xcz hr
 have wf:=ti.wf
 have hj1:(((m + 1:Nat):Int)) - 1=(m:Int):=by omega
 have hsb:=xdy wf x
 refine ⟨_,(zpn (xaf (i:=6) nd rfl (by walk_at "o") (pd Dl_take hr (pc (pv 0) (pc pI pN zso) zsn)))
   (zpn (xcq (i:=7) qa9 [none,none,some 3] rfl (by kernel_rfl) nd rfl (by walk_at "o") (xc1 (pv 2)) (fun _ _ _ _=>(xd2 (K:=K) (n:=2) rfl rfl (xad (xab (i:=0) (by show List.Nodup (qa9:List Str); decide +kernel) rfl (Or.inl rfl)) (xad (xab (i:=1) (by show List.Nodup (qa9:List Str); decide +kernel) rfl (Or.inl rfl)) xa4)))) (fun _ _ _ _=>(xeg (pR xa1 (pv 1) (pv 2) (nM _)))) (fun _ _ _ _=>(pv 0)))
   (zpn (xau (PW.pt (xdo (pR xfh (pv 6) pI (nM _)) (xdk (pR (xr4 (Nat.lt_of_succ_lt hu)) (pv 7) (xb9 pN) (nM _))))) (zpo (xae (xbc (pc pS (pc (xak iL (pv 7) (pd Dl_take hr (pc (pv 0) (pc (xao xah rfl T.z_len PySem.boot_len (pc (pv 7) pN zsn)) pN zsc) zsn)) (fun _ _=>rfl)) pN zss) zso)))) pQ)
   (zpn (xaf (i:=8) nd rfl (by walk_at "o") (pd Dl_small hr (pc (pv 1) (pc (pv 3) pN zsn) zsn)))
   (zpn (xaf (i:=9) nd rfl (by walk_at "o") xe0)
   (zpn (xau (PW.pt (xdo (pR xa1 (pv 6) pI (nM _)) (xdo (pR xla (pv 5) (pd Dl_high hr (pc (pv 1) (pc (pv 3) pN zsn) zsn)) (nM _)) (xdk (pR xla (pv 4) (xag xa9 (xag xdr pI (pv 8)) pI) (nM _)))))) (zpn (xaf (i:=10) nd rfl (by walk_at "o") (xag xb1 (xag xbs (xag xbs (pv 4) pI) (xag xdr pI (pv 8))) pI))
   (zpn (xaf (i:=11) nd rfl (by walk_at "o") (pd Dl_term hr (pc (pv 0) (pc (pv 1) (pc (pv 2) (pc pS (pc (xag xa9 pI (pv 10)) (pc (xag xbs (pv 5) pI) pN xaq) xaq) zso) zsn) zsn) zsn)))
   (zpn (xaf (i:=12) nd rfl (by walk_at "o") (pd Dl_term hr (pc (pv 0) (pc (pv 1) (pc (pv 2) (pc (pv 3) (pc (xag xa9 (pv 8) (pv 10)) (pc (xag xbs (pv 5) pI) pN xaq) xaq) zsn) zsn) zsn) zsn)))
   (zpo (xae (xbc (pc pS (pc (pv 11) (pc (pv 12) (pc (pd Dl_term hr (pc (pv 0) (pc (pv 1) (pc (pv 2) (pc (pv 3) (pc (xag xa9 (pv 8) (pv 10)) (pc (xag xbs (pv 5) pI) pN xaq) xaq) zsn) zsn) zsn) zsn)) pN zsc) zsn) zsn) zso))))))) pQ)
   (zpn (xau (PW.pt (xom (pR xa1 (pv 6) pI (nM _)) (xmb (pR xa1 (pv 6) pI (nM _))))) (zpo (xaf (i:=9) nd rfl (by walk_at "o") (pd Dl_get hr (pc (pv 0) (pc (pv 1) (pc (pv 2) (pc (pv 3) (pc (pv 4) (pc (pv 5) pN zsn) zsn) zsn) zsn) zsn) zsn)))) pQ)
   (zpn (xau (PW.pt (xdo (pR xa1 (pv 6) pI (nM _)) (xdk (pR xla (pv 5) (pd Dl_high hr (pc (pv 1) (pc (pv 3) pN zsn) zsn)) (nM _))))) (zpo (xaf (i:=9) nd rfl (by walk_at "o") (pd Dl_case hr (pc (pv 0) (pc (pv 1) (pc (pv 2) (pc (pv 3) (pc (pv 4) (pc (pv 5) pN zsn) zsn) zsn) zsn) zsn) zsn)))) pQ)
   (zpn (xau (pR xs4 (pv 9) xe0 (nM _)) (zpo (xae (pv 9))) pQ)
   (zpo (xae (pd Dl_whole_term hr (pc (pv 0) (pc (pv 1) (pc (pv 2) (pc (pv 3) (pc (pv 4) (pc (pv 5) pN zsn) zsn) zsn) zsn) zsn) zsn))))))))))))),?_⟩
 obtain ⟨p0,q0,hf⟩:=ti.fd
 refine (xaa _ rfl f' p0 q0 _ rfl hf (by decide) (by decide) (fun fm H1 m0 m1 f1=>?_))
 have t1:=ti.fed f1
 have hbx:=t1.bx
 obtain ⟨bl,ub,rfl,hbl,hub,blf⟩:=hbx
 have hul:=hub.length
 rw [zLM] at hul
 have hbl30:=ti.bl
 refine (xa3 _ rfl bl rfl ⟨_,SqL.of hbl⟩ ?_)
 refine xch (xs:=ub) (fun i ys H'=>H'=H1/\∃ zs:List Str,ys=zs.map V.str/\(∀ z∈zs,(z,x)∈bs)/\zs.length<=i) (xho rfl ([]) rfl (fun _ h=>nomatch h) (Nat.le_refl _)) (xa7 (by omega)) (fun i ys H' _ p=>by obtain ⟨rfl,_⟩:=p; exact SqL.of hbl) ?_ ?_
 ·rintro i y ys H' hy hi2 hly ⟨rfl,zs,rfl,hzs,hzl⟩
  obtain ⟨d',hd2,rd2⟩:=hub.get hy
  rw [zGM] at hd2
  obtain ⟨pr,hpr,rfl⟩:=zMS hd2
  obtain ⟨b,ws',rfl,hb,_,_,rfl,rfl,_,_,rfl,rfl,rfl⟩:=rd2
  refine (xap b _ rfl (SqT.of hb) rfl _ _ rfl _ (xeb _ rfl rfl (ext2 rfl rfl) ?_))
  refine (xcw _ rfl _ rfl rfl _ rfl ?_)
  by_cases hpx:pr.2=x
  ·refine iteKT (zDT (by rw [hpx])) (jEA _ rfl (nxtG hi2 hly (xho rfl (zs++[pr.1]) (by rw [zAP]; rfl) (fun z hz=>?_) (by rw [zLA,List.length_singleton]; omega))))
   rcases zMA hz with hz | hz
   ·exact hzs z hz
   ·rw [zMO hz,<- hpx]
    exact zMG hpr
  ·exact iteKF (zDF fun z=>hpx (V.str.inj z)) (nxtN hi2 hly (xho rfl zs rfl hzs (by omega)))
 rintro ys H2 hly ⟨rfl,zs,rfl,hzs,hzl⟩ D hD
 have sD:=Same.new hD (.lst (zs.map V.str))
 have t2:=t1.same sD
 have F2:Fed f' H _:=f1.same sD
 have Df:D≠f':=Ne.symm (neN t1.fd.choose_spec.choose_spec hD)
 refine (xbo _ rfl _ _ rfl rfl _ rfl (ite2 (fun c1=>?_) (fun c1=>?_)))
 ·have c0:fm < 2:=of_decide_eq_true c1
  refine (jEAA _ rfl (by walk_at "s") (fun e he=>?_))
  have se:=Same.new he (.lst [])
  have t3:=t2.same se
  have F3:Fed f' H _:=F2.same se
  refine (xdw D e _ rfl rfl (SqL.of (se _ _ ups)) (SqL.of ups) _ rfl ?_)
  by_cases hzz:zs=[]
  ·refine xnw (by rw [hzz]; rfl) ?_
   refine (xax _ rfl _ rfl kv ks x rfl t3.kd wf ⟨hxin,fun H4 s4=>?_⟩)
   have tc:=t3.same s4
   have Fc:Fed f' H H4:=F3.same s4
   refine (xai _ rfl rfl _ rfl (iteKF (zDF fun z=>absurd (V.int.inj z) (by omega)) (iteF ?_)))
   refine (xai _ rfl rfl _ rfl (iteKF (zDF fun z=>absurd (V.int.inj z) (by omega)) ?_))
   refine (xai _ rfl rfl _ rfl (iteKF (zDF fun z=>absurd (V.int.inj z) (by omega)) ?_))
   refine (xai _ rfl rfl _ rfl (iteKF (zDF fun z=>absurd (V.int.inj z) (by omega)) (iteF ?_)))
   refine (xai _ rfl rfl _ rfl (iteF ?_))
   exact (xam _ rfl _ rfl _ rfl _ rfl _ rfl (xcm _ rfl f' kv (.ref bl) ks (xb2 bs x room rfl tc m8 hxin hroom hhi (fun u d H' fd ru hd=>q u d H' (Fc.trans fd) ru hd))))
  ·refine xnv (by cases zs with | nil=>exact absurd rfl hzz | cons a r=>rfl) ?_
   obtain ⟨p3,q3,h3⟩:=t3.fd
   have hzp:0 < zs.length:=Nat.pos_of_ne_zero fun e=>hzz (List.length_eq_zero_iff.mp e)
   have zl:(zs.map V.str).length=zs.length:=zLM _
   refine (xa8 _ rfl _ rfl _ rfl D _ rfl (.inl (SqL.of (se _ _ ups))) (xaw f' p3 q3 _ rfl h3 (by rw [zl]; omega) (by rw [zl]; omega) (fun r H4 r0 r1 f4=>?_)))
   rw [zl] at r1
   obtain ⟨i,rfl⟩:∃ i:Nat,r=(i:Int):=⟨r.toNat,by omega⟩
   have hi':i < zs.length:=by omega
   refine (xa5 D _ _ (.str zs[i]) rfl rfl (SqL.of (f4.1 _ _ (se _ _ ups) Df)) (xbb (by rw [zGM,zGA hi']; rfl)) (by walk_at "s") (fun t ht=>?_))
   have st:=Same.new ht (.tup [.str (S "box"),.str zs[i]])
   exact q _ (tBox zs[i]) _ ((F3.trans f4).same st) (xan t _ rfl ups _ _ rfl rfl _ (jEAA _ rfl rfl rfl)) ⟨xua (hzs _ (List.getElem_mem hi')),xt5 (by have:=(xdy wf x).1; omega)⟩
 ·have c0:¬ fm < 2:=fun z=>c1 (zDT z)
  refine iteF ?_
  refine (xax _ rfl _ rfl kv ks x rfl t2.kd wf ⟨hxin,fun H3 s3=>?_⟩)
  have t3:=t2.same s3
  have F3:Fed f' H H3:=F2.same s3
  refine (xai _ rfl rfl _ rfl ?_)
  by_cases e2:fm=2
  ·refine iteKT (zDT (by rw [e2])) ?_
   refine (xa2 _ rfl _ rfl _ rfl kv ks (xdd x rfl t3.kd wf hxin (fun H4 s4=>(xe9 _ _ rfl rfl _ rfl (ite2 (fun c2=>?_) (fun c2=>?_))))))
   ·have t4:=t3.same s4
    have F4:Fed f' H H4:=F3.same s4
    refine (xbp _ rfl _ rfl _ _ rfl rfl (jAE (.inr ⟨by omega,by omega⟩) _ (xbk _ rfl rfl _ _ rfl rfl (jEA _ rfl (ite2 (fun c3=>?_) (fun c3=>?_))))))
    ·have c2':hiK ks x < ((m + 1:Nat):Int):=of_decide_eq_true c2
     have c3':2 * smK ks x + 1 < room:=of_decide_eq_true c3
     refine (xc7 _ rfl _ _ rfl rfl _ rfl _ (xeb _ rfl rfl (.inr ⟨by omega,by omega⟩) (xay _ _ rfl rfl (xbg _ _ rfl rfl ⟨by decide,by decide⟩ ?_))))
     have hm0:0<=(room - 2 - 2 * smK ks x) / 3:=Int.ediv_nonneg (by omega) (by decide)
     refine (xbu _ rfl _ rfl _ rfl _ rfl _ (xai _ rfl rfl _ rfl (xay _ _ rfl rfl ?_)))
     refine (xas f' kv (.ref bl) ks bs (xcd (S "num") (1 + (room - 2 - 2 * smK ks x) / 3) (xis hj1) (t4.down (by omega)) (by omega) (.inl rfl) (by rw [(xf0 wf).1]; omega) (by rw [(xf0 wf).2]; omega) (fun u1 d1 H5 f5 ru1 ht1=>?_)))
     have t5:=t4.fed f5
     refine (xam _ rfl _ rfl _ rfl _ rfl _ rfl (xc7 _ rfl _ _ rfl rfl _ rfl _ (jEAA _ rfl rfl ?_)))
     refine (xas f' kv (.ref bl) ks bs (xcd x (smK ks x + (room - 2 - 2 * smK ks x) / 3) (xis hj1) (t5.down (by omega)) (by omega) hxin (by omega) (by omega) (fun u2 d2 H6 f6 ru2 ht2=>?_)))
     have t6:=t5.fed f6
     refine (xam _ rfl _ rfl _ rfl _ rfl _ rfl (xa8 _ rfl _ rfl _ rfl _ _ rfl rfl (xcn _ rfl _ _ rfl rfl ?_)))
     refine (xas f' kv (.ref bl) ks bs (xcd x (smK ks x + (room - 2 - 2 * smK ks x) / 3) (xis hj1) (t6.down (by omega)) (by omega) hxin (by omega) (by omega) (fun u3 d3 H7 f7 ru3 ht3=>⟨(by walk_at "s"),fun t ht=>?_⟩)))
     have st:=Same.new ht (.tup [.str (S "if"),u1,u2,u3])
     exact q _ (tIfD d1 d2 d3) _ ((((F4.trans f5).trans f6).trans f7).same st) (xan t _ rfl ups _ _ rfl rfl _ (xbk _ rfl (((ru1.tups (xaj t5.fd f6) _).tups (xaj t6.fd f7) _).same st _) _ _ rfl ((ru2.tups (xaj t6.fd f7) _).same st _) (xay _ _ rfl (ru3.same st _) rfl))) ⟨xv6 wf ht1.1 ht2.1 ht3.1,.inr (.inr (.inr (.inr (.inr (.inr (xas _ _ _ _ _ (xdd _ ht1.2 ht2.2 ht3.2 (by omega) rfl)))))))⟩
    ·have tc:=t4
     have Fc:=F4
     refine (xai _ rfl rfl _ rfl (iteKF (zDF fun z=>absurd (V.int.inj z) (by omega)) ?_))
     refine (xai _ rfl rfl _ rfl (iteKF (zDF fun z=>absurd (V.int.inj z) (by omega)) ?_))
     refine (xai _ rfl rfl _ rfl (iteKF (zDF fun z=>absurd (V.int.inj z) (by omega)) (iteF ?_)))
     refine (xai _ rfl rfl _ rfl (iteF ?_))
     exact (xam _ rfl _ rfl _ rfl _ rfl _ rfl (xcm _ rfl f' kv (.ref bl) ks (xb2 bs x room rfl tc m8 hxin hroom hhi (fun u d H' fd ru hd=>q u d H' (Fc.trans fd) ru hd))))
   ·refine iteF ?_
    have tc:=t3.same s4
    have Fc:Fed f' H H4:=F3.same s4
    refine (xai _ rfl rfl _ rfl (iteKF (zDF fun z=>absurd (V.int.inj z) (by omega)) ?_))
    refine (xai _ rfl rfl _ rfl (iteKF (zDF fun z=>absurd (V.int.inj z) (by omega)) ?_))
    refine (xai _ rfl rfl _ rfl (iteKF (zDF fun z=>absurd (V.int.inj z) (by omega)) (iteF ?_)))
    refine (xai _ rfl rfl _ rfl (iteF ?_))
    exact (xam _ rfl _ rfl _ rfl _ rfl _ rfl (xcm _ rfl f' kv (.ref bl) ks (xb2 bs x room rfl tc m8 hxin hroom hhi (fun u d H' fd ru hd=>q u d H' (Fc.trans fd) ru hd))))
  ·refine iteKF (zDF fun z=>e2 (V.int.inj z)) (iteF ?_)
   refine (xai _ rfl rfl _ rfl ?_)
   by_cases e3:fm=3
   ·refine iteKT (zDT (by rw [e3])) (iteT ?_)
    refine (xam _ rfl _ rfl _ rfl _ rfl _ rfl (xcm _ rfl f' kv (.ref bl) ks (xdb bs x room rfl t3 m8 hxin hroom hhi (fun H5 f5=>?_) (fun a d H5 f5 ra ha=>?_))))
    ·have tc:=t3.fed f5
     have Fc:=F3.trans f5
     refine (xai _ rfl rfl _ rfl (iteKF (zDF fun z=>absurd (V.int.inj z) (by omega)) (iteF ?_)))
     refine (xai _ rfl rfl _ rfl (iteF ?_))
     exact (xam _ rfl _ rfl _ rfl _ rfl _ rfl (xcm _ rfl f' kv (.ref bl) ks (xb2 bs x room rfl tc m8 hxin hroom hhi (fun u d H' fd ru hd=>q u d H' (Fc.trans fd) ru hd))))
    ·refine (xai _ rfl rfl _ rfl (iteKF (zDF fun z=>absurd (V.int.inj z) (by omega)) (iteF ?_)))
     refine (xai _ rfl rfl _ rfl (xnv (by simp) (jEA _ rfl (q _ d _ (F3.trans f5) ra ha))))
   refine iteKF (zDF fun z=>e3 (V.int.inj z)) ?_
   refine (xai _ rfl rfl _ rfl ?_)
   by_cases e4:fm=4
   ·refine iteKT (zDT (by rw [e4])) ?_
    refine (xam _ rfl _ rfl _ rfl _ rfl _ rfl (xcm _ rfl f' kv (.ref bl) ks (xdb bs x room rfl t3 m8 hxin hroom hhi (fun H5 f5=>?_) (fun a d H5 f5 ra ha=>?_))))
    ·have tc:=t3.fed f5
     have Fc:=F3.trans f5
     refine (xai _ rfl rfl _ rfl (iteKF (zDF fun z=>absurd (V.int.inj z) (by omega)) (iteF ?_)))
     refine (xai _ rfl rfl _ rfl (iteF ?_))
     exact (xam _ rfl _ rfl _ rfl _ rfl _ rfl (xcm _ rfl f' kv (.ref bl) ks (xb2 bs x room rfl tc m8 hxin hroom hhi (fun u d H' fd ru hd=>q u d H' (Fc.trans fd) ru hd))))
    ·refine (xai _ rfl rfl _ rfl (iteKF (zDF fun z=>absurd (V.int.inj z) (by omega)) (iteF ?_)))
     refine (xai _ rfl rfl _ rfl (xnv (by simp) (jEA _ rfl (q _ d _ (F3.trans f5) ra ha))))
   refine iteKF (zDF fun z=>e4 (V.int.inj z)) ?_
   refine (xai _ rfl rfl _ rfl ?_)
   by_cases e5:fm=5
   ·refine iteKT (zDT (by rw [e5])) ?_
    refine (xa2 _ rfl _ rfl _ rfl kv ks (xdd x rfl t3.kd wf hxin (fun H4 s4=>(xe9 _ _ rfl rfl _ rfl (ite2 (fun c2=>?_) (fun c2=>?_))))))
    ·have t4:=t3.same s4
     have F4:Fed f' H H4:=F3.same s4
     refine (xam _ rfl _ rfl _ rfl _ rfl _ rfl (xcm _ rfl f' kv (.ref bl) ks (xdb bs x room rfl t4 m8 hxin hroom (of_decide_eq_true c2) (fun H5 f5=>?_) (fun a d H5 f5 ra ha=>?_))))
     ·have tc:=t4.fed f5
      have Fc:=F4.trans f5
      refine (xai _ rfl rfl _ rfl (iteF ?_))
      exact (xam _ rfl _ rfl _ rfl _ rfl _ rfl (xcm _ rfl f' kv (.ref bl) ks (xb2 bs x room rfl tc m8 hxin hroom hhi (fun u d H' fd ru hd=>q u d H' (Fc.trans fd) ru hd))))
     ·refine (xai _ rfl rfl _ rfl (xnv (by simp) (jEA _ rfl (q _ d _ (F4.trans f5) ra ha))))
    ·have tc:=t3.same s4
     have Fc:Fed f' H H4:=F3.same s4
     refine (xai _ rfl rfl _ rfl (iteF ?_))
     exact (xam _ rfl _ rfl _ rfl _ rfl _ rfl (xcm _ rfl f' kv (.ref bl) ks (xb2 bs x room rfl tc m8 hxin hroom hhi (fun u d H' fd ru hd=>q u d H' (Fc.trans fd) ru hd))))
   ·refine iteKF (zDF fun z=>e5 (V.int.inj z)) (iteF ?_)
    have tc:=t3
    have Fc:=F3
    refine (xai _ rfl rfl _ rfl (iteF ?_))
    exact (xam _ rfl _ rfl _ rfl _ rfl _ rfl (xcm _ rfl f' kv (.ref bl) ks (xb2 bs x room rfl tc m8 hxin hroom hhi (fun u d H' fd ru hd=>q u d H' (Fc.trans fd) ru hd))))
theorem xn5 (T:Tx K mg):∀ m,DefIs P w K mg base (3 * m + 10) "_law_term" qac (spTm m)
 | 0=>DefIs.none T.dl_term fun vs H Q E h=>by
  obtain ⟨f',kv,bv,ks,bs,x,room,_,ti,_,_,_,hhi,_⟩:=h
  have:=xdy ti.wf x
  omega
 | m + 1=>by
  have tm:=xn5 T m
  have take:∀ k,DefIs P w K mg base (k + 1) "_law_take" qae xda:=fun k=>xeo T
  have sml:∀ k,8<=k->DefIs P w K mg base k "_law_small" qab (spSm smK 6):=fun k hk=>(xh7 T 6).mono hk
  have hih:∀ k,8<=k->DefIs P w K mg base k "_law_high" qab (spSm hiK 6):=fun k hk=>(xlr T 6).mono hk
  exact xqt (n:=3 * m + 12) T (take _) (sml _ (by omega)) (hih _ (by omega)) (tm.mono (by omega)) (xs6 (n:=3 * m + 11) T (take _) (sml _ (by omega)) (hih _ (by omega)) (tm.mono (by omega))) (xqv (n:=3 * m + 11) T (take _) (sml _ (by omega)) (hih _ (by omega)) (tm.mono (by omega)) (xqw (n:=3 * m + 10) T (take _) tm)) (xhl (n:=3 * m + 11) T (xbq T) (take _) (xfw T (take _)) (sml _ (by omega)) (hih _ (by omega)) (tm.mono (by omega)))
end
theorem xse {ks:List Kn}:∀ (n:Nat) (env:En) (d v:D),Evs ks n env d v->Evs ks (n + 1) env d v
 | 0,_,_,_,h=>.inl h
 | n + 1,env,d,v,h=>by
  rcases h with h | ⟨h,g⟩
  ·exact .inl h
  ·exact .inr ⟨h.mono (xse n),g⟩
theorem xvs {ks:List Kn} {n m:Nat} (l:n<=m) {env:En} {d v:D} (h:Evs ks n env d v):Evs ks m env d v:=by
 obtain ⟨k,rfl⟩:∃ k,m=n + k:=⟨m - n,by omega⟩
 clear l
 induction k with
 | zero=>exact h
 | succ k ih=>exact xse _ _ _ _ ih
theorem TmB.le {ks:List Kn} {n m:Nat} {bs:List (Str×Str)} {d:D} {x:Str} (h:TmB ks n bs d x) (l:n<=m):TmB ks m bs d x:=⟨fun env hf=>by
 obtain ⟨v,h1,h2⟩:=h.1 env hf
 exact (jEA v (xvs l h1) h2),fun env hf=>xwt l (h.2 env hf)⟩
theorem xrr {f g:Str->Int} (h:∀ x,f x<=g x):∀ (l:List (Str×Str)),(l.map fun p=>f p.2).sum<=(l.map fun p=>g p.2).sum
 | []=>Int.le_refl _
 | a :: r=>by
  have:=h a.2
  have:=xrr h r
  rw [List.map_cons,List.map_cons,List.sum_cons,List.sum_cons]
  omega
theorem xum {ks:List Kn}:∀ (n:Nat) (x:Str),smF n ks x<=szF n ks x
 | 0,x=>Int.le_refl _
 | n + 1,x=>by
  cases hk:kAt ks x with
  | none=>rw [xdz hk,xee hk]; exact Int.le_refl _
  | some k=>
   rw [xff hk,xhr hk]
   have ih:=fun y=>xum (ks:=ks) n y
   unfold smS
   cases k.rc with
   | true=>
    rw [if_pos rfl,if_pos rfl]
    have:=xrr ih k.parts
    omega
   | false=>
    rw [if_neg (by decide),if_neg (by decide)]
    cases k.parts with
    | nil=>exact Int.le_refl _
    | cons p r=>
     have h1:=ih p.2
     have e:maxD ((p :: r).map fun p=>szF n ks p.2)=max (szF n ks p.2) (maxD (r.map fun p=>szF n ks p.2)):=rfl
     rw [e]
     dsimp only
     omega
theorem xwf {ks:List Kn} (wf:KWf ks) (hf:Fit ks) {x:Str} (h:KIn ks ks.length x):smK ks x<=40:=by
 rcases h.look wf with ⟨rfl,e⟩ | ⟨j,k,_,hk,hn,hm,_⟩
 ·rw [(xf0 wf).1]; decide
 ·have h1:=xum (ks:=ks) 7 x
  have h2:=hf k hm
  rw [hn] at h2
  unfold sz at h2
  unfold smK
  omega
theorem DefIs.any {P:Program} {w:World} {K:PySem.W.Frag} {mg:Str->Option Value} {base:Heap} {n N:Nat} {x:Str} {ps:List Str} {sps:Nat->Sp} (D:∀ m,m<=N->DefIs P w K mg base n x ps (sps m)):DefIs P w K mg base n x ps (fun vs H Q E=>∃ m,m<=N/\sps m vs H Q E):=by
 obtain ⟨f,fd,F,b,k,mm,l⟩:=(D 0 (Nat.zero_le _)).ex
 refine ⟨f,(xdd fd ⟨?_,?_⟩ b k mm l)⟩
 ·rintro vs H Q E ⟨m,hm,h⟩
  obtain ⟨f2,fd2,F2,_⟩:=(D m hm).ex
  exact F2.1 vs H Q E h
 ·rintro A outer s H args us vs Q E h1 h2 h3 h4 ⟨m,hm,h⟩
  obtain ⟨f2,fd2,F2,b2,k2,mm2,l2⟩:=(D m hm).ex
  rw [mm] at mm2
  cases mm2
  obtain ⟨oc,od,osl,l⟩:=l
  obtain ⟨_,_,_,l2⟩:=l2
  rw [l] at l2
  cases l2
  exact F2.2 A outer s H args us vs Q E h1 h2 h3 h4 h
def spT8:Sp:=fun vs H Q E=>∃ m,m<=8/\spTm m vs H Q E
def xof:Sp:=fun vs H Q _=>∃ (f:Addr) (kv bv:V) (ks:List Kn) (bs:List (Str×Str)) (x:Str),vs=[.ref f,kv,bv,.str x]/\TIn H f kv bv ks bs 8/\KIn ks ks.length x/\Fit ks/\∀ u d H',Fed f H H'->RelD H' u d->TmB ks 8 bs d x/\Tc 8 d 40->Q u H'
def xog (K:PySem.W.Frag):Sp:=fun vs H Q _=>∃ (a:Addr) (ns:List Int),vs=[.ref a,.int 3]/\SqL K H a (ns.map V.int)/\ns.length<=63/\∀ l (cs:List Int) H',Same H H'->H' l=some (.lst (cs.map V.int))->(∀ c∈cs,0<=c)->Q (.ref l) H'
def xoh (K:PySem.W.Frag):Sp:=fun vs H Q _=>∃ (a:Addr) (ns:List Int),vs=[.ref a]/\SqL K H a (ns.map V.int)/\ns.length<=63/\∀ c:Int,Q (.int c) H
section
variable {P:Program} {w:World} {K:PySem.W.Frag} {mg:Str->Option Value} {base:Heap} {n m:Nat}
theorem xhn (T:Tx K mg) (Dl_take:DefIs P w K mg base n "_law_take" qae xda) (Dl_small:DefIs P w K mg base n "_law_small" qab (spSm smK 6)) (Dl_high:DefIs P w K mg base n "_law_high" qab (spSm hiK 6)) (Dl_term:DefIs P w K mg base n "_law_term" qac spT8) :
  DefIs P w K mg base (n + 1) "_law_drawn_term" qa5 xof:=by
 refine DefIs.of T.dl_drawn_term scl_drawn_term ?_ ?_ <;> walk_at "i"
 ·obtain ⟨_,_,_,_,_,_,rfl,_⟩:=h
  rfl
 obtain ⟨f',kv,bv,ks,bs,x,rfl,ti,hin,hfit,q⟩:=h
 have nd:=scl_drawn_term.nd
 refine ⟨_,(zpn (xaf (i:=4) nd rfl (by walk_at "o") (pd Dl_small hr (pc (pv 1) (pc (pv 3) pN zsn) zsn)))
   (zpn (xaf (i:=5) nd rfl (by walk_at "o") (xao (xp2 rfl) rfl T.z_min PyProof.Rows.boot_min (pc pI (pc (xag xa9 (pv 4) (pd Dl_take hr (pc (pv 0) (pc (xak iL (xb9 (pc pI (pc pI pN zso) zso)) (xa6 xhf rfl T.z_int PyProof.Rows.boot_int (pc (xib xa1 (pd Dl_take hr (pc (pv 0) (pc pI pN zso) zsn)) pI (nM _)) pN xl8)) (fun _ _=>rfl)) pN zss) zsn))) pN xaq) zso)))
   (zpo (xae (pd Dl_term hr (pc (pv 0) (pc (pv 1) (pc (pv 2) (pc (pv 3) (pc (pv 5) (pc (xao (xp3 rfl) rfl T.z_max PyProof.Rows.boot_max (pc (pd Dl_high hr (pc (pv 1) (pc (pv 3) pN zsn) zsn)) (pc (xag xa9 pI (pd Dl_take hr (pc (pv 0) (pc pI pN zso) zsn))) pN xaq) zsc)) pN zsc) zsn) zsn) zsn) zsn) zsn)))))),?_⟩
 have wf:=ti.wf
 have hin6:KIn ks 6 x:=hin.mono wf.few
 have hb:=xdy wf x
 have h40:=xwf wf hfit hin
 refine (xax _ rfl _ rfl kv ks x rfl ti.kd wf ⟨hin6,fun H1 s1=>?_⟩)
 have t1:=ti.same s1
 refine (xa3 _ rfl _ rfl (by walk_at "s") (fun l2 hl2=>?_))
 have s2:=Same.new hl2 (.lst [.int 10,.int 40])
 have t2:=t1.same s2
 obtain ⟨p2,q2,h2⟩:=t2.fd
 have l2f:l2≠f':=by
  obtain ⟨p1,q1,h1⟩:=t1.fd
  exact Ne.symm (neN h1 hl2)
 refine (xaa _ rfl f' p2 q2 8 rfl h2 (by decide) (by decide) (fun r3 H3 r30 r31 f3=>⟨rfl,.inr (jEA _ rfl ?_)⟩))
 have t3:=t2.fed f3
 have F3:Fed f' H H3:=by
  obtain ⟨p0,q0,h0⟩:=ti.fd
  exact ((Fed.refl h0).same (s1.trans s2)).trans f3
 have key:∀ c:Bool,∃ mm:Int,atI [V.int 10,V.int 40] (if c=true then (1:Int) else 0)=some (.int mm)/\0 < mm/\mm<=40:=fun c=>by
  cases c with
  | false=>exact (jEAA 10 rfl (by decide) (by decide))
  | true=>exact (jEAA 40 rfl (by decide) (by decide))
 obtain ⟨mm,hat,hm0,hm1⟩:=key (decide (V.int r3=V.int 1))
 refine (xaw l2 _ _ _ rfl rfl (SqL.of (f3.1 _ _ ups l2f)) hat ?_)
 obtain ⟨p3,q3,h3⟩:=t3.fd
 refine (xaw f' p3 q3 mm rfl h3 hm0 (by omega) (fun r4 H4 r40 r41 f4=>(xay _ _ rfl rfl (jEEA _ _ rfl ?_))))
 have t4:=t3.fed f4
 have F4:=F3.trans f4
 have hroom:smK ks x<=(if smK ks x + r4 < 40 then smK ks x + r4 else 40):=by split <;> omega
 refine (xam _ rfl _ rfl _ rfl _ rfl _ rfl (xax _ rfl _ rfl kv ks x rfl t4.kd wf ⟨hin6,fun H5 s5=>?_⟩))
 have t5:=t4.same s5
 obtain ⟨p5,q5,h5⟩:=t5.fd
 refine (xaa _ rfl f' p5 q5 6 rfl h5 (by decide) (by decide) (fun r6 H6 r60 r61 f6=>(xay _ _ rfl rfl (jEEA _ _ rfl ?_))))
 have t6:=t5.fed f6
 have F6:=(F4.same s5).trans f6
 obtain ⟨mN,hmN,hm8,hmH⟩:∃ mN:Nat,(if 3 + r6 > hiK ks x then 3 + r6 else hiK ks x)=(mN:Int)/\mN<=8/\hiK ks x<=mN:=by
  by_cases c:3 + r6 > hiK ks x
  ·rw [if_pos c]
   exact (jEAA ((3 + r6).toNat) (by omega) (by omega) (by omega))
  ·rw [if_neg c]
   exact (jEAA ((hiK ks x).toNat) (by omega) (by omega) (by omega))
 rw [hmN]
 exact (xcm mN hm8 f' kv bv ks (xb2 bs x _ rfl (t6.down hm8) hm8 hin6 hroom hmH (fun u d H' fd ru hd=>q u d H' (F6.trans fd) ru ⟨TmB.le hd.1 hm8,xv4 hm8 (xcp _ _ _ _ (by split <;> omega) hd.2)⟩)))
theorem xoy (T:Tx K mg):DefIs P w K mg base (n + 1) "_law_cells" qa6 (xog K):=by
 refine DefIs.of T.dl_cells scl_cells ?_ ?_ <;> walk_at "i"
 ·obtain ⟨_,_,rfl,_⟩:=h
  rfl
 obtain ⟨a,ns,rfl,hS,h63,q⟩:=h
 have nd:=scl_cells.nd
 refine ⟨_,(zpn (xaf (i:=2) nd rfl (by walk_at "o") (xao xah rfl T.z_len PySem.boot_len (pc (xdi xk5 (pv 0) xe7 (xd1 pI)) pN zss)))
   (zpn (xau (pR xu3 (pv 2) (pv 1) (nM _)) (zpo (xaf (i:=2) nd rfl (by walk_at "o") (xag xa9 (pv 1) pI))) pQ)
   (zpo (xae (xjb rfl rfl T.z_list rfl T.z_range (pc (pv 1) (pc (pv 2) pN zsn) zsn)))))),?_⟩
 refine (xbp _ rfl _ rfl a _ rfl hS (fun c hc=>?_))
 have s1:=Same.new hc (.lst (cutV (ns.map V.int) none (some 63)))
 have hcl:(cutV (ns.map V.int) none (some 63)).length<=63:=by
  unfold cutV
  rw [List.length_take,List.length_drop,zLM]
  omega
 refine (xay c _ rfl (.inl (SqL.of ups)) ?_)
 have fin:∀ (j:Int) (H':Hp),0<=j->j<=1000->Same H H'->∀ l,H' l=none->Q (.ref l) (upd H' l (.lst ((List.range (j - 3).toNat).map fun (k:Nat)=>V.int (3 + (k:Int))))):=fun j H' _ _ sm l hl=>by
  have e:((List.range (j - 3).toNat).map fun (k:Nat)=>V.int (3 + (k:Int)))=((List.range (j - 3).toNat).map fun (k:Nat)=>(3 + (k:Int))).map V.int:=by rw [List.map_map]; rfl
  rw [e]
  refine q l _ _ (sm.trans (Same.new hl _)) ups fun c hc=>?_
  obtain ⟨k,_,rfl⟩:=zMP hc
  omega
 refine (xcf _ rfl _ rfl _ _ rfl rfl _ rfl (ite2 (fun c1=>?_) (fun c1=>?_)))
 ·exact (xc7 _ rfl _ _ rfl rfl _ rfl _ (jAE rfl _ (jEAA _ rfl (jAAA (by decide) (by decide) (by decide) (by decide)) (fin 6 _ (by decide) (by decide) s1))))
 ·exact (xbp _ rfl _ rfl _ _ rfl (jAAA (by decide) (by decide) (by omega) (by omega)) (fin _ _ (by omega) (by omega) s1))
theorem xnj (T:Tx K mg):DefIs P w K mg base (n + 1) "_law_cell_0" qah (xoh K):=by
 refine DefIs.of T.dl_cell_0 xnd ?_ ?_ <;> walk_at "i"
 ·obtain ⟨_,_,rfl,_⟩:=h
  rfl
 obtain ⟨a,ns,rfl,hS,h63,q⟩:=h
 refine ⟨_,(zpn (xau (pR xa1 (xao xah rfl T.z_len PySem.boot_len (pc (pv 0) pN zsn)) pI (nM _)) (zpo (xae pI)) pQ)
   (zpo (xae (xak iL (pv 0) pI (fun _ _=>rfl))))),?_⟩
 refine (xbx _ rfl a _ rfl (.inl hS) rfl (jEA _ rfl (ite2 (fun c=>?_) (fun c=>?_))))
 ·exact q 0
 ·have hp:(0:Int) < (ns.length:Int):=by
   have:¬ ((ns.map V.int).length:Int)=0:=fun z=>c (zDT (congrArg V.int z))
   rw [zLM] at this
   omega
  obtain ⟨v,hv⟩:=xir (ns:=ns) (Int.le_refl 0) hp
  exact (xaa _ rfl a _ _ _ rfl rfl hS hv (q v))
end
def nmG (nms:List Str) (a j:Nat):Str:=(nms[(a + j) % 26]?).getD Str.empty
theorem xmf {nms:List Str} (h:nms.length=26) (a j:Nat):nms[(a + j) % 26]?=some (nmG nms a j):=by
 unfold nmG
 rw [zGA (by omega)]
 rfl
theorem xlk {nms:List Str} (h:nms.length=26) (a j:Nat):nmG nms a j∈nms:=zMG (xmf h a j)
theorem xu8 {nms:List Str} (hok:xl1 nms) (a:Nat) {i:Nat} (hi:i<=6):((List.range i).map (nmG nms a)).Nodup:=by
 refine List.pairwise_map.mpr (List.Pairwise.imp_of_mem (fun hk hj hlt e=>?_) (List.pairwise_lt_range (n:=i)))
 rename_i k j
 have hk':=List.mem_range.mp hk
 have hj':=List.mem_range.mp hj
 have h1:=xmf hok.1 a k
 have h2:=xmf hok.1 a j
 rw [e] at h1
 have:=List.getElem?_inj (l:=nms) (i:=(a + k) % 26) (j:=(a + j) % 26) (by have:=hok.1; omega) hok.2.1 |>.mp (h1.trans h2.symm)
 omega
theorem xwx:NoBy (S "it"):=fun j e=>by
 have:=congrArg L e
 unfold byN at this
 rw [xed,show L (S "it")=[105,116] by walk_at "k"] at this
 simp at this
theorem xnp {x:Str} (h:Name x):x≠S "it":=fun e=>by
 rw [e] at h
 exact absurd (show xnq (S "it").cps.toList=true from h) (by walk_at "k")
def xl9:Sp:=fun vs H Q _=>∃ (f nb:Addr) (kv:V) (p q:Int) (ks:List Kn) (nms:List Str),vs=[.ref f,kv,.ref nb]/\H f=some (.lst [.int p,.int q])/\RelD H kv (xfm ks)/\KWf ks/\H nb=some (.lst (nms.map V.str))/\xl1 nms/\(∀ z∈nms,NoBy z/\NoMo z)/\nb≠f ∧
 ∀ (bl:Addr) (us:List V) (bs:List (Str×Str)) (H':Hp),Fed f H H'->H' bl=some (.lst us)->RelDs H' us (bs.map xiq)->(bs.map (·.1)).Nodup->bs.length<=5->(∀ b∈bs,NoBy b.1/\KIn ks 6 b.2/\b.1.length<=100)->Q (.ref bl) H'
section
variable {P:Program} {w:World} {K:PySem.W.Frag} {mg:Str->Option Value} {base:Heap} {n m:Nat}
theorem xhm (T:Tx K mg) (Dl_take:DefIs P w K mg base n "_law_take" qae xda) (Dl_any_kind:DefIs P w K mg base n "_law_any_kind" qal xss) :
  DefIs P w K mg base (n + 1) "_law_some_boxes" qa4 xl9:=by
 refine DefIs.of T.dl_some_boxes scl_some_boxes ?_ ?_ <;> walk_at "i"
 ·obtain ⟨_,_,_,_,_,_,_,rfl,_⟩:=h
  rfl
 obtain ⟨f',nb,kv,p,q0,ks,nms,rfl,hf,hk,wf,hnb,hok,hby,nf,q⟩:=h
 have nd:=scl_some_boxes.nd
 have hu:=xcz hr
 have hfew:=wf.few
 refine ⟨_,(zpn (xaf (i:=3) nd rfl (by walk_at "o") (xak iL (xb9 (pc pI (pc (pd Dl_take hr (pc (pv 0) (pc pI pN zso) zsn)) pN zsc) zso)) (pd Dl_take hr (pc (pv 0) (pc pI pN zso) zsn)) (fun _ _=>rfl)))
   (zpn (xcq (i:=4) qbh [none,some 2,some 0,some 1,some 3] rfl (by kernel_rfl) nd rfl (by walk_at "o") (xdq rfl T.z_range (pc (pd Dl_take hr (pc (pv 0) (pc pI pN zso) zsn)) pN zsc)) (fun _ _ _ _=>(xab (i:=0) (by show List.Nodup (qbh:List Str); decide +kernel) rfl (Or.inl rfl))) (fun _ _ _ _=>xby) (fun _ _ _ _=>(xbc (pc (xak (xmr (K:=K) rfl) (pv 1) (xag xcb (xag xa9 (pv 4) (pv 0)) pI) (fun _ _=>rfl)) (pc (pd Dl_any_kind hr (pc (pv 2) (pc (pv 3) pN zsn) zsn)) pN zsc) zss))))
   (zpn (xau (PW.pt (xdo (pR (xr4 (Nat.lt_of_succ_lt hu)) (pv 4) (xb9 pN) (nM _)) (xdk (pR xa1 (pd Dl_take hr (pc (pv 0) (pc pI pN zso) zsn)) pI (nM _))))) (zpo (xd9 (xbc (pc pS (pc (xak xal (xak iL (pv 4) pI (fun _ _=>rfl)) pI (fun _ _=>rfl)) pN zss) zso)) (xor (pv 4) pI xh9))) pQ)
   (zpo (xae (pv 4)))))),?_⟩
 refine (xaa _ rfl f' p q0 26 rfl hf (by decide) (by decide) (fun r1 H1 r10 r11 f1=>⟨(by walk_at "s"),fun l1 hl1=>?_⟩))
 obtain ⟨p1,q1,h1⟩:=f1.2
 have s1:=Same.new hl1 (.lst [.int 18,.int r1])
 have l1f:l1≠f':=Ne.symm (neN h1 hl1)
 refine (xaa _ rfl f' p1 q1 2 rfl (s1 _ _ h1) (by decide) (by decide) (fun r2 H2 r20 r21 f2=>?_))
 obtain ⟨fs,hat⟩:∃ fs:Nat,atI [V.int 18,V.int r1] r2=some (.int (fs:Int)):=by
  rcases (show r2=0\/r2=1 by omega) with rfl | rfl
  ·exact ⟨18,rfl⟩
  ·exact ⟨r1.toNat,by rw [show ((r1.toNat:Nat):Int)=r1 by omega]; rfl⟩
 refine (xaw l1 _ _ _ rfl rfl (SqL.of (f2.1 _ _ ups l1f)) hat ?_)
 have F2:Fed f' H H2:=(f1.same s1).trans f2
 obtain ⟨p2,q2,h2⟩:=F2.2
 refine (xaa _ rfl f' p2 q2 6 rfl h2 (by decide) (by decide) (fun r3 H3 r30 r31 f3=>(xeb _ rfl (by omega) (by omega) ?_)))
 have F3:=F2.trans f3
 refine xew (fun i ys H'=>Fed f' H H'/\∃ bs:List (Str×Str),RelDs H' ys (bs.map xiq)/\bs.map (·.1)=(List.range i).map (nmG nms fs)/\∀ b∈bs,KIn ks 6 b.2) (by rfl) (xho F3 ([]) rfl rfl (fun _ h=>nomatch h)) (xa7 (by omega)) ?_ ?_
 ·rintro i ys H' hi hly ⟨F,bs,hbs,hbn,hbk⟩
  obtain ⟨p4,q4,h4⟩:=F.2
  have tp:=xaj (jEE p q0 hf) F
  have e26:((fs:Int) + (0 + (i:Int))) % 26=(((fs + i) % 26:Nat):Int):=by omega
  refine (xa8 _ rfl _ rfl _ rfl _ _ rfl rfl (xbg _ _ rfl rfl (by show (0:Int) < 26; decide) (xaw nb _ _ (.str (nmG nms fs i)) rfl rfl (SqL.of (F.1 _ _ hnb nf)) ?_ ?_)))
  ·show atI (nms.map V.str) (((fs:Int) + (0 + (i:Int))) % 26)=_
   rw [e26]
   refine xbb ?_
   rw [zGM,xmf hok.1]
   rfl
  refine (xa0 _ rfl _ rfl f' kv p4 (xc2 q4 ks rfl h4 (hk.tups tp _) wf (fun x H5 hx f5=>⟨(by walk_at "s"),fun t ht=>nxt hi hly (xho ((F.trans f5).same (Same.new ht _)) (bs++[(nmG nms fs i,x)]) ?_ ?_ (fun b hb=>?_))⟩)))
  ·have s6:=Same.new ht (.tup [.str (nmG nms fs i),.str x])
   rw [zAP]
   exact ((hbs.tups (xaj (jEE p4 q4 h4) f5) _).same s6 _).append (xay _ ([]) rfl (xan t _ rfl ups _ _ rfl rfl _ (jEAA _ rfl rfl rfl)) rfl)
  ·rw [zAP,hbn,List.range_succ,zAP]
   rfl
  ·rcases zMA hb with hb | hb
   ·exact hbk b hb
   ·rw [zMO hb]
    exact hx.mono hfew
 ·rintro ys H' hly ⟨F,bs,hbs,hbn,hbk⟩ D hD
  have s4:=Same.new hD (.lst ys)
  have F4:=F.same s4
  have hDn:H D=none:=by
   cases hq:H D with
   | none=>rfl
   | some o=>
    by_cases e:D=f'
    ·obtain ⟨p4,q4,h4⟩:=F.2
     rw [e,h4] at hD
     cases hD
    ·have:=F.1 _ _ hq e
     rw [this] at hD
     cases hD
  have Df:D≠f':=fun e=>by rw [e,hf] at hDn; cases hDn
  have hbl:=hbs.length
  rw [zLM] at hbl
  have h6:r3.toNat<=5:=by omega
  have hnb5:∀ b∈bs,NoBy b.1/\KIn ks 6 b.2/\b.1.length<=100:=fun b hb=>by
   suffices g:NoBy b.1/\b.1.length<=100 from (jAA g.1 (hbk b hb) g.2)
   have hm:b.1∈bs.map (·.1):=List.mem_map_of_mem hb
   rw [hbn] at hm
   obtain ⟨j,_,e⟩:=zMP hm
   rw [<- e]
   exact ⟨(hby _ (xlk hok.1 _ _)).1,Nat.le_trans (hok.2.2 _ (xlk hok.1 _ _)).l6 (by decide)⟩
  have hndb:(bs.map (·.1)).Nodup:=by rw [hbn]; exact xu8 hok fs (by omega)
  have hbs4:=hbs.same s4 _
  have hL5:bs.length<=5:=by omega
  refine (jEAA _ rfl (by walk_at "s") (fun e he=>(xdw D e ys rfl rfl (SqL.of (Same.new he _ _ _ ups)) (SqL.of ups) _ rfl ?_)))
  have s5:=Same.new he (.lst [])
  cases bs with
  | nil=>
   have e0:ys=[]:=hbs
   subst e0
   refine iteF (jEA _ rfl (q D [] [] _ (F4.same s5) (s5 _ _ ups) rfl List.nodup_nil (Nat.zero_le _) fun _ h=>nomatch h))
  | cons b0 br=>
   obtain ⟨v0,vr,rfl,rv0,rvr⟩:=hbs
   have F5:=F4.same s5
   obtain ⟨p5,q5,h5⟩:=F5.2
   refine iteT (xaa _ rfl f' p5 q5 8 rfl h5 (by decide) (by decide) (fun r6 H6 r60 r61 f6=>(jAEA rfl _ rfl (ite2 (fun c=>?_) (fun c=>?_)))))
   ·have F6:=F5.trans f6
    have hD6:=f6.1 _ _ (s5 _ _ ups) Df
    have tp6:=xaj (jEE p5 q5 h5) f6
    have rA:=(hbs4.same s5 _).tups tp6 _
    obtain ⟨_,_,e1,rv6,rvr6⟩:=rA
    cases e1
    obtain ⟨t0,ws,rfl,ht0,_,_,rfl,rfl,_,_,rfl,rfl,rfl⟩:=rv6
    refine (xaa _ rfl D _ 0 _ rfl rfl (SqL.of hD6) (xbb (j:=0) rfl) (xa5 t0 _ _ _ rfl rfl (SqT.of ht0) rfl (by walk_at "s") (fun t ht=>?_)))
    have s7:=Same.new ht (.tup [.str (S "it"),.str b0.2])
    refine (xaa _ rfl D _ 0 0 rfl rfl (s7 _ _ hD6) (by unfold ixN; rw [if_pos (by decide),if_pos (by rw [List.length_cons]; omega)]; rfl) ?_)
    refine (jEA _ rfl (q D (.ref t :: vr) ((S "it",b0.2) :: br) _ (Fed.put (F6.same s7) hDn Df _) ups ?_ ?_ hL5 fun b hb=>?_))
    ·have tp7:=xbj (s7 _ _ hD6) (.lst ((V.ref t0 :: vr).set 0 (.ref t)))
     exact (xay _ _ rfl (xan t _ rfl (tp7 _ _ ups) _ _ rfl rfl _ (jEAA _ rfl rfl rfl)) ((rvr6.same s7 _).tups tp7 _))
    ·rw [List.map_cons,List.nodup_cons] at hndb ⊢
     refine ⟨fun hm=>?_,hndb.2⟩
     have hm2:S "it"∈(b0 :: br).map (·.1):=by rw [List.map_cons]; exact List.mem_cons_of_mem _ hm
     rw [hbn] at hm2
     obtain ⟨j,_,e⟩:=zMP hm2
     exact xnp (hok.2.2 _ (xlk hok.1 fs j)) e
    ·rcases zMC hb with rfl | hb
     ·exact (jAA xwx (hbk b0 (by simp)) (by show (S "it").length<=100; decide +kernel))
     ·exact hnb5 b (by simp [hb])
   ·have F6:=F5.trans f6
    exact (jEA _ rfl (q D _ (b0 :: br) _ F6 (f6.1 _ _ (s5 _ _ ups) Df) ((hbs4.same s5 _).tups (xaj (jEE p5 q5 h5) f6) _) hndb hL5 hnb5))
end
def xfd (m:Nat):Sp:=fun vs H Q _=>∃ (f:Addr) (kv:V) (p q:Int) (ks:List Kn) (x:Str),vs=[.ref f,kv,.str x]/\H f=some (.lst [.int p,.int q])/\RelD H kv (xfm ks)/\KWf ks/\KIn ks m x/\∀ u d H',Fed f H H'->RelD H' u d->Vk ks x d->Q u H'
section
variable {P:Program} {w:World} {K:PySem.W.Frag} {mg:Str->Option Value} {base:Heap} {n m:Nat}
theorem xjg (T:Tx K mg) (spc:Sp) (Dl_sort_of:DefIs P w K mg base n "_law_sort_of" qab xfu) (Dl_take:DefIs P w K mg base n "_law_take" qae xda) (Dl_number:DefIs P w K mg base n "_law_number" qat xoc) (Dl_value:DefIs P w K mg base n "_law_value" qam spc) (hspc:∀ j,m=j + 1->spc=xfd j) :
  DefIs P w K mg base (n + 1) "_law_value" qam (xfd m):=by
 refine DefIs.of T.dl_value scl_value ?_ ?_ <;> walk_at "i"
 ·obtain ⟨_,_,_,_,_,_,rfl,_⟩:=h
  rfl
 obtain ⟨f',kv,p,q0,ks,x,rfl,hf,hk,wf,hin,q⟩:=h
 have nd:=scl_value.nd
 refine ⟨_,(zpn (xd9 (pd Dl_sort_of hr (pc (pv 1) (pc (pv 2) pN zsn) zsn)) (xck rfl (xad (xab (i:=3) nd rfl (by walk_at "o")) (xad (xab (i:=4) nd rfl (by walk_at "o")) xa4))))
   (zpn (xau (pR xa1 (pv 3) pS (nM _)) (zpo (xae (pd Dl_number hr (pc (pv 0) pN zsn)))) pQ)
   (zpn (xau (pR xa1 (pv 3) pS (nM _)) (zpo (xae (xbc (pc (pv 2) (pc (xa6 xb5 rfl T.z_tuple PyProof.Rows.boot_tuple (pc (xbv qba [none,none,some 0,some 1] rfl (by kernel_rfl) (xb0 (pv 4)) (fun _ _ _ _=>(xd2 (K:=K) (n:=2) rfl rfl (xad (xab (i:=0) (by show List.Nodup (qba:List Str); decide +kernel) rfl (Or.inl rfl)) (xad (xab (i:=1) (by show List.Nodup (qba:List Str); decide +kernel) rfl (Or.inl rfl)) xa4)))) (fun _ _ _ _=>xby) (fun _ _ _ _=>(pd Dl_value hr (pc (pv 2) (pc (pv 3) (pc (pv 1) pN zsn) zsn) zsn)))) pN xb8)) pN zsc) zsn)))) pQ)
   (zpn (xd9 (xak xal (pv 4) (pd Dl_take hr (pc (pv 0) (pc (xao xah rfl T.z_len PySem.boot_len (pc (pv 4) pN zsn)) pN zsc) zsn)) (fun _ _=>rfl)) (xck rfl (xad (xab (i:=5) nd rfl (by walk_at "o")) (xad (xab (i:=6) nd rfl (by walk_at "o")) xa4))))
   (zpo (xae (xbc (pc (pv 2) (pc (pv 5) (pc (pd Dl_value hr (pc (pv 0) (pc (pv 1) (pc (pv 6) pN zsn) zsn) zsn)) pN zsc) zsn) zsn)))))))),?_⟩
 refine (xbt _ rfl _ rfl kv ks x rfl ((wf.ksAt hk).seq) (fun t pv' H1 s1 ht rp=>?_))
 refine (xap t _ rfl (SqT.of ht) rfl _ _ rfl _ (jEAA _ rfl rfl ?_))
 have hf1:=s1 _ _ hf
 have F1:Fed f' H H1:=(Fed.refl hf).same s1
 rcases hin.look wf with ⟨rfl,hkx⟩ | ⟨j,k,rfl,hkx,hn,hm,hp⟩
 ·refine (xai _ rfl rfl _ rfl (iteKT (zDT (by rw [hkx]; rfl)) ?_))
  refine (xet _ rfl f' p q0 rfl hf1 (fun r H2 hr2 f2=>?_))
  exact q _ (.int r) _ (F1.trans f2) rfl (.num r hr2)
 ·have D':=hspc j rfl
  subst D'
  rw [hkx] at rp
  obtain ⟨a,us,rfl,ha,hus⟩:=rp
  have hl:=hus.length
  rw [zLM] at hl
  have h5:=wf.pts k hm
  have hss:xi6 (kAt ks x)=k.sort:=by rw [hkx]; rfl
  cases hc:k.rc with
  | false=>
   have hsA:k.sort=S "alt":=xd8 hc
   refine (xai _ rfl rfl _ rfl (iteKF (zDF (by rw [hss,hsA]; decide +kernel)) ?_))
   refine (xai _ rfl rfl _ rfl (iteKF (zDF (by rw [hss,hsA]; decide +kernel)) ?_))
   have hne:k.parts.length≠0:=fun e=>wf.alt k hm hc (List.length_eq_zero_iff.mp e)
   refine (xa8 _ rfl _ rfl _ rfl a _ rfl (.inr (SqT.of ha)) (xaw f' p q0 _ rfl hf1 (by omega) (by omega) (fun r H2 r0 r1 f2=>?_)))
   have tp2:=xaj (jEE p q0 hf1) f2
   obtain ⟨i,rfl⟩:∃ i:Nat,r=(i:Int):=⟨r.toNat,by omega⟩
   have hi:i < us.length:=by omega
   have g1:atI us (i:Int)=some us[i]:=xbb (zGA hi)
   obtain ⟨d,hd,rd⟩:=hus.get (zGA hi)
   rw [zGM] at hd
   obtain ⟨pr,hpr,rfl⟩:=zMS hd
   obtain ⟨b,ws,eu,hb,_,_,rfl,rfl,_,_,rfl,rfl,rfl⟩:=rd
   rw [eu] at g1
   have hmem:=zMG hpr
   obtain ⟨p2,q2,hf2⟩:=f2.2
   have hk2:=(hk.same s1 _).tups tp2 _
   refine (xes a _ _ _ rfl rfl (SqT.of (tp2 _ _ ha)) g1 b (xd4 _ rfl (SqT.of (tp2 _ _ hb)) rfl _ _ rfl _ _ rfl ⟨rfl,?_⟩))
   refine (xam _ rfl _ rfl _ rfl _ rfl _ rfl (xas f' kv p2 q2 ks (xcs pr.2 rfl hf2 hk2 wf (hp pr hmem) (fun u e H3 f3 ru he3=>⟨(by walk_at "s"),fun t3 ht3=>?_⟩))))
   have s4:=Same.new ht3 (.tup [.str x,.str pr.1,u])
   exact q _ (.tup [.str x,.str pr.1,e]) _ ((F1.trans (f2.trans f3)).same s4) (xan t3 _ rfl ups _ _ rfl rfl _ (xbk _ rfl rfl _ _ rfl (ru.same s4 _) rfl)) (.al hkx hc hmem he3)
  | true=>
   have hsR:k.sort=S "rec":=xd0 hc
   refine (xai _ rfl rfl _ rfl (iteKF (zDF (by rw [hss,hsR]; decide +kernel)) ?_))
   refine (xai _ rfl rfl _ rfl (iteKT (zDT (by rw [hss,hsR]; rfl)) ?_))
   refine (jEA _ rfl (xa3 _ rfl a rfl ⟨_,SqT.of ha⟩ ?_))
   refine xco (xs:=us) (fun i ys H'=>Fed f' H1 H'/\ys.length=i/\∃ ds:List D,RelDs H' ys ds/\ds.length=i/\∀ (i':Nat) w' p',ds[i']?=some w'->k.parts[i']?=some p'->Vk ks p'.2 w') (jAA (Fed.refl hf1) rfl (jEAA ([]) rfl rfl (fun i' w' p' h=>by simp at h))) (xa7 (by omega)) (fun i ys H' _ p'=>SqT.of (xaj (jEE p q0 hf1) p'.1 _ _ ha)) ?_ ?_
   ·rintro i y ys H' hy hi hly ⟨fm,hyl,ds,hys,hdl,hft⟩
    have tp:=xaj (jEE p q0 hf1) fm
    obtain ⟨d,hd,rd⟩:=hus.get hy
    rw [zGM] at hd
    obtain ⟨pr,hpr,rfl⟩:=zMS hd
    obtain ⟨b,ws,rfl,hb,_,_,rfl,rfl,_,_,rfl,rfl,rfl⟩:=rd
    obtain ⟨p2,q2,hf2⟩:=fm.2
    refine (xap b _ rfl (SqT.of (tp _ _ hb)) rfl _ _ rfl _ (xeb _ rfl rfl (ext2 rfl rfl) (xgn ?_)))
    refine (xa2 _ rfl _ rfl _ rfl f' kv (xa5 p2 q2 ks pr.2 rfl hf2 ((hk.same s1 _).tups tp _) wf (hp pr (zMG hpr)) (fun u e H3 f3 ru he3=>nxtG hi hly (jAA (fm.trans f3) (by rw [zLA,List.length_singleton,hyl]) (jEAA (ds++[e]) ?_ (by rw [zLA,List.length_singleton,hdl]) (fun i' w' p' hw hp'=>?_))))))
    ·exact (hys.tups (xaj (jEE p2 q2 hf2) f3) _).append (xay u ([]) rfl ru rfl)
    ·by_cases hii:i' < ds.length
     ·rw [List.getElem?_append_left hii] at hw
      exact hft i' w' p' hw hp'
     ·have hlt:=(zES hw).1
      rw [zLA,List.length_singleton] at hlt
      have e0:i'=i:=by omega
      subst e0
      rw [List.getElem?_append_right (by omega),hdl,Nat.sub_self] at hw
      simp at hw
      subst hw
      rw [hpr] at hp'
      cases hp'
      exact he3
   ·rintro ys H' hly ⟨fm,_,ds,hys,hdl,hft⟩ D hD
    refine (jEEA D ys rfl (.inl ⟨SqL.of ups,fun l' hl'=>⟨(by walk_at "s"),fun t3 ht3=>?_⟩⟩))
    have s2:=Same.new hD (.lst ys)
    have s3:=Same.new hl' (.tup ys)
    have s4:=Same.new ht3 (.tup [.str x,.ref l'])
    have s24:=s2.trans (s3.trans s4)
    exact q _ (.tup [.str x,.tup ds]) _ ((F1.trans fm).same s24) (xan t3 _ rfl ups _ _ rfl rfl _ (jEAA _ rfl (xay l' ys rfl (s4 _ _ ups) (hys.same s24 _)) rfl)) (.rc hkx hc (by omega) hft)
theorem xl4 (T:Tx K mg):∀ m,DefIs P w K mg base (m + 3) "_law_value" qam (xfd m)
 | 0=>xjg (n:=2) T (fun _ _ _ _=>False) (xbq T) (xeo T) (xfw T (xeo T)) (DefIs.none T.dl_value fun _ _ _ _ h=>h) (fun j e=>by cases e)
 | m + 1=>xjg (n:=m + 3) T (xfd m) (xbq T) (xeo T) (xfw T (xeo T)) (xl4 T m) (fun j e=>by cases e; rfl)
end
abbrev RW:=List Kn->En->D->D->Prop
def xef (R:RW) (m:Nat):Sp:=fun vs H Q _=>∃ kv tv p ks d env val,vs=[kv,tv,.ref p]/\KsAt H kv ks/\RelD H tv d/\EnAt H p m env/\R ks env d val/\∀ u H',Same H H'->RelD H' u val->Q u H'
def xi5:Sp:=fun vs H Q _=>∃ s x y,vs=[.str s,.int x,.int y]/\Nm x/\Nm y/\Q (.int (opV s x y)) H
section
variable {P:Program} {w:World} {K:PySem.W.Frag} {mg:Str->Option Value} {base:Heap} {n m:Nat}
theorem xle (T:Tx K mg):DefIs P w K mg base (n + 1) "op_worth" qas xi5:=by
 refine DefIs.of T.d_op_worth xk6 ?_ ?_ <;> walk_at "i"
 ·obtain ⟨_,_,_,rfl,_⟩:=h
  rfl
 obtain ⟨s,x,y,rfl,hx,hy,q⟩:=h
 refine ⟨_,(zpn (xau (pR xa1 (pv 0) pS (nM _)) (zpo (xae (xag xcb (xag xa9 (pv 1) (pv 2)) (xgx T.g_WIDE)))) pQ)
   (zpn (xau (pR xa1 (pv 0) pS (nM _)) (zpo (xae (xag xcb (xag xbs (pv 1) (pv 2)) (xgx T.g_WIDE)))) pQ)
   (zpn (xau (pR xa1 (pv 0) pS (nM _)) (zpo (xae (xag xcb (xag xdr (pv 1) (pv 2)) (xgx T.g_WIDE)))) pQ)
   (zpn (xau (pR xa1 (pv 0) pS (nM _)) (zpo (xae (xgi (pR xfh (pv 1) (pv 2) (nM _)) pI pI))) pQ)
   (zpo (xae (xgi (pR xa1 (pv 1) (pv 2) (nM _)) pI pI))))))),?_⟩
 have pos:(0:Int) < 4294967296:=by decide
 unfold opV at q
 refine (xai _ rfl rfl _ rfl (ite2 (fun c=>?_) (fun c=>?_)))
 ·rw [if_pos (show s=S "+" from V.str.inj (of_decide_eq_true c))] at q
  exact (xdx _ rfl _ rfl _ _ rfl rfl _ (xeb _ rfl rfl pos q))
 rw [if_neg (show ¬ s=S "+" from fun z=>c (zDT (congrArg V.str z)))] at q
 refine (xai _ rfl rfl _ rfl (ite2 (fun c=>?_) (fun c=>?_)))
 ·rw [if_pos (show s=S "-" from V.str.inj (of_decide_eq_true c))] at q
  exact (xdx _ rfl _ rfl _ _ rfl rfl _ (xeb _ rfl rfl pos q))
 rw [if_neg (show ¬ s=S "-" from fun z=>c (zDT (congrArg V.str z)))] at q
 refine (xai _ rfl rfl _ rfl (ite2 (fun c=>?_) (fun c=>?_)))
 ·rw [if_pos (show s=S "*" from V.str.inj (of_decide_eq_true c))] at q
  obtain ⟨x0,x1⟩:=hx
  exact (xbp _ rfl _ rfl _ _ rfl rfl (jAE (.inl ⟨by omega,by omega⟩) _ (xeb _ rfl rfl pos q)))
 rw [if_neg (show ¬ s=S "*" from fun z=>c (zDT (congrArg V.str z)))] at q
 refine (xai _ rfl rfl _ rfl (ite2 (fun c=>?_) (fun c=>?_)))
 ·rw [if_pos (show s=S "<" from V.str.inj (of_decide_eq_true c))] at q
  refine (xcf _ rfl _ rfl _ _ rfl rfl _ rfl (ite2 (fun c2=>?_) (fun c2=>?_)))
  ·rw [if_pos (of_decide_eq_true c2)] at q
   exact q
  ·rw [if_neg (fun z=>c2 (zDT z))] at q
   exact q
 rw [if_neg (show ¬ s=S "<" from fun z=>c (zDT (congrArg V.str z)))] at q
 refine (xcw _ rfl _ rfl rfl _ rfl (ite2 (fun c2=>?_) (fun c2=>?_)))
 ·rw [if_pos (V.int.inj (of_decide_eq_true c2))] at q
  exact q
 ·rw [if_neg (fun z=>c2 (zDT (congrArg V.int z)))] at q
  exact q
def xgs (m:Nat):Sp:=fun vs H Q _=>∃ p x v d env,vs=[.ref p,.str x,v]/\EnAt H p m env/\RelD H v d/\m<=1000/\∀ p' H',Same H H'->EnAt H' p' (m + 1) (env.put x d)->Q (.ref p') H'
theorem xgy (T:Tx K mg):DefIs P w K mg base (n + 1) "with_box" qar (xgs m):=by
 refine DefIs.of T.d_with_box sc_with_box ?_ ?_ <;> walk_at "i"
 ·obtain ⟨_,_,_,_,_,rfl,_⟩:=h
  rfl
 obtain ⟨p,x,v,d,env,rfl,⟨kvs,hp,hl,he⟩,hv,hm,q⟩:=h
 have nd:=sc_with_box.nd
 have hu:=xcz hr
 refine ⟨_,(zpn (xaf (i:=3) nd rfl (by walk_at "o") (xa6 xh2 rfl T.z_dict PyProof.Rows.boot_dict (pc (pv 0) pN zsn)))
   (zpn (xsz hu (pv 3) (pv 1) (pv 2) rfl)
   (zpo (xae (pv 3))))),?_⟩
 refine (xcn _ rfl p kvs rfl hp (fun c hc=>?_))
 have s1:=Same.new hc (.dK kvs)
 refine (xa8 _ rfl _ rfl _ rfl c _ rfl (DPut.k (k:=Sum.inr x) ups (xa7 (by omega))) (jEA _ rfl ?_))
 have s2:=Same.new2 hc (.dK kvs) (.dK (putK kvs (Sum.inr x) v))
 exact q c _ s2 (EnAt.put hp hl he s2 (hv.same s2 _) ups)
def xoe:Sp:=fun vs H Q _=>∃ kv vv ks k kn ws f i d,vs=[kv,vv,.str f]/\KsAt H kv ks/\RelD H vv (.tup [.str k,.tup ws])/\kAt ks k=some kn/\(kn.parts.map (·.1)).findIdx? (fun z=>decide (z=f))=some i/\ws[i]?=some d/\∀ u H',Same H H'->RelD H' u d->Q u H'
theorem xqy (T:Tx K mg) (D_parts_of:DefIs P w K mg base n "parts_of" qaf xdm):DefIs P w K mg base (n + 1) "field" qaz xoe:=by
 refine DefIs.of T.d_field sc_field ?_ ?_ <;> walk_at "i"
 ·obtain ⟨_,_,_,_,_,_,_,_,_,rfl,_⟩:=h
  rfl
 obtain ⟨kv,vv,ks,k,kn,ws,f',i,d,rfl,hk,hv,hkn,hi,hw,q⟩:=h
 have nd:=sc_field.nd
 refine ⟨_,(zpn (xcq (i:=3) ["part"] [none] rfl (by kernel_rfl) nd rfl (by walk_at "o") (xb0 (pd D_parts_of hr (pc (pv 0) (pc (xak xal (pv 1) pI (fun _ _=>rfl)) pN zss) zsn))) (fun _ _ _ _=>(xab (i:=0) (by show List.Nodup (["part"]:List Str); decide +kernel) rfl (Or.inl rfl))) (fun _ _ _ _=>xby) (fun _ _ _ _=>(xak (xd6 (K:=K) rfl) (pv 0) pI (fun _ _=>rfl))))
   (zpo (xae (xak xal (xak xal (pv 1) pI (fun _ _=>rfl)) (xhi PySem.F.plainAttrs_list PySem.F.slot_list_index PySem.F.type_list_index xq5 (pv 3) (pc (pv 2) pN zsn)) (fun _ _=>rfl))))),?_⟩
 obtain ⟨l,us,rfl,ha,_,_,rfl,rfl,vw,_,rfl,rw',rfl⟩:=hv
 obtain ⟨c,zs,rfl,hc,hzs⟩:=rw'
 refine (xa0 _ rfl _ rfl l _ _ (xdd _ rfl rfl (SqT.of ha) rfl (xeh _ ks k rfl hk (fun u H1 s1 r1=>?_))))
 rw [hkn] at r1
 obtain ⟨e,ps,rfl,he,hps⟩:=r1
 have hl:=hps.length
 rw [zLM] at hl
 have hkm:kn.parts.length<=100:=hk.2.2 kn (zMF hkn)
 refine (jEAA e rfl ⟨_,SqT.of he⟩ ?_)
 refine xfn (j:=0) (xs:=ps) (fun i ys H'=>H'=H1/\ys=((kn.parts.take i).map (·.1)).map V.str) (by rfl) ⟨rfl,rfl⟩ (xa7 (by omega)) (fun i ys H' _ p=>by obtain ⟨rfl,_⟩:=p; exact SqT.of he) ?_ ?_
 ·rintro i x ys H' hx hly ⟨rfl,rfl⟩
  obtain ⟨d',hd',rd'⟩:=hps.get hx
  rw [zGM] at hd'
  obtain ⟨pt,hpt,rfl⟩:=zMS hd'
  obtain ⟨b,ws',rfl,hb,_,_,rfl,rfl,_,_,rfl,rfl,rfl⟩:=rd'
  have hi:i < ps.length:=(zES hx).1
  refine (xaa _ rfl b _ _ _ rfl rfl (SqT.of hb) rfl (nxt hi hly ⟨rfl,?_⟩))
  rw [zTA,hpt]
  simp
 ·rintro ys H' hly ⟨rfl,rfl⟩ D hD
  rw [zTL (by omega)]
  rw [zTL (by omega)] at hly
  have sD:=Same.new hD (.lst ((kn.parts.map (·.1)).map V.str))
  have sHD:=s1.trans sD
  have hwi:∃ v,zs[i]?=some v/\RelD H v d:=by
   have hil:i < ws.length:=(zES hw).1
   have hzl:=hzs.length
   obtain ⟨d',hd',rd'⟩:=hzs.get (i:=i) (v:=zs[i]) (zGA (by omega))
   rw [hw] at hd'
   cases hd'
   exact (jEA (zs[i]) (zGA (by omega)) rd')
  obtain ⟨v,hv,rv⟩:=hwi
  refine (xaa _ rfl l _ _ _ rfl rfl (SqT.of (sHD _ _ ha)) rfl ?_)
  refine (xai _ rfl (.inl (jAE rfl _ (SqL.of ups))) _ rfl (xaw D _ f' i rfl rfl ups hi ?_))
  exact (xaw c _ _ v rfl rfl (SqT.of (sHD _ _ hc)) (xbb hv) (q _ _ sHD (rv.same sHD _)))
def xgu (R:RW) (m:Nat):Sp:=fun vs H Q _=>∃ kv tv p ks env a rs k t x y e val,vs=[kv,tv,.ref p]/\KsAt H kv ks/\RelD H tv (xgq a rs)/\EnAt H p m env/\rs.length<=1000/\R ks env a (.tup [.str k,.str t,x])/\rs.find? (fun r=>decide (r.1=t))=some (t,y,e)/\R ks (env.put y x) e val ∧
 ∀ u H',Same H H'->RelD H' u val->Q u H'
theorem xie (T:Tx K mg) (R:RW) (hm:m<=1000) (D_worth:DefIs P w K mg base n "worth" qaa (xef R (m + 1))) (D_with_box:DefIs P w K mg base n "with_box" qar (xgs m)):DefIs P w K mg base (n + 1) "case_worth" qaa (xgu R m):=by
 refine DefIs.of T.d_case_worth sc_case_worth ?_ ?_ <;> walk_at "i"
 ·obtain ⟨_,_,_,_,_,_,_,_,_,_,_,_,_,rfl,_⟩:=h
  rfl
 obtain ⟨kv,tv,p,ks,env,a,rs,k,t,x,y,e,val,rfl,hk,hv,he,hl,h1,hf,h2,q⟩:=h
 have nd:=sc_case_worth.nd
 refine ⟨_,(zpn (xaf (i:=3) nd rfl (by walk_at "o") (pd D_worth hr (pc (pv 0) (pc (xak xal (pv 1) pI (fun _ _=>rfl)) (pc (pv 2) pN zsn) zss) zsn)))
   (zpn (xaf (i:=4) nd rfl (by walk_at "o") (xak iL (xbv ["each","value"] [none,some 3] rfl (by kernel_rfl) (xb0 (xak xal (pv 1) pI (fun _ _=>rfl))) (fun _ _ _ _=>(xab (i:=0) (by show List.Nodup (["each","value"]:List Str); decide +kernel) rfl (Or.inl rfl))) (fun _ _ _ _=>(xeg (pR xa1 (xak (xd6 (K:=K) rfl) (pv 0) pI (fun _ _=>rfl)) (xak (xd6 (K:=K) rfl) (pv 1) pI (fun _ _=>rfl)) (nM _)))) (fun _ _ _ _=>(pv 0))) pI (fun _ _=>rfl)))
   (zpo (xae (pd D_worth hr (pc (pv 0) (pc (xak xal (pv 4) pI (fun _ _=>rfl)) (pc (pd D_with_box hr (pc (pv 2) (pc (xak xal (pv 4) pI (fun _ _=>rfl)) (pc (xak xal (pv 3) pI (fun _ _=>rfl)) pN zss) zss) zsn)) pN zsc) zss) zsn)))))),?_⟩
 obtain ⟨b,us,rfl,hb,_,_,rfl,rfl,va,_,rfl,ra,vr,_,rfl,rr,rfl⟩:=hv
 obtain ⟨c,ws,rfl,hc,hws⟩:=rr
 refine (xa0 _ rfl _ rfl b _ _ (xb4 _ rfl rfl (SqT.of hb) rfl _ rfl ?_))
 refine (xas _ _ _ ks _ (xb3 env _ rfl hk ra (he.mono (by omega)) h1 (fun u H1 s1 r1=>?_)))
 obtain ⟨g,zs,rfl,hg,_,_,rfl,rfl,_,_,rfl,rfl,vx,_,rfl,rx,rfl⟩:=r1
 refine (xaa _ rfl b _ _ _ rfl rfl (SqT.of (s1 _ _ hb)) rfl (jEAA c rfl ⟨_,SqT.of (s1 _ _ hc)⟩ ?_))
 have hln:=hws.length
 rw [zLM] at hln
 refine xco (xs:=ws) (fun i ys H'=>H'=H1/\∃ ds:List (Str×Str×D),ds=(rs.take i).filter (fun r=>decide (r.1=t))/\RelDs H1 ys (ds.map dArm)) (jAEA rfl ([]) rfl rfl) (xa7 (by omega)) (fun i ys H' _ p=>by obtain ⟨rfl,_⟩:=p; exact SqT.of (s1 _ _ hc)) ?_ ?_
 ·rintro i z ys H' hz hi hly ⟨rfl,ds,rfl,hds⟩
  obtain ⟨d,hd,rd⟩:=(hws.same s1 _).get hz
  rw [zGM] at hd
  obtain ⟨r,hr',rfl⟩:=zMS hd
  have rd':=rd
  obtain ⟨l,zs,rfl,hl',_,_,rfl,rfl,_,_,rfl,rfl,_,_,rfl,re,rfl⟩:=rd
  refine ⟨xd7 rfl,?_⟩
  refine (xaa _ rfl l _ _ _ rfl rfl (SqT.of hl') rfl (xaa _ rfl g _ _ _ rfl rfl (SqT.of hg) rfl (jAEA rfl _ rfl (ite2 (fun cc=>?_) (fun cc=>?_)))))
  ·have ee:r.1=t:=V.str.inj (of_decide_eq_true cc)
   refine (jEA _ rfl (nxtG hi hly (jAEA rfl _ rfl ?_)))
   rw [zTA,hr',List.filter_append,zAP]
   refine hds.append ?_
   simp only [Option.toList,List.filter_cons,zDT ee,if_true,List.filter_nil,List.map_cons,List.map_nil]
   exact (xay _ ([]) rfl rd' rfl)
  ·have ee:¬ r.1=t:=fun z=>cc (zDT (congrArg V.str z))
   refine nxtN hi hly (jAEA rfl _ rfl ?_)
   rw [zTA,hr',List.filter_append,zAP]
   simp only [Option.toList,List.filter_cons,zDF ee,Bool.false_eq_true,if_false,List.filter_nil,List.map_nil,List.append_nil]
   exact hds
 ·rintro ys H' hly ⟨rfl,ds,rfl,hds⟩ D hD
  rw [zTL (by omega)] at hds
  have hh:(rs.filter (fun r=>decide (r.1=t))).head?=some (t,y,e):=by rw [List.head?_filter,hf]
  obtain ⟨rest,hrest⟩:∃ rest,rs.filter (fun r=>decide (r.1=t))=(t,y,e) :: rest:=by
   cases hq:rs.filter (fun r=>decide (r.1=t)) with
   | nil=>rw [hq] at hh; cases hh
   | cons z zs=>rw [hq] at hh; exact ⟨zs,by rw [Option.some.inj hh]⟩
  rw [hrest] at hds
  obtain ⟨va',rest',rfl,r0,_⟩:=hds
  have sD:=Same.new hD (.lst (va' :: rest'))
  refine (xaw D _ 0 va' rfl rfl (SqL.of ups) (xbb (j:=0) rfl) ?_)
  obtain ⟨l,zs,rfl,hl',_,_,rfl,rfl,_,_,rfl,rfl,ve,_,rfl,re,rfl⟩:=r0
  have sHD:=s1.trans sD
  have hSl:SqT K (upd H' D (.lst (.ref l :: rest'))) l [.str t,.str y,ve]:=SqT.of (sD _ _ hl')
  refine (xa0 _ rfl _ rfl l _ _ (xb4 _ rfl rfl hSl rfl _ rfl (xaa _ rfl l _ _ _ rfl rfl hSl rfl (xaa _ rfl g _ _ _ rfl rfl (SqT.of (sD _ _ hg)) rfl ?_))))
  refine (xbn p y vx x env rfl (he.same sHD) (rx.same sD _) hm (fun p' H2 s2 he2=>?_))
  exact (xas _ _ _ ks _ (xb3 _ _ rfl (hk.same (sHD.trans s2)) (re.same (sD.trans s2) _) he2 h2 (fun u H3 s3 r3=>q u H3 (sHD.trans (s2.trans s3)) r3)))
theorem xqx (T:Tx K mg) (R:RW) (D_worth:DefIs P w K mg base n "worth" qaa (xef R m)) (D_op_worth:DefIs P w K mg base n "op_worth" qas xi5)
  (D_field:DefIs P w K mg base n "field" qaz xoe) (D_case_worth:DefIs P w K mg base n "case_worth" qaa (xgu R m)) :
  DefIs P w K mg base (n + 1) "worth" qaa (xef (fun ks env d v=>xfq env d v\/NodeEv ks (R ks) env d v) m):=by
 refine DefIs.of T.d_worth sc_worth ?_ ?_ <;> walk_at "i"
 ·obtain ⟨_,_,_,_,_,_,_,rfl,_⟩:=h
  rfl
 obtain ⟨kv,tv,p,ks,d,env,val,rfl,hk,hv,he,hR,q⟩:=h
 have nd:=sc_worth.nd
 have hu:=xcz hr
 refine ⟨_,(zpn (xaf (i:=3) nd rfl (by walk_at "o") (xak xal (pv 1) pI (fun _ _=>rfl)))
   (zpn (xau (pR xa1 (pv 3) pS (nM _)) (zpo (xae (xak xal (pv 1) pI (fun _ _=>rfl)))) pQ)
   (zpn (xau (pR xa1 (pv 3) pS (nM _)) (zpo (xae (xia hu (pv 2) (xak xal (pv 1) pI (fun _ _=>rfl)) (fun _ _=>rfl)))) pQ)
   (zpn (xau (pR xa1 (pv 3) pS (nM _)) (zpo (xae (pd D_op_worth hr (pc (xak xal (pv 1) pI (fun _ _=>rfl)) (pc (pd D_worth hr (pc (pv 0) (pc (xak xal (pv 1) pI (fun _ _=>rfl)) (pc (pv 2) pN zsn) zss) zsn)) (pc (pd D_worth hr (pc (pv 0) (pc (xak xal (pv 1) pI (fun _ _=>rfl)) (pc (pv 2) pN zsn) zss) zsn)) pN zsc) zsc) zss)))) pQ)
   (zpn (xau (pR xa1 (pv 3) pS (nM _)) (zpo (xae (xbc (pc (xak xal (pv 1) pI (fun _ _=>rfl)) (pc (xa6 xb5 rfl T.z_tuple PyProof.Rows.boot_tuple (pc (xbv ["inner","kinds","boxes"] [none,some 0,some 2] rfl (by kernel_rfl) (xb0 (xak xal (pv 1) pI (fun _ _=>rfl))) (fun _ _ _ _=>(xab (i:=0) (by show List.Nodup (["inner","kinds","boxes"]:List Str); decide +kernel) rfl (Or.inl rfl))) (fun _ _ _ _=>xby) (fun _ _ _ _=>(pd D_worth hr (pc (pv 1) (pc (pv 0) (pc (pv 2) pN zsn) zsn) zsn)))) pN xb8)) pN zsc) zss)))) pQ)
   (zpn (xau (pR xa1 (pv 3) pS (nM _)) (zpo (xae (pd D_field hr (pc (pv 0) (pc (pd D_worth hr (pc (pv 0) (pc (xak xal (pv 1) pI (fun _ _=>rfl)) (pc (pv 2) pN zsn) zss) zsn)) (pc (xak xal (pv 1) pI (fun _ _=>rfl)) pN zss) zsc) zsn)))) pQ)
   (zpn (xau (pR xa1 (pv 3) pS (nM _)) (zpo (xae (xbc (pc (xak xal (pv 1) pI (fun _ _=>rfl)) (pc (xak xal (pv 1) pI (fun _ _=>rfl)) (pc (pd D_worth hr (pc (pv 0) (pc (xak xal (pv 1) pI (fun _ _=>rfl)) (pc (pv 2) pN zsn) zss) zsn)) pN zsc) zss) zss)))) pQ)
   (zpn (xau (pR xa1 (pv 3) pS (nM _)) (zpo (xae (pd D_case_worth hr (pc (pv 0) (pc (pv 1) (pc (pv 2) pN zsn) zsn) zsn)))) pQ)
   (zpn (xaf (i:=4) nd rfl (by walk_at "o") (xgi (pR xa1 (pd D_worth hr (pc (pv 0) (pc (xak xal (pv 1) pI (fun _ _=>rfl)) (pc (pv 2) pN zsn) zss) zsn)) pI (nM _)) (xak xal (pv 1) pI (fun _ _=>rfl)) (xak xal (pv 1) pI (fun _ _=>rfl))))
   (zpo (xae (pd D_worth hr (pc (pv 0) (pc (pv 4) (pc (pv 2) pN zsn) zsn) zsn))))))))))))),?_⟩
 rcases hR with (⟨i,rfl,rfl⟩ | ⟨x,hx,rfl⟩) | ⟨sg,a,b,x,y,h1,h2,nx,ny,rfl,rfl⟩ | ⟨k,es,ws,hl,h1,rfl,rfl⟩ | ⟨a,k,ws,f',kn,i,h1,hk1,hi,hw,rfl⟩ | ⟨k,t,a,x,h1,rfl,rfl⟩ | ⟨a,rs,k,t,x,y,e,hl,h1,hf,h2,rfl⟩ | ⟨a,b,c,x,h1,h2,rfl⟩
 ·obtain ⟨a,us,rfl,ha,_,_,rfl,rfl,_,_,rfl,rfl,rfl⟩:=hv
  have hS:SqT K H a [.str (S "num"),.int i]:=SqT.of ha
  walk_at "rd"
  exact q _ _ (Same.refl _) rfl
 ·obtain ⟨a,us,rfl,ha,_,_,rfl,rfl,_,_,rfl,rfl,rfl⟩:=hv
  have hS:SqT K H a [.str (S "box"),.str x]:=SqT.of ha
  obtain ⟨kvs,hp,hl,hh⟩:=he
  obtain ⟨v,hv,rv⟩:=(hh x).2 _ hx
  walk_at "rd"
  exact (xay p v rfl (hv ▸ DGet.k (k:=Sum.inr x) hp) (q _ _ (Same.refl _) rv))
 ·obtain ⟨l,us,rfl,ha,_,_,rfl,rfl,_,_,rfl,rfl,va,_,rfl,ra,vb,_,rfl,rb,rfl⟩:=hv
  have hS:SqT K H l [.str (S "op"),.str sg,va,vb]:=SqT.of ha
  walk_at "rd"
  refine (xas _ _ _ ks _ (xb3 env _ rfl hk ra he h1 (fun u H1 s1 r1=>?_)))
  obtain rfl:u=.int x:=r1
  have hS1:SqT K H1 l [.str (S "op"),.str sg,va,vb]:=SqT.of (s1 _ _ ha)
  refine (xa0 _ rfl _ rfl l _ _ (xb4 _ rfl rfl hS1 rfl _ rfl ?_))
  refine (xas _ _ _ ks _ (xb3 env _ rfl (hk.same s1) (rb.same s1 _) (he.same s1) h2 (fun u H2 s2 r2=>?_)))
  obtain rfl:u=.int y:=r2
  exact (xbi sg x y rfl nx ny (q _ _ (s1.trans s2) rfl))
 ·obtain ⟨l,us,rfl,ha,_,_,rfl,rfl,_,_,rfl,rfl,va,_,rfl,ra,rfl⟩:=hv
  obtain ⟨c,vs',rfl,hc,hvs⟩:=ra
  have hS:SqT K H l [.str (S "rec"),.str k,.ref c]:=SqT.of ha
  walk_at "rd"
  refine ⟨⟨_,SqT.of hc⟩,?_⟩
  have l1:=hvs.length
  have l2:=h1.length
  refine xfn (j:=0) (xs:=vs') (fun i ys H'=>Same H H'/\RelDs H' ys (ws.take i)) (by rfl) ⟨Same.refl _,rfl⟩ (xa7 (by omega)) (fun i ys H' _ p=>SqT.of (p.1 _ _ hc)) ?_ ?_
  ·rintro i x ys H' hx hly ⟨sm,hys⟩
   obtain ⟨d',hd',rd'⟩:=hvs.get hx
   obtain ⟨v',hv',rv'⟩:=h1.get hd'
   have hi:i < vs'.length:=(zES hx).1
   refine (xa2 _ rfl _ rfl _ rfl _ _ (xat _ ks _ env _ rfl (hk.same sm) (rd'.same sm _) (he.same sm) rv' (fun u H2 s2 r2=>nxt hi hly ⟨sm.trans s2,?_⟩)))
   rw [zTA,hv']
   exact (hys.same s2 _).append (xay u ([]) rfl r2 rfl)
  ·rintro ys H' hly ⟨sm,hys⟩ D hD
   rw [zTL (by omega)] at hys
   refine (jEEA D ys rfl (.inl ⟨SqL.of ups,fun l' hl'=>?_⟩))
   have s1:=Same.new hD (.lst ys)
   have s2:=Same.new hl' (.tup ys)
   refine ⟨(by walk_at "s"),fun t ht=>?_⟩
   have s3:=Same.new ht (.tup [.str k,.ref l'])
   exact q _ _ (sm.trans (s1.trans (s2.trans s3))) (xan t _ rfl ups _ _ rfl rfl _ (jEAA _ rfl (xay l' ys rfl (s3 _ _ ups) (hys.same (s1.trans (s2.trans s3)) _)) rfl))
 ·obtain ⟨l,us,rfl,ha,_,_,rfl,rfl,va,_,rfl,ra,_,_,rfl,rfl,rfl⟩:=hv
  have hS:SqT K H l [.str (S "get"),va,.str f']:=SqT.of ha
  walk_at "rd"
  refine (xas _ _ _ ks _ (xb3 env _ rfl hk ra he h1 (fun u H1 s1 r1=>?_)))
  have hS1:SqT K H1 l [.str (S "get"),va,.str f']:=SqT.of (s1 _ _ ha)
  refine (xaa _ rfl l _ _ _ rfl rfl hS1 rfl ?_)
  exact (xas _ _ ks k kn (xbh ws f' i val rfl (hk.same s1) r1 hk1 hi hw (fun u H2 s2 r2=>q _ _ (s1.trans s2) r2)))
 ·obtain ⟨l,us,rfl,ha,_,_,rfl,rfl,_,_,rfl,rfl,_,_,rfl,rfl,va,_,rfl,ra,rfl⟩:=hv
  have hS:SqT K H l [.str (S "tag"),.str k,.str t,va]:=SqT.of ha
  walk_at "rd"
  refine (xas _ _ _ ks _ (xb3 env _ rfl hk ra he h1 (fun u H1 s1 r1=>?_)))
  refine ⟨(by walk_at "s"),fun c hc=>?_⟩
  have s2:=Same.new hc (.tup [.str k,.str t,u])
  exact q _ _ (s1.trans s2) (xan c _ rfl ups _ _ rfl rfl _ (xbk _ rfl rfl _ _ rfl (r1.same s2 _) rfl))
 ·have hv':=hv
  obtain ⟨l,us,rfl,ha,_,_,rfl,rfl,va,_,rfl,ra,vr,_,rfl,rr,rfl⟩:=hv
  have hS:SqT K H l [.str (S "case"),va,vr]:=SqT.of ha
  walk_at "rd"
  exact (xas _ _ p ks env (xas a rs k t x (xdb y e val rfl hk hv' he hl h1 hf ⟨h2,q⟩)))
 ·obtain ⟨l,us,rfl,ha,_,_,rfl,rfl,va,_,rfl,ra,vb,_,rfl,rb,vc,_,rfl,rc,rfl⟩:=hv
  have hS:SqT K H l [.str (S "if"),va,vb,vc]:=SqT.of ha
  walk_at "rd"
  refine (xas _ _ _ ks _ (xb3 env _ rfl hk ra he h1 (fun u H1 s1 r1=>?_)))
  obtain rfl:u=.int x:=r1
  have hS1:SqT K H1 l [.str (S "if"),va,vb,vc]:=SqT.of (s1 _ _ ha)
  refine (jAEA rfl _ rfl (ite2 (fun c'=>?_) (fun c'=>?_)))
  ·have e:x=0:=V.int.inj (of_decide_eq_true c')
   rw [if_pos e] at h2
   refine (xaa _ rfl l _ _ _ rfl rfl hS1 rfl (jEA _ rfl (jEA _ rfl (jEA _ rfl ?_))))
   exact (xas _ _ _ ks _ (xb3 env _ rfl (hk.same s1) (rc.same s1 _) (he.same s1) h2 (fun u H2 s2 r2=>q _ _ (s1.trans s2) r2)))
  ·have e:¬ x=0:=fun z=>c' (zDT (congrArg V.int z))
   rw [if_neg e] at h2
   refine (xaa _ rfl l _ _ _ rfl rfl hS1 rfl (jEA _ rfl (jEA _ rfl (jEA _ rfl ?_))))
   exact (xas _ _ _ ks _ (xb3 env _ rfl (hk.same s1) (rb.same s1 _) (he.same s1) h2 (fun u H2 s2 r2=>q _ _ (s1.trans s2) r2)))
theorem xhq (T:Tx K mg) (R:RW) (hm:m<=1000) (D:DefIs P w K mg base (n + 1) "worth" qaa (xef R (m + 1))):DefIs P w K mg base (n + 3) "worth" qaa (xef (fun ks env d v=>xfq env d v\/NodeEv ks (R ks) env d v) m):=by
 have D':DefIs P w K mg base (n + 1) "worth" qaa (xef R m):=D.imp (by
  rintro vs H Q E ⟨kv,tv,p,ks,d,env,val,h1,h2,h3,h4,h5,h6⟩
  exact (xas kv tv p ks d (xb3 env val h1 h2 h3 (h4.mono (by omega)) h5 h6)))
 exact xqx T R (D'.mono (by omega)) (xle T) (xqy T (xgz T)) (xie T R hm D (xgy T))
theorem xl3 (T:Tx K mg):∀ n m,n + m<=1000->DefIs P w K mg base (2 * n + 3) "worth" qaa (xef (fun ks=>Ev ks n) m)
 | 0,m,h=>by
  refine (xhq (P:=P) (w:=w) (base:=base) (n:=0) (m:=m) T (fun _ _ _ _=>False) (by omega) (DefIs.none T.d_worth ?_)).imp ?_
  ·rintro vs H Q E ⟨_,_,_,_,_,_,_,_,_,_,_,h,_⟩
   exact h
  ·rintro vs H Q E ⟨kv,tv,p,ks,d,env,k,h1,h2,h3,h4,h5,h6⟩
   exact (xas kv tv p ks d (xb3 env k h1 h2 h3 h4 (.inl h5) h6))
 | n + 1,m,h=>xhq (n:=2 * n + 2) (m:=m) T (fun ks=>Ev ks n) (by omega) (xl3 T n (m + 1) (by omega))
end
def Rz (K:PySem.W.Frag) (H:Hp) (v:Value) (d:Option Addr) (c:Nat):Prop:=∃ x,v=.ref x/\d=none/\H x=some (excF x (cAt K c) none .none)
theorem xdn {H:Hp} {e C:Addr} (he:H e=none):Same H (upd (upd H e (excO e C none)) e (excF e C none .none)):=fun b u q=>by
 rw [xaz (neN q he),xaz (neN q he)]
 exact q
theorem xb7 {a b:Str} {m n:Nat} (h1:a.length<=m) (h2:b.length<=n):(a++b).length<=m + n:=by
 rw [Str.length_append]
 omega
theorem xj0 {i:Int} (h:i.natAbs < 2 ^ 64):i.natAbs.log2 < 1920:=by
 by_cases h0:i.natAbs=0
 ·rw [h0]; decide
 ·have:=(Nat.log2_lt h0).mpr h
  omega
theorem xpe {i:Int} (h0:0<=i) (h:i < 10 ^ 18):(Str.ofString (toString i)).length<=18:=by
 obtain ⟨m,rfl⟩:=Int.eq_ofNat_of_zero_le h0
 have e:=congrArg List.length (xo1 m)
 rw [zLM] at e
 show (numS (m:Int)).cps.size<=18
 rw [<- Array.length_toList,e]
 exact (Nat.length_toDigits_le_iff (b:=10) (k:=18) (by decide) (by decide)).mpr (by omega)
def Fails (K:PySem.W.Frag) (H:Hp) (E:XK) (c:Nat):Prop:=∀ v d H',Same H H'->Rz K H' v d c->E v d H'
theorem Fails.on {K:PySem.W.Frag} {H H1:Hp} {E:XK} {c:Nat} (h:Fails K H E c) (s:Same H H1):Fails K H1 E c:=fun v d H' s' r=>h v d H' (s.trans s') r
theorem xsd {c:Bool} {A B:Prop} (h:c=true) (a:A):if c=true then A else B:=by rw [if_pos h]; exact a
def xnz (K:PySem.W.Frag) (H:Hp) (Q:VK) (E:XK) (r:Res):Prop:=(∀ k,r=.ok k->∀ H',Same H H'->Q (.str k) H')/\∀ c,r=.error c->Fails K H E c
def xrm (K:PySem.W.Frag) (H:Hp) (Q:VK) (E:XK) (o:Option Nat):Prop:=(o=none->∀ H',Same H H'->Q .non H')/\∀ c,o=some c->Fails K H E c
abbrev RK:=List Kn->RKt
structure In3 (H:Hp) (kv tv:V) (p:Addr) (ks:List Kn) (d:D) (env:En) (m:Nat):Prop where
 kd:KsAt H kv ks
 kl:KLn ks
 el:EnvL env
 tm:RelD H tv d
 en:EnAt H p m env
theorem In3.sub {H H':Hp} {kv tv:V} {p:Addr} {ks:List Kn} {d:D} {env:En} {m:Nat} (h:In3 H kv tv p ks d env m) (s:Same H H') {tv':V} {d':D} (t:RelD H tv' d'):In3 H' kv tv' p ks d' env m:=⟨h.kd.same s,h.kl,h.el,t.same s _,h.en.same s⟩
def spKt (K:PySem.W.Frag) (R:RK) (m:Nat):Sp:=fun vs H Q E=>∃ kv tv p ks d env r,vs=[kv,tv,.ref p]/\In3 H kv tv p ks d env m/\R ks env d r/\xnz K H Q E r
def xfc (K:PySem.W.Frag) (R:RK) (m:Nat):Sp:=fun vs H Q E=>∃ kv tv p ks d env r k,vs=[kv,tv,.ref p,.str k]/\In3 H kv tv p ks d env m/\k.length<=100/\R ks env d r/\xrm K H Q E (nk k r)
def xh5 (K:PySem.W.Frag):Sp:=fun vs H Q E=>∃ a b:Str,vs=[.str a,.str b]/\a.length<=100/\b.length<=100/\xrm K H Q E (nk b (.ok a))
def xk1 (K:PySem.W.Frag):Sp:=fun vs H Q E=>∃ kv ks,∃ x so:Str,vs=[kv,.str x,.str so]/\KsAt H kv ks/\(∀ c,xf9 ks x so=some c->x.length<=100)/\so.length<=100/\xrm K H Q E (xf9 ks x so)
def xe5 (K:PySem.W.Frag) (R:RK) (m:Nat):Sp:=fun vs H Q E=>∃ kv tv p ks d env r,∃ so:Str,vs=[kv,tv,.ref p,.str so]/\In3 H kv tv p ks d env m/\so.length<=100/\R ks env d r/\xnz K H Q E (ksR ks so r)
def xgt (K:PySem.W.Frag):Sp:=fun vs H Q E=>∃ kv ks kn,∃ k f:Str,vs=[kv,.str k,.str f]/\KsAt H kv ks/\KLn ks/\kAt ks k=some kn/\(xca kn f=none->f.length<=100)/\xnz K H Q E (xhj kn f)
def xru (K:PySem.W.Frag):Sp:=fun vs H Q E=>∃ i:Int,vs=[.int i]/\0<=i/\i < 10 ^ 18/\xnz K H Q E (if i < 4294967296 then .ok (S "num") else .error 4)
def xrw (K:PySem.W.Frag) (m:Nat):Sp:=fun vs H Q E=>∃ (x:Str) (p:Addr) (env:En) (r:Res),vs=[.str x,.ref p]/\EnAt H p m env/\((∃ k,env x=some (.str k)/\r=.ok k)\/(env x=none/\x.length<=100/\r=.error 2))/\xnz K H Q E r
def RLen (R:RK):Prop:=∀ ks env d r,KLn ks->EnvL env->R ks env d r->ResL r
section
variable {P:Program} {w:World} {K:PySem.W.Frag} {mg:Str->Option Value} {base:Heap} {n m:Nat}
theorem xjn (T:Tx K mg):DefXs P w K mg base (n + 1) "need_same" qaj (xh5 K):=by
 refine DefXs.of T.d_need_same sc_need_same ?_ ?_ <;> walk_at "i"
 ·obtain ⟨_,_,rfl,_⟩:=h
  rfl
 obtain ⟨a,b,rfl,ha,hb,q,qf⟩:=h
 have nd:=sc_need_same.nd
 have hu:=xcz hr
 refine (jEA _ (zpo (xau (pR xhk (pv 0) (pv 1) (nM _)) (zpo (xce rfl (xea (T.xt.cl 4 (by decide)) (T.xt.ini 4 (by decide) (by decide)) rfl T.c_WrongKind (pc (xcr (xbz (xcx (pv 0) (xbz (xcx (pv 1) (xbz xdp)))))) pN xbl)))) pQ)) ?_)
 refine (xcw _ rfl _ rfl rfl _ rfl (ite2 (fun c=>?_) (fun c=>?_)))
 ·have hne:a≠b:=fun z=>by rw [z] at c; simp at c
  have hf:=qf 4 (xwp hne)
  have e1:(Str.empty++Str.ofString "a term of the kind ").length<=19:=by walk_at "k"
  have l2:=xb7 e1 ha
  have e3:(Str.ofString " where ").length<=7:=by walk_at "k"
  have l3:=xb7 l2 e3
  have l4:=xb7 l3 hb
  have e5:(Str.ofString " is asked for").length<=13:=by walk_at "k"
  have l5:=xb7 l4 e5
  refine (xct (fits (Nat.le_trans e1 (by decide))) _ rfl _ rfl (fits (Nat.le_trans ha (by decide))) (fits (Nat.le_trans l2 (by decide))) (fits (Nat.le_trans l3 (by decide))) _ rfl (xcs _ rfl (fits (Nat.le_trans hb (by decide))) (fits (Nat.le_trans l4 (by decide))) (fits (Nat.le_trans l5 (by decide))) (fits (Nat.le_trans l5 (by decide))) ⟨(by walk_at "s"),fun e he=>?_⟩))
  exact (xbi e (cAt K 4) none rfl ups (T.xt.cl 4 (by decide)) (hf _ _ _ (xdn he) (jEAA e rfl rfl ups)))
 ·have he:a=b:=by
   by_cases z:a=b
   ·exact z
   ·exact absurd (show (!decide (V.str a=V.str b))=true by rw [zDF fun y=>z (V.str.inj y)]; rfl) c
  exact q (by rw [he]; exact xif) _ (Same.refl _)
theorem xjp (T:Tx K mg) (R:RK) (hRL:RLen R) (D_kind_of:DefXs P w K mg base n "kind_of" qaa (spKt K R m)) (D_need_same:DefXs P w K mg base n "need_same" qaj (xh5 K)):DefXs P w K mg base (n + 1) "need_kind" qag (xfc K R m):=by
 refine DefXs.of T.d_need_kind sc_need_kind ?_ ?_ <;> walk_at "i"
 ·obtain ⟨_,_,_,_,_,_,_,_,rfl,_⟩:=h
  rfl
 obtain ⟨kv,tv,p,ks,d,env,r,k,rfl,hi,hk,hR,q,qf⟩:=h
 have nd:=sc_need_kind.nd
 have hu:=xcz hr
 refine (jEA _ (zpo (xbe (xar D_need_same hr (pc (xar D_kind_of hr (pc (pv 0) (pc (pv 1) (pc (pv 2) pN zsn) zsn) zsn)) (pc (pv 3) pN zsn) zsc)))) ?_)
 refine (xa2 _ rfl _ rfl _ rfl kv tv (xbn p ks d env r rfl hi hR (fun k' e H1 s1=>?_) (fun c e=>qf c (by rw [e]; rfl))))
 subst e
 exact (xbx _ rfl k' k rfl (hRL _ _ _ _ hi.kl hi.el hR k' rfl) hk ⟨fun z H2 s2=>q z _ (s1.trans s2),fun c z=>(qf c z).on s1⟩)
theorem xjm (T:Tx K mg) (D_sort_of:DefIs P w K mg base n "sort_of" qaf xgf):DefXs P w K mg base (n + 1) "need_sort" qap (xk1 K):=by
 refine DefXs.of T.d_need_sort sc_need_sort ?_ ?_ <;> walk_at "i"
 ·obtain ⟨_,_,_,_,rfl,_⟩:=h
  rfl
 obtain ⟨kv,ks,x,so,rfl,hk,hx,hso,q,qf⟩:=h
 have nd:=sc_need_sort.nd
 have hu:=xcz hr
 refine ⟨_,(zpn (xaf (i:=3) nd rfl (by walk_at "o") (pd D_sort_of hr (pc (pv 0) (pc (pv 1) pN zsn) zsn)))
   (zpn (xau (pR xr6 (pv 3) xe0 (nM _)) (zpo (xce rfl (xea (T.xt.cl 2 (by decide)) (T.xt.ini 2 (by decide) (by decide)) rfl T.c_NoName (pc (xcr (xbz (xcx (pv 1) xdp))) pN xbl)))) pQ)
   (zpo (xau (pR xhk (pv 3) (pv 2) (nM _)) (zpo (xce rfl (xea (T.xt.cl 4 (by decide)) (T.xt.ini 4 (by decide) (by decide)) rfl T.c_WrongKind (pc (xcr (xbz (xcx (pv 1) (xbz (xcx (pv 2) xdp))))) pN xbl)))) pQ)))),?_⟩
 refine (xbt _ rfl _ rfl kv ks x rfl hk ?_)
 cases hkx:kAt ks x with
 | none=>
  have hx':=hx 2 (xhs hkx)
  have hf:=qf 2 (xhs hkx)
  refine (xai _ rfl rfl _ rfl (iteKT (zDT rfl) ?_))
  have e1:(Str.empty++Str.ofString "no kind ").length<=8:=by walk_at "k"
  have l2:=xb7 e1 hx'
  refine (jAEA (fits (Nat.le_trans e1 (by decide))) _ rfl (xcs _ rfl (fits (Nat.le_trans hx' (by decide))) (fits (Nat.le_trans l2 (by decide))) (fits (Nat.le_trans l2 (by decide))) (by walk_at "s") (fun e he=>?_)))
  exact (xbi e (cAt K 2) none rfl ups (T.xt.cl 2 (by decide)) (hf _ _ _ (xdn he) (jEAA e rfl rfl ups)))
 | some kn=>
  refine (xai _ rfl rfl _ rfl (iteKF (zDF (fun z=>by cases z)) ?_))
  refine (xcw _ rfl _ rfl rfl _ rfl (ite2 (fun c=>?_) (fun c=>?_)))
  ·have hne:kn.sort≠so:=fun z=>by rw [show xst (some kn)=V.str so by rw [<- z]; rfl] at c; simp at c
   have hx':=hx 4 (xma hkx hne)
   have hf:=qf 4 (xma hkx hne)
   have e1:(Str.empty++Str.ofString "the kind ").length<=9:=by walk_at "k"
   have l2:=xb7 e1 hx'
   have e3:(Str.ofString " is no ").length<=7:=by walk_at "k"
   have l3:=xb7 l2 e3
   have l4:=xb7 l3 hso
   refine (xct (fits (Nat.le_trans e1 (by decide))) _ rfl _ rfl (fits (Nat.le_trans hx' (by decide))) (fits (Nat.le_trans l2 (by decide))) (fits (Nat.le_trans l3 (by decide))) _ rfl (xcs _ rfl (fits (Nat.le_trans hso (by decide))) (fits (Nat.le_trans l4 (by decide))) (fits (Nat.le_trans l4 (by decide))) (by walk_at "s") (fun e he=>?_)))
   exact (xbi e (cAt K 4) none rfl ups (T.xt.cl 4 (by decide)) (hf _ _ _ (xdn he) (jEAA e rfl rfl ups)))
  ·have he:kn.sort=so:=by
    by_cases z:kn.sort=so
    ·exact z
    ·exact absurd (show (!decide (V.str kn.sort=V.str so))=true by rw [zDF fun y=>z (V.str.inj y)]; rfl) c
   exact q (xfe hkx he) _ (Same.refl _)
theorem xg0 (T:Tx K mg) (R:RK) (hRL:RLen R) (D_kind_of:DefXs P w K mg base n "kind_of" qaa (spKt K R m)) (D_sort_of:DefIs P w K mg base n "sort_of" qaf xgf):DefXs P w K mg base (n + 1) "kind_of_sort" qaq (xe5 K R m):=by
 refine DefXs.of T.d_kind_of_sort sc_kind_of_sort ?_ ?_ <;> walk_at "i"
 ·obtain ⟨_,_,_,_,_,_,_,_,rfl,_⟩:=h
  rfl
 obtain ⟨kv,tv,p,ks,d,env,r,so,rfl,hi,hso,hR,q,qf⟩:=h
 have nd:=sc_kind_of_sort.nd
 have hu:=xcz hr
 refine ⟨_,(zpn (xaf (i:=4) nd rfl (by walk_at "o") (xar D_kind_of hr (pc (pv 0) (pc (pv 1) (pc (pv 2) pN zsn) zsn) zsn)))
   (zpn (xau (pR xhk (pd D_sort_of hr (pc (pv 0) (pc (pv 4) pN zsn) zsn)) (pv 3) (nM _)) (zpo (xce rfl (xea (T.xt.cl 4 (by decide)) (T.xt.ini 4 (by decide) (by decide)) rfl T.c_WrongKind (pc (xcr (xbz (xcx (pv 4) (xbz (xcx (pv 3) xdp))))) pN xbl)))) pQ)
   (zpo (xae (pv 4))))),?_⟩
 refine (xa2 _ rfl _ rfl _ rfl kv tv (xbn p ks d env r rfl hi hR (fun k e H1 s1=>?_) (fun c e=>qf c (by rw [e]; rfl))))
 subst e
 have hkl:=hRL _ _ _ _ hi.kl hi.el hR k rfl
 refine (xbt _ rfl _ rfl kv ks k rfl (hi.kd.same s1) ?_)
 cases hkx:kAt ks k with
 | none=>
  have hf:=qf 4 (xq8 hkx)
  refine (xai _ rfl rfl _ rfl (xsd (by show (!decide (V.non=V.str so))=true; rw [zDF (fun z=>by cases z)]; rfl) ?_))
  have e1:(Str.empty++Str.ofString "a term of the kind ").length<=19:=by walk_at "k"
  have l2:=xb7 e1 hkl
  have e3:(Str.ofString ", which is no ").length<=14:=by walk_at "k"
  have l3:=xb7 l2 e3
  have l4:=xb7 l3 hso
  refine (xct (fits (Nat.le_trans e1 (by decide))) _ rfl _ rfl (fits (Nat.le_trans hkl (by decide))) (fits (Nat.le_trans l2 (by decide))) (fits (Nat.le_trans l3 (by decide))) _ rfl (xcs _ rfl (fits (Nat.le_trans hso (by decide))) (fits (Nat.le_trans l4 (by decide))) (fits (Nat.le_trans l4 (by decide))) (by walk_at "s") (fun e he=>?_)))
  exact (xbi e (cAt K 4) none rfl ups (T.xt.cl 4 (by decide)) (hf _ _ _ (s1.trans (xdn he)) (jEAA e rfl rfl ups)))
 | some kn=>
  refine (xai _ rfl rfl _ rfl (ite2 (fun c=>?_) (fun c=>?_)))
  ·have hne:kn.sort≠so:=fun z=>by rw [show xst (some kn)=V.str so by rw [<- z]; rfl] at c; simp at c
   have hf:=qf 4 (xve hkx hne)
   have e1:(Str.empty++Str.ofString "a term of the kind ").length<=19:=by walk_at "k"
   have l2:=xb7 e1 hkl
   have e3:(Str.ofString ", which is no ").length<=14:=by walk_at "k"
   have l3:=xb7 l2 e3
   have l4:=xb7 l3 hso
   refine (xct (fits (Nat.le_trans e1 (by decide))) _ rfl _ rfl (fits (Nat.le_trans hkl (by decide))) (fits (Nat.le_trans l2 (by decide))) (fits (Nat.le_trans l3 (by decide))) _ rfl (xcs _ rfl (fits (Nat.le_trans hso (by decide))) (fits (Nat.le_trans l4 (by decide))) (fits (Nat.le_trans l4 (by decide))) (by walk_at "s") (fun e he=>?_)))
   exact (xbi e (cAt K 4) none rfl ups (T.xt.cl 4 (by decide)) (hf _ _ _ (s1.trans (xdn he)) (jEAA e rfl rfl ups)))
  ·have he:kn.sort=so:=by
    by_cases z:kn.sort=so
    ·exact z
    ·exact absurd (show (!decide (V.str kn.sort=V.str so))=true by rw [zDF fun y=>z (V.str.inj y)]; rfl) c
   exact (jEA _ rfl (q k (xmo hkx he) _ s1))
theorem xjj (T:Tx K mg) (D_parts_of:DefIs P w K mg base n "parts_of" qaf xdm):DefXs P w K mg base (n + 1) "part_kind" qak (xgt K):=by
 refine DefXs.of T.d_part_kind sc_part_kind ?_ ?_ <;> walk_at "i"
 ·obtain ⟨_,_,_,_,_,rfl,_⟩:=h
  rfl
 obtain ⟨kv,ks,kn,k,f',rfl,hk,hkl,hkn,hfl,q,qf⟩:=h
 have nd:=sc_part_kind.nd
 have hu:=xcz hr
 refine ⟨_,(zpn (xc3 (xgd rfl rfl) rfl (xb0 (pd D_parts_of hr (pc (pv 0) (pc (pv 1) pN zsn) zsn))) (xab (i:=3) nd rfl (by walk_at "o"))
   (zpo (xau (pR xa1 (xak xal (pv 3) pI (fun _ _=>rfl)) (pv 2) (nM _)) (zpo (xae (xak xal (pv 3) pI (fun _ _=>rfl)))) pQ)))
   (zpo (xce rfl (xea (T.xt.cl 2 (by decide)) (T.xt.ini 2 (by decide) (by decide)) rfl T.c_NoName (pc (xcr (xbz (xcx (pv 2) (xbz (xcx (pv 1) xdp))))) pN xbl))))),?_⟩
 refine (xbt _ rfl _ rfl _ ks k rfl hk (fun u H1 s1 r1=>?_))
 rw [hkn] at r1
 obtain ⟨e,ps,rfl,he,hps⟩:=r1
 have hl:=hps.length
 rw [zLM] at hl
 refine (jEAA e rfl ⟨_,SqT.of he⟩ ?_)
 refine xde (xs:=ps) (fun i σ H'=>∃ o3,σ=[some kv,some (.str k),some (.str f'),o3]/\H'=H1/\(kn.parts.take i).find? (fun p=>decide (p.1=f'))=none) (jEAA none rfl rfl rfl) (fun i σ H' _ p=>?_) ?_ ?_
 ·obtain ⟨_,_,rfl,_⟩:=p
  exact SqT.of he
 ·rintro i v σ H' hv ⟨o3,rfl,rfl,hn⟩
  obtain ⟨d,hd,rd⟩:=hps.get hv
  rw [zGM] at hd
  obtain ⟨p,hp',rfl⟩:=zMS hd
  obtain ⟨b,ws,rfl,hb,_,_,rfl,rfl,_,_,rfl,rfl,rfl⟩:=rd
  refine (xaa _ rfl b _ _ _ rfl rfl (SqT.of hb) rfl (xai _ rfl rfl _ rfl (ite2 (fun c=>?_) (fun c=>?_))))
  ·have e':p.1=f':=V.str.inj (of_decide_eq_true c)
   have e2:=(xc0 hn hp').1 (zDT e')
   have e3:xca kn f'=some p.2:=by unfold xca; rw [e2]; rfl
   exact (xaa _ rfl b _ _ _ rfl rfl (SqT.of hb) rfl (q p.2 (xem e3) _ s1))
  ·have e':¬ p.1=f':=fun z=>c (zDT (congrArg V.str z))
   exact (jEAA _ rfl rfl ((xc0 hn hp').2 (zDF e')))
 ·rintro σ H' ⟨o3,rfl,rfl,hn⟩
  rw [zTL (by omega)] at hn
  have e3:xca kn f'=none:=by unfold xca; rw [hn]; rfl
  have hf:=qf 2 (by unfold xhj; rw [e3])
  have hkx:=(xe8 hkl hkn).1
  have hfl':=hfl e3
  have e1:(Str.empty++Str.ofString "no part ").length<=8:=by walk_at "k"
  have l2:=xb7 e1 hfl'
  have e3:(Str.ofString " in the kind ").length<=13:=by walk_at "k"
  have l3:=xb7 l2 e3
  have l4:=xb7 l3 hkx
  refine (xct (fits (Nat.le_trans e1 (by decide))) _ rfl _ rfl (fits (Nat.le_trans hfl' (by decide))) (fits (Nat.le_trans l2 (by decide))) (fits (Nat.le_trans l3 (by decide))) _ rfl (xcs _ rfl (fits (Nat.le_trans hkx (by decide))) (fits (Nat.le_trans l4 (by decide))) (fits (Nat.le_trans l4 (by decide))) (by walk_at "s") (fun e he=>?_)))
  exact (xbi e (cAt K 2) none rfl ups (T.xt.cl 2 (by decide)) (hf _ _ _ (s1.trans (xdn he)) (jEAA e rfl rfl ups)))
theorem xlf (T:Tx K mg):DefXs P w K mg base (n + 1) "num_kind" ["n"] (xru K):=by
 refine DefXs.of T.d_num_kind sc_num_kind ?_ ?_ <;> walk_at "i"
 ·obtain ⟨_,rfl,_⟩:=h
  rfl
 obtain ⟨i,rfl,h0,h18,q,qf⟩:=h
 have nd:=sc_num_kind.nd
 have hu:=xcz hr
 refine ⟨_,(zpn (xau (xr1 (xqo xu3 xfh pI (pv 0) (xgx T.g_WIDE))) (zpo (xce rfl (xea (T.xt.cl 4 (by decide)) (T.xt.ini 4 (by decide) (by decide)) rfl T.c_WrongKind (pc (xcr (xr2 (pv 0) (xbz (xr2 (xgx T.g_WIDE) xdp)))) pN xbl)))) pQ)
   (zpo (xae pS))),?_⟩
 refine (xbo _ rfl _ _ rfl rfl _ rfl (iteKT (zDT h0) (xe9 _ _ rfl rfl _ rfl ?_)))
 by_cases h1:i < 4294967296
 ·rw [if_pos h1] at q
  rw [zDT h1]
  exact q _ rfl _ (Same.refl _)
 ·rw [if_neg h1] at qf
  rw [zDF h1]
  have hf:=qf 4 rfl
  have i1:=xpe (i:=i) (h0) (h18)
  have l1:=xb7 (a:=Str.empty) (m:=0) (by walk_at "k") i1
  have e2:(Str.ofString " is no number below ").length<=20:=by walk_at "k"
  have l2:=xb7 l1 e2
  have i3:=xpe (i:=4294967296) (by decide) (by decide)
  have l3:=xb7 l2 i3
  refine (xa3 _ rfl _ rfl (xj0 (by omega)) (jAA (fits (Nat.le_trans l1 (by decide))) (fits (Nat.le_trans l2 (by decide))) (xcs _ rfl (xj0 (by decide)) (fits (Nat.le_trans l3 (by decide))) (fits (Nat.le_trans l3 (by decide))) (by walk_at "s") (fun e he=>?_))))
  exact (xbi e (cAt K 4) none rfl ups (T.xt.cl 4 (by decide)) (hf _ _ _ (xdn he) (jEAA e rfl rfl ups)))
theorem xli (T:Tx K mg):DefXs P w K mg base (n + 1) "box_kind" qao (xrw K m):=by
 refine DefXs.of T.d_box_kind sc_box_kind ?_ ?_ <;> walk_at "i"
 ·obtain ⟨_,_,_,_,rfl,_⟩:=h
  rfl
 obtain ⟨x,p,env,r,rfl,⟨kvs,hp,hl,hh⟩,hx,q,qf⟩:=h
 have nd:=sc_box_kind.nd
 have hu:=xcz hr
 refine ⟨_,(zpn (xau (xon (xjc hu (pv 0) (pv 1))) (zpo (xce rfl (xea (T.xt.cl 2 (by decide)) (T.xt.ini 2 (by decide) (by decide)) rfl T.c_NoName (pc (xcr (xbz (xcx (pv 0) (xbz xdp)))) pN xbl)))) pQ)
   (zpo (xae (xia hu (pv 1) (pv 0) (fun _ _=>rfl))))),?_⟩
 rcases hx with ⟨k,hx,rfl⟩ | ⟨hx,hxl,rfl⟩
 ·obtain ⟨v,hv,rv⟩:=(hh x).2 _ hx
  obtain rfl:v=.str k:=rv
  have g:DGet H p (.str x) (some (.str k)):=hv ▸ DGet.k (k:=Sum.inr x) hp
  refine (xcf _ rfl _ rfl p _ rfl g _ rfl (iteF ?_))
  exact (xbp _ rfl _ rfl p _ rfl g (q k rfl _ (Same.refl _)))
 ·have g:DGet H p (.str x) none:=(hh x).1 hx ▸ DGet.k (k:=Sum.inr x) hp
  refine (xcf _ rfl _ rfl p _ rfl g _ rfl (iteT ?_))
  have hf:=qf 2 rfl
  have e1:(Str.empty++Str.ofString "no box ").length<=7:=by walk_at "k"
  have l2:=xb7 e1 hxl
  have e3:(Str.ofString " at hand").length<=8:=by walk_at "k"
  have l3:=xb7 l2 e3
  refine (xd5 (fits (Nat.le_trans e1 (by decide))) _ rfl _ rfl (fits (Nat.le_trans hxl (by decide))) (fits (Nat.le_trans l2 (by decide))) (fits (Nat.le_trans l3 (by decide))) (fits (Nat.le_trans l3 (by decide))) (by walk_at "s") (fun e he=>?_))
  exact (xbi e (cAt K 2) none rfl ups (T.xt.cl 2 (by decide)) (hf _ _ _ (xdn he) (jEAA e rfl rfl ups)))
theorem xnl (T:Tx K mg) (R:RK) (D_need_kind:DefXs P w K mg base n "need_kind" qag (xfc K R m)):DefXs P w K mg base (n + 1) "op_kind" qaa (spKt K (fun ks=>OpKt (R ks)) m):=by
 refine DefXs.of T.d_op_kind sc_op_kind ?_ ?_ <;> walk_at "i"
 ·obtain ⟨_,_,_,_,_,_,_,rfl,_⟩:=h
  rfl
 obtain ⟨kv,tv,p,ks,d,env,r,rfl,hi,⟨sg,a,b,ra,rfl,ha,hr2⟩,q,qf⟩:=h
 have nd:=sc_op_kind.nd
 have hu:=xcz hr
 refine ⟨_,(zpn (xbe (xar D_need_kind hr (pc (pv 0) (pc (xak xal (pv 1) pI (fun _ _=>rfl)) (pc (pv 2) (pc pS pN zso) zsn) zss) zsn)))
   (zpn (xbe (xar D_need_kind hr (pc (pv 0) (pc (xak xal (pv 1) pI (fun _ _=>rfl)) (pc (pv 2) (pc pS pN zso) zsn) zss) zsn)))
   (zpo (xae pS)))),?_⟩
 obtain ⟨l,us,rfl,hl,_,_,rfl,rfl,_,_,rfl,rfl,va,_,rfl,rva,vb,_,rfl,rvb,rfl⟩:=hi.tm
 refine (xa0 _ rfl _ rfl l _ _ (xb4 _ rfl rfl (SqT.of hl) rfl _ rfl ?_))
 refine (xas kv va p ks a (xcc env ra (S "num") rfl (hi.sub (Same.refl _) rva) xjr ha (fun z H1 s1=>?_) (fun c z=>?_)))
 ·rcases hr2 with ⟨c,e,_⟩ | ⟨_,rb,hb,rfl⟩
  ·rw [z] at e; cases e
  refine (xa0 _ rfl _ rfl l _ _ (xb4 _ rfl rfl (SqT.of (s1 _ _ hl)) rfl _ rfl ?_))
  exact (xas kv vb p ks b (xcc env rb (S "num") rfl (hi.sub s1 rvb) xjr hb (fun z2 H2 s2=>q _ (by rw [z2]; rfl) _ (s1.trans s2)) (fun c z2=>(qf c (by rw [z2]; rfl)).on s1)))
 ·rcases hr2 with ⟨c',e,rfl⟩ | ⟨e,_⟩
  ·rw [z] at e; cases e; exact qf c rfl
  ·rw [z] at e; cases e
theorem xnn (T:Tx K mg) (R:RK) (hRL:RLen R) (D_kind_of:DefXs P w K mg base n "kind_of" qaa (spKt K R m)) (D_need_kind:DefXs P w K mg base n "need_kind" qag (xfc K R m)):DefXs P w K mg base (n + 1) "if_kind" qaa (spKt K (fun ks=>IfKt (R ks)) m):=by
 refine DefXs.of T.d_if_kind sc_if_kind ?_ ?_ <;> walk_at "i"
 ·obtain ⟨_,_,_,_,_,_,_,rfl,_⟩:=h
  rfl
 obtain ⟨kv,tv,p,ks,d,env,r,rfl,hi,⟨a,b,c,ra,rfl,ha,hr2⟩,q,qf⟩:=h
 have nd:=sc_if_kind.nd
 have hu:=xcz hr
 refine ⟨_,(zpn (xbe (xar D_need_kind hr (pc (pv 0) (pc (xak xal (pv 1) pI (fun _ _=>rfl)) (pc (pv 2) (pc pS pN zso) zsn) zss) zsn)))
   (zpn (xaf (i:=3) nd rfl (by walk_at "o") (xar D_kind_of hr (pc (pv 0) (pc (xak xal (pv 1) pI (fun _ _=>rfl)) (pc (pv 2) pN zsn) zss) zsn)))
   (zpn (xbe (xar D_need_kind hr (pc (pv 0) (pc (xak xal (pv 1) pI (fun _ _=>rfl)) (pc (pv 2) (pc (pv 3) pN zsn) zsn) zss) zsn)))
   (zpo (xae (pv 3)))))),?_⟩
 obtain ⟨l,us,rfl,hl,_,_,rfl,rfl,va,_,rfl,rva,vb,_,rfl,rvb,vc,_,rfl,rvc,rfl⟩:=hi.tm
 refine (xa0 _ rfl _ rfl l _ _ (xb4 _ rfl rfl (SqT.of hl) rfl _ rfl ?_))
 refine (xas kv va p ks a (xcc env ra (S "num") rfl (hi.sub (Same.refl _) rva) xjr ha (fun z H1 s1=>?_) (fun c z=>?_)))
 ·rcases hr2 with ⟨e,e1,_⟩ | ⟨_,rb,hb,hr3⟩
  ·rw [z] at e1; cases e1
  refine (xa0 _ rfl _ rfl l _ _ (xb4 _ rfl rfl (SqT.of (s1 _ _ hl)) rfl _ rfl ?_))
  refine (xas kv vb p ks b (xc2 env rb rfl (hi.sub s1 rvb) hb (fun k e2 H2 s2=>?_) (fun e e2=>?_)))
  ·rcases hr3 with ⟨e,e3,_⟩ | ⟨k',rc,e3,hc,rfl⟩
   ·rw [e2] at e3; cases e3
   rw [e2] at e3
   cases e3
   have s12:=s1.trans s2
   refine (xa0 _ rfl _ rfl l _ _ (xb4 _ rfl rfl (SqT.of (s12 _ _ hl)) rfl _ rfl (jEA _ rfl ?_)))
   exact (xas kv vc p ks c (xcc env rc k rfl (hi.sub s12 rvc) (hRL _ _ _ _ hi.kl hi.el hb k e2) hc (fun z2 H3 s3=>(jEA _ rfl (q k (by rw [z2]; rfl) _ (s12.trans s3)))) (fun c z2=>(qf c (by rw [z2]; rfl)).on s12)))
  ·rcases hr3 with ⟨e',e3,rfl⟩ | ⟨k',rc,e3,_⟩
   ·rw [e2] at e3; cases e3; exact (qf e rfl).on s1
   ·rw [e2] at e3; cases e3
 ·rcases hr2 with ⟨c',e,rfl⟩ | ⟨e,_⟩
  ·rw [z] at e; cases e; exact qf c rfl
  ·rw [z] at e; cases e
theorem xlg (T:Tx K mg) (R:RK) (D_kind_of_sort:DefXs P w K mg base n "kind_of_sort" qaq (xe5 K R m)) (D_part_kind:DefXs P w K mg base n "part_kind" qak (xgt K)):DefXs P w K mg base (n + 1) "get_kind" qaa (spKt K (fun ks=>xtv ks (R ks)) m):=by
 refine DefXs.of T.d_get_kind sc_get_kind ?_ ?_ <;> walk_at "i"
 ·obtain ⟨_,_,_,_,_,_,_,rfl,_⟩:=h
  rfl
 obtain ⟨kv,tv,p,ks,d,env,r,rfl,hi,⟨a,f',ra,rfl,ha,hr2⟩,q,qf⟩:=h
 have nd:=sc_get_kind.nd
 have hu:=xcz hr
 refine ⟨_,(zpn (xaf (i:=3) nd rfl (by walk_at "o") (xar D_kind_of_sort hr (pc (pv 0) (pc (xak xal (pv 1) pI (fun _ _=>rfl)) (pc (pv 2) (pc pS pN zso) zsn) zss) zsn)))
   (zpo (xae (xar D_part_kind hr (pc (pv 0) (pc (pv 3) (pc (xak xal (pv 1) pI (fun _ _=>rfl)) pN zss) zsn) zsn))))),?_⟩
 obtain ⟨l,us,rfl,hl,_,_,rfl,rfl,va,_,rfl,rva,_,_,rfl,rfl,rfl⟩:=hi.tm
 refine (xa0 _ rfl _ rfl l _ _ (xb4 _ rfl rfl (SqT.of hl) rfl _ rfl ?_))
 refine (xas kv va p ks a (xcc env ra (S "rec") rfl (hi.sub (Same.refl _) rva) (by walk_at "k") ha (fun k z H1 s1=>?_) (fun c z=>?_)))
 ·rcases hr2 with ⟨c,e,_⟩ | ⟨k',kn,e,hkn,rfl,hfl⟩
  ·rw [z] at e; cases e
  rw [z] at e
  cases e
  refine (xa2 _ rfl _ rfl _ rfl l _ (xc2 _ _ rfl rfl (SqT.of (s1 _ _ hl)) rfl ?_))
  exact (xat kv ks kn k f' rfl (hi.kd.same s1) hi.kl hkn hfl ⟨fun k2 z2 H2 s2=>q k2 z2 _ (s1.trans s2),fun c z2=>(qf c z2).on s1⟩)
 ·rcases hr2 with ⟨c',e,rfl⟩ | ⟨k',kn,e,_⟩
  ·rw [z] at e; cases e; exact qf c rfl
  ·rw [z] at e; cases e
theorem xlc (T:Tx K mg) (R:RK) (D_need_sort:DefXs P w K mg base n "need_sort" qap (xk1 K)) (D_need_kind:DefXs P w K mg base n "need_kind" qag (xfc K R m)) (D_part_kind:DefXs P w K mg base n "part_kind" qak (xgt K)):DefXs P w K mg base (n + 1) "tag_kind" qaa (spKt K (fun ks=>xts ks (R ks)) m):=by
 refine DefXs.of T.d_tag_kind sc_tag_kind ?_ ?_ <;> walk_at "i"
 ·obtain ⟨_,_,_,_,_,_,_,rfl,_⟩:=h
  rfl
 obtain ⟨kv,tv,p,ks,d,env,r,rfl,hi,⟨x,t,a,rfl,hr2⟩,q,qf⟩:=h
 have nd:=sc_tag_kind.nd
 have hu:=xcz hr
 refine ⟨_,(zpn (xaf (i:=3) nd rfl (by walk_at "o") (xak xal (pv 1) pI (fun _ _=>rfl)))
   (zpn (xbe (xar D_need_sort hr (pc (pv 0) (pc (pv 3) (pc pS pN zso) zsn) zsn)))
   (zpn (xbe (xar D_need_kind hr (pc (pv 0) (pc (xak xal (pv 1) pI (fun _ _=>rfl)) (pc (pv 2) (pc (xar D_part_kind hr (pc (pv 0) (pc (pv 3) (pc (xak xal (pv 1) pI (fun _ _=>rfl)) pN zss) zsn) zsn)) pN zsc) zsn) zss) zsn)))
   (zpo (xae (pv 3)))))),?_⟩
 obtain ⟨l,us,rfl,hl,_,_,rfl,rfl,_,_,rfl,rfl,_,_,rfl,rfl,va,_,rfl,rva,rfl⟩:=hi.tm
 have hS:SqT K H l [.str (S "tag"),.str x,.str t,va]:=SqT.of hl
 refine (xaa _ rfl l _ _ _ rfl rfl hS rfl ?_)
 refine (xa0 _ rfl _ rfl kv ks x (xcs (S "alt") rfl hi.kd (fun c z=>?_) (by walk_at "k") (fun z H1 s1=>?_) (fun c z=>?_)))
 ·rcases hr2 with ⟨c',e,hx,_⟩ | ⟨e,_⟩
  ·exact hx
  ·rw [z] at e; cases e
 ·rcases hr2 with ⟨c,e,_⟩ | ⟨_,kn,hkn,hr3⟩
  ·rw [z] at e; cases e
  have hS1:SqT K H1 l [.str (S "tag"),.str x,.str t,va]:=SqT.of (s1 _ _ hl)
  refine (xa0 _ rfl _ rfl l _ _ (xb4 _ rfl rfl hS1 rfl _ rfl (xa2 _ rfl _ rfl _ rfl l _ (xc2 _ _ rfl rfl hS1 rfl ?_))))
  refine (xat kv ks kn x t rfl (hi.kd.same s1) hi.kl hkn (fun z2=>?_) ⟨fun k1 z2 H2 s2=>?_,fun c z2=>?_⟩)
  ·rcases hr3 with ⟨_,ht,_⟩ | ⟨k1,ra,e,_⟩
   ·exact ht
   ·rw [z2] at e; cases e
  ·rcases hr3 with ⟨e,_⟩ | ⟨k1',ra,e,ha,rfl⟩
   ·unfold xhj at z2; rw [e] at z2; cases z2
   rw [xem e] at z2
   cases z2
   have s12:=s1.trans s2
   exact (xas kv va p ks a (xcc env ra k1 rfl (hi.sub s12 rva) (xel hi.kl hkn e) ha (fun z3 H3 s3=>(jEA _ rfl (q x (by rw [z3]; rfl) _ (s12.trans s3)))) (fun c z3=>(qf c (by rw [z3]; rfl)).on s12)))
  ·rcases hr3 with ⟨e,_,rfl⟩ | ⟨k1',ra,e,_⟩
   ·unfold xhj at z2; rw [e] at z2; cases z2; exact (qf 2 rfl).on s1
   ·rw [xem e] at z2; cases z2
 ·rcases hr2 with ⟨c',e,_,rfl⟩ | ⟨e,_⟩
  ·rw [z] at e; cases e; exact qf c rfl
  ·rw [z] at e; cases e
end
theorem xfj (x:Str):∀ ys:List Str,inV (.str x) (ys.map V.str)=decide (x∈ys)
 | []=>rfl
 | y :: ys=>by
  show ((y == x) || inV (.str x) (ys.map V.str))=_
  rw [xfj x ys]
  by_cases h:y=x
  ·subst h; simp
  ·have h':¬ x=y:=fun e=>h e.symm
   simp [h,h']
theorem xdf:∀ ys:List Str,(ys.map V.str).all xfl=true
 | []=>rfl
 | y :: ys=>by
  show (xfl (.str y) && (ys.map V.str).all xfl)=true
  rw [xdf ys]
  rfl
theorem xlv {α:Type} {l:List α} {i:Nat} {a:α} (h:l[i]?=some a):l.drop i=a :: l.drop (i + 1):=by
 obtain ⟨hi,e⟩:=zES h
 rw [List.drop_eq_getElem_cons hi,e]
def xrt (K:PySem.W.Frag):Sp:=fun vs H Q E=>∃ (p:Addr) (ns:List Str) (t:Str),vs=[.ref p,.str t]/\H p=some (.lst (ns.map V.str))/\ns.length<=1000/\t.length<=200/\(ns.Nodup->Q .non H)/\(¬ ns.Nodup->Fails K H E 1)
def xoa (K:PySem.W.Frag):Sp:=fun vs H Q E=>∃ (kv:V) (c:Addr) (ws:List V) (ks:List Kn) (k:Str) (kn:Kn) (rs:List Arm3),vs=[kv,.str k,.ref c]/\KsAt H kv ks/\KLn ks/\kAt ks k=some kn/\H c=some (.tup ws)/\RelDs H ws (rs.map dArm)/\rs.length<=1000/\(∀ e,xf7 kn rs=some e->∀ z∈rs,z.1.length<=100)/\xrm K H Q E (xf7 kn rs)
def xry (K:PySem.W.Frag) (R:RK) (m:Nat):Sp:=fun vs H Q E=>∃ (kv av:V) (p:Addr) (ks:List Kn) (env:En) (k1:Str) (kn:Kn) (z:Arm3) (r:Res),vs=[kv,.str k1,av,.ref p]/\In3 H kv av p ks (dArm z) env m/\kAt ks k1=some kn/\ArmR kn (R ks) env z r/\m<=1000/\xnz K H Q E r
section
variable {P:Program} {w:World} {K:PySem.W.Frag} {mg:Str->Option Value} {base:Heap} {n m:Nat}
theorem xjo (T:Tx K mg):DefXs P w K mg base (n + 1) "need_once" qan (xrt K):=by
 refine DefXs.of T.d_need_once sc_need_once ?_ ?_ <;> walk_at "i"
 ·obtain ⟨_,_,_,rfl,_⟩:=h
  rfl
 obtain ⟨p,ns,t,rfl,hp,hle,ht,q,q1⟩:=h
 have nd:=sc_need_once.nd
 have hu:=xcz hr
 refine (jEA _ (zpo (xau (pR xfh (xnh rfl rfl T.z_len rfl T.z_set (pv 0)) (xao xah rfl T.z_len PySem.boot_len (pc (pv 0) pN zsn)) (nM _)) (zpo (xce rfl (xea (T.xt.cl 1 (by decide)) (T.xt.ini 1 (by decide) (by decide)) rfl T.c_Twice (pc (xcr (xbz (xcx (pv 1) (xbz xdp)))) pN xbl)))) pQ)) ?_)
 refine (xbx _ rfl p ns rfl hp hle (fun m hm hiff=>?_))
 refine (xcn _ rfl p _ rfl (.inl (SqL.of hp)) ?_)
 refine (xe9 _ _ rfl rfl _ rfl (ite2 (fun c=>?_) (fun c=>?_)))
 ·have hc:=of_decide_eq_true c
  rw [zLM] at hc
  have hf:=q1 (fun hn=>by have:=hiff.mpr hn; omega)
  have e1:(Str.empty++Str.ofString "two ").length<=4:=by walk_at "k"
  have l2:=xb7 e1 ht
  have e3:(Str.ofString " of one name").length<=12:=by walk_at "k"
  have l3:=xb7 l2 e3
  refine (xd5 (fits (Nat.le_trans e1 (by decide))) _ rfl _ rfl (fits (Nat.le_trans ht (by decide))) (fits (Nat.le_trans l2 (by decide))) (fits (Nat.le_trans l3 (by decide))) (fits (Nat.le_trans l3 (by decide))) (by walk_at "s") (fun e he=>?_))
  exact (xbi e (cAt K 1) none rfl ups (T.xt.cl 1 (by decide)) (hf _ _ _ (xdn he) (jEAA e rfl rfl ups)))
 ·have hc:¬ ((m:Int) < ((ns.map V.str).length:Nat)):=fun z=>c (zDT z)
  rw [zLM] at hc
  exact q (hiff.mp (by omega))
theorem xjl (T:Tx K mg) (D_parts_of:DefIs P w K mg base n "parts_of" qaf xdm) (D_need_once:DefXs P w K mg base n "need_once" qan (xrt K)):DefXs P w K mg base (n + 1) "need_tags" qay (xoa K):=by
 refine DefXs.of T.d_need_tags sc_need_tags ?_ ?_ <;> walk_at "i"
 ·obtain ⟨_,_,_,_,_,_,_,rfl,_⟩:=h
  rfl
 obtain ⟨kv,c,ws,ks,k,kn,rs,rfl,hk,hkl,hkn,hc,hws,hlen,hzl,q,qf⟩:=h
 have nd:=sc_need_tags.nd
 have hu:=xcz hr
 refine ⟨_,(zpn (xcq (i:=3) ["part"] [none] rfl (by kernel_rfl) nd rfl (by walk_at "o") (xb0 (pd D_parts_of hr (pc (pv 0) (pc (pv 1) pN zsn) zsn))) (fun _ _ _ _=>(xab (i:=0) (by show List.Nodup (["part"]:List Str); decide +kernel) rfl (Or.inl rfl))) (fun _ _ _ _=>xby) (fun _ _ _ _=>(xak (xd6 (K:=K) rfl) (pv 0) pI (fun _ _=>rfl))))
   (zpn (xcq (i:=4) ["arm"] [none] rfl (by kernel_rfl) nd rfl (by walk_at "o") (xb0 (pv 2)) (fun _ _ _ _=>(xab (i:=0) (by show List.Nodup (["arm"]:List Str); decide +kernel) rfl (Or.inl rfl))) (fun _ _ _ _=>xby) (fun _ _ _ _=>(xak (xd6 (K:=K) rfl) (pv 0) pI (fun _ _=>rfl))))
   (zpn (xc3 (xgd rfl rfl) rfl (xc1 (pv 4)) (xab (i:=5) nd rfl (by walk_at "o"))
   (zpo (xau (pR xjd (pv 5) (pv 3) (by with_unfolding_all rfl)) (zpo (xce rfl (xea (T.xt.cl 2 (by decide)) (T.xt.ini 2 (by decide) (by decide)) rfl T.c_NoName (pc (xcr (xbz (xcx (pv 5) (xbz (xcx (pv 1) xdp))))) pN xbl)))) pQ)))
   (zpn (xbe (xar D_need_once hr (pc (pv 4) (pc (xcr (xbz (xcx (pv 1) xdp))) pN xbl) zsn)))
   (zpo (xau (pR xfh (xao xah rfl T.z_len PySem.boot_len (pc (pv 4) pN zsn)) (xao xah rfl T.z_len PySem.boot_len (pc (pv 3) pN zsn)) (nM _)) (zpo (xce rfl (xea (T.xt.cl 5 (by decide)) (T.xt.ini 5 (by decide) (by decide)) rfl T.c_Lacks (pc (xcr (xbz (xcx (pv 1) xdp))) pN xbl)))) pQ)))))),?_⟩
 have hkm:=zMF hkn
 have hkl':=(xe8 hkl hkn).1
 have hp100:=hk.2.2 kn hkm
 refine (xbt _ rfl _ rfl kv ks k rfl hk (fun u H1 s1 r1=>?_))
 rw [hkn] at r1
 obtain ⟨e,ps,rfl,he,hps⟩:=r1
 have hl:=hps.length
 rw [zLM] at hl
 refine (jEAA e rfl ⟨_,SqT.of he⟩ ?_)
 refine xfn (j:=0) (xs:=ps) (fun i ys H'=>H'=H1/\ys=((kn.parts.take i).map (·.1)).map V.str) (by rfl) ⟨rfl,rfl⟩ (xa7 (by omega)) (fun i ys H' _ p=>by obtain ⟨rfl,_⟩:=p; exact SqT.of he) ?_ ?_
 ·rintro i x ys H' hx hly ⟨rfl,rfl⟩
  obtain ⟨d,hd,rd⟩:=hps.get hx
  rw [zGM] at hd
  obtain ⟨p,hp,rfl⟩:=zMS hd
  obtain ⟨b,wz,rfl,hb,_,_,rfl,rfl,_,_,rfl,rfl,rfl⟩:=rd
  have hi':i < ps.length:=(zES hx).1
  refine (xaa _ rfl b _ _ _ rfl rfl (SqT.of hb) rfl (nxt hi' hly ⟨rfl,?_⟩))
  rw [zTA,hp]
  simp
 rintro ys H' hly ⟨rfl,rfl⟩ D1 hD1
 rw [zTL (by omega)]
 have t1:=Same.new hD1 (.lst ((kn.parts.map (·.1)).map V.str))
 have s2:=s1.trans t1
 have hwl:=hws.length
 rw [zLM] at hwl
 generalize hH2:upd H' D1 (.lst ((kn.parts.map (·.1)).map V.str))=H2 at t1 s2 ⊢
 have hD1':H2 D1=some (.lst ((kn.parts.map (·.1)).map V.str)):=by rw [<- hH2]; exact ups
 refine (xa3 _ rfl c rfl ⟨_,SqT.of (s2 _ _ hc)⟩ ?_)
 refine xfn (j:=0) (xs:=ws) (fun i ys H'=>H'=H2/\ys=((rs.take i).map (·.1)).map V.str) (by rfl) ⟨rfl,rfl⟩ (xa7 (by omega)) (fun i ys H' _ p=>by obtain ⟨rfl,_⟩:=p; exact SqT.of (s2 _ _ hc)) ?_ ?_
 ·rintro i x ys H3 hx hly ⟨rfl,rfl⟩
  obtain ⟨d,hd,rd⟩:=(hws.same s2 _).get hx
  rw [zGM] at hd
  obtain ⟨p,hp,rfl⟩:=zMS hd
  obtain ⟨b,wz,rfl,hb,_,_,rfl,rfl,_,_,rfl,rfl,v3,_,rfl,r3,rfl⟩:=rd
  have hi':i < ws.length:=(zES hx).1
  refine (xaa _ rfl b _ _ _ rfl rfl (SqT.of hb) rfl (nxt hi' hly ⟨rfl,?_⟩))
  rw [zTA,hp]
  simp
 rintro ys H3 hly ⟨rfl,rfl⟩ D2 hD2
 rw [zTL (by omega)]
 have t2:=Same.new hD2 (.lst ((rs.map (·.1)).map V.str))
 have s3:=s2.trans t2
 have hD1'':=t2 _ _ hD1'
 generalize hH4:upd H3 D2 (.lst ((rs.map (·.1)).map V.str))=H4 at t2 s3 hD1'' ⊢
 have hD2':H4 D2=some (.lst ((rs.map (·.1)).map V.str)):=by rw [<- hH4]; exact ups
 refine (xa3 _ rfl D2 rfl ⟨_,SqL.of hD2'⟩ ?_)
 refine xil (xs:=(rs.map (·.1)).map V.str) (fun i σ H'=>∃ o5,σ=[some kv,some (.str k),some (.ref c),some (.ref D1),some (.ref D2),o5]/\H'=H4/\∀ r∈rs.take i,r.1∈kn.parts.map (·.1)) (jEAA none rfl rfl (fun _ h=>nomatch h)) (fun i σ H' _ p=>?_) ?_ ?_
 ·obtain ⟨_,_,rfl,_⟩:=p
  exact SqL.of hD2'
 ·rintro i z σ H5 hz ⟨o5,rfl,rfl,hall⟩
  rw [zGM] at hz
  obtain ⟨y,hy,rfl⟩:=zMS hz
  rw [zGM] at hy
  obtain ⟨r,hr',rfl⟩:=zMS hy
  refine (xbp _ rfl _ rfl D1 _ rfl (.inl (SqL.of hD1'')) (jAA rfl (xdf _) (jEA _ rfl ?_)))
  rw [if_pos rfl,xfj]
  by_cases hin:r.1∈kn.parts.map (·.1)
  ·rw [zDT hin]
   refine iteF (jEAA _ rfl rfl (fun z hz=>?_))
   rw [zTA,hr'] at hz
   rcases zMA hz with hz | hz
   ·exact hall z hz
   ·rw [show z=r by simpa using hz]; exact hin
  ·rw [zDF hin]
   have e2:xf7 kn rs=some 2:=by unfold xf7; rw [if_pos fun z=>hin (z r (zMG hr'))]
   have hf:=qf 2 e2
   have hz1:=hzl 2 e2 r (zMG hr')
   refine iteT ?_
   have e1:(Str.empty++Str.ofString "no tag ").length<=7:=by walk_at "k"
   have l2:=xb7 e1 hz1
   have e3:(Str.ofString " in the kind ").length<=13:=by walk_at "k"
   have l3:=xb7 l2 e3
   have l4:=xb7 l3 hkl'
   refine (xct (fits (Nat.le_trans e1 (by decide))) _ rfl _ rfl (fits (Nat.le_trans hz1 (by decide))) (fits (Nat.le_trans l2 (by decide))) (fits (Nat.le_trans l3 (by decide))) _ rfl (xcs _ rfl (fits (Nat.le_trans hkl' (by decide))) (fits (Nat.le_trans l4 (by decide))) (fits (Nat.le_trans l4 (by decide))) (by walk_at "s") (fun e he=>?_)))
   exact (xbi e (cAt K 2) none rfl ups (T.xt.cl 2 (by decide)) (hf _ _ _ (s3.trans (xdn he)) (jEAA e rfl rfl ups)))
 ·rintro σ H5 ⟨o5,rfl,rfl,hall⟩
  rw [zTL (by rw [zLM,zLM]; omega)] at hall
  have l1:(Str.empty++Str.ofString "arms in a case of the kind ").length<=27:=by walk_at "k"
  have l2:=xb7 l1 hkl'
  refine (xai _ rfl (fits (Nat.le_trans l1 (by decide))) _ rfl (xdd _ rfl (fits (by omega)) (fits (Nat.le_trans l2 (by decide))) (fits (Nat.le_trans l2 (by decide))) ?_))
  refine (xcc D2 (rs.map (·.1)) _ rfl hD2' (by rw [zLM]; omega) (Nat.le_trans l2 (by decide)) (fun hnd=>?_) (fun hnd=>(qf 1 (by unfold xf7; rw [if_neg fun z=>z hall,if_pos hnd])).on s3))
  refine (xc7 _ rfl D2 _ rfl (.inl (SqL.of hD2')) _ rfl D1 (xbk _ rfl (.inl (SqL.of hD1'')) _ _ rfl rfl (jEA _ rfl (ite2 (fun cc=>?_) (fun cc=>?_)))))
  ·have cc':=of_decide_eq_true cc
   rw [zLM,zLM,zLM,zLM] at cc'
   have hf:=qf 5 (by unfold xf7; rw [if_neg fun z=>z hall,if_neg fun z=>z hnd,if_pos (by omega)])
   have e1:(Str.empty++Str.ofString "no arm for some tag of the kind ").length<=32:=by walk_at "k"
   have l2:=xb7 e1 hkl'
   refine (jAEA (fits (Nat.le_trans e1 (by decide))) _ rfl (xcs _ rfl (fits (Nat.le_trans hkl' (by decide))) (fits (Nat.le_trans l2 (by decide))) (fits (Nat.le_trans l2 (by decide))) (by walk_at "s") (fun e he=>?_)))
   exact (xbi e (cAt K 5) none rfl ups (T.xt.cl 5 (by decide)) (hf _ _ _ (s3.trans (xdn he)) (jEAA e rfl rfl ups)))
  ·have cc':¬ ((((rs.map (·.1)).map V.str).length:Nat):Int) < ((((kn.parts.map (·.1)).map V.str).length:Nat):Int):=fun z=>cc (zDT z)
   rw [zLM,zLM,zLM,zLM] at cc'
   exact q (by unfold xf7; rw [if_neg fun z=>z hall,if_neg fun z=>z hnd,if_neg (by omega)]) _ s3
theorem xlj (T:Tx K mg) (R:RK) (D_kind_of:DefXs P w K mg base n "kind_of" qaa (spKt K R (m + 1))) (D_with_box:DefIs P w K mg base n "with_box" qar (xgs m)) (D_part_kind:DefXs P w K mg base n "part_kind" qak (xgt K)):DefXs P w K mg base (n + 1) "arm_kind" qax (xry K R m):=by
 refine DefXs.of T.d_arm_kind sc_arm_kind ?_ ?_ <;> walk_at "i"
 ·obtain ⟨_,_,_,_,_,_,_,_,_,rfl,_⟩:=h
  rfl
 obtain ⟨kv,av,p,ks,env,k1,kn,z,r,rfl,hi,hkn,hA,hm,q,qf⟩:=h
 have nd:=sc_arm_kind.nd
 have hu:=xcz hr
 refine ⟨_,(zpn (xaf (i:=4) nd rfl (by walk_at "o") (xak xal (pv 2) pI (fun _ _=>rfl)))
   (zpn (xau (xon (xu1 hu (pv 4) (pv 3))) (zpo (xce rfl (xea (T.xt.cl 1 (by decide)) (T.xt.ini 1 (by decide) (by decide)) rfl T.c_Twice (pc (xcr (xbz (xcx (pv 4) (xbz xdp)))) pN xbl)))) pQ)
   (zpo (xae (xar D_kind_of hr (pc (pv 0) (pc (xak xal (pv 2) pI (fun _ _=>rfl)) (pc (pd D_with_box hr (pc (pv 3) (pc (pv 4) (pc (xar D_part_kind hr (pc (pv 0) (pc (pv 1) (pc (xak xal (pv 2) pI (fun _ _=>rfl)) pN zss) zsn) zsn)) pN zsc) zsn) zsn)) pN zsc) zss) zsn)))))),?_⟩
 obtain ⟨a,us,rfl,ha,_,_,rfl,rfl,_,_,rfl,rfl,ve,_,rfl,re,rfl⟩:=hi.tm
 have hS:SqT K H a [.str z.1,.str z.2.1,ve]:=SqT.of ha
 refine (xaa _ rfl a _ _ _ rfl rfl hS rfl ?_)
 obtain ⟨kvs,hkp,hkl,hh⟩:=hi.en
 rcases hA with ⟨hx,hxl,rfl⟩ | ⟨hx,hA⟩
 ·obtain ⟨d0,hd0⟩:=Option.ne_none_iff_exists'.mp hx
  obtain ⟨v0,hv0,_⟩:=(hh z.2.1).2 d0 hd0
  have g:DGet H p (.str z.2.1) (some v0):=hv0 ▸ DGet.k (k:=Sum.inr z.2.1) hkp
  refine (xcf _ rfl _ rfl p _ rfl g _ rfl (iteT ?_))
  have hf:=qf 1 rfl
  have e1:(Str.empty++Str.ofString "the box ").length<=8:=by walk_at "k"
  have l2:=xb7 e1 hxl
  have e3:(Str.ofString " of an arm is at hand already").length<=29:=by walk_at "k"
  have l3:=xb7 l2 e3
  refine (xd5 (fits (Nat.le_trans e1 (by decide))) _ rfl _ rfl (fits (Nat.le_trans hxl (by decide))) (fits (Nat.le_trans l2 (by decide))) (fits (Nat.le_trans l3 (by decide))) (fits (Nat.le_trans l3 (by decide))) (by walk_at "s") (fun e he=>?_))
  exact (xbi e (cAt K 1) none rfl ups (T.xt.cl 1 (by decide)) (hf _ _ _ (xdn he) (jEAA e rfl rfl ups)))
 ·have g:DGet H p (.str z.2.1) none:=(hh z.2.1).1 hx ▸ DGet.k (k:=Sum.inr z.2.1) hkp
  refine (xcf _ rfl _ rfl p _ rfl g _ rfl (iteF ?_))
  refine (xa0 _ rfl _ rfl a _ _ (xb4 _ rfl rfl hS rfl _ rfl (xbu _ rfl _ rfl _ rfl _ rfl a (xbf _ _ _ rfl rfl hS rfl ?_))))
  refine (xat kv ks kn k1 z.1 rfl hi.kd hi.kl hkn (fun z2=>?_) ⟨fun k2 z2 H1 s1=>?_,fun c z2=>?_⟩)
  ·rcases hA with ⟨_,h,_⟩ | ⟨k2,e,_⟩
   ·exact h
   ·rw [z2] at e; cases e
  ·rcases hA with ⟨e,_⟩ | ⟨k2',e,hR⟩
   ·unfold xhj at z2; rw [e] at z2; cases z2
   rw [xem e] at z2
   cases z2
   refine (xbn p z.2.1 (.str k2) (.str k2) env rfl (hi.en.same s1) rfl hm (fun p' H2 s2 he2=>?_))
   have s12:=s1.trans s2
   exact (xas kv ve p' ks z.2.2 (xc2 _ r rfl ⟨hi.kd.same s12,hi.kl,hi.el.put (xel hi.kl hkn e),re.same s12 _,he2⟩ hR (fun k e3 H3 s3=>q k e3 _ (s12.trans s3)) (fun c e3=>(qf c e3).on s12)))
  ·rcases hA with ⟨e,_,rfl⟩ | ⟨k2',e,_⟩
   ·unfold xhj at z2; rw [e] at z2; cases z2; exact qf 2 rfl
   ·rw [xem e] at z2; cases z2
theorem xld (T:Tx K mg) (R:RK) (D_need_sort:DefXs P w K mg base n "need_sort" qap (xk1 K)) (D_need_kind:DefXs P w K mg base n "need_kind" qag (xfc K R m)) (D_parts_of:DefIs P w K mg base n "parts_of" qaf xdm):DefXs P w K mg base (n + 1) "rec_kind" qaa (spKt K (fun ks=>xtt ks (R ks)) m):=by
 refine DefXs.of T.d_rec_kind sc_rec_kind ?_ ?_ <;> walk_at "i"
 ·obtain ⟨_,_,_,_,_,_,_,rfl,_⟩:=h
  rfl
 obtain ⟨kv,tv,p,ks,d,env,r,rfl,hi,⟨x,es,rfl,hr2⟩,q,qf⟩:=h
 have nd:=sc_rec_kind.nd
 have hu:=xcz hr
 refine ⟨_,(zpn (xaf (i:=3) nd rfl (by walk_at "o") (xak xal (pv 1) pI (fun _ _=>rfl)))
   (zpn (xbe (xar D_need_sort hr (pc (pv 0) (pc (pv 3) (pc pS pN zso) zsn) zsn)))
   (zpn (xaf (i:=4) nd rfl (by walk_at "o") (pd D_parts_of hr (pc (pv 0) (pc (pv 3) pN zsn) zsn)))
   (zpn (xau (pR xhk (xao xah rfl T.z_len PySem.boot_len (pc (xak xal (pv 1) pI (fun _ _=>rfl)) pN zss)) (xao xah rfl T.z_len PySem.boot_len (pc (pv 4) pN zsn)) (nM _)) (zpo (xce rfl (xea (T.xt.cl 3 (by decide)) (T.xt.ini 3 (by decide) (by decide)) rfl T.c_NoCount (pc (xcr (xbz (xcx (pv 3) (xbz xdp)))) pN xbl)))) pQ)
   (zpn (xc3 (xgd rfl rfl) rfl (xuv rfl T.z_zip (pc (pv 4) (pc (xak xal (pv 1) pI (fun _ _=>rfl)) pN zss) zsn)) (xck rfl (xad (xab (i:=5) nd rfl (by walk_at "o")) (xad (xab (i:=6) nd rfl (by walk_at "o")) xa4)))
   (zpo (xbe (xar D_need_kind hr (pc (pv 0) (pc (pv 6) (pc (pv 2) (pc (xak xal (pv 5) pI (fun _ _=>rfl)) pN zss) zsn) zsn) zsn)))))
   (zpo (xae (pv 3)))))))),?_⟩
 obtain ⟨l,us,rfl,hl,_,_,rfl,rfl,_,_,rfl,rfl,va,_,rfl,rva,rfl⟩:=hi.tm
 obtain ⟨c,vs',rfl,hc,hvs⟩:=rva
 have hS:SqT K H l [.str (S "rec"),.str x,.ref c]:=SqT.of hl
 refine (xaa _ rfl l _ _ _ rfl rfl hS rfl ?_)
 refine (xa0 _ rfl _ rfl kv ks x (xcs (S "rec") rfl hi.kd (fun c z=>?_) (by walk_at "k") (fun z H1 s1=>?_) (fun c z=>?_)))
 ·rcases hr2 with ⟨c',e,hx,_⟩ | ⟨e,_⟩
  ·exact hx
  ·rw [z] at e; cases e
 ·rcases hr2 with ⟨c,e,_⟩ | ⟨_,kn,hkn,hr3⟩
  ·rw [z] at e; cases e
  refine (xbt _ rfl _ rfl kv ks x rfl (hi.kd.same s1) (fun u H2 s2 r2=>?_))
  rw [hkn] at r2
  obtain ⟨e,ps,rfl,hpe,hps⟩:=r2
  have s12:=s1.trans s2
  have l1:=hps.length
  rw [zLM] at l1
  have l2:=hvs.length
  have hx:=(xe8 hi.kl hkn).1
  have hS1:SqT K H2 l [.str (S "rec"),.str x,.ref c]:=SqT.of (s12 _ _ hl)
  refine (xaa _ rfl l _ _ _ rfl rfl hS1 rfl (xdc c _ rfl (.inr (SqT.of (s12 _ _ hc))) _ rfl e _ rfl (.inr (SqT.of hpe)) (jAEA rfl _ rfl ?_)))
  rcases hr3 with ⟨hne,rfl⟩ | ⟨hee,o,hall,rfl⟩
  ·refine xsd (by show (!decide (V.int _=V.int _))=true; rw [zDF (fun z=>by have:=V.int.inj z; omega)]; rfl) ?_
   have hf:=qf 3 rfl
   have e1:(Str.empty++Str.ofString "as many terms as the rec ").length<=25:=by walk_at "k"
   have l2:=xb7 e1 hx
   have e3:(Str.ofString " has fields are asked for").length<=25:=by walk_at "k"
   have l3:=xb7 l2 e3
   refine (xd5 (fits (Nat.le_trans e1 (by decide))) _ rfl _ rfl (fits (Nat.le_trans hx (by decide))) (fits (Nat.le_trans l2 (by decide))) (fits (Nat.le_trans l3 (by decide))) (fits (Nat.le_trans l3 (by decide))) (by walk_at "s") (fun e he=>?_))
   exact (xbi e (cAt K 3) none rfl ups (T.xt.cl 3 (by decide)) (hf _ _ _ (s12.trans (xdn he)) (jEAA e rfl rfl ups)))
  ·refine xww (by rw [show vs'.length=ps.length by omega]) ?_
   refine (xa0 _ rfl _ rfl l _ _ (xdd _ rfl rfl hS1 rfl (xbg e c rfl ⟨_,SqT.of hpe⟩ ⟨_,SqT.of (s12 _ _ hc)⟩ ?_)))
   refine xto (xs:=ps) (ys:=vs') (by omega) (fun i σ H'=>∃ o5 o6,σ=[some kv,some (.ref l),some (.ref p),some (.str x),some (.ref e),o5,o6]/\Same H2 H'/\AllN (R ks env) (es.drop i) (kn.parts.drop i) o) (xay none none rfl (Same.refl _) hall) (fun i σ H' _ p=>?_) ?_ ?_
   ·obtain ⟨_,_,_,sm,_⟩:=p
    exact ⟨SqT.of (sm _ _ hpe),SqT.of ((s12.trans sm) _ _ hc)⟩
   ·rintro i vx vy σ H' pt hx' hy ⟨o5,o6,rfl,sm,hal⟩ hpt
    obtain ⟨dp,hdp,rdp⟩:=hps.get hx'
    rw [zGM] at hdp
    obtain ⟨pr,hpr,rfl⟩:=zMS hdp
    obtain ⟨de,hde,rde⟩:=hvs.get hy
    obtain ⟨b,ws,rfl,hb,_,_,rfl,rfl,_,_,rfl,rfl,rfl⟩:=rdp
    rw [xlv hde,xlv hpr] at hal
    obtain ⟨rr,hR,hor⟩:=hal
    have sn:=Same.new hpt (.tup [.ref b,vy])
    have s3:=sm.trans sn
    have s13:=s12.trans s3
    refine (xap pt _ rfl (SqT.of ups) rfl _ _ rfl _ (jEAA _ rfl rfl ?_))
    refine (xbu _ rfl _ rfl _ rfl _ rfl b (xbf _ _ _ rfl rfl (SqT.of (s3 _ _ hb)) rfl ?_))
    refine (xas kv vy p ks de (xcc env rr pr.2 rfl (hi.sub s13 rde) (((xe8 hi.kl hkn).2 pr (zMG hpr)).2) hR (fun z2 H3 s4=>?_) (fun c z2=>?_)))
    ·rcases hor with ⟨c,e2,_⟩ | ⟨_,hrest⟩
     ·rw [z2] at e2; cases e2
     ·exact (xay _ _ rfl (s3.trans s4) hrest)
    ·rcases hor with ⟨c',e2,rfl⟩ | ⟨e2,_⟩
     ·rw [z2] at e2; cases e2; exact (qf c rfl).on s13
     ·rw [z2] at e2; cases e2
   ·rintro σ H' ⟨o5,o6,rfl,sm,hal⟩
    rw [List.drop_eq_nil_of_le (by omega),List.drop_eq_nil_of_le (by omega)] at hal
    have ho:o=none:=hal
    exact (jEA _ rfl (q x (by rw [ho]; rfl) _ (s12.trans sm)))
 ·rcases hr2 with ⟨c',e,_,rfl⟩ | ⟨e,_⟩
  ·rw [z] at e; cases e; exact qf c rfl
  ·rw [z] at e; cases e
theorem xjq (T:Tx K mg) (R:RK) (hRL:RLen R) (hm:m<=1000) (D_kind_of_sort:DefXs P w K mg base n "kind_of_sort" qaq (xe5 K R m)) (D_need_tags:DefXs P w K mg base n "need_tags" qay (xoa K)) (D_arm_kind:DefXs P w K mg base n "arm_kind" qax (xry K R m)) (D_need_same:DefXs P w K mg base n "need_same" qaj (xh5 K)):DefXs P w K mg base (n + 1) "case_kind" qaa (spKt K (fun ks=>xp8 ks (R ks)) m):=by
 refine DefXs.of T.d_case_kind sc_case_kind ?_ ?_ <;> walk_at "i"
 ·obtain ⟨_,_,_,_,_,_,_,rfl,_⟩:=h
  rfl
 obtain ⟨kv,tv,p,ks,d,env,r,rfl,hi,⟨a,rs,ra,rfl,hrl,ha,hr2⟩,q,qf⟩:=h
 have nd:=sc_case_kind.nd
 have hu:=xcz hr
 refine ⟨_,(zpn (xaf (i:=3) nd rfl (by walk_at "o") (xar D_kind_of_sort hr (pc (pv 0) (pc (xak xal (pv 1) pI (fun _ _=>rfl)) (pc (pv 2) (pc pS pN zso) zsn) zss) zsn)))
   (zpn (xaf (i:=4) nd rfl (by walk_at "o") (xak xal (pv 1) pI (fun _ _=>rfl)))
   (zpn (xbe (xar D_need_tags hr (pc (pv 0) (pc (pv 3) (pc (pv 4) pN zsn) zsn) zsn)))
   (zpn (xaf (i:=5) nd rfl (by walk_at "o") (xar D_arm_kind hr (pc (pv 0) (pc (pv 3) (pc (xak xal (pv 4) pI (fun _ _=>rfl)) (pc (pv 2) pN zsn) zss) zsn) zsn)))
   (zpn (xc3 (xgd rfl rfl) rfl (xb0 (xdi xoi (pv 4) (xd1 pI) xe7)) (xab (i:=6) nd rfl (by walk_at "o"))
   (zpo (xbe (xar D_need_same hr (pc (xar D_arm_kind hr (pc (pv 0) (pc (pv 3) (pc (pv 6) (pc (pv 2) pN zsn) zsn) zsn) zsn)) (pc (pv 5) pN zsn) zsc)))))
   (zpo (xae (pv 5)))))))),?_⟩
 obtain ⟨l,us,rfl,hl,_,_,rfl,rfl,va,_,rfl,rva,vr,_,rfl,rr,rfl⟩:=hi.tm
 obtain ⟨c,ws,rfl,hc,hws⟩:=rr
 refine (xa0 _ rfl _ rfl l _ _ (xb4 _ rfl rfl (SqT.of hl) rfl _ rfl ?_))
 refine (xas kv va p ks a (xcc env ra (S "alt") rfl (hi.sub (Same.refl _) rva) (by walk_at "k") ha (fun k1 z H1 s1=>?_) (fun c z=>?_)))
 ·rcases hr2 with ⟨c',e,_⟩ | ⟨k1',kn,e,hkn,hr3⟩
  ·rw [z] at e; cases e
  rw [z] at e
  cases e
  refine (xaa _ rfl l _ _ _ rfl rfl (SqT.of (s1 _ _ hl)) rfl ?_)
  refine (xa2 _ rfl _ rfl _ rfl kv c (xat ws ks k1 kn rs rfl (hi.kd.same s1) hi.kl hkn (s1 _ _ hc) (xq9 (hws.same s1 _) hrl (fun e z2=>?_) (fun z2 H2 s2=>?_) (fun c z2=>?_))))
  ·rcases hr3 with ⟨c',e',h,_⟩ | ⟨e',_⟩
   ·exact h
   ·rw [z2] at e'; cases e'
  ·rcases hr3 with ⟨c',e',_⟩ | ⟨_,r0,rest,q0,rfl,hA0,hr4⟩
   ·rw [z2] at e'; cases e'
   have s12:=s1.trans s2
   obtain ⟨w0,wr,rfl,hw0,hwr⟩:=hws
   refine (xa2 _ rfl _ rfl _ rfl c _ (xcy _ w0 rfl rfl (SqT.of (s12 _ _ hc)) (xbb (j:=0) rfl) _ rfl ?_))
   refine (xas kv w0 p ks env (xbh k1 kn r0 q0 rfl (hi.sub s12 hw0) hkn hA0 hm (fun k z3 H3 s3=>?_) (fun c z3=>?_)))
   ·rcases hr4 with ⟨c',e',_⟩ | ⟨k',o,e',hN,rfl⟩
    ·rw [z3] at e'; cases e'
    rw [z3] at e'
    cases e'
    have hkl:k.length<=100:=by
     rcases hA0 with ⟨_,_,e⟩ | ⟨_,⟨_,_,e⟩ | ⟨k2,hp,hq⟩⟩
     ·rw [z3] at e; cases e
     ·rw [z3] at e; cases e
     ·exact hRL _ _ _ _ hi.kl (hi.el.put (xel hi.kl hkn hp)) hq k z3
    have s13:=s12.trans s3
    refine ⟨_,rfl,_,rfl,c,w0 :: wr,rfl,SqT.of (s13 _ _ hc),(by
     rw [show ((1:Int))=((1:Nat):Int) from rfl,HT.sIx_nat]
     rw [List.length_cons]
     omega),fun cp hcp=>?_⟩
    have t3:=Same.new hcp (.tup (cutV (w0 :: wr) (some 1) none))
    have s14:=s13.trans t3
    have hcut:cutV (w0 :: wr) (some 1) none=wr:=by
     unfold cutV
     rw [show ((1:Int))=((1:Nat):Int) from rfl,HT.sIx_nat,HT.sIx_none,List.length_cons]
     rw [show min 1 (wr.length + 1)=1 by omega]
     show List.take _ wr=wr
     exact zTL (by omega)
    refine (jEAA cp rfl ⟨_,SqT.of ups⟩ ?_)
    rw [hcut] at t3 s14 ⊢
    have hwl:=hwr.length
    rw [zLM] at hwl
    refine xde (xs:=wr) (fun i σ H'=>∃ o6,σ=[some kv,some (.ref l),some (.ref p),some (.str k1),some (.ref c),some (.str k),o6]/\Same (upd H3 cp (.tup wr)) H'/\xp9 (ArmR kn (R ks) env) k (rest.drop i) o) (jEAA none rfl (Same.refl _) hN) (fun i σ H' _ p=>?_) ?_ ?_
    ·obtain ⟨_,_,sm,_⟩:=p
     exact SqT.of (sm _ _ ups)
    ·rintro i v σ H5 hv ⟨o6,rfl,sm,hal⟩
     obtain ⟨d0,hd0,rd0⟩:=hwr.get hv
     rw [zGM] at hd0
     obtain ⟨z,hz,rfl⟩:=zMS hd0
     rw [xlv hz] at hal
     obtain ⟨qz,hA,hor⟩:=hal
     have s15:=s14.trans sm
     refine (jEA _ rfl (jEA _ rfl (jEA _ rfl (jEA _ rfl ?_))))
     refine (xas kv v p ks env (xbh k1 kn z qz rfl (hi.sub s15 rd0) hkn hA hm (fun kz z4 H6 s6=>?_) (fun c z4=>?_)))
     ·have s16:=s15.trans s6
      have hkz:kz.length<=100:=by
       rcases hA with ⟨_,_,e⟩ | ⟨_,⟨_,_,e⟩ | ⟨k2,hp,hq⟩⟩
       ·rw [z4] at e; cases e
       ·rw [z4] at e; cases e
       ·exact hRL _ _ _ _ hi.kl (hi.el.put (xel hi.kl hkn hp)) hq kz z4
      subst z4
      refine (xbx _ rfl kz k rfl hkz hkl ⟨fun z5 H7 s7=>?_,fun c z5=>?_⟩)
      ·rcases hor with ⟨c,e5,_⟩ | ⟨_,hrest⟩
       ·rw [z5] at e5; cases e5
       ·exact (jEAA _ rfl (sm.trans (s6.trans s7)) hrest)
      ·rcases hor with ⟨c',e5,rfl⟩ | ⟨e5,_⟩
       ·rw [z5] at e5; cases e5; exact (qf c rfl).on s16
       ·rw [z5] at e5; cases e5
     ·subst z4
      rcases hor with ⟨c',e5,rfl⟩ | ⟨e5,_⟩
      ·cases e5; exact (qf c rfl).on s15
      ·cases e5
    ·rintro σ H5 ⟨o6,rfl,sm,hal⟩
     rw [List.drop_eq_nil_of_le (by omega)] at hal
     have ho:o=none:=hal
     exact (jEA _ rfl (q k (by rw [ho]; rfl) _ (s14.trans sm)))
   ·rcases hr4 with ⟨c',e',rfl⟩ | ⟨k',o,e',_⟩
    ·rw [z3] at e'; cases e'; exact (qf c rfl).on s12
    ·rw [z3] at e'; cases e'
  ·rcases hr3 with ⟨c',e',_,rfl⟩ | ⟨e',_⟩
   ·rw [z2] at e'; cases e'; exact (qf c rfl).on s1
   ·rw [z2] at e'; cases e'
 ·rcases hr2 with ⟨c',e,rfl⟩ | ⟨k',kn,e,_⟩
  ·rw [z] at e; cases e; exact qf c rfl
  ·rw [z] at e; cases e
theorem xnm (T:Tx K mg) (R:RK) (D_num_kind:DefXs P w K mg base n "num_kind" ["n"] (xru K)) (D_box_kind:DefXs P w K mg base n "box_kind" qao (xrw K m)) (D_op_kind:DefXs P w K mg base n "op_kind" qaa (spKt K (fun ks=>OpKt (R ks)) m)) (D_rec_kind:DefXs P w K mg base n "rec_kind" qaa (spKt K (fun ks=>xtt ks (R ks)) m)) (D_get_kind:DefXs P w K mg base n "get_kind" qaa (spKt K (fun ks=>xtv ks (R ks)) m)) (D_tag_kind:DefXs P w K mg base n "tag_kind" qaa (spKt K (fun ks=>xts ks (R ks)) m)) (D_case_kind:DefXs P w K mg base n "case_kind" qaa (spKt K (fun ks=>xp8 ks (R ks)) m)) (D_if_kind:DefXs P w K mg base n "if_kind" qaa (spKt K (fun ks=>IfKt (R ks)) m)):DefXs P w K mg base (n + 1) "kind_of" qaa (spKt K (fun ks env d r=>xkt env d r\/xp6 ks (R ks) env d r) m):=by
 refine DefXs.of T.d_kind_of sc_kind_of ?_ ?_ <;> walk_at "i"
 ·obtain ⟨_,_,_,_,_,_,_,rfl,_⟩:=h
  rfl
 obtain ⟨kv,tv,p,ks,d,env,r,rfl,hi,hR,q⟩:=h
 have nd:=sc_kind_of.nd
 have hu:=xcz hr
 refine ⟨_,(zpn (xaf (i:=3) nd rfl (by walk_at "o") (xak xal (pv 1) pI (fun _ _=>rfl)))
   (zpn (xau (pR xa1 (pv 3) pS (nM _)) (zpo (xae (xar D_num_kind hr (pc (xak xal (pv 1) pI (fun _ _=>rfl)) pN zss)))) pQ)
   (zpn (xau (pR xa1 (pv 3) pS (nM _)) (zpo (xae (xar D_box_kind hr (pc (xak xal (pv 1) pI (fun _ _=>rfl)) (pc (pv 2) pN zsn) zss)))) pQ)
   (zpn (xau (pR xa1 (pv 3) pS (nM _)) (zpo (xae (xar D_op_kind hr (pc (pv 0) (pc (pv 1) (pc (pv 2) pN zsn) zsn) zsn)))) pQ)
   (zpn (xau (pR xa1 (pv 3) pS (nM _)) (zpo (xae (xar D_rec_kind hr (pc (pv 0) (pc (pv 1) (pc (pv 2) pN zsn) zsn) zsn)))) pQ)
   (zpn (xau (pR xa1 (pv 3) pS (nM _)) (zpo (xae (xar D_get_kind hr (pc (pv 0) (pc (pv 1) (pc (pv 2) pN zsn) zsn) zsn)))) pQ)
   (zpn (xau (pR xa1 (pv 3) pS (nM _)) (zpo (xae (xar D_tag_kind hr (pc (pv 0) (pc (pv 1) (pc (pv 2) pN zsn) zsn) zsn)))) pQ)
   (zpn (xau (pR xa1 (pv 3) pS (nM _)) (zpo (xae (xar D_case_kind hr (pc (pv 0) (pc (pv 1) (pc (pv 2) pN zsn) zsn) zsn)))) pQ)
   (zpo (xae (xar D_if_kind hr (pc (pv 0) (pc (pv 1) (pc (pv 2) pN zsn) zsn) zsn)))))))))))),?_⟩
 rcases hR with (⟨i,rfl,h0,h18,rfl⟩ | ⟨x,rfl,hx⟩) | hN | hN | hN | hN | hN | hN
 ·obtain ⟨a,us,rfl,ha,_,_,rfl,rfl,_,_,rfl,rfl,rfl⟩:=hi.tm
  have hS:SqT K H a [.str (S "num"),.int i]:=SqT.of ha
  walk_at "rd"
  exact (jAA h0 h18 q)
 ·obtain ⟨a,us,rfl,ha,_,_,rfl,rfl,_,_,rfl,rfl,rfl⟩:=hi.tm
  have hS:SqT K H a [.str (S "box"),.str x]:=SqT.of ha
  walk_at "rd"
  exact (xmp x p env r rfl hi.en hx q)
 ·obtain ⟨sg,a,b,_,rfl,_⟩:=id hN
  obtain ⟨l,us,rfl,ha,_,_,rfl,rfl,_,_,rfl,rfl,va,_,rfl,ra,vb,_,rfl,rb,rfl⟩:=hi.tm
  have hS:SqT K H l [.str (S "op"),.str sg,va,vb]:=SqT.of ha
  walk_at "rd"
  exact (xas kv _ p ks _ (xbg env r rfl hi hN q))
 ·obtain ⟨x,es,rfl,_⟩:=id hN
  obtain ⟨l,us,rfl,ha,_,_,rfl,rfl,_,_,rfl,rfl,va,_,rfl,ra,rfl⟩:=hi.tm
  have hS:SqT K H l [.str (S "rec"),.str x,va]:=SqT.of ha
  walk_at "rd"
  exact (xas kv _ p ks _ (xbg env r rfl hi hN q))
 ·obtain ⟨a,f',_,rfl,_⟩:=id hN
  obtain ⟨l,us,rfl,ha,_,_,rfl,rfl,va,_,rfl,ra,_,_,rfl,rfl,rfl⟩:=hi.tm
  have hS:SqT K H l [.str (S "get"),va,.str f']:=SqT.of ha
  walk_at "rd"
  exact (xas kv _ p ks _ (xbg env r rfl hi hN q))
 ·obtain ⟨x,t,a,rfl,_⟩:=id hN
  obtain ⟨l,us,rfl,ha,_,_,rfl,rfl,_,_,rfl,rfl,_,_,rfl,rfl,va,_,rfl,ra,rfl⟩:=hi.tm
  have hS:SqT K H l [.str (S "tag"),.str x,.str t,va]:=SqT.of ha
  walk_at "rd"
  exact (xas kv _ p ks _ (xbg env r rfl hi hN q))
 ·obtain ⟨a,rs,_,rfl,_⟩:=id hN
  obtain ⟨l,us,rfl,ha,_,_,rfl,rfl,va,_,rfl,ra,vr,_,rfl,rr,rfl⟩:=hi.tm
  have hS:SqT K H l [.str (S "case"),va,vr]:=SqT.of ha
  walk_at "rd"
  exact (xas kv _ p ks _ (xbg env r rfl hi hN q))
 ·obtain ⟨a,b,c,_,rfl,_⟩:=id hN
  obtain ⟨l,us,rfl,ha,_,_,rfl,rfl,va,_,rfl,ra,vb,_,rfl,rb,vc,_,rfl,rc,rfl⟩:=hi.tm
  have hS:SqT K H l [.str (S "if"),va,vb,vc]:=SqT.of ha
  walk_at "rd"
  exact (xas kv _ p ks _ (xbg env r rfl hi hN q))
theorem xti {R:RK} (D:DefXs P w K mg base n "kind_of" qaa (spKt K R (m + 1))):DefXs P w K mg base n "kind_of" qaa (spKt K R m):=D.imp fun vs H Q E h=>by
 obtain ⟨kv,tv,p,ks,d,env,r,h1,h2,h3⟩:=h
 exact (xas kv tv p ks d (xay env r h1 ⟨h2.kd,h2.kl,h2.el,h2.tm,h2.en.mono (by omega)⟩ h3))
theorem xj4 (T:Tx K mg) (R:RK) (hRL:RLen R) (hm:m<=1000) (D1:DefXs P w K mg base (n + 2) "kind_of" qaa (spKt K R (m + 1))) :
  DefXs P w K mg base (n + 5) "kind_of" qaa (spKt K (fun ks env d r=>xkt env d r\/xp6 ks (R ks) env d r) m):=by
 have D:=xti D1
 have same:∀ k,DefXs P w K mg base (k + 1) "need_same" qaj (xh5 K):=fun k=>xjn T
 have sort:∀ k,DefIs P w K mg base (k + 1) "sort_of" qaf xgf:=fun k=>xnk T
 have parts:∀ k,DefIs P w K mg base (k + 1) "parts_of" qaf xdm:=fun k=>xgz T
 have pk:∀ k,DefXs P w K mg base (k + 2) "part_kind" qak (xgt K):=fun k=>xjj (n:=k + 1) T (parts k)
 have nk:=xjp (n:=n + 2) T R hRL D (same (n + 1))
 have ns:=xjm (P:=P) (w:=w) (base:=base) (n:=n + 2) T (sort (n + 1))
 have ko:=xg0 (n:=n + 2) T R hRL D (sort (n + 1))
 have ak:=xlj (n:=n + 2) T R D1 (xgy T) (pk n)
 have nt:=xjl (P:=P) (w:=w) (base:=base) (n:=n + 2) T (parts (n + 1)) (xjo T)
 have ck:=xjq (n:=n + 3) T R hRL hm ko nt ak (same (n + 2))
 exact xnm (n:=n + 4) T R (xlf T) (xli T) (xnl (n:=n + 3) T R nk) (xld (n:=n + 3) T R ns nk (parts (n + 2))) (xlg (n:=n + 3) T R ko (pk (n + 1))) (xlc (n:=n + 3) T R ns nk (pk (n + 1))) ck (xnn (n:=n + 3) T R hRL (D.mono (by omega)) nk)
theorem xvd (T:Tx K mg):∀ n m,n + m<=999->DefXs P w K mg base (3 * n + 5) "kind_of" qaa (spKt K (fun ks=>Kt ks n) m)
 | 0,m,h=>by
  refine (xj4 (P:=P) (w:=w) (base:=base) (n:=0) (m:=m) T (fun _ _ _ _=>False) (fun _ _ _ _ _ _ h=>h.elim) (by omega) (DefXs.none T.d_kind_of ?_)).imp ?_
  ·rintro vs H Q E ⟨_,_,_,_,_,_,_,_,_,h,_⟩
   exact h
  ·rintro vs H Q E ⟨kv,tv,p,ks,d,env,r,h1,h2,h3,h4⟩
   exact (xas kv tv p ks d (xbg env r h1 h2 (.inl h3) h4))
 | n + 1,m,h=>by
  have ih:=xvd T n (m + 1) (by omega)
  exact xj4 (n:=3 * n + 3) (m:=m) T (fun ks=>Kt ks n) (fun ks env d r h1 h2 h3=>xmn h1 n env d r h2 h3) (by omega) ih
end
open PyProof.Rows
def xft (m:Nat):Sp:=fun vs H Q _=>∃ kv tv p ks d env,vs=[kv,tv,.ref p]/\In3 H kv tv p ks d env m/\Kt ks 8 env d (.error 2)/\∀ H',Same H H'->Q (.bl true) H'
def envW (bs:List (Str×Str)) (x:Str):En:=fun z=>if z=x then none else (bs.find? fun b=>decide (b.1=z)).map fun b=>.str b.2
def xi3:Sp:=fun vs H Q _=>∃ (bl:Addr) (ub:List V) (bs:List (Str×Str)) (x:Str),vs=[.ref bl,.str x]/\H bl=some (.lst ub)/\RelDs H ub (bs.map xiq)/\(bs.map (·.1)).Nodup/\x∈bs.map (·.1)/\∀ p H',Same H H'->EnAt H' p bs.length (envW bs x)->Q (.ref p) H'
theorem xfv {X:Cx} {K:PySem.W.Frag} (hK:X.K=K):OpR X (compareOp .In) (rIn K false):=by subst hK; exact xje
theorem xi0 (kvs:List (Key×V)) (k z:Key):valV (xip kvs k) z=if z=k then none else valV kvs z:=by
 unfold valV xip
 induction kvs with
 | nil=>simp
 | cons kv kvs ih=>
  rw [List.filter_cons]
  by_cases c:kv.1=k
  ·rw [if_neg (by simp [c]),ih]
   by_cases cz:z=k
   ·rw [if_pos cz,if_pos cz]
   ·rw [if_neg cz,if_neg cz,List.find?_cons_of_neg (by rw [c]; simpa using fun e=>cz e.symm)]
  ·rw [if_pos (by simpa using c)]
   by_cases e:kv.1=z
   ·have hz:¬ z=k:=fun z'=>c (by rw [e,z'])
    rw [if_neg hz,List.find?_cons_of_pos (by simpa using e),List.find?_cons_of_pos (by simpa using e)]
   ·rw [List.find?_cons_of_neg (by simpa using e),List.find?_cons_of_neg (by simpa using e)]
    exact ih
theorem xep {y:Str}:∀ (bs:List (Str×Str)) (acc:List (Key×V)),(∀ b∈bs,b.1≠y)->valV (xav acc (bKV bs)) (Sum.inr y)=valV acc (Sum.inr y)
 | [],acc,_=>rfl
 | b :: bs,acc,h=>by
  show valV (xav (putK acc (Sum.inr b.1) (.str b.2)) (bKV bs)) (Sum.inr y)=_
  rw [xep bs _ fun c hc=>h c (by simp [hc]),xek,if_neg fun e=>h b (by simp) (Sum.inr.inj e).symm]
theorem xhw:∀ (bs:List (Str×Str)) (acc:List (Key×V)),(bs.map (·.1)).Nodup->∀ p∈bs,valV (xav acc (bKV bs)) (Sum.inr p.1)=some (.str p.2)
 | [],acc,_,p,hp=>nomatch hp
 | b :: bs,acc,nd,p,hp=>by
  rw [List.map_cons,List.nodup_cons] at nd
  show valV (xav (putK acc (Sum.inr b.1) (.str b.2)) (bKV bs)) (Sum.inr p.1)=_
  rcases zMC hp with rfl | hp
  ·rw [xep bs _ fun c hc e=>nd.1 (by rw [<- e]; exact List.mem_map_of_mem hc),xek,if_pos rfl]
  ·exact xhw bs _ nd.2 p hp
theorem xlz {ps:List (Str×Str)} (nd:(ps.map (·.1)).Nodup) {p:Str×Str} (hp:p∈ps):valV (xav [] (bKV ps)) (Sum.inr p.1)=some (.str p.2):=xhw ps [] nd p hp
section
variable {P:Program} {w:World} {K:PySem.W.Frag} {mg:Str->Option Value} {base:Heap} {n m:Nat}
theorem xji (T:Tx K mg) (D_kind_of:DefXs P w K mg base n "kind_of" qaa (spKt K (fun ks=>Kt ks 8) m)):DefIs P w K mg base (n + 1) "_law_nameless" qav (xft m):=by
 refine DefIs.of T.dl_nameless scl_nameless ?_ ?_ <;> walk_at "i"
 ·obtain ⟨_,_,_,_,_,_,rfl,_⟩:=h
  rfl
 obtain ⟨kv,tv,p,ks,d,env,rfl,hi,hK,q⟩:=h
 have nd:=scl_nameless.nd
 refine ⟨_,(zpn (xaf (i:=3) nd rfl (by walk_at "o") xni)
   (zpn (xqp rfl rfl T.c_NoName (T.xt.cl 2 (by decide)).obj (fun pn Es=>(zpo (xbe (xar D_kind_of hr (pc (pv 0) (pc (pv 1) (pc (pv 2) pN zsn) zsn) zsn))))) (fun e=>(zpo (xaf (i:=3) nd rfl (by walk_at "o") xni))))
   (zpo (xae (pv 3))))),?_⟩
 refine (jEA (fun v d σ' H'=>σ'=[some kv,some tv,some (.ref p),some (.bl false)]/\Same H H'/\Rz K H' v d 2) ?_ ?_)
 ·refine (xa2 _ rfl _ rfl _ rfl kv tv (xbn p ks d env (.error 2) rfl hi hK (fun k e=>by cases e) (fun c' e v d H' s' r=>?_)))
  cases e
  exact (jAA rfl s' r)
 ·rintro x C d c2 σ' H1 ⟨rfl,s1,x',ex,rfl,hx⟩ hx2
  cases ex
  rw [hx] at hx2
  obtain ⟨rfl,-⟩:=xre (Option.some.inj hx2)
  exact (jAA (T.xt.cl 2 (by decide)) (T.xt.own 2 (by decide)) (jEA _ rfl (q _ s1)))
theorem xlb (T:Tx K mg):DefIs P w K mg base (n + 1) "_law_without" qa7 xi3:=by
 refine DefIs.of T.dl_without scl_without ?_ ?_ <;> walk_at "i"
 ·obtain ⟨_,_,_,_,rfl,_⟩:=h
  rfl
 obtain ⟨bl,ub,bs,x,rfl,hbl,hub,hnd,hx,q⟩:=h
 have nd:=scl_without.nd
 refine ⟨_,(zpn (xaf (i:=2) nd rfl (by walk_at "o") (xa6 (xc9 rfl) rfl T.z_dict PyProof.Rows.boot_dict (pc (pv 0) pN zsn)))
   (zpn (xbe (xqr (pv 2) (pv 1) ⟨rfl,rfl,rfl,rfl⟩))
   (zpo (xae (pv 2))))),?_⟩
 refine (xet _ rfl bl ub (bKV bs) rfl hbl ⟨xfg hub,fun p hp=>?_⟩)
 obtain ⟨b,hb,rfl⟩:=zMP hx
 have hval:valV (xav [] (bKV bs)) (Sum.inr b.1)=some (.str b.2):=xlz hnd hb
 refine (xcw _ rfl p rfl (.inl ⟨_,.inl ups⟩) _ rfl (xbi _ (Sum.inr b.1) _ ups rfl hval ?_))
 have sp:Same H (upd (upd H p (.dK (xav [] (bKV bs)))) p (.dK (xip (xav [] (bKV bs)) (Sum.inr b.1)))):=fun c o e=>by
  rw [xaz (neN e hp),xaz (neN e hp)]
  exact e
 refine (jEA _ rfl (q p _ sp (jEAA _ ups ?_ (fun z=>⟨fun e=>?_,fun d e=>?_⟩))))
 ·have h1:=xcl (bKV bs) []
  have h2:=List.length_filter_le (fun kv:Key×V=>decide (kv.1≠Sum.inr b.1)) (xav [] (bKV bs))
  unfold bKV at h1
  rw [List.length_nil,zLM] at h1
  unfold xip
  unfold bKV at h2 ⊢
  omega
 ·rw [xi0]
  unfold envW at e
  by_cases c:z=b.1
  ·rw [if_pos (by rw [c])]
  ·rw [if_neg fun z'=>c (Sum.inr.inj z')]
   rw [if_neg c] at e
   have hno:∀ q∈bs,q.1≠z:=fun q hq e'=>by
    have:=List.find?_eq_none.mp (Option.map_eq_none_iff.mp e) q hq
    exact this (zDT e')
   exact xep _ [] hno
 ·rw [xi0]
  unfold envW at e
  by_cases c:z=b.1
  ·rw [if_pos c] at e; cases e
  ·rw [if_neg c] at e
   rw [if_neg fun z'=>c (Sum.inr.inj z')]
   obtain ⟨q',hq',rfl⟩:=zMS e
   have h0:=List.find?_some hq'
   have h1:q'.1=z:=of_decide_eq_true h0
   subst h1
   exact (jEA _ (xlz hnd (zMF hq')) rfl)
theorem xke:∀ ns:List Str,eqVs (ns.map V.str) (ns.map V.str)=true
 | []=>rfl
 | n :: ns=>by
  show (eqV (.str n) (.str n) && eqVs (ns.map V.str) (ns.map V.str))=true
  rw [xke ns]
  simp [eqV]
theorem neF {a b:V} {A B:Prop} (h:a=b) (x:B):if (!decide (a=b))=true then A else B:=by
 rw [if_neg (by simp [h])]
 exact x
theorem xw5 {H:Hp} {p:Addr} {bs:List (Str×Str)} (nd:(bs.map (·.1)).Nodup) (h:H p=some (.dK (xav [] (bKV bs)))):EnAt H p bs.length (envK bs):=by
 refine (jEAA _ h ?_ (fun z=>⟨fun e=>?_,fun d e=>?_⟩))
 ·have h1:=xcl (bKV bs) []
  unfold bKV at h1 ⊢
  rw [List.length_nil,zLM] at h1
  omega
 ·unfold envK at e
  refine xep _ [] fun q hq e'=>?_
  have:=List.find?_eq_none.mp (Option.map_eq_none_iff.mp e) q hq
  exact this (zDT e')
 ·unfold envK at e
  obtain ⟨q',hq',rfl⟩:=zMS e
  have h0:=List.find?_some hq'
  have h1:q'.1=z:=of_decide_eq_true h0
  subst h1
  exact (jEA _ (xlz nd (zMF hq')) rfl)
theorem xfa {α:Type} {p q:α->Bool} (h:∀ b,q b=true->p b=true):∀ {l:List α},(l.filter p).find? q=l.find? q
 | []=>rfl
 | b :: l=>by
  rw [List.filter_cons,List.find?_cons]
  cases hq:q b with
  | true=>rw [if_pos (h b hq),List.find?_cons,hq]
  | false=>
   by_cases hp:p b=true
   ·rw [if_pos hp,List.find?_cons,hq]
    exact xfa h
   ·rw [if_neg hp]
    exact xfa h
def xuk (m:Nat):Sp:=fun vs H Q _=>∃ kv tv p ks d env k,vs=[kv,tv,.ref p]/\In3 H kv tv p ks d env m/\Kt ks 8 env d (.ok k)/\∀ H',Same H H'->Q (.str k) H'
theorem xpg (D:DefXs P w K mg base n "kind_of" qaa (spKt K (fun ks=>Kt ks 8) m)):DefIs P w K mg base n "kind_of" qaa (xuk m):=D.calm fun vs H Q E h=>by
 obtain ⟨kv,tv,p,ks,d,env,k,rfl,hi,hK,q⟩:=h
 exact (xas kv tv p ks d (xc2 env (.ok k) rfl hi hK (fun k' e H' s'=>by cases e; exact q H' s') (fun c e=>by cases e)))
def xk3:Sp:=fun vs H Q _=>∃ (kv tv:V) (bl:Addr) (ub:List V) (ks:List Kn) (bs:List (Str×Str)) (d:D) (x:Str),vs=[kv,tv,.ref bl,.str x]/\RelD H kv (xfm ks)/\KWf ks/\KLn ks/\H bl=some (.lst ub)/\RelDs H ub (bs.map xiq)/\(bs.map (·.1)).Nodup/\bs.length<=20/\(∀ b∈bs,b.1.length<=100/\b.2.length<=100)/\RelD H tv d/\TmB ks 8 bs d x/\Tc 8 d 40 ∧
 ∀ l,∀ ms:List Str,∀ H',Same H H'->H l=none->H' l=some (.lst (ms.map V.str))->(∀ z,z∈ms ↔ z∈M.nd 8 d)->ms.Nodup->(∀ z∈ms,z∈bs.map (·.1))->Q (.ref l) H'
theorem xov (T:Tx K mg) (D_boxes_in:DefIs P w K mg base n "boxes_in" qad (spBx 8)) (D_kind_of:DefIs P w K mg base n "kind_of" qaa (xuk 20)) (Dl_nameless:DefIs P w K mg base n "_law_nameless" qav (xft 20)) (Dl_without:DefIs P w K mg base n "_law_without" qa7 xi3):DefIs P w K mg base (n + 1) "_law_needs" qaw xk3:=by
 refine DefIs.of T.dl_needs scl_needs ?_ ?_ <;> walk_at "i"
 ·obtain ⟨_,_,_,_,_,_,_,_,rfl,_⟩:=h
  rfl
 obtain ⟨kv,tv,bl,ub,ks,bs,d,x,rfl,hk,wf,kl,hbl,hub,hnd,hb20,hbl100,htv,htm,htc,q⟩:=h
 have nd:=scl_needs.nd
 have hu:=xcz hr
 refine ⟨_,(zpn (xaf (i:=4) nd rfl (by walk_at "o") (pd D_boxes_in hr (pc (pv 1) pN zsn)))
   (zpn (xau (PW.pt (xom (xr1 (xr0 (xao xly rfl T.z_isinstance PyProof.Rows.boot_isinstance (pc (pv 4) (pc (xuy T.z_list PyProof.Rows.boot_list) pN zsn) zsn)))) (xmb (pR (xu2 (Nat.lt_of_succ_lt hu)) (pv 4) (xbv ["_law_x","_law_found"] [none,some 4] rfl (by kernel_rfl) (xc1 (xk8 rfl rfl T.z_sorted rfl T.z_dict (pv 2))) (fun _ _ _ _=>(xab (i:=0) (by show List.Nodup (["_law_x","_law_found"]:List Str); decide +kernel) rfl (Or.inl rfl))) (fun _ _ _ _=>(xeg (pR (xfv (K:=K) rfl) (pv 0) (pv 1) (by with_unfolding_all rfl)))) (fun _ _ _ _=>(pv 0))) (nM _))))) (zpo (xae xe0)) pQ)
   (zpn (xaf (i:=5) nd rfl (by walk_at "o") (xa6 (xc9 rfl) rfl T.z_dict PyProof.Rows.boot_dict (pc (xbv qbb [none,none,some 4] rfl (by kernel_rfl) (xc1 (pv 2)) (fun _ _ _ _=>(xd2 (K:=K) (n:=2) rfl rfl (xad (xab (i:=0) (by show List.Nodup (qbb:List Str); decide +kernel) rfl (Or.inl rfl)) (xad (xab (i:=1) (by show List.Nodup (qbb:List Str); decide +kernel) rfl (Or.inl rfl)) xa4)))) (fun _ _ _ _=>(xeg (pR (xfv (K:=K) rfl) (pv 0) (pv 2) (by with_unfolding_all rfl)))) (fun _ _ _ _=>(xbc (pc (pv 0) (pc (pv 1) pN zsn) zsn)))) pN xb8)))
   (zpn (xau (pR xhk (pd D_kind_of hr (pc (pv 0) (pc (pv 1) (pc (xa6 xh2 rfl T.z_dict PyProof.Rows.boot_dict (pc (pv 5) pN zsn)) pN zsc) zsn) zsn)) (pv 3) (nM _)) (zpo (xae xe0)) pQ)
   (zpn (xau (pR xhk (xao xah rfl T.z_len PySem.boot_len (pc (xbv qbi [none,some 0,some 1,some 2] rfl (by kernel_rfl) (xc1 (pv 4)) (fun _ _ _ _=>(xab (i:=0) (by show List.Nodup (qbi:List Str); decide +kernel) rfl (Or.inl rfl))) (fun _ _ _ _=>(xeg (xr0 (pd Dl_nameless hr (pc (pv 1) (pc (pv 2) (pc (pd Dl_without hr (pc (pv 3) (pc (pv 0) pN zsn) zsn)) pN zsc) zsn) zsn))))) (fun _ _ _ _=>(pv 0))) pN xb8)) (xao xah rfl T.z_len PySem.boot_len (pc (pv 4) pN zsn)) (nM _)) (zpo (xae xe0)) pQ)
   (zpo (xae (pv 4)))))))),xba fun R1 hR1=>?_⟩
 have hsub:=xva hnd htm
 refine (xaa _ rfl tv d 40 (bs.map (·.1)) rfl htv htc (by decide) (jAA (by rw [zLM]; omega) hsub (fun l ms H1 s1 hl hmem hmnd hms hl0=>hR1 _ _ (xba fun R2 hR2=>?_))))
 have hperm0:∀ ss:List Str,ss.Perm (bs.map (·.1))->sortedS ss=true->ss.filter (fun z=>decide (z∈ms))=ms:=fun ss hp hs=>by
  refine xk4 ((xgv hs).filter _) (xgv hms) ((hp.nodup_iff.mpr hnd).filter _) hmnd fun z=>?_
  rw [List.mem_filter,decide_eq_true_eq]
  exact ⟨fun h=>h.2,fun h=>⟨hp.mem_iff.mpr (hsub z ((hmem z).mp h)),h⟩⟩
 have hml:ms.length<=20:=Nat.le_trans (St.nd_le hmnd (bs:=bs.map (·.1)) fun z hz=>hsub z ((hmem z).mp hz)) (by rw [zLM]; exact hb20)
 have key2:∀ H2,Same H1 H2->R2 [some kv,some tv,some (.ref bl),some (.str x),some (.ref l),none] H2:=by
  intro H2 s2
  have s02:=s1.trans s2
  have hbl2:=s02 _ _ hbl
  have hub2:=hub.same s02 _
  have hul:=hub2.length
  rw [zLM] at hul
  have hl2:=s2 _ _ hl
  have hP:∀ k∈ks,k.parts.length<=100:=fun k hk=>by have:=wf.pts k hk; omega
  have hKd:=htm.2 _ (xmw hnd)
  have hlen:∀ z∈M.nd 8 d,z.length<=100:=fun z hz=>by
   obtain ⟨b,hb,rfl⟩:=zMP (hsub z hz)
   exact (hbl100 b hb).1
  refine hR2 _ _ (xba fun R3 hR3=>?_)
  refine (xa3 _ rfl bl rfl ⟨_,SqL.of hbl2⟩ ?_)
  refine xch (xs:=ub) (fun i zs H'=>Same H2 H'/\RelDs H' zs (((bs.take i).filter fun b=>decide (b.1∈ms)).map xiq)) ⟨Same.refl _,rfl⟩ (xa7 (by omega)) (fun i zs H' _ p=>SqL.of (p.1 _ _ hbl2)) ?_ ?_
  ·rintro i y zs H' hy hi hly ⟨sm,hzs⟩
   obtain ⟨d1,hd1,rd⟩:=hub2.get hy
   rw [zGM] at hd1
   obtain ⟨pr,hpr,rfl⟩:=zMS hd1
   obtain ⟨b2,_,rfl,hb2,_,_,rfl,rfl,_,_,rfl,rfl,rfl⟩:=rd
   have hsn:=xfb (fun b:Str×Str=>decide (b.1∈ms)) hpr
   refine (xap b2 _ rfl (SqT.of (sm _ _ hb2)) rfl _ _ rfl _ (xeb _ rfl rfl (ext2 rfl rfl) ?_))
   refine (xbp _ rfl _ rfl l _ rfl (.inl (SqL.of (sm _ _ hl2))) (jAA rfl (xdf _) ?_))
   rw [xfj]
   refine (jEA _ rfl ?_)
   by_cases hzm:pr.1∈ms
   ·refine iteKT (zDT hzm) (xa3 _ rfl _ rfl (by walk_at "s") (fun t ht=>nxtG hi hly ?_))
    have st:=Same.new ht (.tup [.str pr.1,.str pr.2])
    refine ⟨sm.trans st,?_⟩
    rw [hsn,if_pos (zDT hzm),zAP]
    exact (hzs.same st _).append (xay _ ([]) rfl (xan t _ rfl ups _ _ rfl rfl _ (jEAA _ rfl rfl rfl)) rfl)
   ·refine iteKF (zDF hzm) (nxtN hi hly ⟨sm,?_⟩)
    rw [hsn,if_neg (by simpa using hzm),List.append_nil]
    exact hzs
  rintro zs H3 hly ⟨sm,hzs⟩ LD hD
  rw [zTL (by omega)] at hzs
  have yD:=Same.new hD (.lst zs)
  have hfl:(bs.filter fun b=>decide (b.1∈ms)).length<=bs.length:=List.length_filter_le _ _
  have hfnd:((bs.filter fun b=>decide (b.1∈ms)).map (·.1)).Nodup:=hnd.sublist (List.filter_sublist.map _)
  refine (xbi LD zs (bKV (bs.filter fun b=>decide (b.1∈ms))) rfl ups (xfg (hzs.same yD _)) (fun fp hfp=>hR3 _ _ (xba fun R4 hR4=>?_)))
  have yF:=Same.new hfp (.dK (xav [] (bKV (bs.filter fun b=>decide (b.1∈ms)))))
  have s24:=sm.trans (yD.trans yF)
  have hfp4:upd (upd H3 LD (.lst zs)) fp (.dK (xav [] (bKV (bs.filter fun b=>decide (b.1∈ms))))) fp=some (.dK (xav [] (bKV (bs.filter fun b=>decide (b.1∈ms))))):=ups
  generalize upd (upd H3 LD (.lst zs)) fp (.dK (xav [] (bKV (bs.filter fun b=>decide (b.1∈ms)))))=H4 at s24 hfp4 ⊢
  have s04:=s02.trans s24
  have hKt:Kt ks 8 (envK (bs.filter fun b=>decide (b.1∈ms))) d (.ok x):=by
   have hss:Sub (envK (bs.filter fun b=>decide (b.1∈ms))) (envK bs):=fun z=>by
    by_cases c:z∈ms
    ·refine .inr ?_
     unfold envK
     rw [xfa fun b hb=>by rw [of_decide_eq_true hb]; exact zDT c]
    ·refine .inl ?_
     unfold envK
     rw [List.find?_eq_none.mpr fun b hb e=>c ?_]
     ·rfl
     ·rw [<- of_decide_eq_true e]
      exact of_decide_eq_true (List.mem_filter.mp hb).2
   obtain ⟨r,g1,g2⟩:=xlp hP 8 _ _ _ _ hKd hss fun z hz _=>hlen z hz
   rcases g2 with ⟨rfl,_⟩ | ⟨_,z,hz,e⟩
   ·exact g1
   ·exfalso
    obtain ⟨b,hb,rfl⟩:=zMP (hsub z hz)
    unfold envK at e
    have:=List.find?_eq_none.mp (Option.map_eq_none_iff.mp e) b (List.mem_filter.mpr ⟨hb,zDT ((hmem _).mpr hz)⟩)
    exact this (zDT rfl)
  refine (xa8 _ rfl _ rfl _ rfl fp _ rfl hfp4 (fun dp hdp=>?_))
  have y5:=Same.new hdp (.dK (xav [] (bKV (bs.filter fun b=>decide (b.1∈ms)))))
  have s05:=s04.trans y5
  refine (xas kv tv dp ks d (xbg (envK (bs.filter fun b=>decide (b.1∈ms))) x rfl ⟨wf.ksAt (hk.same s05 _),kl,fun z k' e=>?_,htv.same s05 _,(xw5 hfnd ups).mono (by omega)⟩ hKt (fun H6 s6=>(xai _ rfl rfl _ rfl ?_))))
  ·unfold envK at e
   obtain ⟨b,hb,e'⟩:=zMS e
   cases e'
   exact (hbl100 b (List.mem_filter.mp (zMF hb)).1).2
  refine neF rfl (hR4 _ _ (xba fun R5 hR5=>?_))
  have s06:=s05.trans s6
  have hl6:=(s24.trans (y5.trans s6)) _ _ hl2
  have hbl6:=s06 _ _ hbl
  refine (xa3 _ rfl l rfl ⟨_,SqL.of hl6⟩ ?_)
  refine xch (xs:=ms.map V.str) (fun i zs H'=>Same H6 H'/\zs=(ms.take i).map V.str) ⟨Same.refl _,rfl⟩ (xa7 (by rw [zLM]; omega)) (fun i zs H' _ p=>SqL.of (p.1 _ _ hl6)) ?_ ?_
  ·rintro i y zs H' hy hi hly ⟨sm',rfl⟩
   rw [zGM] at hy
   obtain ⟨z,hz,rfl⟩:=zMS hy
   have hzm:=zMG hz
   have hzn:=(hmem z).mp hzm
   have s0':=s06.trans sm'
   have hKz:Kt ks 8 (envW bs z) d (.error 2):=by
    have hss:Sub (envW bs z) (envK bs):=fun y=>by
     unfold envW
     by_cases c:y=z
     ·rw [if_pos c]; exact .inl rfl
     ·rw [if_neg c]; exact .inr rfl
    obtain ⟨r,g1,g2⟩:=xlp hP 8 _ _ _ _ hKd hss fun z hz _=>hlen z hz
    rcases g2 with ⟨rfl,g2⟩ | ⟨rfl,_⟩
    ·exact absurd (show envW bs z z=none by unfold envW; rw [if_pos rfl]) (g2 z hzn)
    ·exact g1
   refine ⟨xd7 rfl,?_⟩
   refine (xbu _ rfl _ rfl _ rfl _ rfl bl (xcc ub bs z rfl (s0' _ _ hbl) (hub.same s0' _) hnd (hsub z hzn) (fun wp H7 s7 hen=>?_)))
   refine (xas kv tv wp ks d (xeb (envW bs z) rfl ⟨wf.ksAt (hk.same (s0'.trans s7) _),kl,fun y k' e=>?_,htv.same (s0'.trans s7) _,hen.mono (by omega)⟩ hKz (fun H8 s8=>(jEA _ rfl (iteT (jEA _ rfl (nxtG hi hly ⟨sm'.trans (s7.trans s8),?_⟩)))))))
   ·unfold envW at e
    split at e
    ·cases e
    ·obtain ⟨b,hb,e'⟩:=zMS e
     cases e'
     exact (hbl100 b (zMF hb)).2
   ·rw [zTA,hz,zAP]
    rfl
  rintro zs H7 hly ⟨sm',rfl⟩ LE hE
  have yE:=Same.new hE (.lst ((ms.take (ms.map V.str).length).map V.str))
  refine (xdc LE _ rfl (.inl (SqL.of ups)) _ rfl l _ rfl (.inl (SqL.of ((sm'.trans yE) _ _ hl6))) (jAEA rfl _ rfl (neF ?_ (hR5 _ _ ?_))))
  ·rw [zLM,zLM,zTL (Nat.le_refl _)]
  ·exact (jEA _ rfl (q l ms _ (s06.trans (sm'.trans yE)) hl0 ((sm'.trans yE) _ _ hl6) hmem hmnd fun z hz=>hsub z ((hmem z).mp hz)))
 refine (xcm _ rfl _ _ _ _ (xb4 _ rfl (fun u hu'=>hu') (TyOf.lst hl) rfl _ rfl (iteF ?_)))
 have hbl1:=s1 _ _ hbl
 refine (xax _ rfl _ rfl bl ub (bs.map fun b=>(b.1,V.str b.2)) rfl hbl1 (by rw [List.map_map]; exact xfg (hub.same s1 _)) (jAA (by rw [List.map_map]; exact hnd) (by rw [zLM]; omega) (fun sl ss hsl hpm hss=>?_)))
 rw [List.map_map] at hpm
 have hpm':ss.Perm (bs.map (·.1)):=hpm
 have hssl:ss.length<=20:=by rw [hpm'.length_eq,zLM]; exact hb20
 have y1:=Same.new hsl (.lst (ss.map V.str))
 refine (jEAA sl rfl ⟨_,SqL.of ups⟩ ?_)
 refine xch (xs:=ss.map V.str) (fun i zs H'=>H'=upd H1 sl (.lst (ss.map V.str))/\zs=((ss.take i).filter fun z=>decide (z∈ms)).map V.str) ⟨rfl,rfl⟩ (xa7 (by rw [zLM]; omega)) (fun i zs H' _ p=>by obtain ⟨rfl,_⟩:=p; exact SqL.of ups) ?_ ?_
 ·rintro i y zs H' hy hi hly ⟨rfl,rfl⟩
  rw [zGM] at hy
  obtain ⟨z,hz,rfl⟩:=zMS hy
  have hsn:=xfb (fun z=>decide (z∈ms)) hz
  refine ⟨xd7 rfl,?_⟩
  refine (xbp _ rfl _ rfl l _ rfl (.inl (SqL.of (y1 _ _ hl))) (jAA rfl (xdf _) ?_))
  rw [xfj]
  refine (jEA _ rfl ?_)
  by_cases hzm:z∈ms
  ·refine iteKT (zDT hzm) (jEA _ rfl (nxtG hi hly ⟨rfl,?_⟩))
   rw [hsn,if_pos (zDT hzm),zAP]
   rfl
  ·refine iteKF (zDF hzm) (nxtN hi hly ⟨rfl,?_⟩)
   rw [hsn,if_neg (by simpa using hzm),List.append_nil]
 rintro zs H' hly ⟨rfl,rfl⟩ LD hD
 rw [zLM,zTL (Nat.le_refl _),hperm0 ss hpm' hss]
 have y2:=Same.new hD (.lst (ms.map V.str))
 refine (xbh l LD _ _ rfl rfl (SqL.of ((y1.trans y2) _ _ hl)) (SqL.of ups) (xdf _) (xdf _) (jEA _ rfl (xnw (by rw [xke]; rfl) ?_)))
 exact key2 _ (y1.trans y2)
end
open PyProof.Rows
def vKV (bs:List (Str×V)):List (Key×V):=bs.map fun b=>(Sum.inr b.1,b.2)
def NV (H:Hp):List (Str×V)->List (Str×D)->Prop
 | [],[]=>True
 | b :: bs,q :: ds=>(b.1=q.1/\RelD H b.2 q.2)/\NV H bs ds
 | _,_=>False
theorem xfs {y:Str}:∀ (bs:List (Str×V)) (acc:List (Key×V)),(∀ b∈bs,b.1≠y)->valV (xav acc (vKV bs)) (Sum.inr y)=valV acc (Sum.inr y)
 | [],acc,_=>rfl
 | b :: bs,acc,h=>by
  show valV (xav (putK acc (Sum.inr b.1) b.2) (vKV bs)) (Sum.inr y)=_
  rw [xfs bs _ fun c hc=>h c (by simp [hc]),xek,if_neg fun e=>h b (by simp) (Sum.inr.inj e).symm]
theorem xiv:∀ (bs:List (Str×V)) (acc:List (Key×V)),(bs.map (·.1)).Nodup->∀ p∈bs,valV (xav acc (vKV bs)) (Sum.inr p.1)=some p.2
 | [],acc,_,p,hp=>nomatch hp
 | b :: bs,acc,nd,p,hp=>by
  rw [List.map_cons,List.nodup_cons] at nd
  show valV (xav (putK acc (Sum.inr b.1) b.2) (vKV bs)) (Sum.inr p.1)=_
  rcases zMC hp with rfl | hp
  ·rw [xfs bs _ fun c hc e=>nd.1 (by rw [<- e]; exact List.mem_map_of_mem hc),xek,if_pos rfl]
  ·exact xiv bs _ nd.2 p hp
theorem NV.names {H:Hp}:∀ {bs:List (Str×V)} {ds:List (Str×D)},NV H bs ds->bs.map (·.1)=ds.map (·.1)
 | [],[],_=>rfl
 | b :: bs,q :: ds,h=>by rw [List.map_cons,List.map_cons,h.1.1,NV.names h.2]
theorem NV.of {H:Hp}:∀ {bs:List (Str×V)} {ds:List (Str×D)},NV H bs ds->∀ q∈ds,∃ b∈bs,b.1=q.1/\RelD H b.2 q.2
 | [],[],_,q,hq=>nomatch hq
 | b :: bs,q' :: ds,h,q,hq=>by
  rcases zMC hq with rfl | hq
  ·exact (jEA b (by simp) h.1)
  ·obtain ⟨c,hc,e⟩:=NV.of h.2 q hq
   exact (jEA c (by simp [hc]) e)
theorem NV.tups {H H':Hp} (s:∀ b us,H b=some (.tup us)->H' b=some (.tup us)):∀ {bs:List (Str×V)} {ds:List (Str×D)},NV H bs ds->NV H' bs ds
 | [],[],_=>trivial
 | b :: bs,q :: ds,h=>⟨⟨h.1.1,h.1.2.tups s _⟩,NV.tups s h.2⟩
theorem xgj {H:Hp}:∀ {us:List V} {ds:List (Str×D)},RelDs H us (ds.map dPr)->∃ bs,PairsV H us (vKV bs)/\NV H bs ds
 | us,[],h=>by rw [show us=[] from h]; exact (jEA ([]) trivial trivial)
 | us,q :: ds,⟨v,r,e,h1,h2⟩=>by
  subst e
  obtain ⟨a,ws,rfl,ha,v0,_,rfl,r0,v1,_,rfl,r1,rfl⟩:=h1
  obtain rfl:v0=.str q.1:=r0
  obtain ⟨bs,g1,g2⟩:=xgj h2
  exact ⟨(q.1,v1) :: bs,⟨⟨a,rfl,ha⟩,g1⟩,⟨rfl,r1⟩,g2⟩
theorem xo0 {H:Hp} {bs:List (Str×V)} {ds:List (Str×D)} (h:NV H bs ds) (nd:(ds.map (·.1)).Nodup) {q:Str×D} (hq:q∈ds):∃ v,valV (xav [] (vKV bs)) (Sum.inr q.1:Key)=some v/\RelD H v q.2:=by
 obtain ⟨b,hb,e1,e2⟩:=h.of q hq
 refine (jEA b.2 ?_ e2)
 rw [<- e1]
 exact xiv bs [] (by rw [h.names]; exact nd) b hb
theorem xs8 {H:Hp} {dp:Addr} {bs:List (Str×V)} {ds:List (Str×D)} (h:NV H bs ds) (nd:(ds.map (·.1)).Nodup) (hp:H dp=some (.dK (xav [] (vKV bs)))):EnAt H dp ds.length (envP ds):=by
 refine (jEAA _ hp ?_ (fun y=>⟨fun e=>?_,fun d e=>?_⟩))
 ·have h1:=xcl (vKV bs) []
  have h2:=congrArg List.length h.names
  rw [zLM,zLM] at h2
  unfold vKV at h1 ⊢
  rw [zLM] at h1
  simp at h1
  omega
 ·unfold envP at e
  have h':=List.find?_eq_none.mp (Option.map_eq_none_iff.mp e)
  rw [xfs bs [] fun b hb z=>?_]
  ·rfl
  ·have hm:b.1∈ds.map (·.1):=by rw [<- h.names]; exact List.mem_map_of_mem hb
   obtain ⟨q,hq,eq⟩:=zMP hm
   exact absurd (zDT (eq.trans z)) (h' q hq)
 ·unfold envP at e
  obtain ⟨q,hq,rfl⟩:=zMS e
  have h1:q.1=y:=by
   have:=List.find?_some hq
   exact of_decide_eq_true this
  rw [<- h1]
  exact xo0 h nd (zMF hq)
theorem xgh {H H1 H2:Hp} {r:Addr} (s:Same H H1) (n:H r=none) (f:Fed r H1 H2):Same H H2:=fun b o hb=>f.1 b o (s b o hb) (neN hb n)
theorem xql {H H1:Hp} {c:Addr} (s:Same H H1) (n:H c=none) (o:HO):Same H (upd H1 c o):=fun b u hb=>by
 rw [xaz (neN hb n)]
 exact s b u hb
def spLaw (K:PySem.W.Frag):Sp:=fun vs H Q _=>∃ (a:Addr) (ns:List Int),vs=[.ref a]/\SqL K H a (ns.map V.int)/\ns.length<=63/\∀ H',Q (.bl true) H'
theorem xh3 {ks:List Kn}:∀ {bs:List (Str×Str)} {ds:List (Str×D)},All2 (fun (b:Str×Str) (q:Str×D)=>q.1=b.1/\Vk ks b.2 q.2) bs ds->ds.map (·.1)=bs.map (·.1)
 | _,_,.nil=>rfl
 | _,_,.cons h t=>by rw [List.map_cons,List.map_cons,h.1,xh3 t]
theorem xsy {kvs:List (Key×V)} {k:Key} {v:V} (h:∀ e∈kvs,e.1≠k):putK kvs k v=kvs++[(k,v)]:=by
 unfold putK
 rw [if_neg]
 intro c
 obtain ⟨e,he,hk⟩:=List.any_eq_true.mp c
 exact h e he (of_decide_eq_true hk)
theorem xjz:∀ (bs:List (Str×V)) (acc:List (Key×V)),(bs.map (·.1)).Nodup->(∀ e∈acc,∀ b∈bs,e.1≠Sum.inr b.1)->xav acc (vKV bs)=acc++vKV bs
 | [],acc,_,_=>by simp [vKV,xav]
 | b :: bs,acc,nd,h=>by
  rw [List.map_cons,List.nodup_cons] at nd
  show xav (putK acc (Sum.inr b.1) b.2) (vKV bs)=_
  rw [xsy fun e he=>h e he b (by simp),xjz bs _ nd.2 fun e he c hc=>?_]
  ·simp [vKV]
  ·rcases zMA he with he | he
   ·exact h e he c (by simp [hc])
   ·rw [zMO he]
    exact fun z=>nd.1 (by rw [Sum.inr.inj z]; exact List.mem_map_of_mem hc)
theorem xo9 (bs:List (Str×V)) (nd:(bs.map (·.1)).Nodup):(xav [] (vKV bs)).length=bs.length:=by
 rw [xjz bs [] nd fun _ h=>nomatch h]
 simp [vKV]
theorem xtj {ks:List Kn} (wf:KWf ks) {x:Str} (h:KIn ks 6 x):x.length<=100:=by
 rcases h.look wf with ⟨rfl,_⟩ | ⟨j,k,_,_,hn,hm,_⟩
 ·decide +kernel
 ·rw [<- hn]; exact (wf.kln k hm).1
section
variable {P:Program} {w:World} {K:PySem.W.Frag} {mg:Str->Option Value} {base:Heap} {n m:Nat}
theorem xu6 (T:Tx K mg) (Dl_feed:DefIs P w K mg base n "_law_feed" qa0 (xrv K)) (Dl_cell_0:DefIs P w K mg base n "_law_cell_0" qah (xoh K)) (Dl_cells:DefIs P w K mg base n "_law_cells" qa6 (xog K)) (Dl_names:DefIs P w K mg base n "_law_names" qa1 xob) (Dl_kinds:DefIs P w K mg base n "_law_kinds" qa2 xod)
  (Dl_some_boxes:DefIs P w K mg base n "_law_some_boxes" qa4 xl9) (Dl_any_kind:DefIs P w K mg base n "_law_any_kind" qal xss) (Dl_drawn_term:DefIs P w K mg base n "_law_drawn_term" qa5 xof) (Dl_value:DefIs P w K mg base n "_law_value" qam (xfd 6))
  (Dl_needs:DefIs P w K mg base n "_law_needs" qaw xk3) (D_boxes_in:DefIs P w K mg base n "boxes_in" qad (spBx 8)) (D_worth:DefIs P w K mg base n "worth" qaa (xef (fun ks=>Ev ks 8) 5)) :
  DefIs P w K mg base (n + 1) "law" qah (spLaw K):=by
 refine DefIs.of T.d_law sc_law ?_ ?_ <;> walk_at "i"
 ·obtain ⟨_,_,rfl,_⟩:=h
  rfl
 obtain ⟨a,ns,rfl,hS,h63,k⟩:=h
 have nd:=sc_law.nd
 have hu:=xcz hr
 have hu2:=xvo hr
 refine ⟨_,(zpn (xaf (i:=1) nd rfl (by walk_at "o") (pd Dl_names hr (pc (xag xb1 (pd Dl_cell_0 hr (pc (pv 0) pN zsn)) pI) (pc pI pN zso) xaq)))
   (zpn (xaf (i:=2) nd rfl (by walk_at "o") (pd Dl_kinds hr (pc (pd Dl_feed hr (pc (pv 0) (pc pI pN zso) zsn)) (pc (pv 1) pN zsn) zsc)))
   (zpn (xaf (i:=3) nd rfl (by walk_at "o") (pd Dl_some_boxes hr (pc (pd Dl_feed hr (pc (pv 0) (pc pI pN zso) zsn)) (pc (pv 2) (pc (pv 1) pN zsn) zsn) zsc)))
   (zpn (xc3 PassesOwn.never rfl (xc1 (pd Dl_cells hr (pc (pv 0) (pc pI pN zso) zsn))) (xab (i:=4) nd rfl (by walk_at "o"))
   (zpn (xaf (i:=5) nd rfl (by walk_at "o") (pd Dl_feed hr (pc (pv 0) (pc (pv 4) pN zsn) zsn)))
   (zpn (xaf (i:=6) nd rfl (by walk_at "o") (pd Dl_any_kind hr (pc (pv 5) (pc (pv 2) pN zsn) zsn)))
   (zpn (xaf (i:=7) nd rfl (by walk_at "o") (pd Dl_drawn_term hr (pc (pv 5) (pc (pv 2) (pc (pv 3) (pc (pv 6) pN zsn) zsn) zsn) zsn)))
   (zpn (xaf (i:=8) nd rfl (by walk_at "o") (pd Dl_needs hr (pc (pv 2) (pc (pv 7) (pc (pv 3) (pc (pv 6) pN zsn) zsn) zsn) zsn)))
   (zpn (xau (pR xr6 (pv 8) xe0 (nM _)) (zpo (xae xni)) pQ)
   (zpn (xaf (i:=9) nd rfl (by walk_at "o") (xa6 (xc9 rfl) rfl T.z_dict PyProof.Rows.boot_dict (pc (xbv qbc [none,none,some 5,some 2] rfl (by kernel_rfl) (xc1 (pv 3)) (fun _ _ _ _=>(xd2 (K:=K) (n:=2) rfl rfl (xad (xab (i:=0) (by show List.Nodup (qbc:List Str); decide +kernel) rfl (Or.inl rfl)) (xad (xab (i:=1) (by show List.Nodup (qbc:List Str); decide +kernel) rfl (Or.inl rfl)) xa4)))) (fun _ _ _ _=>xby) (fun _ _ _ _=>(xbc (pc (pv 0) (pc (pd Dl_value hr (pc (pv 2) (pc (pv 3) (pc (pv 1) pN zsn) zsn) zsn)) pN zsc) zsn)))) pN xb8)))
   (zpn (xaf (i:=10) nd rfl (by walk_at "o") (xa6 (xc9 rfl) rfl T.z_dict PyProof.Rows.boot_dict (pc (xbv ["_law_x","_law_values"] [none,some 9] rfl (by kernel_rfl) (xc1 (pv 8)) (fun _ _ _ _=>(xab (i:=0) (by show List.Nodup (["_law_x","_law_values"]:List Str); decide +kernel) rfl (Or.inl rfl))) (fun _ _ _ _=>xby) (fun _ _ _ _=>(xbc (pc (pv 0) (pc (xia hu (pv 1) (pv 0) (fun _ _=>rfl)) pN zss) zsn)))) pN xb8)))
   (zpn (xaf (i:=11) nd rfl (by walk_at "o") (xa6 (xc9 rfl) rfl T.z_dict PyProof.Rows.boot_dict (pc (xbv qbd [none,none,some 8,some 9,some 5,some 2] rfl (by kernel_rfl) (xc1 (pv 3)) (fun _ _ _ _=>(xd2 (K:=K) (n:=2) rfl rfl (xad (xab (i:=0) (by show List.Nodup (qbd:List Str); decide +kernel) rfl (Or.inl rfl)) (xad (xab (i:=1) (by show List.Nodup (qbd:List Str); decide +kernel) rfl (Or.inl rfl)) xa4)))) (fun _ _ _ _=>xby) (fun _ _ _ _=>(xbc (pc (pv 0) (pc (xgi (pR (xfv (K:=K) rfl) (pv 0) (pv 2) (by with_unfolding_all rfl)) (xia hu (pv 3) (pv 0) (fun _ _=>rfl)) (pd Dl_value hr (pc (pv 4) (pc (pv 5) (pc (pv 1) pN zsn) zsn) zsn))) pN xqg) zsn)))) pN xb8)))
   (zpn (xaf (i:=12) nd rfl (by walk_at "o") (pd D_worth hr (pc (pv 2) (pc (pv 7) (pc (pv 9) pN zsn) zsn) zsn)))
   (zpn (xau (PW.pt (xom (pR (xr5 hu2) (pd D_worth hr (pc (pv 2) (pc (pv 7) (pc (pv 10) pN zsn) zsn) zsn)) (pv 12) (nM _)) (xmb (pR (xr5 hu2) (pd D_worth hr (pc (pv 2) (pc (pv 7) (pc (pv 11) pN zsn) zsn) zsn)) (pv 12) (nM _))))) (zpo (xae xni)) pQ)
   (zpn (xbe (xhi PySem.F.plainAttrs_list PySem.F.slot_list_append PySem.F.type_list_append xdt (pv 8) (pc pS pN zso)))
   (zpo (xau (pR xhk (xao xah rfl T.z_len PySem.boot_len (pc (pd D_boxes_in hr (pc (pv 7) pN zsn)) pN zsc)) (xao xp4 rfl T.z_len PySem.boot_len (pc (pv 10) pN zsn)) (nM _)) (zpo (xae xni)) pQ))))))))))))))
   (zpo (xae xni)))))),xba fun R1 hR1=>?_⟩
 refine (xbx _ rfl a ns rfl hS h63 (fun c=>(xbg _ _ rfl rfl ⟨by decide,by decide⟩ (jEA _ rfl (fun b H1 nms s1 hb0 hb hok hby=>?_)))))
 refine hR1 _ _ (xba fun R2 hR2=>?_)
 refine (xc6 _ rfl a ns 1 rfl (s1.seq hS) h63 (by decide) (fun r p q nr=>?_))
 have sr:=Same.new nr (.lst [.int p,.int q])
 have br:b≠r:=neN hb nr
 refine (xcm _ rfl r b p q (xcs nms rfl ups (sr _ _ hb) hok br (fun kv ks H2 f2 hk hK hfit=>?_)))
 obtain ⟨wf,h4,_,hKp⟩:=hK
 have hfew:=wf.few
 have sH2:Same H1 H2:=Fed.back nr sr f2
 have pnn:∀ k∈ks,∀ p∈k.parts,NoBy p.1/\NoMo p.1:=fun k hk p hp=>by
  have hm:p.1∈k.parts.map (·.1):=List.mem_map_of_mem hp
  rw [(hKp k hk).2] at hm
  exact hby _ (List.mem_of_mem_drop (List.mem_of_mem_take (List.mem_of_mem_take hm)))
 have pnb:PNB ks:=fun k hk p hp=>(pnn k hk p hp).1
 refine hR2 _ _ (xba fun R3 hR3=>?_)
 refine (xc6 _ rfl a ns 2 rfl ((s1.trans sH2).seq hS) h63 (by decide) (fun r2 p2 q2 nr2=>?_))
 have sr2:=Same.new nr2 (.lst [.int p2,.int q2])
 have br2:b≠r2:=neN (sH2 _ _ hb) nr2
 refine (xa0 _ rfl _ rfl r2 b kv (xbh p2 q2 ks nms rfl ups (hk.same sr2 _) wf (sr2 _ _ (sH2 _ _ hb)) hok (jAA hby br2 (fun bl us bs H3 f3 hbl hus hndb hl5 hbk=>?_))))
 have sH3:Same H2 H3:=Fed.back nr2 sr2 f3
 have s03:=s1.trans (sH2.trans sH3)
 refine hR3 _ _ (xba fun R4 hR4=>?_)
 refine (xbx _ rfl a ns rfl (s03.seq hS) h63 (fun lc cs H4 s4 hlc hcs=>(jEAA lc rfl ⟨_,SqL.of hlc⟩ ?_)))
 have hk4:=hk.same (sH3.trans s4) _
 have hbl4:=s4 _ _ hbl
 have hus4:=hus.same s4 _
 have hul:=hus.length
 rw [zLM] at hul
 refine xil (xs:=cs.map V.int) (fun i σ H'=>∃ o4 o5 o6 o7 o8 o9 o10 o11 o12,σ=[some (.ref a),some (.ref b),some kv,some (.ref bl),o4,o5,o6,o7,o8,o9,o10,o11,o12]/\Same H4 H') (xas none none none none none (xsc none none none none rfl (Same.refl _))) (fun i σ H' _ p=>?_) ?_ ?_
 ·obtain ⟨_,_,_,_,_,_,_,_,_,_,sm⟩:=p
  exact SqL.of (sm _ _ hlc)
 ·rintro i v σ H' hv ⟨o4,o5,o6,o7,o8,o9,o10,o11,o12,rfl,sm⟩
  rw [zGM] at hv
  obtain ⟨cc,hcc,rfl⟩:=zMS hv
  have hc0:=hcs cc (zMG hcc)
  have hkH:=hk4.same sm _
  have hblH:=sm _ _ hbl4
  have husH:=hus4.same sm _
  refine xba fun S1 hS1=>?_
  refine (xax _ rfl _ rfl a ns cc rfl ((s03.trans (s4.trans sm)).seq hS) h63 ⟨hc0,fun r5 p5 q5 nr5=>?_⟩)
  have sr5:=Same.new nr5 (.lst [.int p5,.int q5])
  refine hS1 _ _ (xba fun S2 hS2=>?_)
  refine (xa0 _ rfl _ rfl r5 kv p5 (xc2 q5 ks rfl ups (hkH.same sr5 _) wf (fun x H6 hx f6=>?_)))
  have s6:Same H' H6:=Fed.back nr5 sr5 f6
  refine hS2 _ _ (xba fun S3 hS3=>?_)
  refine (xbu _ rfl _ rfl _ rfl _ rfl r5 (xbn kv (.ref bl) ks bs x rfl ⟨f6.2,hkH.same s6 _,wf,pnb,(xbg bl us rfl (s6 _ _ hblH) (husH.same s6 _) (neN hblH nr5)),hndb,by omega,fun b hb j _=>(hbk b hb).1 j,fun b hb=>(hbk b hb).2.1⟩ hx hfit (fun u d H7 f7 ru htm=>?_)))
  have s7:Same H' H7:=Fed.back nr5 sr5 (f6.trans f7)
  obtain ⟨p7,q7,h7⟩:=f7.2
  obtain ⟨htm,htc⟩:=htm
  have hl100:∀ b∈bs,b.1.length<=100/\b.2.length<=100:=fun b hb=>⟨(hbk b hb).2.2,xtj wf (hbk b hb).2.1⟩
  refine hS3 _ _ (xba fun S4 hS4=>?_)
  refine (xbu _ rfl _ rfl _ rfl _ rfl kv (xas u bl us ks bs (xcd d x rfl (hkH.same s7 _) wf wf.kln (s7 _ _ hblH) (husH.same s7 _) (xq9 hndb (by omega) hl100 ru (jAA htm htc (fun l ms H8 s8 hl0 hl hmem hmnd hmsub=>?_))))))
  have s08:=s7.trans s8
  have h8:=s8 _ _ h7
  have ru8:=ru.same s8 _
  have hlr:l≠r5:=Ne.symm (neN h7 hl0)
  have hlH:H' l=none:=xcg s7 hl0
  refine hS4 _ _ (xba fun S5 hS5=>?_)
  refine (xai _ rfl rfl _ rfl (iteF (hS5 _ _ (xba fun S6 hS6=>?_))))
  refine (xa3 _ rfl bl rfl ⟨_,SqL.of (s08 _ _ hblH)⟩ ?_)
  refine xch (xs:=us) (fun i zs HX=>Fed r5 H8 HX/\∃ ds:List (Str×D),RelDs HX zs (ds.map dPr)/\All2 (fun (b:Str×Str) (q:Str×D)=>q.1=b.1/\Vk ks b.2 q.2) (bs.take i) ds) (jAEA (Fed.refl h8) ([]) rfl (by rw [List.take_zero]; exact .nil)) (xa7 (by omega)) (fun i zs HX _ p=>SqL.of (p.1.1 _ _ (s08 _ _ hblH) (neN hblH nr5))) ?_ ?_
  ·rintro i y zs HX hy hi hly ⟨fX,ds,hzs,hall⟩
   have sX:Same H' HX:=xgh s08 nr5 fX
   obtain ⟨pX,qX,hX⟩:=id fX.2
   obtain ⟨d1,hd1,rd⟩:=(husH.same sX _).get hy
   rw [zGM] at hd1
   obtain ⟨pr,hpr,rfl⟩:=zMS hd1
   obtain ⟨b2,_,rfl,hb2,_,_,rfl,rfl,_,_,rfl,rfl,rfl⟩:=rd
   refine (xap b2 _ rfl (SqT.of hb2) rfl _ _ rfl _ (xeb _ rfl rfl (ext2 rfl rfl) (xgn ?_)))
   refine (xbu _ rfl _ rfl _ rfl _ rfl r5 (xat kv pX qX ks pr.2 rfl hX (hkH.same sX _) wf ((hbk pr (zMG hpr)).2.1) (fun w' e HY fY rw' hvk=>⟨(by walk_at "s"),fun t ht=>nxtG hi hly ?_⟩)))
   have st:=Same.new ht (.tup [.str pr.1,w'])
   refine (jAEA (Fed.same (fX.trans fY) st) (ds++[(pr.1,e)]) ?_ ?_)
   ·rw [zAP]
    exact ((hzs.tups (xaj (jEE pX qX hX) fY) _).same st _).append (xay _ ([]) rfl (xan t _ rfl ups _ _ rfl rfl _ (jEAA _ rfl (rw'.same st _) rfl)) rfl)
   ·rw [zTA,hpr]
    exact xfp hall ⟨rfl,hvk⟩
  rintro zs H9 hly ⟨f9,ds,hzs,hall⟩ LD hD
  rw [zTL (by omega)] at hall
  have yD:=Same.new hD (.lst zs)
  have hdn:ds.map (·.1)=bs.map (·.1):=xh3 hall
  have hdl:=hall.length
  have hdnd:(ds.map (·.1)).Nodup:=by rw [hdn]; exact hndb
  obtain ⟨bv,hpv,hnv⟩:=xgj (hzs.same yD _)
  refine (xbi LD zs (vKV bv) rfl ups hpv (fun vp hvp=>hS6 _ _ (xba fun S7 hS7=>?_)))
  have yV:=Same.new hvp (.dK (xav [] (vKV bv)))
  have F10:Fed r5 H8 (upd (upd H9 LD (.lst zs)) vp (.dK (xav [] (vKV bv)))):=Fed.same f9 (yD.trans yV)
  have hvp10:upd (upd H9 LD (.lst zs)) vp (.dK (xav [] (vKV bv))) vp=some (.dK (xav [] (vKV bv))):=ups
  have hnv10:=hnv.tups fun b us e=>yV b _ e
  generalize upd (upd H9 LD (.lst zs)) vp (.dK (xav [] (vKV bv)))=H10 at F10 hvp10 hnv10 ⊢
  have s10:Same H' H10:=xgh s08 nr5 F10
  have hl10:=F10.1 _ _ hl hlr
  have ru10:=ru8.tups (xaj (jEE p7 q7 h8) F10) _
  have hr10:=F10.2
  refine (xa3 _ rfl l rfl ⟨_,SqL.of hl10⟩ ?_)
  have hml:ms.length<=5:=Nat.le_trans (St.nd_le hmnd (bs:=bs.map (·.1)) hmsub) (by rw [zLM]; exact hl5)
  refine xch (xs:=ms.map V.str) (fun i zs HX=>Same H10 HX/\∃ es:List (Str×D),RelDs HX zs (es.map dPr)/\es.map (·.1)=ms.take i/\∀ q∈es,q∈ds) (xho (Same.refl _) ([]) rfl rfl (fun _ h=>nomatch h)) (xa7 (by rw [zLM]; omega)) (fun i zs HX _ p=>SqL.of (p.1 _ _ hl10)) ?_ ?_
  ·rintro i y zs HX hy hi hly ⟨sX,es,hzs,hen,hes⟩
   rw [zGM] at hy
   obtain ⟨z,hz,rfl⟩:=zMS hy
   have hzd:z∈ds.map (·.1):=by rw [hdn]; exact hmsub z (zMG hz)
   obtain ⟨q0,hq0,rfl⟩:=zMP hzd
   obtain ⟨v0,hv0,rv0⟩:=xo0 hnv10 hdnd hq0
   have g:DGet HX vp (.str q0.1) (some v0):=by
    have:=DGet.k (H:=HX) (a:=vp) (k:=Sum.inr q0.1) (sX _ _ hvp10)
    rw [hv0] at this
    exact this
   refine ⟨xd7 rfl,xgn ?_⟩
   refine (xa8 _ rfl _ rfl _ rfl vp _ rfl g ⟨(by walk_at "s"),fun t ht=>nxtG hi hly ?_⟩)
   have st:=Same.new ht (.tup [.str q0.1,v0])
   refine (xho (sX.trans st) (es++[q0]) ?_ ?_ (fun q hq=>?_))
   ·rw [zAP]
    exact (hzs.same st _).append (xay _ ([]) rfl (xan t _ rfl ups _ _ rfl rfl _ (jEAA _ rfl (rv0.same (sX.trans st) _) rfl)) rfl)
   ·rw [zAP,hen,zTA,hz]
    rfl
   ·rcases zMA hq with hq | hq
    ·exact hes q hq
    ·rw [zMO hq]; exact hq0
  rintro zs2 H11 hly2 ⟨s11,es,hzs2,hen,hes⟩ LE hE
  rw [zLM,zTL (Nat.le_refl _)] at hen
  have yE:=Same.new hE (.lst zs2)
  have hend:(es.map (·.1)).Nodup:=by rw [hen]; exact hmnd
  have hel:es.length=ms.length:=by have:=congrArg List.length hen; rw [zLM] at this; exact this
  obtain ⟨bf,hpf,hnf⟩:=xgj (hzs2.same yE _)
  refine (xbi LE zs2 (vKV bf) rfl ups hpf (fun fp hfp=>hS7 _ _ (xba fun S8 hS8=>?_)))
  have yF:=Same.new hfp (.dK (xav [] (vKV bf)))
  have s12:=s11.trans (yE.trans yF)
  have hfp12:upd (upd H11 LE (.lst zs2)) fp (.dK (xav [] (vKV bf))) fp=some (.dK (xav [] (vKV bf))):=ups
  have hnf12:=hnf.tups fun b us e=>yF b _ e
  generalize upd (upd H11 LE (.lst zs2)) fp (.dK (xav [] (vKV bf)))=H12 at s12 hfp12 hnf12 ⊢
  have s012:=s10.trans s12
  have hl12:=s12 _ _ hl10
  have hvp12:=s12 _ _ hvp10
  obtain ⟨p10,q10,hr⟩:=hr10
  have hr12:=s12 _ _ hr
  have hnv12:=hnv10.tups fun b us e=>s12 b _ e
  have ru12:=ru10.same s12 _
  refine (xa3 _ rfl bl rfl ⟨_,SqL.of (s012 _ _ hblH)⟩ ?_)
  refine xch (xs:=us) (fun i zs HX=>Fed r5 H12 HX/\∃ es:List (Str×D),RelDs HX zs (es.map dPr)/\es.map (·.1)=(bs.take i).map (·.1)/\∀ q∈es,q.1∈ms->q∈ds) (xho (Fed.refl hr12) ([]) rfl rfl (fun _ h=>nomatch h)) (xa7 (by omega)) (fun i zs HX _ p=>SqL.of (p.1.1 _ _ (s012 _ _ hblH) (neN hblH nr5))) ?_ ?_
  ·rintro i y zs HX hy hi hly ⟨fX,es3,hzs,hen3,hes3⟩
   have sX:Same H' HX:=xgh s012 nr5 fX
   obtain ⟨pX,qX,hX⟩:=id fX.2
   obtain ⟨d1,hd1,rd⟩:=(husH.same sX _).get hy
   rw [zGM] at hd1
   obtain ⟨pr,hpr,rfl⟩:=zMS hd1
   obtain ⟨b2,_,rfl,hb2,_,_,rfl,rfl,_,_,rfl,rfl,rfl⟩:=rd
   have tX:=xaj (jEE p10 q10 hr12) fX
   refine (xap b2 _ rfl (SqT.of hb2) rfl _ _ rfl _ (xeb _ rfl rfl (ext2 rfl rfl) (xgn ?_)))
   refine (xa8 _ rfl _ rfl _ rfl l _ rfl (.inl (SqL.of (fX.1 _ _ hl12 hlr))) (jAA rfl (xdf _) ?_))
   rw [xfj]
   refine (jEA _ rfl ?_)
   by_cases hzm:pr.1∈ms
   ·have hzd:pr.1∈ds.map (·.1):=by rw [hdn]; exact hmsub _ hzm
    obtain ⟨q0,hq0,eq0⟩:=zMP hzd
    obtain ⟨v0,hv0,rv0⟩:=xo0 hnv12 hdnd hq0
    rw [eq0] at hv0
    have g:DGet HX vp (.str pr.1) (some v0):=by
     have:=DGet.k (H:=HX) (a:=vp) (k:=Sum.inr pr.1) (fX.1 _ _ hvp12 (fun z=>by rw [z,hr12] at hvp12; cases hvp12))
     rw [hv0] at this
     exact this
    refine iteKT (zDT hzm) (xbp _ rfl _ rfl vp _ rfl g ⟨(by walk_at "s"),fun t ht=>nxtG hi hly ?_⟩)
    have st:=Same.new ht (.tup [.str pr.1,v0])
    refine (xho (Fed.same fX st) (es3++[q0]) ?_ ?_ (fun q hq hm=>?_))
    ·rw [zAP]
     exact (hzs.same st _).append (xay _ ([]) rfl (xan t _ rfl ups _ _ rfl (by rw [eq0]; rfl) _ (jEAA _ rfl ((rv0.tups tX _).same st _) rfl)) rfl)
    ·rw [zAP,hen3,zTA,hpr,zAP]
     show _++[q0.1]=_++[pr.1]
     rw [eq0]
    ·rcases zMA hq with hq | hq
     ·exact hes3 q hq hm
     ·rw [zMO hq]; exact hq0
   ·refine iteKF (zDF hzm) (xa2 _ rfl _ rfl _ rfl r5 kv (xa5 pX qX ks pr.2 rfl hX (hkH.same sX _) wf ((hbk pr (zMG hpr)).2.1) (fun w' e HY fY rw' hvk=>⟨(by walk_at "s"),fun t ht=>nxtG hi hly ?_⟩)))
    have st:=Same.new ht (.tup [.str pr.1,w'])
    refine (xho (Fed.same (fX.trans fY) st) (es3++[(pr.1,e)]) ?_ ?_ (fun q hq hm=>?_))
    ·rw [zAP]
     exact ((hzs.tups (xaj (jEE pX qX hX) fY) _).same st _).append (xay _ ([]) rfl (xan t _ rfl ups _ _ rfl rfl _ (jEAA _ rfl (rw'.same st _) rfl)) rfl)
    ·rw [zAP,hen3,zTA,hpr,zAP]
     rfl
    ·rcases zMA hq with hq | hq
     ·exact hes3 q hq hm
     ·rw [zMO hq] at hm
      exact absurd hm hzm
  rintro zs3 H13 hly3 ⟨f13,es3,hzs3,hen3,hes3⟩ LF hF
  rw [zTL (by omega)] at hen3
  have yG:=Same.new hF (.lst zs3)
  have hend3:(es3.map (·.1)).Nodup:=by rw [hen3]; exact hndb
  have hel3:es3.length=bs.length:=by have:=congrArg List.length hen3; rw [zLM,zLM] at this; exact this
  obtain ⟨bo,hpo,hno⟩:=xgj (hzs3.same yG _)
  refine (xbi LF zs3 (vKV bo) rfl ups hpo (fun op hop=>hS8 _ _ (xba fun S9 hS9=>?_)))
  have yO:=Same.new hop (.dK (xav [] (vKV bo)))
  have F14:Fed r5 H12 (upd (upd H13 LF (.lst zs3)) op (.dK (xav [] (vKV bo)))):=Fed.same f13 (yG.trans yO)
  have hop14:upd (upd H13 LF (.lst zs3)) op (.dK (xav [] (vKV bo))) op=some (.dK (xav [] (vKV bo))):=ups
  have hno14:=hno.tups fun b us e=>yO b _ e
  generalize upd (upd H13 LF (.lst zs3)) op (.dK (xav [] (vKV bo)))=H14 at F14 hop14 hno14 ⊢
  have s14:Same H' H14:=xgh s012 nr5 F14
  have t14:=xaj (jEE p10 q10 hr12) F14
  have hl14:=F14.1 _ _ hl12 hlr
  have hvp14:=F14.1 _ _ hvp12 (fun z=>by rw [z,hr12] at hvp12; cases hvp12)
  have hfp14:=F14.1 _ _ hfp12 (fun z=>by rw [z,hr12] at hfp12; cases hfp12)
  have ru14:=ru12.tups t14 _
  have enV:=xs8 (hnv12.tups t14) hdnd hvp14
  have enF:=xs8 (hnf12.tups t14) hend hfp14
  have enO:=xs8 hno14 hend3 hop14
  have hfb:FitB ks bs (envP ds):=fun b hb=>by
   obtain ⟨q0,hq0,e1,e2⟩:=xiu hall b hb
   exact (jEA q0.2 (by rw [<- e1]; exact xha hdnd hq0) e2)
  obtain ⟨val,hev0,hvk⟩:=htm.1 _ hfb
  have hev:=xsf 8 _ _ _ hev0
  have hdp:=xkv wf 6 _ _ (hx.mono hfew) hvk
  have hevF:Ev ks 8 (envP es) d val:=xgb 8 _ _ _ _ hev fun z hz=>by
   have hzm:z∈es.map (·.1):=by rw [hen]; exact (hmem z).mpr hz
   obtain ⟨q0,hq0,rfl⟩:=zMP hzm
   rw [xha hend hq0,xha hdnd (hes q0 hq0)]
  have hsub8:=xva hndb htm
  have hevO:Ev ks 8 (envP es3) d val:=xgb 8 _ _ _ _ hev fun z hz=>by
   have hzm:z∈es3.map (·.1):=by rw [hen3]; exact hsub8 z hz
   obtain ⟨q0,hq0,rfl⟩:=zMP hzm
   rw [xha hend3 hq0,xha hdnd (hes3 q0 hq0 ((hmem _).mpr hz))]
  have hk14:=hkH.same s14 _
  refine (xa2 _ rfl _ rfl _ rfl kv u (xat vp ks d (envP ds) val rfl (wf.ksAt hk14) ru14 (enV.mono (by omega)) hev (fun w1 H15 s15 r15=>hS9 _ _ (xba fun S10 hS10=>?_))))
  refine (xa2 _ rfl _ rfl _ rfl kv u (xat fp ks d (envP es) val rfl (wf.ksAt (hk14.same s15 _)) (ru14.same s15 _) ((enF.same s15).mono (by omega)) hevF (fun w2 H16 s16 r16=>?_)))
  refine (xa3 _ rfl val r16 (r15.same s16 _) (jAEA (by omega) _ rfl (iteF ?_)))
  have s116:=s15.trans s16
  refine (xa2 _ rfl _ rfl _ rfl kv u (xat op ks d (envP es3) val rfl (wf.ksAt (hk14.same s116 _)) (ru14.same s116 _) ((enO.same s116).mono (by omega)) hevO (fun w3 H17 s17 r17=>?_)))
  have s117:=s116.trans s17
  refine (xa3 _ rfl val r17 (r15.same (s16.trans s17) _) (jAEA (by omega) _ rfl (iteF (hS10 _ _ (xba fun S11 hS11=>?_)))))
  have hl17:=s117 _ _ hl14
  refine (jEAA _ rfl (.inl (jAE rfl _ (SqL.of hl17))) (xbf l _ _ rfl rfl hl17 (xa7 (by rw [zLM]; omega)) (hS11 _ _ ?_)))
  have tl:=xbj hl17 (.lst (ms.map V.str++[.str (Str.ofString "more")]))
  have s18:Same H' (upd H17 l (.lst (ms.map V.str++[.str (Str.ofString "more")]))):=xql (s14.trans s117) hlH _
  have hfp18:upd H17 l (.lst (ms.map V.str++[.str (Str.ofString "more")])) fp=some (.dK (xav [] (vKV bf))):=by
   rw [xaz fun z=>by rw [z] at hfp14; rw [hfp14] at hl14; cases hl14]
   exact s117 _ _ hfp14
  refine (xaa _ rfl u d 40 (bs.map (·.1)) rfl ((ru14.same s117 _).tups tl _) htc (by decide) (jAA (by rw [zLM]; omega) hsub8 (fun l2 ms2 H19 s19 hl2 hmem2 hmnd2 _ _=>?_)))
  refine (xdc l2 _ rfl (.inl (SqL.of hl2)) _ rfl fp _ rfl (s19 _ _ hfp18) (jAEA rfl _ rfl (neF ?_ ?_)))
  ·have e1:ms2.length=ms.length:=((List.perm_ext_iff_of_nodup hmnd2 hmnd).mpr fun z=>(hmem2 z).trans (hmem z).symm).length_eq
   rw [zLM,e1,xo9 bf (by rw [hnf12.names]; exact hend),<- hel]
   have:=congrArg List.length hnf12.names
   rw [zLM,zLM] at this
   rw [this]
  ·exact (xas _ _ _ _ _ (xsc _ _ _ _ rfl (sm.trans (s18.trans s19))))
 ·rintro σ H' ⟨_,_,_,_,_,_,_,_,_,rfl,sm⟩
  exact hR4 _ _ (k H')
theorem law_is (T:Tx K mg):DefIs P w K mg base 40 "law" qah (spLaw K):=by
 have take:∀ k,DefIs P w K mg base (k + 1) "_law_take" qae xda:=fun k=>xeo T
 have parts:DefIs P w K mg base 30 "_law_parts" qau xk2:=xou T (take 28) ((xoj T 6 (by omega)).mono (by omega))
 have t8:DefIs P w K mg base 34 "_law_term" qac spT8:=DefIs.any (N:=8) (sps:=spTm) fun m hm=>(xn5 T m).mono (by omega)
 have kt:DefXs P w K mg base 29 "kind_of" qaa (spKt K (fun ks=>Kt ks 8) 20):=xvd T 8 20 (by omega)
 have bx:DefIs P w K mg base 38 "boxes_in" qad (spBx 8):=(xlh (n:=10) T (xjv T 8)).mono (by omega)
 have nl:DefIs P w K mg base 38 "_law_nameless" qav (xft 20):=(xji (n:=29) T kt).mono (by omega)
 have needs:DefIs P w K mg base 39 "_law_needs" qaw xk3:=xov (n:=38) T bx ((xpg kt).mono (by omega)) nl (xlb T)
 exact xu6 (n:=39) T (xqu T) (xnj T) (xoy T) (xow T) ((xox T (take 29) parts).mono (by omega)) (xhm (n:=38) T (take 37) (xf2 (n:=37) T (take 36))) (xf2 (n:=38) T (take 37)) ((xhn (n:=34) T (take 33) ((xh7 T 6).mono (by omega)) ((xlr T 6).mono (by omega)) t8).mono (by omega)) ((xl4 T 6).mono (by omega)) needs (bx.mono (by omega)) ((xl3 T 8 5 (by omega)).mono (by omega))
end
end K21
end
noncomputable def PySem.W.Fast.tw10601355999834164058:Nat:=0
noncomputable def PySem.W.Fast.tw14096106838663422363:Nat:=0
noncomputable def PySem.W.Fast.tw4802427192808963510:Nat:=0
noncomputable def PySem.W.Fast.tw8696333592809348963:Nat:=0
noncomputable def PySem.W.Fast.tw10437310275640532716:Nat:=0
noncomputable def PySem.W.Fast.tw6436663406371552544:Nat:=0
noncomputable def PySem.W.Fast.tw12637616122581912520:Nat:=0
noncomputable def PySem.W.Fast.tw4091611735105429503:Nat:=0
noncomputable def PySem.W.Fast.tw7980364741300617745:Nat:=0
noncomputable def PySem.W.Fast.tw3633398838599578230:Nat:=0
noncomputable def PySem.W.Fast.tw7006313046321517048:Nat:=0
noncomputable def PySem.W.Fast.tw15041648641692679589:Nat:=0
noncomputable def PySem.W.Fast.tw15395731425494725051:Nat:=0
noncomputable def PySem.W.Fast.tw7311288809739526770:Nat:=0
noncomputable def PySem.W.Fast.tw3480501496288269391:Nat:=0
noncomputable def PySem.W.Fast.tw13804615151368673676:Nat:=0
noncomputable def PySem.W.Fast.tw14248699208242409654:Nat:=0
noncomputable def PySem.W.Fast.tw12105699167163208513:Nat:=0
noncomputable def PySem.W.Fast.tw3400350329356194179:Nat:=0
noncomputable def PySem.W.Fast.tw9837189821687255598:Nat:=0
noncomputable def PySem.W.Fast.tw8818485099384033137:Nat:=0
noncomputable def PySem.W.Fast.tw10778047222319822160:Nat:=0
noncomputable def PySem.W.Fast.tw1005026780991154397:Nat:=0
noncomputable def PySem.W.Fast.tw17085033186607731625:Nat:=0
noncomputable def PySem.W.Fast.tw3332940164908876379:Nat:=0
noncomputable def PySem.W.Fast.tw10771712262009029327:Nat:=0
noncomputable def PySem.W.Fast.tw10398145388171261702:Nat:=0
noncomputable def PySem.W.Fast.tw12489917353909325243:Nat:=0
noncomputable def PySem.W.Fast.tw15407546146132176335:Nat:=0
noncomputable def PySem.W.Fast.tw17861575213983107691:Nat:=0
noncomputable def PySem.W.Fast.tw1324741517698398792:Nat:=0
noncomputable def PySem.W.Fast.tw7378701388822355343:Nat:=0
noncomputable def PySem.W.Fast.tw14175598911837464512:Nat:=0
noncomputable def PySem.W.Fast.tw15043600582524177998:Nat:=0
noncomputable def PySem.W.Fast.tw15188300223815169132:Nat:=0
noncomputable def PySem.W.Fast.tw14614200677051621874:Nat:=0
noncomputable def PySem.W.Fast.tw14674201595916370006:Nat:=0
noncomputable def PySem.W.Fast.tw354905890999988833:Nat:=0
noncomputable def PySem.W.Fast.tw6986246215309351574:Nat:=0
noncomputable def PySem.W.Fast.tw14847178389244923739:Nat:=0
noncomputable def PySem.W.Fast.tw8665472600865782:Nat:=0
noncomputable def PySem.W.Fast.tw17999118982481625407:Nat:=0
noncomputable def PySem.W.Fast.tw16924759991410680494:Nat:=0
noncomputable def PySem.W.Fast.tw16252307647044042435:Nat:=0
noncomputable def PySem.W.Fast.tw5318469182759803978:Nat:=0
noncomputable def PySem.W.Fast.tw855012071500185979:Nat:=0
noncomputable def PySem.W.Fast.tw10036346020762775016:Nat:=0
noncomputable def PySem.W.Fast.tw14827361361645617659:Nat:=0
noncomputable def PySem.W.Fast.tw374204775114662406:Nat:=0
noncomputable def PySem.W.Fast.tw18144976105224392948:Nat:=0
noncomputable def PySem.W.Fast.tw6715583368977187398:Nat:=0
noncomputable def PySem.W.Fast.tw18027261507871417776:Nat:=0
noncomputable def PySem.W.Fast.tw10174639750935450249:Nat:=0
noncomputable def PySem.W.Fast.tw17452652440488444290:Nat:=0
noncomputable def PySem.W.Fast.tw1667318570026389153:Nat:=0
noncomputable def PySem.W.Fast.tw13336416282714456032:Nat:=0
noncomputable def PySem.W.Fast.tw16237439226077875128:Nat:=0
noncomputable def PySem.W.Fast.tw826899180451693363:Nat:=0
noncomputable def PySem.W.Fast.tw902899490298044493:Nat:=0
open PySem PySem.W PyProof.Rows
set_option maxRecDepth 100000 in
set_option maxHeartbeats 0 in
theorem PySem.Challenge.cw_swapstride_k21_whole_boxes_in_terms_holds : PySem.Challenge.rw_swapstride_k21_whole_boxes_in_terms.Holds := by
 w_on; o_law; k_head; (case hw=>w_witness2)
 k_fill
 refine L2.walk_of (l:=PySem.Challenge.rw_swapstride_k21_whole_boxes_in_terms) (n:=63) (k:=40) (x:="_law_script") (CX:=fun _=>L2.CX0) (sp:=fun _=>K21.spLaw _) rfl (by decide) rfl ⟨rfl,by decide,by decide⟩ (fun w h Y=>PySem.W.kIn_of Y) ?F (fun _ _ a ns hl _ hS=>⟨a,ns,rfl,hS,hl,fun _=>rfl⟩) fun _ _ _ _ _ z=>z
 case F=>
  intro w mg fa h KX G hmg
  have d_need_once:L2.DefTx (L2.KOf KX) mg "need_once" K21.s_need_once L2.qan:=by
   walk_at "d"
  have d_sort_of:L2.DefTx (L2.KOf KX) mg "sort_of" K21.s_sort_of L2.qaf:=by
   walk_at "d"
  have d_parts_of:L2.DefTx (L2.KOf KX) mg "parts_of" K21.s_parts_of L2.qaf:=by
   walk_at "d"
  have d_kind_of:L2.DefTx (L2.KOf KX) mg "kind_of" K21.s_kind_of L2.qaa:=by
   walk_at "d"
  have d_num_kind:L2.DefTx (L2.KOf KX) mg "num_kind" K21.s_num_kind ["n"]:=by
   walk_at "d"
  have d_box_kind:L2.DefTx (L2.KOf KX) mg "box_kind" K21.s_box_kind L2.qao:=by
   walk_at "d"
  have d_op_kind:L2.DefTx (L2.KOf KX) mg "op_kind" K21.s_op_kind L2.qaa:=by
   walk_at "d"
  have d_rec_kind:L2.DefTx (L2.KOf KX) mg "rec_kind" K21.s_rec_kind L2.qaa:=by
   walk_at "d"
  have d_get_kind:L2.DefTx (L2.KOf KX) mg "get_kind" K21.s_get_kind L2.qaa:=by
   walk_at "d"
  have d_tag_kind:L2.DefTx (L2.KOf KX) mg "tag_kind" K21.s_tag_kind L2.qaa:=by
   walk_at "d"
  have d_case_kind:L2.DefTx (L2.KOf KX) mg "case_kind" K21.s_case_kind L2.qaa:=by
   walk_at "d"
  have d_arm_kind:L2.DefTx (L2.KOf KX) mg "arm_kind" K21.s_arm_kind L2.qax:=by
   walk_at "d"
  have d_if_kind:L2.DefTx (L2.KOf KX) mg "if_kind" K21.s_if_kind L2.qaa:=by
   walk_at "d"
  have d_need_kind:L2.DefTx (L2.KOf KX) mg "need_kind" K21.s_need_kind L2.qag:=by
   walk_at "d"
  have d_need_same:L2.DefTx (L2.KOf KX) mg "need_same" K21.s_need_same L2.qaj:=by
   walk_at "d"
  have d_need_sort:L2.DefTx (L2.KOf KX) mg "need_sort" K21.s_need_sort L2.qap:=by
   walk_at "d"
  have d_kind_of_sort:L2.DefTx (L2.KOf KX) mg "kind_of_sort" K21.s_kind_of_sort L2.qaq:=by
   walk_at "d"
  have d_part_kind:L2.DefTx (L2.KOf KX) mg "part_kind" K21.s_part_kind L2.qak:=by
   walk_at "d"
  have d_need_tags:L2.DefTx (L2.KOf KX) mg "need_tags" K21.s_need_tags L2.qay:=by
   walk_at "d"
  have d_with_box:L2.DefTx (L2.KOf KX) mg "with_box" K21.s_with_box L2.qar:=by
   walk_at "d"
  have d_boxes_in:L2.DefTx (L2.KOf KX) mg "boxes_in" K21.s_boxes_in L2.qad:=by
   walk_at "d"
  have d_needed:L2.DefTx (L2.KOf KX) mg "needed" K21.s_needed L2.qad:=by
   walk_at "d"
  have d_inner_terms:L2.DefTx (L2.KOf KX) mg "inner_terms" K21.s_inner_terms L2.qad:=by
   walk_at "d"
  have d_field:L2.DefTx (L2.KOf KX) mg "field" K21.s_field L2.qaz:=by
   walk_at "d"
  have d_worth:L2.DefTx (L2.KOf KX) mg "worth" K21.s_worth L2.qaa:=by
   walk_at "d"
  have d_op_worth:L2.DefTx (L2.KOf KX) mg "op_worth" K21.s_op_worth L2.qas:=by
   walk_at "d"
  have d_case_worth:L2.DefTx (L2.KOf KX) mg "case_worth" K21.s_case_worth L2.qaa:=by
   walk_at "d"
  have dl_feed:L2.DefTx (L2.KOf KX) mg "_law_feed" K21.sl_feed L2.qa0:=by
   walk_at "d"
  have dl_take:L2.DefTx (L2.KOf KX) mg "_law_take" K21.sl_take L2.qae:=by
   walk_at "d"
  have dl_names:L2.DefTx (L2.KOf KX) mg "_law_names" K21.sl_names L2.qa1:=by
   walk_at "d"
  have dl_number:L2.DefTx (L2.KOf KX) mg "_law_number" K21.sl_number L2.qat:=by
   walk_at "d"
  have dl_sort_of:L2.DefTx (L2.KOf KX) mg "_law_sort_of" K21.sl_sort_of L2.qab:=by
   walk_at "d"
  have dl_size:L2.DefTx (L2.KOf KX) mg "_law_size" K21.sl_size L2.qab:=by
   walk_at "d"
  have dl_small:L2.DefTx (L2.KOf KX) mg "_law_small" K21.sl_small L2.qab:=by
   walk_at "d"
  have dl_parts:L2.DefTx (L2.KOf KX) mg "_law_parts" K21.sl_parts L2.qau:=by
   walk_at "d"
  have dl_kinds:L2.DefTx (L2.KOf KX) mg "_law_kinds" K21.sl_kinds L2.qa2:=by
   walk_at "d"
  have dl_high:L2.DefTx (L2.KOf KX) mg "_law_high" K21.sl_high L2.qab:=by
   walk_at "d"
  have dl_any_kind:L2.DefTx (L2.KOf KX) mg "_law_any_kind" K21.sl_any_kind L2.qal:=by
   walk_at "d"
  have dl_arms:L2.DefTx (L2.KOf KX) mg "_law_arms" K21.sl_arms L2.qa3:=by
   walk_at "d"
  have dl_case:L2.DefTx (L2.KOf KX) mg "_law_case" K21.sl_case L2.qac:=by
   walk_at "d"
  have dl_get:L2.DefTx (L2.KOf KX) mg "_law_get" K21.sl_get L2.qac:=by
   walk_at "d"
  have dl_whole_term:L2.DefTx (L2.KOf KX) mg "_law_whole_term" K21.sl_whole_term L2.qac:=by
   walk_at "d"
  have dl_term:L2.DefTx (L2.KOf KX) mg "_law_term" K21.sl_term L2.qac:=by
   walk_at "d"
  have dl_value:L2.DefTx (L2.KOf KX) mg "_law_value" K21.sl_value L2.qam:=by
   walk_at "d"
  have dl_some_boxes:L2.DefTx (L2.KOf KX) mg "_law_some_boxes" K21.sl_some_boxes L2.qa4:=by
   walk_at "d"
  have dl_drawn_term:L2.DefTx (L2.KOf KX) mg "_law_drawn_term" K21.sl_drawn_term L2.qa5:=by
   walk_at "d"
  have dl_cells:L2.DefTx (L2.KOf KX) mg "_law_cells" K21.sl_cells L2.qa6:=by
   walk_at "d"
  have dl_cell_0:L2.DefTx (L2.KOf KX) mg "_law_cell_0" K21.sl_cell_0 L2.qah:=by
   walk_at "d"
  have dl_nameless:L2.DefTx (L2.KOf KX) mg "_law_nameless" K21.sl_nameless L2.qav:=by
   walk_at "d"
  have dl_without:L2.DefTx (L2.KOf KX) mg "_law_without" K21.sl_without L2.qa7:=by
   walk_at "d"
  have dl_needs:L2.DefTx (L2.KOf KX) mg "_law_needs" K21.sl_needs L2.qaw:=by
   walk_at "d"
  have d_law:L2.DefTx (L2.KOf KX) mg "law" K21.s_law L2.qah:=by
   walk_at "d"
  have g_WIDE:∃ t,mg "WIDE"=some (.int 4294967296 t):=by
   refine' L2.gint_mk KX G ?a
   (case a=>k_is)
  have z_dict:mg "dict"=none:=by
   refine' PySem.W.mg_none_of KX G ?a
   (case a=>k_is)
  have z_int:mg "int"=none:=by
   refine' PySem.W.mg_none_of KX G ?a
   (case a=>k_is)
  have z_isinstance:mg "isinstance"=none:=by
   refine' PySem.W.mg_none_of KX G ?a
   (case a=>k_is)
  have z_len:mg "len"=none:=by
   refine' PySem.W.mg_none_of KX G ?a
   (case a=>k_is)
  have z_list:mg "list"=none:=by
   refine' PySem.W.mg_none_of KX G ?a
   (case a=>k_is)
  have z_max:mg "max"=none:=by
   refine' PySem.W.mg_none_of KX G ?a
   (case a=>k_is)
  have z_min:mg "min"=none:=by
   refine' PySem.W.mg_none_of KX G ?a
   (case a=>k_is)
  have z_range:mg "range"=none:=by
   refine' PySem.W.mg_none_of KX G ?a
   (case a=>k_is)
  have z_set:mg "set"=none:=by
   refine' PySem.W.mg_none_of KX G ?a
   (case a=>k_is)
  have z_sorted:mg "sorted"=none:=by
   refine' PySem.W.mg_none_of KX G ?a
   (case a=>k_is)
  have z_sum:mg "sum"=none:=by
   refine' PySem.W.mg_none_of KX G ?a
   (case a=>k_is)
  have z_tuple:mg "tuple"=none:=by
   refine' PySem.W.mg_none_of KX G ?a
   (case a=>k_is)
  have z_zip:mg "zip"=none:=by
   refine' PySem.W.mg_none_of KX G ?a
   (case a=>k_is)
  have c_Twice:mg "Twice"=some (.ref (L2.cAt (L2.KOf KX) 1)):=by
   refine' PySem.W.mg_of KX G ?a
   (case a=>kernel_rfl)
  have c_NoName:mg "NoName"=some (.ref (L2.cAt (L2.KOf KX) 2)):=by
   refine' PySem.W.mg_of KX G ?a
   (case a=>kernel_rfl)
  have c_NoCount:mg "NoCount"=some (.ref (L2.cAt (L2.KOf KX) 3)):=by
   refine' PySem.W.mg_of KX G ?a
   (case a=>kernel_rfl)
  have c_WrongKind:mg "WrongKind"=some (.ref (L2.cAt (L2.KOf KX) 4)):=by
   refine' PySem.W.mg_of KX G ?a
   (case a=>kernel_rfl)
  have c_Lacks:mg "Lacks"=some (.ref (L2.cAt (L2.KOf KX) 5)):=by
   refine' PySem.W.mg_of KX G ?a
   (case a=>kernel_rfl)
  have c_SwapError:mg "SwapError"=some (.ref (L2.ad (L2.KOf KX) "SwapError")):=by
   refine' PySem.W.mg_of KX G ?a
   (case a=>kernel_rfl)
  have xt:L2.XTab5 (L2.KOf KX):=by
   refine' L2.xtab5_of ?a
   (case a=>kernel_rfl)
  have T:K21.Tx (L2.KOf KX) mg:=⟨d_need_once,d_sort_of,d_parts_of,d_kind_of,d_num_kind,d_box_kind,d_op_kind,d_rec_kind,d_get_kind,d_tag_kind,d_case_kind,d_arm_kind,d_if_kind,d_need_kind,d_need_same,d_need_sort,d_kind_of_sort,d_part_kind,d_need_tags,d_with_box,d_boxes_in,d_needed,d_inner_terms,d_field,d_worth,d_op_worth,d_case_worth,dl_feed,dl_take,dl_names,dl_number,dl_sort_of,dl_size,dl_small,dl_parts,dl_kinds,dl_high,dl_any_kind,dl_arms,dl_case,dl_get,dl_whole_term,dl_term,dl_value,dl_some_boxes,dl_drawn_term,dl_cells,dl_cell_0,dl_nameless,dl_without,dl_needs,d_law,g_WIDE,z_dict,z_int,z_isinstance,z_len,z_list,z_max,z_min,z_range,z_set,z_sorted,z_sum,z_tuple,z_zip,c_Twice,c_NoName,c_NoCount,c_WrongKind,c_Lacks,c_SwapError,xt⟩
  exact L2.law_top d_law hmg fun base=>K21.law_is T
